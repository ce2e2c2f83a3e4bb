import PyProof.Rows.All
import Wide.All
import OpenK.AllK
import Wide.FinOn
import Lean
import PyProof.EqAt
import PyProof.EqKinds
import PyProof.TupleCall
import KE.KSortAsk
import KE.KSortTup
import KE.KRevIter
import KE.LcSums
import KE.KDictSum
import KE.KDictList
import PyProof.AttrMissHeap
import PySem.Challenge.RW_gaze_k70_rules_read
set_option Elab.async false
set_option linter.all false
set_option maxRecDepth 100000
set_option maxHeartbeats 4000000
set_option exponentiation.threshold 2000
namespace L2
open PySem PySem.Spec PyProof.Rows
abbrev Key := Sum Int Str
noncomputable def kA : Key -> Value -> Bool
 | .inl k, v => Value.isInt k v
 | .inr x, v => Value.isStrOf x v
noncomputable def D0 (w : World) : Key -> Int
 | .inl k => hashInt k
 | .inr x => hashStr w x
theorem gT : ∀ {k : Key} {v : Value}, kA k v = true -> (∃ i t, k = Sum.inl i /\ v = Value.int i t) ∨ (∃ x t, k = Sum.inr x /\ v = Value.str x t)
 | .inl i, v, h => by
  obtain ⟨t, e⟩ := Value.isInt_shape (k := i) (v := v) h
  exact .inl ⟨i, t, rfl, e⟩
 | .inr x, v, h => by
  obtain ⟨t, e⟩ := Value.isStrOf_shape (x := x) (v := v) h
  exact .inr ⟨x, t, rfl, e⟩
theorem D1 (i : Int) (t : Tok) : kA (.inl i) (.int i t) = true := by simp [kA, Value.isInt]
theorem xM (x : Str) (t : Tok) : kA (.inr x) (.str x t) = true := by simp [kA, Value.isStrOf]
theorem D2 (a b : Int) : decide ((Sum.inl a : Key) = Sum.inl b) = (a == b) := by
 by_cases e : a = b
 ·subst e; simp
 ·have h : ¬ (Sum.inl a : Key) = Sum.inl b := fun q => e (Sum.inl.inj q)
  rw [decide_eq_false h]
  exact (beq_eq_false_iff_ne.mpr e).symm
theorem D3 (a b : Str) : decide ((Sum.inr a : Key) = Sum.inr b) = decide (a = b) := by
 by_cases e : a = b
 ·subst e; simp
 ·have h : ¬ (Sum.inr a : Key) = Sum.inr b := fun q => e (Sum.inr.inj q)
  rw [decide_eq_false h, decide_eq_false e]
theorem D4 (a : Int) (b : Str) : decide ((Sum.inl a : Key) = Sum.inr b) = false := decide_eq_false (fun q => nomatch q)
theorem D5 (a : Str) (b : Int) : decide ((Sum.inr a : Key) = Sum.inl b) = false := decide_eq_false (fun q => nomatch q)
noncomputable def iy (prog : Program) (w : World) : PySem.KeyKind prog w Key where
 is := kA
 hash := D0 w
 inj := fun v a b ha hb => by
  rcases gT ha with ⟨i, t, rfl, rfl⟩ | ⟨x, t, rfl, rfl⟩
  ·rcases gT hb with ⟨j, u, rfl, e⟩ | ⟨y, u, rfl, e⟩
   ·injection e with e1 _; rw [e1]
   ·exact nomatch e
  ·rcases gT hb with ⟨j, u, rfl, e⟩ | ⟨y, u, rfl, e⟩
   ·exact nomatch e
   ·injection e with e1 _; rw [e1]
 byValue := fun k v h => by
  rcases gT h with ⟨i, t, rfl, rfl⟩ | ⟨x, t, rfl, rfl⟩ <;> rfl
 pyHash := fun hv h => by
  rcases gT hv with ⟨i, t, rfl, rfl⟩ | ⟨x, t, rfl, rfl⟩
  ·exact wpAny_pyHash_int h
  ·exact wpAny_pyHash_str h
 eqBool := fun hu hv h => by
  rcases gT hu with ⟨i, t, rfl, rfl⟩ | ⟨x, t, rfl, rfl⟩
  ·rcases gT hv with ⟨j, u, rfl, rfl⟩ | ⟨y, u, rfl, rfl⟩
   ·rw [D2] at h; exact wpAny_eqBool_int h
   ·rw [D4] at h; exact SeqAt.EqAt.int_str i t y u _ _ _ _ h
  ·rcases gT hv with ⟨j, u, rfl, rfl⟩ | ⟨y, u, rfl, rfl⟩
   ·rw [D5] at h; exact SeqAt.EqAt.str_int x t j u _ _ _ _ h
   ·rw [D3] at h; exact wpAny_eqBool_str h
 «strs» := fun k x t v h => by
  rcases gT h with ⟨i, u, rfl, e⟩ | ⟨y, u, rfl, e⟩
  ·exact nomatch e
  ·injection e with e1 _
   subst e1
   cases v <;> rfl
theorem D6 (prog : Program) (w : World) (i : Int) (t : Tok) : (iy prog w).is (.inl i) (.int i t) = true := D1 i t
theorem D7 (prog : Program) (w : World) (x : Str) (t : Tok) : (iy prog w).is (.inr x) (.str x t) = true := xM x t
end L2
namespace L2
open PySem PySem.Spec PyProof.Rows
inductive V where
 | non | bl (b : Bool) | int (i : Int) | str (x : Str) | byt (b : Array UInt8) | flt (b : UInt64) | ref (a : Addr) | ty (n : String)
 deriving DecidableEq
def RelV : V -> Value -> Prop
 | .non, u => u = Value.none
 | .bl b, u => u = Value.bool b
 | .int i, u => ∃ t, u = Value.int i t
 | .str x, u => ∃ t, u = Value.str x t
 | .byt b, u => ∃ t, u = Value.bytes b t
 | .flt b, u => ∃ t, u = Value.float b t
 | .ref a, u => u = Value.ref a
 | .ty n, u => u = Value.type n
abbrev Vals : List V -> List Value -> Prop := Paired RelV
theorem Vals.length {xs : List V} {us : List Value} (r : Vals xs us) : xs.length = us.length := Paired.length r
theorem Vals.get : ∀ {xs : List V} {us : List Value} {i : Nat} {x : V}, Vals xs us -> xs[i]? = some x -> ∃ u, us[i]? = some u /\ RelV x u
 | _, _, _, _, .nil, e => by simp at e
 | _, _, 0, _, .cons r _, e => by simp at e; subst e; exact ⟨_, rfl, r⟩
 | _, _, i + 1, x, .cons _ t, e => by
  obtain ⟨u, h1, h2⟩ := Vals.get (i := i) (x := x) t (by simpa using e)
  exact ⟨u, by simpa using h1, h2⟩
theorem Vals.set {x : V} {u : Value} (r : RelV x u) : ∀ {xs : List V} {us : List Value} (i : Nat), Vals xs us -> Vals (xs.set i x) (us.set i u)
 | _, _, _, .nil => .nil
 | _, _, 0, .cons _ t => .cons r t
 | _, _, i + 1, .cons q t => .cons q (Vals.set r i t)
theorem Vals.append : ∀ {xs ys : List V} {us ws : List Value}, Vals xs us -> Vals ys ws -> Vals (xs ++ ys) (us ++ ws)
 | _, _, _, _, .nil, s => s
 | _, _, _, _, .cons r t, s => .cons r (Vals.append t s)
theorem Vals.take : ∀ {xs : List V} {us : List Value} (n : Nat), Vals xs us -> Vals (xs.take n) (us.take n)
 | _, _, 0, _ => .nil
 | _, _, _ + 1, .nil => .nil
 | _, _, n + 1, .cons r t => .cons r (Vals.take n t)
theorem Vals.drop : ∀ {xs : List V} {us : List Value} (n : Nat), Vals xs us -> Vals (xs.drop n) (us.drop n)
 | _, _, 0, r => r
 | _, _, _ + 1, .nil => .nil
 | _, _, n + 1, .cons _ t => Vals.drop n t
def dm : Option V -> Option Value -> Prop
 | some v, some u => RelV v u
 | none, none => True
 | _, _ => False
def KV {κ : Type} : List (κ × V) -> List (κ × Value) -> Prop := Paired fun (p : κ × V) (q : κ × Value) => p.1 = q.1 /\ RelV p.2 q.2
noncomputable def kV : Key -> V
 | .inl i => .int i
 | .inr x => .str x
inductive HO where
 | lst (xs : List V)
 | tup (xs : List V)
 | dK (kvs : List (Key × V)) | dT (kvs : List (List Key × V))
 | set (S : Int -> Bool) (n : Nat)
 | ins (C dx : Addr) (fs : List (Str × V))
 | own (x : Addr)
 | xd (fs : List (Str × V))
 | met (f x : Addr)
 | gq (lo hi : Int)
 | cY (o : Obj) (u : HO)
 | tbl (ps : Array Value)
 | ext (φ : Heap -> Prop)
abbrev Hp := Addr -> Option HO
noncomputable def upd (H : Hp) (a : Addr) (o : HO) : Hp := fun b => if b = a then some o else H b
theorem aj {H : Hp} {a : Addr} {o : HO} : upd H a o a = some o := by unfold upd; rw [if_pos rfl]
theorem aQ {H : Hp} {a b : Addr} {o : HO} (h : b ≠ a) : upd H a o b = H b := by unfold upd; rw [if_neg h]
theorem jl {H : Hp} {a : Addr} {o u : HO} : upd (upd H a o) a u = upd H a u := by
 funext b; unfold upd; split <;> rfl
theorem lX {H : Hp} {a b : Addr} {o u : HO} (h : H a = some o) (h' : H b = some u) (d : o ≠ u) : a ≠ b := by
 intro e; subst e; rw [h] at h'; exact d (Option.some.inj h')
theorem jm {H : Hp} {a b : Addr} {o : HO} (h : H a = some o) (h' : H b = none) : a ≠ b := by
 intro e; subst e; rw [h] at h'; cases h'
section
variable (P : Program) (w : World)
def cK (H : Hp) (h : Heap) (a : Addr) : HO -> Prop
 | .lst xs => xs.length <= sizeLine /\ ∃ (ai : List Value) (n : Nat), Vals xs ai /\ h.get? a = some { cls := .type "list", data := .seq ai.toArray n }
 | .tup xs => xs.length <= sizeLine /\ ∃ ai : List Value, Vals xs ai /\ IsTup h a ai.toArray
 | .dK kvs => kvs.length <= sizeLine /\ (a == sysModules) = false /\ ∃ vs, KV kvs vs /\ h.DictOf (iy P w) a vs
 | .dT kvs => kvs.length <= sizeLine /\ (a == sysModules) = false /\ ∃ xs : List (List Key × Addr × Value),
  Paired (fun (p : List Key × V) (q : List Key × Addr × Value) => p.1 = q.1 /\ H q.2.1 = some (.tup (p.1.map kV)) /\ RelV p.2 q.2.2) kvs xs /\
  ∃ o es ep, h.get? a = some o /\ o.ExactDict /\ o.data = .dict es ep /\ es.toList = xs.map (entryOfKey (tupleKind (iy P w))) /\ (xs.map (·.1)).Nodup
 | .set S n => h.SetOf (intKind P w) a S n
 | .ins C dx fs => H dx = some (.own a) /\ fs.length <= 1000 /\ dx ≠ a /\ h.get? a = some (PySem.W.instObj C dx) /\
  ∃ mA, h.Ns1 dx mA /\ (∀ f, dm (fs.lookup f) (mA f)) /\ PySem.Within mA (fs.map (·.1))
 | .own _ => ∃ o, h.get? a = some o
 | .xd fs => ∃ mA, h.Ns1 a mA /\ ∀ f, dm (fs.lookup f) (mA f)
 | .gq lo hi => ∃ t u v, h.get? a = some { cls := .type "range", data := .fields #[.int lo t, .int hi u, .int 1 v] }
 | .cY o u => h.get? a = some o /\ cK H h a u
 | .tbl ps => h.get? a = some { cls := .none, data := .fields ps }
 | .met f x => h.get? a = some (PySem.W.methodObj (.ref f) (.ref x))
 | .ext φ => φ h /\ (∃ o, h.get? a = some o) /\ ∀ h1 h2 : Heap, φ h1 -> (∀ o, h1.get? a = some o -> h2.get? a = some o) -> φ h2
def cp (H : Hp) (h : Heap) : Prop := ∀ a o, H a = some o -> cK P w H h a o
end
section
variable {P : Program} {w : World} {H H' : Hp} {h h' : Heap} {a : Addr} {o : HO}
theorem cK.lt (x : cK P w H h a o) : a < h.objs.size := by
 cases o with
 | lst xs => obtain ⟨_, _, _, _, e⟩ := x; exact Heap.lt_size e
 | tup xs => obtain ⟨_, _, _, p⟩ := x; exact p.lt
 | dK kvs => obtain ⟨_, _, _, _, o, _, _, e, _⟩ := x; exact Heap.lt_size e
 | dT kvs => obtain ⟨_, _, _, _, o, _, _, e, _⟩ := x; exact Heap.lt_size e
 | set S n => obtain ⟨o, _, _, _, e, _⟩ := x; exact Heap.lt_size e
 | ins C dx fs => obtain ⟨_, _, _, e, _⟩ := x; exact Heap.lt_size e
 | own y => obtain ⟨_, e⟩ := x; exact Heap.lt_size e
 | xd fs => obtain ⟨_, ⟨_, _, _, e, _⟩, _⟩ := x; exact Heap.lt_size e
 | gq lo hi => obtain ⟨_, _, _, e⟩ := x; exact Heap.lt_size e
 | cY ob u => obtain ⟨e, _⟩ := x; exact Heap.lt_size e
 | tbl ps => exact Heap.lt_size (show h.get? a = some _ from x)
 | met f y => exact Heap.lt_size (show h.get? a = some _ from x)
 | ext φ => obtain ⟨_, ⟨_, e⟩, _⟩ := x; exact Heap.lt_size e
theorem Paired.xN {α β : Type} {F G : α -> β -> Prop} : ∀ {l₁ : List α} {l₂ : List β}, Paired F l₁ l₂ -> (∀ a b, F a b -> G a b) -> Paired G l₁ l₂
 | _, _, .nil, _ => .nil
 | _, _, .cons r t, f => .cons (f _ _ r) (Paired.xN t f)
theorem cK.stay (x : cK P w H h a o) (k : ∀ b u, (b = a ∨ H b = some (.own a)) -> h.get? b = some u -> h'.get? b = some u)
 (ho : ∀ b, H b = some (.own a) -> H' b = some (.own a)) (ht : ∀ b xs, H b = some (.tup xs) -> H' b = some (.tup xs)) : cK P w H' h' a o := by
 induction o with
 | lst xs => obtain ⟨z, ai, n, r, e⟩ := x; exact ⟨z, ai, n, r, k _ _ (.inl rfl) e⟩
 | tup xs => obtain ⟨z, ai, r, ob, e, c⟩ := x; exact ⟨z, ai, r, ob, k _ _ (.inl rfl) e, c⟩
 | dK kvs => obtain ⟨z, y, vs, r, ob, es, ep, e, c⟩ := x; exact ⟨z, y, vs, r, ob, es, ep, k _ _ (.inl rfl) e, c⟩
 | dT kvs =>
  obtain ⟨z, y, xs, r, ob, es, ep, e, c⟩ := x
  exact ⟨z, y, xs, Paired.xN r fun p q z => ⟨z.1, ht _ _ z.2.1, z.2.2⟩, ob, es, ep, k _ _ (.inl rfl) e, c⟩
 | set S n => obtain ⟨ob, es, ep, t, e, c⟩ := x; exact ⟨ob, es, ep, t, k _ _ (.inl rfl) e, c⟩
 | ins C dx fs =>
  obtain ⟨d, z, ne, e, mA, ⟨od, es, ep, e2, c⟩, r⟩ := x
  exact ⟨ho _ d, z, ne, k _ _ (.inl rfl) e, mA, ⟨od, es, ep, k _ _ (.inr d) e2, c⟩, r⟩
 | own y => obtain ⟨ob, e⟩ := x; exact ⟨ob, k _ _ (.inl rfl) e⟩
 | xd fs => obtain ⟨mA, ⟨od, es, ep, e, c⟩, r⟩ := x; exact ⟨mA, ⟨od, es, ep, k _ _ (.inl rfl) e, c⟩, r⟩
 | gq lo hi => obtain ⟨t, u, v, e⟩ := x; exact ⟨t, u, v, k _ _ (.inl rfl) e⟩
 | cY ob u ih => obtain ⟨e, q⟩ := x; exact ⟨k _ _ (.inl rfl) e, ih q⟩
 | tbl ps =>
  have e : h.get? a = some { cls := .none, data := .fields ps } := x
  show h'.get? a = some { cls := .none, data := .fields ps }
  exact k a _ (.inl rfl) e
 | met f y =>
  have e : h.get? a = some (PySem.W.methodObj (.ref f) (.ref y)) := x
  show h'.get? a = some (PySem.W.methodObj (.ref f) (.ref y))
  exact k a _ (.inl rfl) e
 | ext φ => obtain ⟨p, ⟨o, e⟩, st⟩ := x; exact ⟨st _ _ p fun o q => k _ _ (.inl rfl) q, ⟨o, k _ _ (.inl rfl) e⟩, st⟩
theorem cp.lt (x : cp P w H h) (e : H a = some o) : a < h.objs.size := (x a o e).lt
theorem cp.fresh (x : cp P w H h) (e : h.objs.size <= a) : H a = none := by
 cases q : H a with
 | none => rfl
 | some u => exact absurd (Nat.lt_of_lt_of_le (x.lt q) e) (Nat.lt_irrefl _)
theorem cp.kept (x : cp P w H h) (k : ∀ b u, h.get? b = some u -> h'.get? b = some u) : cp P w H h' := fun a o e =>
 (x a o e).stay (fun b u _ q => k b u q) (fun _ q => q) fun _ _ q => q
theorem cp.laid (x : cp P w H h) (k : ∀ b u, h.get? b = some u -> h'.get? b = some u) (hp : h.objs.size <= a) (new : cK P w (upd H a o) h' a o) : cp P w (upd H a o) h' := fun b u e => by
 have hn := x.fresh hp
 by_cases hb : b = a
 ·subst hb; rw [aj] at e; cases e; exact new
 ·rw [aQ hb] at e
  exact (x b u e).stay (fun c v _ q => k c v q) (fun c q => by rw [aQ (jm q hn)]; exact q) fun c xs q => by rw [aQ (jm q hn)]; exact q
end
def Rd (H : Hp) (a : Addr) (u : HO) : Prop := H a = some u ∨ ∃ o, H a = some (.cY o u)
theorem Rd.of {H : Hp} {a : Addr} {u : HO} (h : H a = some u) : Rd H a u := .inl h
theorem Rd.ok {P : Program} {w : World} {H : Hp} {h : Heap} {a : Addr} {u : HO} (r : Rd H a u) (x : cp P w H h) : cK P w H h a u := by
 rcases r with r | ⟨o, r⟩
 ·exact x a u r
 ·obtain ⟨_, q⟩ := x a _ r
  exact q
def oM : Option HO -> Prop
 | some (.lst _) => True
 | some (.dK _) => True
 | some (.dT _) => True
 | some (.set _ _) => True
 | some (.ins _ _ _) => True
 | some (.ext _) => True
 | _ => False
section
variable {P : Program} {w : World} {H : Hp} {h h' : Heap} {x e : Addr} {o' : HO}
theorem cp.write (ok : cp P w H h) (mu : oM (H x)) (he : e = x ∨ H e = some (.own x)) (k : ∀ b u, b ≠ e -> h.get? b = some u -> h'.get? b = some u) (kB : ∃ u, h'.get? e = some u)
 (new : cK P w (upd H x o') h' x o') : cp P w (upd H x o') h' := fun b u q => by
 have xO : ∀ c y, H c = some (.own y) -> c ≠ x := fun c y r z => by subst z; rw [r] at mu; exact mu
 have D8 : ∀ c xs, H c = some (.tup xs) -> c ≠ x := fun c xs r z => by subst z; rw [r] at mu; exact mu
 by_cases hb : b = x
 ·subst hb; rw [aj] at q; cases q; exact new
 ·rw [aQ hb] at q
  by_cases hbe : b = e
  ·have q' : H b = some (.own x) := by
    rcases he with z | z
    ·exact absurd (hbe.trans z) hb
    ·rw [hbe]; exact z
   rw [q] at q'; cases q'
   obtain ⟨v, hv⟩ := kB
   exact ⟨v, by rw [hbe]; exact hv⟩
  ·refine (ok b u q).stay (fun c v hc r => k c v ?_ r) (fun c r => by rw [aQ (xO c b r)]; exact r) fun c xs r => by rw [aQ (D8 c xs r)]; exact r
   rcases hc with rfl | hc
   ·exact hbe
   ·rintro rfl
    rcases he with z | z
    ·exact xO c b hc z
    ·rw [hc] at z; cases z; exact hb rfl
end
structure Un (fs ex : List Addr) (H H' : Hp) (h h' : Heap) : Prop where
 keep : ∀ b o, h.get? b = some o -> H b = none -> b ∉ fs -> b ∉ ex -> h'.get? b = some o
 slot : ∀ b o, h.get? b = some o -> H b = none -> b ∈ fs -> b ∉ ex -> ∃ sl, h'.get? b = some { o with slots := sl }
 free : ∀ b o, h.get? b = some o -> H b = none -> b ∉ ex -> H' b = none
 there : ∀ b o, h.get? b = some o -> b ∉ ex -> ∃ o', h'.get? b = some o'
 dn : ∀ b xs, H b = some (.tup xs) -> H' b = some (.tup xs)
 dH : ∀ b o u, H b = some (.cY o u) -> H' b = some (.cY o u)
 dR : ∀ b ps, H b = some (.tbl ps) -> ∃ more, H' b = some (.tbl (ps ++ more))
section
variable {fs D9 ex PN : List Addr} {H H1 H2 : Hp} {h h1 h2 h' : Heap} {a x e : Addr} {o : HO}
theorem Un.any (u : Un fs ex H H1 h h1) {b : Addr} {ob : Obj} (q : h.get? b = some ob) (n : H b = none) (hx : b ∉ ex) : ∃ sl, h1.get? b = some { ob with slots := sl } := by
 by_cases hb : b ∈ fs
 ·exact u.slot b ob q n hb hx
 ·exact ⟨ob.slots, u.keep b ob q n hb hx⟩
theorem Un.trans (a : Un fs ex H H1 h h1) (b : Un fs ex H1 H2 h1 h2) : Un fs ex H H2 h h2 where
 keep := fun c ob q n hc hx => b.keep c ob (a.keep c ob q n hc hx) (a.free c ob q n hx) hc hx
 slot := fun c ob q n hc hx => by
  obtain ⟨sl, e1⟩ := a.slot c ob q n hc hx
  obtain ⟨gU, e2⟩ := b.slot c _ e1 (a.free c ob q n hx) hc hx
  exact ⟨gU, e2⟩
 free := fun c ob q n hx => by
  obtain ⟨o', e1⟩ := a.there c ob q hx
  exact b.free c o' e1 (a.free c ob q n hx) hx
 there := fun c ob q hx => by
  obtain ⟨o', e1⟩ := a.there c ob q hx
  exact b.there c o' e1 hx
 dn := fun c xs q => b.dn c xs (a.dn c xs q)
 dH := fun c ob xs q => b.dH c ob xs (a.dH c ob xs q)
 dR := fun c ps q => by
  obtain ⟨m1, e1⟩ := a.dR c ps q
  obtain ⟨m2, e2⟩ := b.dR c _ e1
  exact ⟨m1 ++ m2, by rw [e2, Array.append_assoc]⟩
theorem Un.kept (k : ∀ b u, h.get? b = some u -> h'.get? b = some u) : Un fs ex H H h h' :=
 ⟨fun b ob q _ _ _ => k b ob q, fun b ob q _ _ _ => ⟨ob.slots, k b ob q⟩, fun _ _ _ n _ => n, fun b ob q _ => ⟨ob, k b ob q⟩, fun _ _ q => q, fun _ _ _ q => q, fun _ ps q => ⟨#[], by rw [q]; simp⟩⟩
theorem Un.refl : Un fs ex H H h h := Un.kept fun _ _ q => q
theorem Un.laid (k : ∀ b u, h.get? b = some u -> h'.get? b = some u) (hp : h.objs.size <= a) (hn : H a = none) : Un fs ex H (upd H a o) h h' where
 keep := fun b u q _ _ _ => k b u q
 slot := fun b u q _ _ _ => ⟨u.slots, k b u q⟩
 free := fun b u q n _ => by rw [aQ (Nat.ne_of_lt (Nat.lt_of_lt_of_le (Heap.lt_size q) hp))]; exact n
 there := fun b u q _ => ⟨u, k b u q⟩
 dn := fun b xs q => by rw [aQ (jm q hn)]; exact q
 dH := fun b u xs q => by rw [aQ (jm q hn)]; exact q
 dR := fun b ps q => ⟨#[], by rw [aQ (jm q hn), q]; simp⟩
theorem Un.write (mu : oM (H x)) (he : e = x ∨ H e = some (.own x)) (k : ∀ b u, b ≠ e -> h.get? b = some u -> h'.get? b = some u) (kB : ∃ u, h'.get? e = some u) : Un fs ex H (upd H x o) h h' := by
 have hx : ∀ b, H b = none -> b ≠ x := fun b n z => by subst z; rw [n] at mu; exact mu
 have hb : ∀ b, H b = none -> b ≠ e := fun b n z => by
  subst z
  rcases he with r | r
  ·exact hx b n r
  ·rw [n] at r; cases r
 have hm : ∀ b u, H b = some u -> ¬ oM (some u) -> b ≠ x := fun b u q nm z => by subst z; rw [q] at mu; exact nm mu
 refine ⟨fun b u q n _ _ => k b u (hb b n) q, fun b u q n _ _ => ⟨u.slots, k b u (hb b n) q⟩, fun b u q n _ => by rw [aQ (hx b n)]; exact n, fun b u q _ => ?_,
  fun b xs q => by rw [aQ (hm b _ q fun z => z)]; exact q, fun b u xs q => by rw [aQ (hm b _ q fun z => z)]; exact q, fun b ps q => ⟨#[], by rw [aQ (hm b _ q fun z => z), q]; simp⟩⟩
 by_cases hbe : b = e
 ·subst hbe; exact kB
 ·exact ⟨u, k b u hbe q⟩
end
noncomputable def oN (h : Heap) (H : Hp) : List Addr := (List.range h.objs.size).filter fun a => (H a).isSome
noncomputable def gW (h : Heap) (H : Hp) : Heap := PySem.W.hideAll h (oN h H)
theorem Ea (h : Heap) (H : Hp) : (gW h H).objs.size = h.objs.size := PySem.W.hideAll_size _ _
theorem Eb {h : Heap} {H : Hp} {b : Addr} {o : Obj} (e : h.get? b = some o) (n : H b = none) : (gW h H).get? b = some o :=
 PySem.W.hideAll_get _ e fun hm => by
  have q : (H b).isSome = true := (List.mem_filter.mp hm).2
  rw [n] at q; simp at q
theorem Ec {h : Heap} {H : Hp} {b : Addr} {o : Obj} (e : (gW h H).get? b = some o) : h.get? b = some o /\ H b = none := by
 have e' : h.get? b = some o := PySem.W.of_hideAll (oN h H) e
 refine ⟨e', ?_⟩
 cases q : H b with
 | none => rfl
 | some x =>
  have hm : b ∈ oN h H := List.mem_filter.mpr ⟨List.mem_range.mpr (Heap.lt_size e'), by simp [q]⟩
  have z : (gW h H).get? b = none := PySem.W.hideAll_none (oN h H) hm
  rw [z] at e; cases e
noncomputable def Ed (g h : Heap) (L : Addr) : List (Addr × Obj) := (List.range h.objs.size).filterMap fun a => if a = L ∨ (g.get? a).isSome = true then none else (h.get? a).map fun o => (a, o)
noncomputable def rest (g h : Heap) (L d : Addr) : List (Addr × Obj) := (Ed g h L).filter fun p => decide (p.1 ≠ d)
end L2
namespace L2
open PySem PySem.Spec PyProof.Rows
structure Mod (K : PySem.W.Frag) (mg : Str -> Option Value) (base : Heap) : Prop where
 kin : K.In base
 glob : base.Ns mainGlobals mg
 blt : ∃ mb, base.Ns builtinsNs mb /\ ∀ x : Str, x ≠ "__name__" -> mb x = bootBuiltins x
 nolimit : base.NoLimit
structure Cx where
 prog : Program
 w : World
 K : PySem.W.Frag
 mg : Str -> Option Value
 base : Heap
 A : Around
 N : List Str
 s₀ : Shared
 H₀ : Hp
 env : Env
 outer : List Env
 stack : List Env
 ex : List Addr
 fn : Str -> Bool
 calm : Bool
 pn : List (Addr × Obj)
 xe : Value -> Shared -> Prop
noncomputable def aX (l : List Env) : List Addr := l.filterMap (·.frame)
noncomputable abbrev Cx.fs (X : Cx) : List Addr := aX X.outer
def oO (sc : Scope) (x : Str) : Prop := sc.names.lookup x = some .local ∨ sc.names.lookup x = some .cell ∨ sc.names.lookup x = some .free
def Loc (sc : Scope) (x : Str) : Prop := sc.names.lookup x = some .local ∨ sc.names.lookup x = some .cell
def Look (env : Env) (h : Heap) (m : Str -> Option Value) (x : Str) (u : Value) : Prop :=
 (env.kindOf x = some .local /\ m x = some u) ∨ ((env.kindOf x = some .cell ∨ env.kindOf x = some .free) /\ ∃ c, env.cells.lookup x = some c /\ h.IsCell c (some u))
structure Cx.Ok (X : Cx) : Prop where
 mod : Mod X.K X.mg X.base
 kind : X.env.scope.kind = .function
 glob : X.env.globals = mainGlobals
 blt : X.env.builtins = builtinsNs
 above : X.s₀.heap.objs.size <= X.env.locals
 inj : ∀ x y c, X.env.cells.lookup x = some c -> X.env.cells.lookup y = some c -> x = y
 has : ∀ x, (X.env.kindOf x = some .cell ∨ X.env.kindOf x = some .free) -> ∃ c, X.env.cells.lookup x = some c
 cab : ∀ x c, X.fn x = true -> X.env.cells.lookup x = some c -> X.s₀.heap.objs.size <= c
 hd : X.calm = true -> X.A.handled = none
 frames : X.A.frames = some X.stack
 stk : X.stack = X.outer ∨ (X.stack = X.env :: X.outer /\ X.env.frame = some X.env.locals)
 exf : ∀ b ∈ X.ex, b ≠ X.env.locals /\ ∀ x c, X.env.cells.lookup x = some c -> c ≠ b
 bs : ∀ b o, X.base.get? b = some o -> X.s₀.heap.get? b = some o /\ X.H₀ b = none
 bsz : X.base.objs.size <= X.s₀.heap.objs.size
 noex : ∀ b o, X.base.get? b = some o -> b ∉ X.ex
 exfs : ∀ b ∈ X.ex, b ∉ X.fs
 fh : X.s₀.heap.FunFrames X.base X.outer
 frf : ∀ b ∈ X.fs, X.H₀ b = none
structure Inv (X : Cx) (pins : List (Addr × Obj)) (σ : List (Option V)) (H : Hp) (s : Shared) : Prop where
 ok : X.Ok
 os : s.os = X.s₀.os
 bare : AllBare s.gens
 base : Un X.fs X.ex X.H₀ H X.s₀.heap s.heap
 loc : ∃ m, s.heap.Ns X.env.locals m /\ ∀ (i : Nat) (x : Str) (v : V), X.N[i]? = some x -> σ[i]? = some (some v) -> oO X.env.scope x -> ∃ u, RelV v u /\ Look X.env s.heap m x u
 cell : ∀ x c, X.env.cells.lookup x = some c -> ∃ v, s.heap.IsCell c v
 free : H X.env.locals = none
 gu : ∀ x c, X.env.cells.lookup x = some c -> H c = none
 pin : ∀ p ∈ X.pn ++ pins, s.heap.get? p.1 = some p.2 /\ H p.1 = none /\ p.1 ≠ X.env.locals /\ p.1 ∉ X.fs /\ ∀ v, p.2.data ≠ .cell v
 aC : cp X.prog X.w H s.heap
 len : σ.length = X.N.length
section
variable {X : Cx} {pins : List (Addr × Obj)} {σ : List (Option V)} {H H' : Hp} {s : Shared} {h' : Heap}
theorem Cx.Ok.gX (ok : X.Ok) {b : Addr} {o : Obj} (e : X.base.get? b = some o) : b ∉ X.fs := fun hb => by
 have := (ok.fh.mem hb).1
 rw [e] at this; cases this
theorem Inv.bs (I : Inv X pins σ H s) : ∀ b o, X.base.get? b = some o -> s.heap.get? b = some o /\ H b = none := fun b o e =>
 ⟨I.base.keep b o (I.ok.bs b o e).1 (I.ok.bs b o e).2 (I.ok.gX e) (I.ok.noex b o e), I.base.free b o (I.ok.bs b o e).1 (I.ok.bs b o e).2 (I.ok.noex b o e)⟩
theorem Inv.bk (I : Inv X pins σ H s) : ∀ b o, X.base.get? b = some o -> s.heap.get? b = some o := fun b o e => (I.bs b o e).1
theorem Inv.mod (I : Inv X pins σ H s) : Mod X.K X.mg X.base := I.ok.mod
theorem Inv.bQ (I : Inv X pins σ H s) : X.K.In s.heap := I.ok.mod.kin.keeps I.bk
theorem Inv.fr (I : Inv X pins σ H s) : ∃ m, Fr X.base X.env.locals s.heap m :=
 let ⟨m, hn, _⟩ := I.loc
 ⟨m, hn, I.bk, Nat.le_trans I.ok.bsz I.ok.above⟩
theorem Inv.lt (I : Inv X pins σ H s) : X.env.locals < s.heap.objs.size := let ⟨_, hn, _⟩ := I.loc; hn.lt
theorem Inv.sz (I : Inv X pins σ H s) : X.s₀.heap.objs.size <= s.heap.objs.size := Nat.le_trans I.ok.above (Nat.le_of_lt I.lt)
theorem Inv.xP (I : Inv X pins σ H s) {a : Addr} (h : s.heap.objs.size <= a) : a ∉ X.fs := fun hb => by
 obtain ⟨_, o, ho, _⟩ := I.ok.fh.mem hb
 exact absurd (Nat.lt_of_lt_of_le (Heap.lt_size ho) (Nat.le_trans I.sz h)) (Nat.lt_irrefl _)
theorem Inv.jn (I : Inv X pins σ H s) : ∀ x c, X.env.cells.lookup x = some c -> c ≠ X.env.locals := fun x c e z => by
 obtain ⟨v, o, ho, hd⟩ := I.cell x c e
 obtain ⟨m, ⟨o', es, ep, cQ, qI, _⟩, _⟩ := I.loc
 rw [z, cQ] at ho; cases ho; rw [qI] at hd; cases hd
theorem Inv.fh (I : Inv X pins σ H s) : s.heap.FunFrames X.base X.outer := by
 have all : ∀ (l : List Env), (∀ b ∈ aX l, b ∈ X.fs) -> X.s₀.heap.FunFrames X.base l -> s.heap.FunFrames X.base l := by
  intro l
  induction l with
  | nil => intro _ _; trivial
  | cons env r ih =>
   intro hs hl
   obtain ⟨hk, ⟨L, o, hf, hn, ho, hd⟩, hr⟩ := hl
   have hL : L ∈ X.fs := hs L (by unfold aX; rw [List.filterMap_cons, hf]; exact List.mem_cons_self)
   obtain ⟨sl, e⟩ := I.base.slot L o ho (I.ok.frf L hL) hL fun z => I.ok.exfs L z hL
   exact ⟨hk, ⟨L, _, hf, hn, e, hd⟩, ih (fun b hb => hs b (by unfold aX; rw [List.filterMap_cons, hf]; exact List.mem_cons_of_mem _ hb)) hr⟩
 exact all X.outer (fun _ hb => hb) I.ok.fh
theorem Inv.stack (I : Inv X pins σ H s) : s.heap.FunFrames X.base X.stack := by
 rcases I.ok.stk with e | ⟨e, hf⟩
 ·rw [e]; exact I.fh
 ·rw [e]
  obtain ⟨m, hn, _⟩ := I.loc
  refine .cons (by rw [I.ok.kind]; decide) hf hn ?_ I.fh
  exact Heap.get?_none_of_le (Nat.le_trans I.ok.bsz I.ok.above)
theorem Inv.kC (I : Inv X pins σ H s) : ∀ b ∈ aX X.stack, b ∈ X.env.locals :: X.fs := fun b hb => by
 rcases I.ok.stk with e | ⟨e, hf⟩
 ·rw [e] at hb; exact List.mem_cons_of_mem _ hb
 ·rw [e] at hb
  unfold aX at hb
  rw [List.filterMap_cons, hf] at hb
  exact hb
theorem Inv.oP (I : Inv X pins σ H s) : ∀ b ∈ aX X.stack, H b = none := fun b hb => by
 rcases List.mem_cons.mp (I.kC b hb) with e | hb
 ·rw [e]; exact I.free
 ·obtain ⟨_, o, ho, _⟩ := I.ok.fh.mem hb
  exact I.base.free b o ho (I.ok.frf b hb) fun z => I.ok.exfs b z hb
theorem Inv.step {g' : Array GenState} {t' : Nat} {d' : Drawn} {ch : List Addr} (I : Inv X pins σ H s)
 (fj : ∀ b ∈ ch, (b ∈ X.ex ∨ X.s₀.heap.objs.size <= b) /\ b ≠ X.env.locals /\ (∀ x c, X.env.cells.lookup x = some c -> c ≠ b) /\ ∀ p ∈ X.pn ++ pins, p.1 ≠ b)
 (keep : ∀ b o, b ≠ X.env.locals -> b ∉ X.fs -> b ∉ ch -> s.heap.get? b = some o -> H b = none -> h'.get? b = some o)
 (slot : ∀ b o, b ≠ X.env.locals -> b ∈ X.fs -> b ∉ ch -> s.heap.get? b = some o -> H b = none -> ∃ sl, h'.get? b = some { o with slots := sl }) (free : ∀ b o, b ∉ ch -> s.heap.get? b = some o -> H b = none -> H' b = none)
 (there : ∀ b o, b ∉ ch -> s.heap.get? b = some o -> ∃ o', h'.get? b = some o')
 (dn : ∀ b xs, H b = some (.tup xs) -> H' b = some (.tup xs)) (dH : ∀ b o u, H b = some (.cY o u) -> H' b = some (.cY o u)) (dR : ∀ b ps, H b = some (.tbl ps) -> ∃ more, H' b = some (.tbl (ps ++ more)))
 (ns : ∀ m, s.heap.Ns X.env.locals m -> h'.Ns X.env.locals m) (aC : cp X.prog X.w H' h') (hg : AllBare g') :
 Inv X pins σ H' { s with heap := h', gens := g', drawn := d', toks := t' } := by
 have kD : ∀ b o, X.s₀.heap.get? b = some o -> b ≠ X.env.locals := fun b o e => Nat.ne_of_lt (Nat.lt_of_lt_of_le (Heap.lt_size e) I.ok.above)
 have kE : ∀ b o, X.s₀.heap.get? b = some o -> b ∉ X.ex -> b ∉ ch := fun b o e hx hb => by
  rcases (fj b hb).1 with z | z
  ·exact hx z
  ·exact absurd (Nat.lt_of_lt_of_le (Heap.lt_size e) z) (Nat.lt_irrefl _)
 have cellK : ∀ x c, X.env.cells.lookup x = some c -> ∀ v, s.heap.IsCell c v -> h'.IsCell c v := fun x c e v ⟨o, ho, hd⟩ => by
  have lY : c ∉ ch := fun z => (fj c z).2.2.1 x c e rfl
  by_cases hc : c ∈ X.fs
  ·obtain ⟨sl, q⟩ := slot c o (I.jn x c e) hc lY ho (I.gu x c e)
   exact ⟨_, q, hd⟩
  ·exact ⟨o, keep c o (I.jn x c e) hc lY ho (I.gu x c e), hd⟩
 refine ⟨I.ok, I.os, hg, ⟨fun b o e n hb hx => ?_, fun b o e n hb hx => ?_, fun b o e n hx => ?_, fun b o e hx => ?_, fun b xs e => dn b xs (I.base.dn b xs e), fun b o xs e => dH b o xs (I.base.dH b o xs e), fun b ps e => ?_⟩, ?_, fun x c e => ?_, ?_, fun x c e => ?_, fun p hp => ?_, aC, I.len⟩
 ·exact keep b o (kD b o e) hb (kE b o e hx) (I.base.keep b o e n hb hx) (I.base.free b o e n hx)
 ·obtain ⟨sl, e1⟩ := I.base.slot b o e n hb hx
  obtain ⟨gU, e2⟩ := slot b _ (kD b o e) hb (kE b o e hx) e1 (I.base.free b o e n hx)
  exact ⟨gU, e2⟩
 ·obtain ⟨o', e1⟩ := I.base.there b o e hx
  exact free b o' (kE b o e hx) e1 (I.base.free b o e n hx)
 ·obtain ⟨o', e1⟩ := I.base.there b o e hx
  exact there b o' (kE b o e hx) e1
 ·obtain ⟨m1, e1⟩ := I.base.dR b ps e
  obtain ⟨m2, e2⟩ := dR b _ e1
  exact ⟨m1 ++ m2, by rw [e2, Array.append_assoc]⟩
 ·obtain ⟨m, hn, hl⟩ := I.loc
  refine ⟨m, ns m hn, fun i x v e1 e2 e3 => ?_⟩
  obtain ⟨u, r, l⟩ := hl i x v e1 e2 e3
  refine ⟨u, r, ?_⟩
  rcases l with l | ⟨k, c, e, z⟩
  ·exact .inl l
  ·exact .inr ⟨k, c, e, cellK x c e _ z⟩
 ·obtain ⟨v, z⟩ := I.cell x c e
  exact ⟨v, cellK x c e v z⟩
 ·obtain ⟨m, ⟨o, _, _, ho, _⟩, _⟩ := I.loc
  exact free _ o (fun z => (fj _ z).2.1 rfl) ho I.free
 ·obtain ⟨v, o, ho, hd⟩ := I.cell x c e
  exact free c o (fun z => (fj c z).2.2.1 x c e rfl) ho (I.gu x c e)
 ·obtain ⟨e, n, ne, nf, d⟩ := I.pin p hp
  have lY : p.1 ∉ ch := fun z => (fj p.1 z).2.2.2 p hp rfl
  exact ⟨keep p.1 p.2 ne nf lY e n, free p.1 p.2 lY e n, ne, nf, d⟩
theorem Inv.un {t' : Nat} (I : Inv X pins σ H s) (u : Un X.fs [] H H' s.heap h') (aC : cp X.prog X.w H' h') : Inv X pins σ H' { s with heap := h', toks := t' } := by
 obtain ⟨m, ⟨o, es, ep, ho, r⟩, _⟩ := id I.loc
 obtain ⟨sl, hL⟩ := u.any ho I.free (by simp)
 exact I.step (g' := s.gens) (d' := s.drawn) (ch := []) (fun _ z => nomatch z) (fun b o _ hb _ e n => u.keep b o e n hb (by simp)) (fun b o _ hb _ e n => u.slot b o e n hb (by simp)) (fun b o _ e n => u.free b o e n (by simp)) (fun b o _ e => u.there b o e (by simp)) u.dn u.dH u.dR (fun m' hm => by
  obtain ⟨o', es', qJ, cQ, r'⟩ := hm
  rw [ho] at cQ; cases cQ
  exact ⟨_, es', qJ, hL, r'⟩) aC I.bare
theorem Inv.call {g' : Array GenState} {t' : Nat} {d' : Drawn} {ch : List Addr} (I : Inv X pins σ H s) (u : Un (aX X.stack) ch H H' s.heap h') (aC : cp X.prog X.w H' h') (hg : AllBare g')
 (fj : ∀ b ∈ ch, (b ∈ X.ex ∨ X.s₀.heap.objs.size <= b) /\ b ≠ X.env.locals /\ (∀ x c, X.env.cells.lookup x = some c -> c ≠ b) /\ ∀ p ∈ X.pn ++ pins, p.1 ≠ b) :
 Inv X pins σ H' { s with heap := h', gens := g', drawn := d', toks := t' } := by
 obtain ⟨m, ⟨o, es, ep, ho, r⟩, _⟩ := id I.loc
 obtain ⟨sl, hL⟩ := u.any ho I.free fun z => (fj _ z).2.1 rfl
 exact I.step (ch := ch) fj (fun b o hL hb hc e n => u.keep b o e n (fun z => (List.mem_cons.mp (I.kC b z)).elim hL hb) hc) (fun b o _ _ hc e n => u.any e n hc) (fun b o hc e n => u.free b o e n hc) (fun b o hc e => u.there b o e hc) u.dn u.dH u.dR (fun m' hm => by
  obtain ⟨o', es', qJ, cQ, r'⟩ := hm
  rw [ho] at cQ; cases cQ
  exact ⟨_, es', qJ, hL, r'⟩) aC hg
theorem Inv.turned {t' : Nat} {it : Addr} (I : Inv X pins σ H s) (k : ∀ b o, b ≠ it -> s.heap.get? b = some o -> h'.get? b = some o) (hn : H it = none) (hL : it ≠ X.env.locals)
 (h1 : it ∈ X.ex ∨ X.s₀.heap.objs.size <= it) (h2 : ∀ x c, X.env.cells.lookup x = some c -> c ≠ it) (h3 : ∀ p ∈ X.pn ++ pins, p.1 ≠ it) : Inv X pins σ H { s with heap := h', toks := t' } := by
 have xQ : ∀ b u, H b = some u -> b ≠ it := fun b u e z => by rw [z, hn] at e; cases e
 refine I.step (g' := s.gens) (d' := s.drawn) (ch := [it]) (fun b hb => ?_) (fun b o _ _ hc e _ => k b o (fun z => hc (by simp [z])) e) (fun b o _ _ hc e _ => ⟨o.slots, k b o (fun z => hc (by simp [z])) e⟩) (fun _ _ _ _ n => n)
  (fun b o hc e => ⟨o, k b o (fun z => hc (by simp [z])) e⟩) (fun _ _ e => e) (fun _ _ _ e => e) (fun b ps e => ⟨#[], by rw [e]; simp⟩) (fun m hm => ?_) (fun b u e => ?_) I.bare
 ·have e : b = it := by simpa using hb
  subst e
  exact ⟨h1, hL, h2, h3⟩
 ·obtain ⟨o, es, ep, ho, r⟩ := hm
  exact ⟨o, es, ep, k _ o (Ne.symm hL) ho, r⟩
 ·refine (I.aC b u e).stay (fun c v hc q => k c v ?_ q) (fun _ q => q) fun _ _ q => q
  rcases hc with z | z
  ·rw [z]; exact xQ b u e
  ·exact xQ c _ z
theorem Inv.tok (I : Inv X pins σ H s) (t : Nat) : Inv X pins σ H { s with toks := t } := I.un (h' := s.heap) (t' := t) Un.refl I.aC
theorem Inv.kept {t' : Nat} (I : Inv X pins σ H s) (k : ∀ b u, s.heap.get? b = some u -> h'.get? b = some u) : Inv X pins σ H { s with heap := h', toks := t' } := I.un (Un.kept k) (I.aC.kept k)
theorem Inv.laid {a : Addr} {o : HO} {t' : Nat} (I : Inv X pins σ H s) (k : ∀ b u, s.heap.get? b = some u -> h'.get? b = some u) (hp : s.heap.objs.size <= a) (new : cK X.prog X.w (upd H a o) h' a o) :
 Inv X pins σ (upd H a o) { s with heap := h', toks := t' } := I.un (Un.laid k hp (I.aC.fresh hp)) (I.aC.laid k hp new)
theorem Inv.write {x e : Addr} {o : HO} {t' : Nat} (I : Inv X pins σ H s) (mu : oM (H x)) (he : e = x ∨ H e = some (.own x)) (k : ∀ b u, b ≠ e -> s.heap.get? b = some u -> h'.get? b = some u) (kB : ∃ u, h'.get? e = some u)
 (new : cK X.prog X.w (upd H x o) h' x o) : Inv X pins σ (upd H x o) { s with heap := h', toks := t' } := I.un (Un.write mu he k kB) (I.aC.write mu he k kB new)
theorem Inv.lZ {xR : List (Addr × Obj)} (I : Inv X pins σ H s) (h : ∀ p ∈ xR, s.heap.get? p.1 = some p.2 /\ H p.1 = none /\ p.1 ≠ X.env.locals /\ p.1 ∉ X.fs /\ ∀ v, p.2.data ≠ .cell v) : Inv X xR σ H s :=
 ⟨I.ok, I.os, I.bare, I.base, I.loc, I.cell, I.free, I.gu, fun p hp => (List.mem_append.mp hp).elim (fun z => I.pin p (List.mem_append_left _ z)) (h p), I.aC, I.len⟩
theorem xS {N : List Str} (hN : N.Nodup) {i j : Nat} {x : Str} (a : N[i]? = some x) (b : N[j]? = some x) : i = j := by
 obtain ⟨h1, e1⟩ := List.getElem?_eq_some_iff.mp a
 obtain ⟨h2, e2⟩ := List.getElem?_eq_some_iff.mp b
 exact (List.getElem_inj hN).mp (e1.trans e2.symm)
theorem Ee {M : Model} {A : Around} {E : Value -> Shared -> Prop} {i : Nat} {x : Str} {v : V} {u : Value} {Q : Unit -> Shared -> Prop} (I : Inv X pins σ H s) (hN : X.N.Nodup) (hi : X.N[i]? = some x) (hx : Loc X.env.scope x) (r : RelV v u)
 (h : ∀ s', Inv X pins (σ.set i (some v)) H s' -> (∃ a, Heap.SameBut a s.heap s'.heap /\ (a = X.env.locals ∨ X.env.cells.lookup x = some a)) -> Q () s') (hf : X.fn x = true ∨ X.env.scope.names.lookup x = some .local := by first | exact .inl rfl | exact .inr rfl | assumption) : wpAny M A (storeName X.env x u) Q E s := by
 obtain ⟨m, hn, hl⟩ := id I.loc
 have Ef : (X.env.scope.kind == .class || (X.env.scope.kind == .module && X.env.locals != X.env.globals)) = false := by rw [I.ok.kind]; rfl
 have xT : i < σ.length := by rw [I.len]; exact (List.getElem?_eq_some_iff.mp hi).1
 have jn := I.jn
 have tracked : ∀ {a : Addr} {h' : Heap}, (∃ o, s.heap.get? a = some o /\ H a = none) -> Heap.SameBut a s.heap h' -> cp X.prog X.w H h' := fun {a h'} ha hs b ob e => by
  obtain ⟨_, _, hfree⟩ := ha
  refine (I.aC b ob e).stay (fun c w' hc q => (hs.2 c ?_).trans q) (fun _ q => q) fun _ _ q => q
  rintro rfl
  rcases hc with rfl | hc
  ·rw [hfree] at e; cases e
  ·rw [hfree] at hc; cases hc
 rcases hx with hk | hk
 ·refine wpAny_storeName_local hk hn (fun h' Eg hs => ?_) Ef
  obtain ⟨oL, _, _, Eh, _⟩ := id hn
  refine h _ ⟨I.ok, I.os, I.bare, ⟨fun b o e n hb hx => ?_, fun b o e n hb hx => ?_, I.base.free, fun b o e hx => ?_, I.base.dn, I.base.dH, I.base.dR⟩, ⟨_, Eg, fun j y v' e1 e2 e3 => ?_⟩, fun y c e => ?_, I.free, I.gu, fun p hp => ?_, tracked ⟨oL, Eh, I.free⟩ hs, by simpa using I.len⟩ ⟨_, hs, .inl rfl⟩
  ·exact (hs.2 b (Nat.ne_of_lt (Nat.lt_of_lt_of_le (Heap.lt_size e) I.ok.above))).trans (I.base.keep b o e n hb hx)
  ·obtain ⟨sl, e1⟩ := I.base.slot b o e n hb hx
   exact ⟨sl, (hs.2 b (Nat.ne_of_lt (Nat.lt_of_lt_of_le (Heap.lt_size e) I.ok.above))).trans e1⟩
  ·obtain ⟨o', e1⟩ := I.base.there b o e hx
   exact ⟨o', (hs.2 b (Nat.ne_of_lt (Nat.lt_of_lt_of_le (Heap.lt_size e) I.ok.above))).trans e1⟩
  ·by_cases hj : j = i
   ·subst hj
    rw [hi] at e1; cases e1
    rw [List.getElem?_set_self xT] at e2
    cases e2
    exact ⟨u, r, .inl ⟨hk, by simp⟩⟩
   ·rw [List.getElem?_set_ne (Ne.symm hj)] at e2
    obtain ⟨u', r', q⟩ := hl j y v' e1 e2 e3
    refine ⟨u', r', ?_⟩
    rcases q with ⟨k, e⟩ | ⟨k, c, e, z⟩
    ·refine .inl ⟨k, ?_⟩
     have : y ≠ x := fun e => hj (xS hN e1 (e ▸ hi))
     simp [this, e]
    ·exact .inr ⟨k, c, e, z.sameBut hs (jn y c e)⟩
  ·obtain ⟨w', z⟩ := I.cell y c e
   exact ⟨w', z.sameBut hs (jn y c e)⟩
  ·obtain ⟨e, n, ne, nf, d⟩ := I.pin p hp
   exact ⟨(hs.2 p.1 ne).trans e, n, ne, nf, d⟩
 ·have qK : X.fn x = true := by
   rcases hf with z | z
   ·exact z
   ·rw [z] at hk; cases hk
  obtain ⟨c, hc⟩ := I.ok.has x (.inl hk)
  obtain ⟨w', z⟩ := I.cell x c hc
  refine wpAny_storeName_cell I.ok.kind hk hc z (fun h' xU hs => ?_)
  obtain ⟨oc, hoc, hocd⟩ := id z
  refine h { s with heap := h' } ⟨I.ok, I.os, I.bare, ⟨fun b o e n hb hx => ?_, fun b o e n hb hx => ?_, I.base.free, fun b o e hx => ?_, I.base.dn, I.base.dH, I.base.dR⟩, ⟨m, hn.sameBut hs (Ne.symm (jn x c hc)), fun j y v' e1 e2 e3 => ?_⟩, fun y c' e => ?_, I.free, I.gu, fun p hp => ?_, tracked ⟨oc, hoc, I.gu x c hc⟩ hs, by simpa using I.len⟩ ⟨c, hs, .inr hc⟩
  ·exact (hs.2 b (Nat.ne_of_lt (Nat.lt_of_lt_of_le (Heap.lt_size e) (I.ok.cab x c qK hc)))).trans (I.base.keep b o e n hb hx)
  ·obtain ⟨sl, e1⟩ := I.base.slot b o e n hb hx
   exact ⟨sl, (hs.2 b (Nat.ne_of_lt (Nat.lt_of_lt_of_le (Heap.lt_size e) (I.ok.cab x c qK hc)))).trans e1⟩
  ·obtain ⟨o', e1⟩ := I.base.there b o e hx
   exact ⟨o', (hs.2 b (Nat.ne_of_lt (Nat.lt_of_lt_of_le (Heap.lt_size e) (I.ok.cab x c qK hc)))).trans e1⟩
  ·by_cases hj : j = i
   ·subst hj
    rw [hi] at e1; cases e1
    rw [List.getElem?_set_self xT] at e2
    cases e2
    exact ⟨u, r, .inr ⟨.inl hk, c, hc, xU⟩⟩
   ·rw [List.getElem?_set_ne (Ne.symm hj)] at e2
    obtain ⟨u', r', q⟩ := hl j y v' e1 e2 e3
    refine ⟨u', r', ?_⟩
    rcases q with q | ⟨k, c', e, z'⟩
    ·exact .inl q
    ·refine .inr ⟨k, c', e, z'.sameBut hs ?_⟩
     rintro rfl
     exact hj (xS hN e1 (I.ok.inj _ _ _ e hc ▸ hi))
  ·by_cases hcc : c' = c
   ·subst hcc; exact ⟨_, xU⟩
   ·obtain ⟨w2, z2⟩ := I.cell y c' e
    exact ⟨w2, z2.sameBut hs hcc⟩
  ·obtain ⟨e, n, ne, nf, d⟩ := I.pin p hp
   refine ⟨(hs.2 p.1 ?_).trans e, n, ne, nf, d⟩
   intro q
   rw [q, hoc] at e
   have q' : oc = p.2 := Option.some.inj e
   exact d w' (by rw [<- q']; exact hocd)
theorem xV {M : Model} {A : Around} {E : Value -> Shared -> Prop} {i : Nat} {x : Str} {v : V} {u : Value} {Q : Unit -> Shared -> Prop} (I : Inv X pins σ H s) (hN : X.N.Nodup) (hi : X.N[i]? = some x) (hx : Loc X.env.scope x) (r : RelV v u)
 (h : ∀ s', Inv X pins (σ.set i (some v)) H s' -> Q () s') (hf : X.fn x = true ∨ X.env.scope.names.lookup x = some .local := by first | exact .inl rfl | exact .inr rfl | assumption) : wpAny M A (storeName X.env x u) Q E s :=
 Ee I hN hi hx r (fun s' I' _ => h s' I') hf
theorem Inv.Ei {s' : Shared} {ch : List Addr} (I : Inv X pins σ H s) (ho : s'.os = s.os) (u : Un (aX X.stack) ch H H' s.heap s'.heap) (aC : cp X.prog X.w H' s'.heap) (hg : AllBare s'.gens)
 (fj : ∀ b ∈ ch, (b ∈ X.ex ∨ X.s₀.heap.objs.size <= b) /\ b ≠ X.env.locals /\ (∀ x c, X.env.cells.lookup x = some c -> c ≠ b) /\ ∀ p ∈ X.pn ++ pins, p.1 ≠ b) : Inv X pins σ H' s' := by
 obtain ⟨h', g', d', t', o'⟩ := s'
 have e : o' = s.os := ho
 subst e
 exact I.call (g' := g') (t' := t') (d' := d') u aC hg fj
end
abbrev XK := Value -> Option Addr -> Hp -> Prop
abbrev St := List (Option V)
abbrev VK := V -> Hp -> Prop
abbrev TE := St -> Hp -> VK -> Prop
abbrev TT := St -> Hp -> (Bool -> Hp -> Prop) -> Prop
abbrev TA := St -> Hp -> (List V -> Hp -> Prop) -> Prop
structure Ends where
 nx : St -> Hp -> Prop
 rt : VK
 bk : St -> Hp -> Prop := fun _ _ => False
 ct : St -> Hp -> Prop := fun _ _ => False
abbrev TS := Ends -> St -> Hp -> Prop
def EP (X : Cx) (pins : List (Addr × Obj)) (σ : St) (Q : VK) (u : Value) (s' : Shared) : Prop := ∃ v H', Inv X pins σ H' s' /\ RelV v u /\ Q v H'
def TP (X : Cx) (pins : List (Addr × Obj)) (σ : St) (Q : Bool -> Hp -> Prop) (b : Bool) (s' : Shared) : Prop := ∃ H', Inv X pins σ H' s' /\ Q b H'
def AP (X : Cx) (pins : List (Addr × Obj)) (σ : St) (Q : List V -> Hp -> Prop) (us : List Value) (s' : Shared) : Prop := ∃ vs H', Inv X pins σ H' s' /\ Vals vs us /\ Q vs H'
def SP (X : Cx) (pins : List (Addr × Obj)) (D : Ends) (f : Flow) (s' : Shared) : Prop :=
 match f with
 | .next => ∃ σ' H', Inv X pins σ' H' s' /\ D.nx σ' H'
 | .brk => ∃ σ' H', Inv X pins σ' H' s' /\ D.bk σ' H'
 | .cont => ∃ σ' H', Inv X pins σ' H' s' /\ D.ct σ' H'
 | .ret u => ∃ v σ' H', Inv X pins σ' H' s' /\ RelV v u /\ D.rt v H'
def PE (X : Cx) (e : Expr) (t : TE) : Prop :=
 ∀ (pins : List (Addr × Obj)) (s : Shared) (σ : St) (H : Hp) (Q : VK), Inv X pins σ H s -> t σ H Q -> wpAny (model X.prog X.w) X.A (eval e X.env) (EP X pins σ Q) X.xe s
def PT (X : Cx) (e : Expr) (t : TT) : Prop :=
 ∀ (pins : List (Addr × Obj)) (s : Shared) (σ : St) (H : Hp) (Q : Bool -> Hp -> Prop), Inv X pins σ H s -> t σ H Q -> wpAny (model X.prog X.w) X.A (isTrue e X.env (eval e X.env)) (TP X pins σ Q) X.xe s
def PW (X : Cx) (e : Expr) (t : TT) : Prop :=
 ∀ (whole : Sem Value) (pins : List (Addr × Obj)) (s : Shared) (σ : St) (H : Hp) (Q : Bool -> Hp -> Prop), Inv X pins σ H s -> t σ H Q -> wpAny (model X.prog X.w) X.A (isTrue e X.env whole) (TP X pins σ Q) X.xe s
theorem PW.pt {X : Cx} {e : Expr} {t : TT} (h : PW X e t) : PT X e t := h _
def PA (X : Cx) (es : List Expr) (t : TA) : Prop :=
 ∀ (pos : Pos) (pins : List (Addr × Obj)) (s : Shared) (σ : St) (H : Hp) (Q : List V -> Hp -> Prop), Inv X pins σ H s -> t σ H Q -> wpAny (model X.prog X.w) X.A (spliced (backTo pos (starEach es X.env))) (AP X pins σ Q) X.xe s
def PS (X : Cx) (st : Stmt) (t : TS) : Prop :=
 ∀ (pins : List (Addr × Obj)) (s : Shared) (σ : St) (H : Hp) (D : Ends), Inv X pins σ H s -> t D σ H -> wpAny (model X.prog X.w) X.A (exec st X.env) (SP X pins D) X.xe s
def aV (X : Cx) (st : List Stmt) (t : TS) : Prop :=
 ∀ (pins : List (Addr × Obj)) (s : Shared) (σ : St) (H : Hp) (D : Ends), Inv X pins σ H s -> t D σ H -> wpAny (model X.prog X.w) X.A (execs st X.env) (SP X pins D) X.xe s
theorem aB {α : Type} {t : Sem α} {Q Q' : α -> Shared -> Prop} {M : Model} {A : Around} {E : Value -> Shared -> Prop} {s : Shared} (h : wpAny M A t Q E s) (hQ : ∀ a s, Q a s -> Q' a s) : wpAny M A t Q' E s := wpAny_mono h hQ fun _ _ x => x
end L2
namespace L2
open PySem PySem.Spec PyProof.Rows
section
variable {X : Cx}
def qL (i : Nat) : TE := fun σ H Q => ∃ v, σ[i]? = some (some v) /\ Q v H
def tC (v : V) : TE := fun _ H Q => Q v H
theorem Ej {i : Nat} {x : Str} {pos : Pos} (hN : X.N[i]? = some x) (hv : oO X.env.scope x) (hd : (x == ("__debug__" : Str)) = false := by decide) (dS : (x == ("__classdict__" : Str)) = false := by decide) : PE X (.Name x pos) (qL i) := by
 intro pins s σ H Q I h
 obtain ⟨v, e, h⟩ := h
 obtain ⟨m, hn, hl⟩ := I.loc
 obtain ⟨u, r, l⟩ := hl i x v hN e hv
 have fin : EP X pins σ Q u s := ⟨v, H, I, r, h⟩
 rcases l with ⟨hk, hm⟩ | ⟨hk, c, hc, hcell⟩
 ·exact wpAny_Name (wpAny_loadName_local I.ok.kind hk hn hm fin) hd
 ·rcases hk with hk | hk
  ·exact wpAny_Name (wpAny_loadName_cell I.ok.kind hk hc hcell fin) hd
  ·exact wpAny_Name (wpAny_loadName_free I.ok.kind hk hc hcell fin dS) hd
theorem af {i j pos} : PE X (.Constant (.int i) j pos) (tC (.int i)) := fun _ _ _ H _ I h => wpAny_Constant_int ⟨.int i, H, I.tok _, ⟨_, rfl⟩, h⟩
theorem jo {b j pos} : PE X (.Constant (.bool b) j pos) (tC (.bl b)) := fun _ _ _ H _ I h => Constant_bool ⟨.bl b, H, I, rfl, h⟩
theorem dU {j pos} : PE X (.Constant .none j pos) (tC .non) := fun _ _ _ H _ I h => Constant_none ⟨.non, H, I, rfl, h⟩
theorem aH {x j pos} : PE X (.Constant (.str x) j pos) (tC (.str x)) := fun _ _ _ H _ I h => Calls.Constant_str ⟨.str x, H, I.tok _, ⟨_, rfl⟩, h⟩
def Gl (X : Cx) (x : Str) : Prop := X.env.kindOf x = some .globalImplicit
theorem oQ {E : Value -> Shared -> Prop} {pins : List (Addr × Obj)} {s : Shared} {σ : St} {H : Hp} {x : Str} {u : Value} {pos : Pos} {Q : Value -> Shared -> Prop} (I : Inv X pins σ H s) (hg : Gl X x) (hm : X.mg x = some u) (h : Q u s)
 (hd : (x == ("__debug__" : Str)) = false := by decide) : wpAny (model X.prog X.w) X.A (eval (.Name x pos) X.env) Q E s :=
 Calls.Name_function_global I.ok.kind hg (Calls.loadGlobal_global (by rw [I.ok.glob]; exact I.mod.glob.keeps I.bk) hm h) hd
theorem l6 {E : Value -> Shared -> Prop} {pins : List (Addr × Obj)} {s : Shared} {σ : St} {H : Hp} {x : Str} {u : Value} {pos : Pos} {Q : Value -> Shared -> Prop} (I : Inv X pins σ H s) (hg : Gl X x) (hm : X.mg x = none) (hv : bootBuiltins x = some u) (h : Q u s)
 (hn : x ≠ "__name__" := by decide) (hd : (x == ("__debug__" : Str)) = false := by decide) : wpAny (model X.prog X.w) X.A (eval (.Name x pos) X.env) Q E s := by
 obtain ⟨mb, h1, h2⟩ := I.mod.blt
 exact Calls.Name_function_global I.ok.kind hg (Calls.loadGlobal_builtin (by rw [I.ok.glob]; exact I.mod.glob.keeps I.bk) hm (by rw [I.ok.blt]; exact h1.keeps I.bk) ((h2 x hn).trans hv) h) hd
theorem kF {x : Str} {v : V} {u : Value} {pos : Pos} (hg : Gl X x) (hm : X.mg x = some u) (r : RelV v u) (hd : (x == ("__debug__" : Str)) = false := by decide) : PE X (.Name x pos) (tC v) :=
 fun _ _ _ H _ I h => oQ I hg hm ⟨v, H, I, r, h⟩ hd
theorem oR {x : Str} {v : V} {u : Value} {pos : Pos} (hg : Gl X x) (hm : X.mg x = none) (hv : bootBuiltins x = some u) (r : RelV v u) (hn : x ≠ "__name__" := by decide) (hd : (x == ("__debug__" : Str)) = false := by decide) : PE X (.Name x pos) (tC v) :=
 fun _ _ _ H _ I h => l6 I hg hm hv ⟨v, H, I, r, h⟩ hn hd
variable {a b : Expr} {ta tb : TE} {pos : Pos}
def PC (X : Cx) (op : CmpOp) (a b : Expr) (t : TE) : Prop :=
 ∀ (pins : List (Addr × Obj)) (s : Shared) (σ : St) (H : Hp) (Q : VK), Inv X pins σ H s -> t σ H Q ->
  wpAny (model X.prog X.w) X.A (eval a X.env) (fun v s₁ => wpAny (model X.prog X.w) X.A (eval b X.env) (fun u s₂ => wpAny (model X.prog X.w) X.A (compareOp op v u) (EP X pins σ Q) X.xe s₂) X.xe s₁) X.xe s
theorem xW (b : Expr) {op : CmpOp} (h : op ≠ .In) (h2 : op ≠ .NotIn) : behindInMarks op b = false := by
 have e1 : (op == CmpOp.In) = false := by cases op <;> first | rfl | exact absurd rfl h
 have e2 : (op == CmpOp.NotIn) = false := by cases op <;> first | rfl | exact absurd rfl h2
 cases b <;> simp [behindInMarks, e1, e2]
def xX (ta : TE) : TE := fun σ H Q => ta σ H fun x H1 => Q (.bl (decide (x = .non))) H1
def xY (ta : TE) : TE := fun σ H Q => ta σ H fun x H1 => Q (.bl (!decide (x = .non))) H1
theorem RelV.xZ {x : V} {v : Value} (r : RelV x v) : (v == Value.none) = decide (x = .non) := by
 cases x with
 | non => cases r; rfl
 | bl _ => cases r; rfl
 | int _ => obtain ⟨t, rfl⟩ := r; rfl
 | str _ => obtain ⟨t, rfl⟩ := r; rfl
 | byt _ => obtain ⟨t, rfl⟩ := r; rfl
 | flt _ => obtain ⟨t, rfl⟩ := r; rfl
 | ref _ => cases r; rfl
 | ty _ => cases r; rfl
theorem qM {j pos'} (ha : PE X a ta) : PC X .Is a (.Constant .none j pos') (xX ta) := by
 intro pins s σ H Q I h
 refine aB (ha pins s σ H _ I h) fun v s1 ⟨x, H1, I1, r1, q1⟩ => ?_
 exact Constant_none (is_none_gen ⟨.bl _, H1, I1, by rw [r1.xZ]; rfl, q1⟩)
theorem oU {j pos'} (ha : PE X a ta) : PC X .IsNot a (.Constant .none j pos') (xY ta) := by
 intro pins s σ H Q I h
 refine aB (ha pins s σ H _ I h) fun v s1 ⟨x, H1, I1, r1, q1⟩ => ?_
 exact Constant_none (isnot_none_gen ⟨.bl _, H1, I1, by rw [r1.xZ]; rfl, q1⟩)
def tB (t : TE) : TT := fun σ H Q => t σ H fun x H1 => ∃ c, x = .bl c /\ Q c H1
theorem kG {op : CmpOp} {t : TE} (h : PC X op a b t) (h1 : behindInMarks op b = false := by first | exact xW _ (by decide) (by decide) | rfl) : PE X (.Compare a [op] [b] pos) t := fun pins s σ H Q I hw => wpAny_Compare1 (h pins s σ H Q I hw) h1
theorem x2 {op : CmpOp} {t : TE} (h : PC X op a b t) (h1 : behindInMarks op b = false := by first | exact xW _ (by decide) (by decide) | rfl) : PT X (.Compare a [op] [b] pos) (tB t) := by
 intro pins s σ H Q I hw
 refine wpAny_isTrue_Compare1 (aB (h pins s σ H _ I hw) fun v s1 h1 => aB h1 fun u s2 h2 => aB h2 fun c s3 ⟨x, H1, I1, r1, q1⟩ => ?_) h1
 obtain ⟨d, rfl, q⟩ := q1
 cases r1
 exact wpAny_truthy_bool ⟨H1, I1, q⟩
theorem Ek {e : Expr} {t : TE} (h : PE X e t) (he : ∀ whole, isTrue e X.env whole = (do let v <- whole; standAt e.pos; holding [v] (truthy v)) := by intro _; rfl) : PT X e (tB t) := by
 intro pins s σ H Q I hw
 refine isTrue_plain (aB (h pins s σ H _ I hw) fun v s1 ⟨x, H1, I1, r1, q1⟩ => ?_) (he _)
 obtain ⟨d, rfl, q⟩ := q1
 cases r1
 exact wpAny_truthy_bool ⟨H1, I1, q⟩
variable {tA oV : TT} {rest : List Expr}
def x3 (t u : TT) : TT := fun σ H Q => t σ H fun c H1 => if c = true then u σ H1 Q else Q false H1
def x4 (t u : TT) : TT := fun σ H Q => t σ H fun c H1 => if c = true then Q true H1 else u σ H1 Q
def x5 (t : TT) : TT := fun σ H Q => t σ H fun c H1 => Q (!c) H1
theorem x6 (ha : PT X a tA) : PW X (.BoolOp .And [a] pos) tA := by
 intro wh pins s σ H Q I h
 refine isTrue_and (aB (ha pins s σ H Q I h) fun c s1 e => ?_)
 cases c with
 | true => exact isTrue_and_nil e
 | false => exact e
theorem fK (ha : PT X a tA) : PW X (.BoolOp .Or [a] pos) tA := by
 intro wh pins s σ H Q I h
 refine isTrue_or (aB (ha pins s σ H Q I h) fun c s1 e => ?_)
 cases c with
 | false => exact isTrue_or_nil e
 | true => exact e
theorem x8 (ha : PT X a tA) (hb : PW X (.BoolOp .And (b :: rest) pos) oV) : PW X (.BoolOp .And (a :: b :: rest) pos) (x3 tA oV) := by
 intro wh pins s σ H Q I h
 refine isTrue_and (aB (ha pins s σ H _ I h) fun c s1 ⟨H1, I1, q1⟩ => ?_)
 cases c with
 | true => exact hb wh pins s1 σ H1 Q I1 q1
 | false => exact ⟨H1, I1, q1⟩
theorem dq (ha : PT X a tA) (hb : PW X (.BoolOp .Or (b :: rest) pos) oV) : PW X (.BoolOp .Or (a :: b :: rest) pos) (x4 tA oV) := by
 intro wh pins s σ H Q I h
 refine isTrue_or (aB (ha pins s σ H _ I h) fun c s1 ⟨H1, I1, q1⟩ => ?_)
 cases c with
 | true => exact ⟨H1, I1, q1⟩
 | false => exact hb wh pins s1 σ H1 Q I1 q1
theorem gv (ha : PT X a tA) : PT X (.UnaryOp .Not a pos) (x5 tA) := by
 intro pins s σ H Q I h
 exact isTrue_not (ha pins s σ H (fun c H1 => Q (!c) H1) I h)
def x9 (ta tb : TE) : TE := fun σ H Q => ta σ H fun x H1 => ∃ c, x = .bl c /\ if c = true then tb σ H1 Q else Q (.bl false) H1
def ya (ta tb : TE) : TE := fun σ H Q => ta σ H fun x H1 => ∃ c, x = .bl c /\ if c = true then Q (.bl true) H1 else tb σ H1 Q
def yb (ta : TE) : TE := fun σ H Q => ta σ H fun x H1 => ∃ c, x = .bl c /\ Q (.bl (!c)) H1
theorem er {op} {t : TE} (h : PE X a t) : PE X (.BoolOp op [a] pos) t := fun pins s σ H Q I hw => BoolOp_one (h pins s σ H Q I hw)
theorem El (ha : PE X a ta) (hb : PE X (.BoolOp .And (b :: rest) pos) tb) : PE X (.BoolOp .And (a :: b :: rest) pos) (x9 ta tb) := by
 intro pins s σ H Q I h
 refine BoolOp_and (aB (ha pins s σ H _ I h) fun v s1 ⟨x, H1, I1, r1, q1⟩ => ?_)
 obtain ⟨c, rfl, q1⟩ := q1
 cases r1
 refine wpAny_truthy_bool ?_
 cases c with
 | true => exact hb pins s1 σ H1 Q I1 q1
 | false => exact ⟨.bl false, H1, I1, rfl, q1⟩
theorem Em (ha : PE X a ta) (hb : PE X (.BoolOp .Or (b :: rest) pos) tb) : PE X (.BoolOp .Or (a :: b :: rest) pos) (ya ta tb) := by
 intro pins s σ H Q I h
 refine BoolOp_or (aB (ha pins s σ H _ I h) fun v s1 ⟨x, H1, I1, r1, q1⟩ => ?_)
 obtain ⟨c, rfl, q1⟩ := q1
 cases r1
 refine wpAny_truthy_bool ?_
 cases c with
 | false => exact hb pins s1 σ H1 Q I1 q1
 | true => exact ⟨.bl true, H1, I1, rfl, q1⟩
theorem Eo (ha : PE X a ta) : PE X (.UnaryOp .Not a pos) (yb ta) := by
 intro pins s σ H Q I h
 refine UnaryOp_ (aB (ha pins s σ H _ I h) fun v s1 ⟨x, H1, I1, r1, q1⟩ => ?_)
 obtain ⟨c, rfl, q1⟩ := q1
 cases r1
 exact not_of (wpAny_truthy_bool ⟨.bl (!c), H1, I1, rfl, q1⟩)
def yc (t : TT) (ta tb : TE) : TE := fun σ H Q => t σ H fun c H1 => if c = true then ta σ H1 Q else tb σ H1 Q
theorem oW {c : Expr} (hc : PT X c tA) (ha : PE X a ta) (hb : PE X b tb) : PE X (.IfExp c a b pos) (yc tA ta tb) := by
 intro pins s σ H Q I h
 refine wpAny_IfExp (aB (hc pins s σ H _ I h) fun d s1 ⟨H1, I1, q1⟩ => ?_)
 cases d with
 | true => exact ha pins s1 σ H1 Q I1 q1
 | false => exact hb pins s1 σ H1 Q I1 q1
end
end L2
namespace L2
open PySem PySem.Spec PyProof.Rows
def ao (K : PySem.W.Frag) (H : Hp) (a : Addr) (xs : List V) : Prop :=
 Rd H a (.lst xs) ∨
  ∃ (o : Obj) (ai : Array Value) (n : Nat), K.lookup a = some o /\ o.cls = .type "list" /\ o.dict = none /\ o.data = .seq ai n /\ ai.size <= sizeLine /\ Vals xs ai.toList
def ay (K : PySem.W.Frag) (H : Hp) (a : Addr) (xs : List V) : Prop :=
 Rd H a (.tup xs) ∨
  ∃ (o : Obj) (ai : Array Value) (n : Nat), K.lookup a = some o /\ o.cls = .type "tuple" /\ o.data = .seq ai n /\ ai.size <= sizeLine /\ Vals xs ai.toList
noncomputable def Ep : Value -> Option V
 | .none => some .non
 | .bool b => some (.bl b)
 | .int i _ => some (.int i)
 | .str x _ => some (.str x)
 | .bytes b _ => some (.byt b)
 | .float b _ => some (.flt b)
 | .ref a => some (.ref a)
 | .type n => some (.ty n)
 | _ => none
theorem RelV.abs {x : V} {u : Value} (r : RelV x u) : Ep u = some x := by
 cases x with
 | non => cases r; rfl
 | bl _ => cases r; rfl
 | int _ => obtain ⟨t, rfl⟩ := r; rfl
 | str _ => obtain ⟨t, rfl⟩ := r; rfl
 | byt _ => obtain ⟨t, rfl⟩ := r; rfl
 | flt _ => obtain ⟨t, rfl⟩ := r; rfl
 | ref _ => cases r; rfl
 | ty _ => cases r; rfl
theorem RelV.inj {x y : V} {u : Value} (r : RelV x u) (q : RelV y u) : x = y := Option.some.inj (r.abs.symm.trans q.abs)
theorem Vals.inj : ∀ {xs ys : List V} {us : List Value}, Vals xs us -> Vals ys us -> xs = ys
 | _, _, _, .nil, .nil => rfl
 | _, _, _, .cons r t, .cons r' t' => by rw [r.inj r', Vals.inj t t']
section
variable {X : Cx} {pins : List (Addr × Obj)} {σ : St} {H : Hp} {s : Shared} {a : Addr} {xs ys : List V}
theorem ao.of {K : PySem.W.Frag} (h : H a = some (.lst xs)) : ao K H a xs := .inl (.inl h)
theorem ay.of {K : PySem.W.Frag} (h : H a = some (.tup xs)) : ay K H a xs := .inl (.inl h)
theorem Inv.list (I : Inv X pins σ H s) (h : ao X.K H a xs) : ∃ ai : List Value, Vals xs ai /\ PlainL s.heap a ai.toArray /\ xs.length <= sizeLine := by
 rcases h with h | ⟨o, ai, n, hk, hc, hd, hs, hz, r⟩
 ·obtain ⟨z, ai, n, r, e⟩ := h.ok I.aC
  exact ⟨ai, r, ⟨_, n, e, rfl, rfl, rfl⟩, z⟩
 ·refine ⟨ai.toList, r, ⟨o, n, I.bQ a o hk, hc, hd, by simpa using hs⟩, ?_⟩
  have e := r.length
  simp only [Array.length_toList] at e
  omega
theorem Inv.tuple (I : Inv X pins σ H s) (h : ay X.K H a xs) : ∃ ai : List Value, Vals xs ai /\ IsTup s.heap a ai.toArray /\ xs.length <= sizeLine := by
 rcases h with h | ⟨o, ai, n, hk, hc, hs, hz, r⟩
 ·obtain ⟨z, ai, r, p⟩ := h.ok I.aC
  exact ⟨ai, r, p, z⟩
 ·refine ⟨ai.toList, r, ⟨o, I.bQ a o hk, hc, n, by simpa using hs⟩, ?_⟩
  have e := r.length
  simp only [Array.length_toList] at e
  omega
theorem Inv.Er (I : Inv X pins σ H s) (h : ao X.K H a xs) (h' : ao X.K H a ys) : xs = ys := by
 obtain ⟨ai, r, ⟨o, n, e, _, _, d⟩, _⟩ := I.list h
 obtain ⟨its', r', ⟨o', n', e', _, _, d'⟩, _⟩ := I.list h'
 rw [e] at e'; cases e'
 rw [d] at d'
 injection d' with d1 _
 have : ai = its' := by simpa using congrArg Array.toList d1
 subst this
 exact r.inj r'
theorem Inv.Es (I : Inv X pins σ H s) (h : ay X.K H a xs) (h' : ay X.K H a ys) : xs = ys := by
 obtain ⟨ai, r, ⟨o, e, _, n, d⟩, _⟩ := I.tuple h
 obtain ⟨its', r', ⟨o', e', _, n', d'⟩, _⟩ := I.tuple h'
 rw [e] at e'; cases e'
 rw [d] at d'
 injection d' with d1 _
 have : ai = its' := by simpa using congrArg Array.toList d1
 subst this
 exact r.inj r'
end
noncomputable abbrev Cx.fq (X : Cx) (E : Value -> Shared -> Prop) : Cx := { X with xe := E }
noncomputable abbrev Cx.ft (X : Cx) : Cx := X.fq fun _ _ => False
theorem Cx.Ok.fq {X : Cx} (ok : X.Ok) (E : Value -> Shared -> Prop) : (X.fq E).Ok :=
 ⟨ok.mod, ok.kind, ok.glob, ok.blt, ok.above, ok.inj, ok.has, ok.cab, ok.hd, ok.frames, ok.stk, ok.exf, ok.bs, ok.bsz, ok.noex, ok.exfs, ok.fh, ok.frf⟩
theorem Cx.Ok.gx {X : Cx} {E : Value -> Shared -> Prop} (ok : (X.fq E).Ok) : X.Ok :=
 ⟨ok.mod, ok.kind, ok.glob, ok.blt, ok.above, ok.inj, ok.has, ok.cab, ok.hd, ok.frames, ok.stk, ok.exf, ok.bs, ok.bsz, ok.noex, ok.exfs, ok.fh, ok.frf⟩
section
variable {X : Cx} {pins : List (Addr × Obj)} {σ : St} {H : Hp} {s : Shared} {E : Value -> Shared -> Prop}
theorem Inv.fq (I : Inv X pins σ H s) (E : Value -> Shared -> Prop) : Inv (X.fq E) pins σ H s := ⟨I.ok.fq E, I.os, I.bare, I.base, I.loc, I.cell, I.free, I.gu, I.pin, I.aC, I.len⟩
theorem Inv.gx (I : Inv (X.fq E) pins σ H s) : Inv X pins σ H s := ⟨I.ok.gx, I.os, I.bare, I.base, I.loc, I.cell, I.free, I.gu, I.pin, I.aC, I.len⟩
theorem SP.gx {D : Ends} {f : Flow} {s' : Shared} (h : SP (X.fq E) pins D f s') : SP X pins D f s' := by
 cases f with
 | next => obtain ⟨σ', H', I, q⟩ := h; exact ⟨σ', H', I.gx, q⟩
 | brk => obtain ⟨σ', H', I, q⟩ := h; exact ⟨σ', H', I.gx, q⟩
 | cont => obtain ⟨σ', H', I, q⟩ := h; exact ⟨σ', H', I.gx, q⟩
 | ret u => obtain ⟨v, σ', H', I, r, q⟩ := h; exact ⟨v, σ', H', I.gx, r, q⟩
theorem PE.ft {e : Expr} {t : TE} (h : PE X.ft e t) : PE X e t := fun pins s σ H Q I hw =>
 wpAny_mono (h pins s σ H Q (I.fq _) hw) (fun _ _ ⟨v, H', I', r, q⟩ => ⟨v, H', I'.gx, r, q⟩) fun _ _ z => False.elim z
theorem PT.ft {e : Expr} {t : TT} (h : PT X.ft e t) : PT X e t := fun pins s σ H Q I hw =>
 wpAny_mono (h pins s σ H Q (I.fq _) hw) (fun _ _ ⟨H', I', q⟩ => ⟨H', I'.gx, q⟩) fun _ _ z => False.elim z
theorem aV.ft {st : List Stmt} {t : TS} (h : aV X.ft st t) : aV X st t := fun pins s σ H D I hw =>
 wpAny_mono (h pins s σ H D (I.fq _) hw) (fun _ _ q => q.gx) fun _ _ z => False.elim z
end
section
variable {X : Cx} {st : Stmt} {rest : List Stmt} {t u : TS} {e : Expr} {te : TE} {pos : Pos}
def yd : TS := fun D σ H => D.nx σ H
def qN (t u : TS) : TS := fun D σ H => t { D with nx := u D } σ H
theorem aP : aV X [] yd := fun _ _ σ H _ I h => wpAny_execs_nil ⟨σ, H, I, h⟩
theorem au (h1 : PS X st t) (h2 : aV X rest u) : aV X (st :: rest) (qN t u) := by
 intro pins s σ H D I h
 refine wpAny_execs_cons (aB (h1 pins s σ H { D with nx := u D } I h) fun f s1 q => ?_)
 cases f with
 | next =>
  obtain ⟨σ', H', I', q⟩ := q
  exact h2 pins s1 σ' H' D I' q
 | ret v => exact q
 | brk => exact q
 | cont => exact q
theorem aq (h1 : PS X st t) : aV X [st] t := by
 intro pins s σ H D I h
 refine wpAny_execs_cons (aB (h1 pins s σ H D I h) fun f s1 q => ?_)
 cases f with
 | next => exact wpAny_execs_nil q
 | ret v => exact q
 | brk => exact q
 | cont => exact q
theorem Inv.quiet {pins : List (Addr × Obj)} {σ : St} {H : Hp} {s : Shared} (I : Inv X pins σ H s) : interactive X.env = false := by simp [interactive, I.ok.kind]
def ye (te : TE) : TS := fun D σ H => te σ H fun _ H1 => D.nx σ H1
theorem eH (he : PE X e te) (hs : swapsWith e none pos.line X.env = pure false := by rfl) : PS X (.Expr e pos) (ye te) := by
 intro pins s σ H D I h
 exact wpAny_Expr_any (aB (he pins s σ H _ I h) fun v s1 ⟨x, H1, I1, r1, q1⟩ => ⟨σ, H1, I1, q1⟩) I.quiet hs
def yf (te : TE) : TS := fun D σ H => te σ H D.rt
theorem aw (he : PE X e te) : PS X (.Return (some e) pos) (yf te) := by
 intro pins s σ H D I h
 exact wpAny_Return_some (aB (he pins s σ H _ I h) fun v s1 ⟨x, H1, I1, r1, q1⟩ => ⟨x, σ, H1, I1, r1, q1⟩)
def oX (c : TT) (t u : TS) : TS := fun D σ H => c σ H fun b H1 => if b = true then t D σ H1 else u D σ H1
theorem aL {c : Expr} {a b : List Stmt} {tc : TT} (hc : PT X c tc) (ha : aV X a t) (hb : aV X b u) : PS X (.If c a b pos) (oX tc t u) := by
 intro pins s σ H D I h
 refine wpAny_If (aB (hc pins s σ H _ I h) fun d s1 ⟨H1, I1, q1⟩ => ?_)
 cases d with
 | true => exact ha pins s1 σ H1 D I1 q1
 | false => exact hb pins s1 σ H1 D I1 q1
def Et : TS := fun _ _ _ => False
theorem Eu {Ew : List Stmt} : aV X Ew Et := fun _ _ _ _ _ _ h => h.elim
end
abbrev TG := V -> St -> Hp -> (St -> Hp -> Prop) -> Prop
abbrev qO := List V -> St -> Hp -> (St -> Hp -> Prop) -> Prop
def PG (X : Cx) (target : Expr) (t : TG) : Prop :=
 ∀ (pins : List (Addr × Obj)) (s : Shared) (σ : St) (H : Hp) (v : V) (u : Value) (Q : St -> Hp -> Prop), Inv X pins σ H s -> RelV v u -> t v σ H Q ->
  wpAny (model X.prog X.w) X.A (assign target X.env u) (fun _ s' => ∃ σ' H', Inv X pins σ' H' s' /\ Q σ' H') X.xe s
abbrev qP := V -> V -> V -> Hp -> (Hp -> Prop) -> Prop
def yg (X : Cx) (t : qP) : Prop :=
 ∀ (pins : List (Addr × Obj)) (s : Shared) (σ : St) (H : Hp) (o i v : V) (ov iv u : Value) (Q : Hp -> Prop), Inv X pins σ H s -> RelV o ov -> RelV i iv -> RelV v u -> t o i v H Q ->
  wpAny (model X.prog X.w) X.A (setItem ov iv u) (fun _ s' => ∃ H', Inv X pins σ H' s' /\ Q H') X.xe s
section
variable {X : Cx} {pos : Pos}
def jq (i : Nat) : TG := fun v σ H Q => Q (σ.set i (some v)) H
theorem qQ {i : Nat} {x : Str} (hN : X.N.Nodup) (hi : X.N[i]? = some x) (hx : Loc X.env.scope x) (hf : X.fn x = true ∨ X.env.scope.names.lookup x = some .local := by first | exact .inl rfl | exact .inr rfl | assumption) : PG X (.Name x pos) (jq i) := by
 intro pins s σ H v u Q I r h
 exact wpAny_assign_Name (xV I hN hi hx r (fun s' I' => ⟨_, H, I', h⟩) hf)
def Ex : qO := fun vs σ H Q => vs = [] /\ Q σ H
def Ey (t : TG) (u : qO) : qO := fun vs σ H Q => ∃ v r, vs = v :: r /\ t v σ H fun σ' H' => u r σ' H' Q
def yh (to ti : TE) (t : qP) : TG := fun v σ H Q => to σ H fun o H1 => ti σ H1 fun i H2 => t o i v H2 fun H3 => Q σ H3
theorem Ez {o i : Expr} {to ti : TE} {t : qP} (ho : PE X o to) (hi : PE X i ti) (hs : yg X t)
 (ha : ∀ v, assign (.Subscript o i pos) X.env v = (do
   let ov <- holding [v] (eval o X.env)
   let iv <- holding [v, ov] (eval i X.env)
   standAt pos
   holding [v, ov, iv] (setItem ov iv v)
   release [v, ov, iv] []) := by intro _; rfl) : PG X (.Subscript o i pos) (yh to ti t) := by
 intro pins s σ H v u Q I r h
 rw [ha]
 refine wpAny_bind (wpAny_holding (aB (ho pins s σ H _ I h) fun ov s1 ⟨x, H1, I1, r1, q1⟩ => ?_))
 refine wpAny_bind (wpAny_holding (aB (hi pins s1 σ H1 _ I1 q1) fun iv s2 ⟨y, H2, I2, r2, q2⟩ => ?_))
 refine wpAny_bind (wpAny_standAt (wpAny_bind (wpAny_holding (aB (hs pins s2 σ H2 x y v ov iv u _ I2 r1 r2 r q2) fun _ s3 ⟨H3, I3, q3⟩ => ?_))))
 exact wpAny_release ⟨σ, H3, I3, q3⟩
def oY (te : TE) (g : TG) : TS := fun D σ H => te σ H fun x H1 => g x σ H1 D.nx
theorem EA {tg e : Expr} {te : TE} {g : TG} (he : PE X e te) (hg : PG X tg g) (hs : swapsWithSole [tg] e pos.line X.env = pure false := by rfl) (hw : swappedStores [tg] e X.env = pure none := by rfl)
 (h1 : (assignEach [tg] X.env).map (·.2) = [assign tg X.env] := by rfl) : PS X (.Assign [tg] e pos) (oY te g) := by
 intro pins s σ H D I h
 refine wpAny_Assign_stores (aB (he pins s σ H _ I h) fun v s1 ⟨x, H1, I1, r1, q1⟩ => ?_) hs hw
 rw [h1]
 exact aB (hg pins s1 σ H1 x v _ I1 r1 q1) fun _ s2 q => q
theorem EB {i : Nat} {x : Str} {e : Expr} {te : TE} {pos' : Pos} (hN : X.N.Nodup) (hi : X.N[i]? = some x) (hx : Loc X.env.scope x) (he : PE X e te) (hs : swapsWith e (some (.Name x pos')) pos.line X.env = pure false := by rfl) (hf : X.fn x = true ∨ X.env.scope.names.lookup x = some .local := by first | exact .inl rfl | exact .inr rfl | assumption) :
 PS X (.Assign [.Name x pos'] e pos) (oY te (jq i)) := by
 intro pins s σ H D I h
 refine wpAny_Assign_Name (aB (he pins s σ H _ I h) fun v s1 ⟨y, H1, I1, r1, q1⟩ => ?_) hs
 exact xV I1 hN hi hx r1 (fun s2 I2 => ⟨_, H1, I2, q1⟩) hf
end
section
variable {X : Cx} {pos : Pos}
end
structure It where
 go : Nat -> Hp -> Prop
 yld : Nat -> Hp -> V -> Hp -> Prop
 stop : Nat -> Hp -> Prop
def eI (X : Cx) (pins : List (Addr × Obj)) (H : Hp) (b : Addr) : Prop :=
 H b = none /\ b ≠ X.env.locals /\ b ∉ X.fs /\ (b ∈ X.ex ∨ X.s₀.heap.objs.size <= b) /\ (∀ x c, X.env.cells.lookup x = some c -> c ≠ b) /\ ∀ p ∈ X.pn ++ pins, p.1 ≠ b
theorem Inv.l7 {X : Cx} {pins : List (Addr × Obj)} {σ : St} {H H' : Hp} {s : Shared} {b : Addr} (I : Inv X pins σ H s) (hb : s.heap.objs.size <= b) (hn : H' b = none) : eI X pins H' b := by
 refine ⟨hn, Nat.ne_of_gt (Nat.lt_of_lt_of_le I.lt hb), I.xP hb, .inr (Nat.le_trans I.sz hb), fun x c e z => ?_, fun p hp z => ?_⟩
 ·obtain ⟨v, q⟩ := I.cell x c e
  exact absurd (Nat.lt_of_lt_of_le q.lt (by rw [z]; exact hb)) (Nat.lt_irrefl _)
 ·exact absurd (Nat.lt_of_lt_of_le (Heap.lt_size (I.pin p hp).1) (by rw [z]; exact hb)) (Nat.lt_irrefl _)
structure Turn (P : Program) (w : World) (K : PySem.W.Frag) (tg : Expr) (J : It) (fp : List Addr) (it : Addr) (tn : Nat -> Heap -> Prop) : Prop where
 mem : it ∈ fp
 obj : ∀ i h, tn i h -> ∀ b ∈ fp, ∃ o, h.get? b = some o /\ ∀ v, o.data ≠ .cell v
 keep : ∀ i h h', tn i h -> (∀ b ∈ fp, ∀ o, h.get? b = some o -> h'.get? b = some o) -> tn i h'
 item : ∀ (X : Cx), X.prog = P -> X.w = w -> X.K = K -> X.calm = true -> ∀ (i : Nat) (pins : List (Addr × Obj)) (s : Shared) (σ : St) (H : Hp) (E : Value -> Shared -> Prop), Inv X pins σ H s -> (∀ b ∈ fp, eI X pins H b) -> tn i s.heap -> J.go i H ->
  wpAny (model P w) X.A (pyNext (.ref it)) (fun r s1 => ∃ u, r = some u /\
   wpAny (model P w) X.A (letOwnedTupleGo tg (.ref it) u) (fun _ s2 => ∃ x H', Inv X pins σ H' s2 /\ RelV x u /\ J.yld i H x H' /\ tn (i + 1) s2.heap /\ ∀ b ∈ fp, H' b = none) E s1) E s
 done : ∀ (X : Cx), X.prog = P -> X.w = w -> X.K = K -> X.calm = true -> ∀ (i : Nat) (pins : List (Addr × Obj)) (s : Shared) (σ : St) (H : Hp) (E : Value -> Shared -> Prop), Inv X pins σ H s -> (∀ b ∈ fp, eI X pins H b) -> tn i s.heap -> J.stop i H ->
  wpAny (model P w) X.A (pyNext (.ref it)) (fun r s1 => r = none /\ Inv X pins σ H s1) E s
 self : ∀ (A : Around) (i : Nat) (s : Shared) (Q : Value -> Shared -> Prop) (E : Value -> Shared -> Prop), tn i s.heap -> Q (.ref it) s -> wpAny (model P w) A (pyIter (.ref it)) Q E s
abbrev TI := St -> Hp -> (It -> Hp -> Prop) -> Prop
def yi (X : Cx) (pins : List (Addr × Obj)) (σ : St) (tg : Expr) (R : It -> Hp -> Prop) (oZ : Value) (s2 : Shared) : Prop :=
 ∃ (it : Addr) (fp : List Addr) (tn : Nat -> Heap -> Prop) (J : It) (H' : Hp), oZ = .ref it /\ Inv X pins σ H' s2 /\ Turn X.prog X.w X.K tg J fp it tn /\ tn 0 s2.heap /\ (∀ b ∈ fp, eI X pins H' b) /\ R J H'
def PI (X : Cx) (tg iter : Expr) (wi : TI) : Prop :=
 ∀ (pins : List (Addr × Obj)) (s : Shared) (σ : St) (H : Hp) (R : It -> Hp -> Prop), Inv X pins σ H s -> wi σ H R ->
  wpAny (model X.prog X.w) X.A (eval iter X.env) (fun v s1 => wpAny (model X.prog X.w) X.A (pyIter v) (yi X pins σ tg R) X.xe s1) X.xe s
theorem o3 {M : Model} {A : Around} {E : Value -> Shared -> Prop} {s : Shared} {tg : Expr} {it : Addr} {u : Value} {o : Obj} {n : String} {vs : Array Value} {Q : Unit -> Shared -> Prop} (ho : s.heap.get? it = some o) (hc : o.cls = .type n) (hd : o.data = .fields vs)
 (hn : ["enumerate", "zip", "dict_itemiterator", "dict_reverseitemiterator", "odict_iterator", "itertools.zip_longest", "itertools.pairwise"].contains n = false) (hQ : Q () s) : wpAny M A (letOwnedTupleGo tg (.ref it) u) Q E s := by
 unfold letOwnedTupleGo
 cases tg <;> first
  | exact wpAny_pure hQ
  | (cases u <;> first
      | exact wpAny_pure hQ
      | (refine wpAny_bind (wpAny_load ho ?_)
         rw [hc, hd]
         show wpAny M A (if (["enumerate", "zip", "dict_itemiterator", "dict_reverseitemiterator", "odict_iterator", "itertools.zip_longest", "itertools.pairwise"].contains n && vs[0]? == some (rawInt _)) = true then _ else _) Q E s
         rw [if_neg (by intro h; rw [hn, Bool.false_and] at h; cases h)]
         exact wpAny_pure hQ))
noncomputable def iz (K : PySem.W.Frag) (a : Addr) : It :=
 ⟨fun i H => ∃ xs x, ao K H a xs /\ xs[i]? = some x, fun i H x H' => H' = H /\ ∀ xs, ao K H a xs -> xs[i]? = some x, fun i H => ∃ xs, ao K H a xs /\ xs.length <= i⟩
noncomputable def jr (K : PySem.W.Frag) (a : Addr) : It :=
 ⟨fun i H => ∃ xs x, ay K H a xs /\ xs[i]? = some x, fun i H x H' => H' = H /\ ∀ xs, ay K H a xs -> xs[i]? = some x, fun i H => ∃ xs, ay K H a xs /\ xs.length <= i⟩
noncomputable def fL (lo : Int) (n : Nat) : It := ⟨fun i _ => i < n, fun i H x H' => H' = H /\ x = .int (lo + i), fun i _ => n <= i⟩
theorem EC {P : Program} {w : World} {K : PySem.W.Frag} {tg : Expr} (a it : Addr) : Turn P w K tg (iz K a) [it] it (fun i h => h.IsListIter it a i) where
 mem := by simp
 obj := fun i h st b hb => by
  have e : b = it := by simpa using hb
  subst e
  obtain ⟨o, e, c, d⟩ := st
  exact ⟨o, e, fun v z => by rw [d] at z; cases z⟩
 keep := fun i h h' st k => st.at fun o e => k it (by simp) o e
 item := by
  intro X hP hw hK hc i pins s σ H E I hf st hg
  subst hP hw hK
  obtain ⟨xs, x, hq, hx⟩ := hg
  obtain ⟨ai, rv, p, hz⟩ := I.list hq
  obtain ⟨u, hu, ru⟩ := rv.get hx
  obtain ⟨f0, f1, f2, f3, f4, f5⟩ := hf it (by simp)
  refine wpAny_pyNext_list_item st p.isList (x := u) (by simpa using hu) fun h' c9 sb => ?_
  have I1 : Inv X pins σ H { s with heap := h' } := I.turned (t' := s.toks) (fun b o hb e => (sb.2 b hb).trans e) f0 f1 f3 f4 f5
  obtain ⟨o, e, c, d⟩ := id c9
  exact ⟨u, rfl, o3 (s := { s with heap := h' }) e c d (by decide) ⟨x, H, I1, ru, ⟨rfl, fun ys hy => by rw [I.Er hy hq]; exact hx⟩, c9, fun b hb => (hf b hb).1⟩⟩
 done := by
  intro X hP hw hK hc i pins s σ H E I hf st hg
  subst hP hw hK
  obtain ⟨xs, hq, hx⟩ := hg
  obtain ⟨ai, rv, p, hz⟩ := I.list hq
  obtain ⟨f0, f1, f2, f3, f4, f5⟩ := hf it (by simp)
  have hl := rv.length
  exact wpAny_pyNext_list_end (I.ok.hd hc) st p.isList (by simp; omega) fun h' eb => ⟨rfl, I.turned (t' := s.toks) (fun b o hb e => eb b o hb e) f0 f1 f3 f4 f5⟩
 self := fun _ _ _ _ _ st h => wpAny_pyIter_listiter st h
theorem ED {P : Program} {w : World} {K : PySem.W.Frag} {tg : Expr} (a it : Addr) : Turn P w K tg (jr K a) [it] it (fun i h => h.IsTupleIter it a i) where
 mem := by simp
 obj := fun i h st b hb => by
  have e : b = it := by simpa using hb
  subst e
  obtain ⟨o, e, c, d⟩ := st
  exact ⟨o, e, fun v z => by rw [d] at z; cases z⟩
 keep := fun i h h' st k => st.at fun o e => k it (by simp) o e
 item := by
  intro X hP hw hK hc i pins s σ H E I hf st hg
  subst hP hw hK
  obtain ⟨xs, x, hq, hx⟩ := hg
  obtain ⟨ai, rv, p, hz⟩ := I.tuple hq
  obtain ⟨u, hu, ru⟩ := rv.get hx
  obtain ⟨f0, f1, f2, f3, f4, f5⟩ := hf it (by simp)
  refine wpAny_pyNext_tuple_item st (show s.heap.IsTuple a ai.toArray from p) (x := u) (by simpa using hu) fun h' c9 sb => ?_
  have I1 : Inv X pins σ H { s with heap := h' } := I.turned (t' := s.toks) (fun b o hb e => (sb.2 b hb).trans e) f0 f1 f3 f4 f5
  obtain ⟨o, e, c, d⟩ := id c9
  exact ⟨u, rfl, o3 (s := { s with heap := h' }) e c d (by decide) ⟨x, H, I1, ru, ⟨rfl, fun ys hy => by rw [I.Es hy hq]; exact hx⟩, c9, fun b hb => (hf b hb).1⟩⟩
 done := by
  intro X hP hw hK hc i pins s σ H E I hf st hg
  subst hP hw hK
  obtain ⟨xs, hq, hx⟩ := hg
  obtain ⟨ai, rv, p, hz⟩ := I.tuple hq
  obtain ⟨f0, f1, f2, f3, f4, f5⟩ := hf it (by simp)
  have hl := rv.length
  exact wpAny_pyNext_tuple_end (I.ok.hd hc) st (show s.heap.IsTuple a ai.toArray from p) (by simp; omega) fun h' eb => ⟨rfl, I.turned (t' := s.toks) (fun b o hb e => eb b o hb e) f0 f1 f3 f4 f5⟩
 self := fun _ _ _ _ _ st h => wpAny_pyIter_tupleiter st h
theorem EE {P : Program} {w : World} {K : PySem.W.Frag} {tg : Expr} (it : Addr) (lo : Int) (n : Nat) : Turn P w K tg (fL lo n) [it] it (fun i h => IsRangeIter h it (lo + (i : Nat) * 1) ((n : Int) - (i : Nat)) 1) where
 mem := by simp
 obj := fun i h st b hb => by
  have e : b = it := by simpa using hb
  subst e
  exact ⟨_, st, fun v z => by
   have z' : Data.fields _ = Data.cell v := z
   cases z'⟩
 keep := fun i h h' st k => k it (by simp) _ st
 item := by
  intro X hP hw hK hc i pins s σ H E I hf st hg
  subst hP hw hK
  obtain ⟨f0, f1, f2, f3, f4, f5⟩ := hf it (by simp)
  have W := Walks.range (prog := X.prog) (w := X.w) (I.ok.hd hc) it lo 1 n
  refine W.item i s _ _ hg st fun v h' tk hv c9 kk => ?_
  obtain ⟨t, rfl⟩ := hv
  have I1 : Inv X pins σ H { s with heap := h', toks := tk } := I.turned (fun b o hb e => kk b o (by simpa using hb) e) f0 f1 f3 f4 f5
  refine ⟨_, rfl, o3 (s := { s with heap := h', toks := tk }) (n := "range_iterator") c9 rfl rfl (by decide) ⟨.int (lo + i), H, I1, ⟨t, ?_⟩, ⟨rfl, rfl⟩, c9, fun b hb => (hf b hb).1⟩⟩
  rw [Int.mul_one]
 done := by
  intro X hP hw hK hc i pins s σ H E I hf st hg
  subst hP hw hK
  obtain ⟨f0, f1, f2, f3, f4, f5⟩ := hf it (by simp)
  exact wpAny_pyNext_range_end (I.ok.hd hc) st (by have : n <= i := hg; omega) fun h' eb => ⟨rfl, I.turned (t' := s.toks) (fun b o hb e => eb b o hb e) f0 f1 f3 f4 f5⟩
 self := fun _ _ _ _ _ st h => wpAny_pyIter_rangeiter st h
end L2
namespace L2
open PySem PySem.Spec PyProof.Rows
section
variable {X : Cx} {tg : Expr}
def qR (K : PySem.W.Frag) (tl : TE) : TI := fun σ H R => tl σ H fun x H1 => ∃ a, x = .ref a /\ (∃ xs, ao K H1 a xs) /\ R (iz K a) H1
def qS (K : PySem.W.Frag) (tl : TE) : TI := fun σ H R => tl σ H fun x H1 => ∃ a, x = .ref a /\ (∃ xs, ay K H1 a xs) /\ R (jr K a) H1
theorem gy {l : Expr} {tl : TE} (hl : PE X l tl) : PI X tg l (qR X.K tl) := by
 intro pins s σ H R I h
 refine aB (hl pins s σ H _ I h) fun v s1 ⟨x, H1, I1, r1, q1⟩ => ?_
 obtain ⟨a, e, ⟨xs, hq⟩, q⟩ := q1
 subst e
 cases r1
 obtain ⟨ai, rv, p, hz⟩ := I1.list hq
 refine wpAny_pyIter_list p.isList ?_
 refine ⟨s1.heap.objs.size, [s1.heap.objs.size], _, _, H1, rfl, I1.kept (t' := s1.toks) fun b o e => Heap.get?_push_of_some _ e, EC a _, ⟨_, Heap.get?_push_size _ rfl, rfl, rfl⟩, fun b hb => ?_, q⟩
 have e : b = s1.heap.objs.size := by simpa using hb
 subst e
 exact I1.l7 (Nat.le_refl _) (I1.aC.fresh (Nat.le_refl _))
theorem EF {l : Expr} {tl : TE} (hl : PE X l tl) : PI X tg l (qS X.K tl) := by
 intro pins s σ H R I h
 refine aB (hl pins s σ H _ I h) fun v s1 ⟨x, H1, I1, r1, q1⟩ => ?_
 obtain ⟨a, e, ⟨xs, hq⟩, q⟩ := q1
 subst e
 cases r1
 obtain ⟨ai, rv, p, hz⟩ := I1.tuple hq
 refine wpAny_pyIter_tuple (show s1.heap.IsTuple a ai.toArray from p) ?_
 refine ⟨s1.heap.objs.size, [s1.heap.objs.size], _, _, H1, rfl, I1.kept (t' := s1.toks) fun b o e => Heap.get?_push_of_some _ e, ED a _, ⟨_, Heap.get?_push_size _ rfl, rfl, rfl⟩, fun b hb => ?_, q⟩
 have e : b = s1.heap.objs.size := by simpa using hb
 subst e
 exact I1.l7 (Nat.le_refl _) (I1.aC.fresh (Nat.le_refl _))
theorem yj {pins : List (Addr × Obj)} {σ : St} {H : Hp} {s : Shared} {R : It -> Hp -> Prop} {E : Value -> Shared -> Prop} {lo hi : Int} {t u v : Tok} {tk : Nat} (I : Inv X pins σ H s) (h1 : -(2 ^ 62) <= lo) (h2 : lo < 2 ^ 62) (h3 : -(2 ^ 62) <= hi) (h4 : hi < 2 ^ 62)
 (q : R (fL lo (hi - lo).toNat) H) : wpAny (model X.prog X.w) X.A (pyIter (.ref s.heap.objs.size)) (yi X pins σ tg R) E { s with heap := s.heap.push { cls := .type "range", data := .fields #[.int lo t, .int hi u, .int 1 v] }, toks := tk } := by
 refine wpAny_pyIter_range (IsRange.new ..) (small_one h1 h2 h3 h4) ?_
 have I1 : Inv X pins σ H { s with heap := s.heap.push { cls := .type "range", data := .fields #[.int lo t, .int hi u, .int 1 v] }, toks := tk } := I.kept fun b o e => Heap.get?_push_of_some _ e
 refine ⟨(s.heap.push { cls := .type "range", data := .fields #[.int lo t, .int hi u, .int 1 v] }).objs.size, [(s.heap.push { cls := .type "range", data := .fields #[.int lo t, .int hi u, .int 1 v] }).objs.size], _, _, H, rfl,
  I1.kept (t' := tk) fun b o e => Heap.get?_push_of_some _ e, EE _ lo (hi - lo).toNat, ?_, fun b hb => ?_, q⟩
 ·have e1 : lo + ((0 : Nat) : Int) * 1 = lo := by simp
  have e2 : (((hi - lo).toNat : Nat) : Int) - ((0 : Nat) : Int) = Builtin.Range.rangeSize lo hi 1 := by rw [rangeSize_one]; split <;> omega
  show IsRangeIter _ _ (lo + ((0 : Nat) : Int) * 1) ((((hi - lo).toNat : Nat) : Int) - ((0 : Nat) : Int)) 1
  rw [e1, e2]
  exact Heap.get?_push_size _ rfl
 ·have e : b = (s.heap.push { cls := .type "range", data := .fields #[.int lo t, .int hi u, .int 1 v] }).objs.size := by simpa using hb
  subst e
  exact I1.l7 (Nat.le_refl _) (I1.aC.fresh (Nat.le_refl _))
def qT (ta : TA) : TI := fun σ H R => ta σ H fun vs H1 => ∃ j : Int, vs = [.int j] /\ -(2 ^ 62) <= j /\ j < 2 ^ 62 /\ R (fL 0 j.toNat) H1
def qU (ta : TA) : TI := fun σ H R => ta σ H fun vs H1 => ∃ i j : Int, vs = [.int i, .int j] /\ (-(2 ^ 62) <= i /\ i < 2 ^ 62 /\ -(2 ^ 62) <= j /\ j < 2 ^ 62) /\ R (fL i (j - i).toNat) H1
theorem l8 {a : Expr} {ta : TA} {p pos : Pos} (hg : Gl X "range") (hm : X.mg "range" = none) (ha : PA X [a] ta) (hs : starEach [a] X.env = [(false, eval a X.env)] := by rfl) : PI X tg (.Call (.Name "range" p) [a] [] pos) (qT ta) := by
 intro pins s σ H R I h
 refine Call_ (l6 I hg hm boot_range (PyProof.Rows.callWith_type1 (aB (ha pos pins s σ H _ I h) fun us s1 ⟨vs, H1, I1, r1, q1⟩ => ?_) hs rfl))
 obtain ⟨j, e, q1, q2, q⟩ := q1
 subst e
 cases r1 with
 | cons r rr =>
  cases rr
  obtain ⟨t, rfl⟩ := r
  exact call_range_1 (yj I1 (by omega) (by omega) q1 q2 (by simpa using q))
theorem l9 {a b : Expr} {ta : TA} {p pos : Pos} (hg : Gl X "range") (hm : X.mg "range" = none) (ha : PA X [a, b] ta) (hs : starEach [a, b] X.env = [(false, eval a X.env), (false, eval b X.env)] := by rfl) (md : starEach [b] X.env = [(false, eval b X.env)] := by rfl) :
 PI X tg (.Call (.Name "range" p) [a, b] [] pos) (qU ta) := by
 intro pins s σ H R I h
 refine Call_ (l6 I hg hm boot_range (PyProof.Rows.callWith_type1 (aB (ha pos pins s σ H _ I h) fun us s1 ⟨vs, H1, I1, r1, q1⟩ => ?_) (by rw [hs, md]) (by rw [md]; rfl)))
 obtain ⟨i, j, e, ⟨q1, q2, q3, q4⟩, q⟩ := q1
 subst e
 cases r1 with
 | cons r rr =>
  cases rr with
  | cons r' rr =>
   cases rr
   obtain ⟨t, rfl⟩ := r
   obtain ⟨t', rfl⟩ := r'
   exact call_range_2 (yj I1 q1 q2 q3 q4 q)
def gA (wi : TI) (g : TG) (tb : TS) : TS := fun D σ H => wi σ H fun J H1 => ∃ W : Nat -> Nat -> St -> Hp -> Prop, (∃ m, W 0 m σ H1) /\ ∀ i m σ H, W i m σ H ->
 (J.stop i H /\ D.nx σ H) ∨ (J.go i H /\ ∃ N : St -> Hp -> Prop, (∀ σ' H', N σ' H' -> ∃ m', m' < m /\ W (i + 1) m' σ' H') /\ ∀ x H', J.yld i H x H' -> g x σ H' fun σ2 H2 => tb { D with nx := N, ct := N, bk := D.nx } σ2 H2)
noncomputable def me (fp : List Addr) (h : Heap) : List (Addr × Obj) := fp.filterMap fun b => (h.get? b).map fun o => (b, o)
theorem o4 {fp : List Addr} {h : Heap} {b : Addr} {o : Obj} (hb : b ∈ fp) (e : h.get? b = some o) : (b, o) ∈ me fp h := List.mem_filterMap.mpr ⟨b, hb, by rw [e]; rfl⟩
theorem EG {fp : List Addr} {h : Heap} {p : Addr × Obj} (hp : p ∈ me fp h) : p.1 ∈ fp /\ h.get? p.1 = some p.2 := by
 obtain ⟨b, hb, e⟩ := List.mem_filterMap.mp hp
 cases q : h.get? b with
 | none => rw [q] at e; cases e
 | some o =>
  rw [q] at e
  have e' : (b, o) = p := Option.some.inj e
  subst e'
  exact ⟨hb, q⟩
theorem Inv.pinned {pins : List (Addr × Obj)} {σ : St} {H : Hp} {s : Shared} {fp : List Addr} (I : Inv X pins σ H s) (hf : ∀ b ∈ fp, eI X pins H b) (ho : ∀ b ∈ fp, ∃ o, s.heap.get? b = some o /\ ∀ v, o.data ≠ .cell v) : Inv X (pins ++ me fp s.heap) σ H s :=
 I.lZ fun p hp => (List.mem_append.mp hp).elim (fun z => I.pin p (List.mem_append_right _ z)) fun z => by
  obtain ⟨hb, e⟩ := EG z
  obtain ⟨f0, f1, f2, _⟩ := hf p.1 hb
  obtain ⟨o, e', d⟩ := ho p.1 hb
  rw [e] at e'; cases e'
  exact ⟨e, f0, f1, f2, d⟩
theorem Inv.o5 {pins pl : List (Addr × Obj)} {σ : St} {H : Hp} {s : Shared} (I : Inv X (pins ++ pl) σ H s) : Inv X pins σ H s := I.lZ fun p hp => I.pin p (List.mem_append_right _ (List.mem_append_left _ hp))
theorem iA {iter : Expr} {body : List Stmt} {wi : TI} {g : TG} {tb : TS} {pos : Pos} (hp : PassesOwn (model X.prog X.w) X.A X.env X.xe) (hc : X.calm = true) (hi : PI X tg iter wi) (hg : PG X tg g) (hb : aV X body tb)
 (hs : ∀ x, foldedSetIterable iter X.env x = pure x := by intro _; rfl) : PS X (.For tg iter body [] pos) (gA wi g tb) := by
 intro pins s σ H D I h
 refine wpAny_For (aB (hi pins s σ H _ I h) fun v s1 h1 => aB h1 fun oZ s2 h2 => ?_) hs
 obtain ⟨it, fp, tn, J, H2, e, I2, T, fM, f2, W, ⟨m0, w0⟩, turn⟩ := h2
 subst e
 have qV : ∀ {H' : Hp}, (∀ b ∈ fp, H' b = none) -> ∀ b ∈ fp, eI X pins H' b := fun hn b hb => ⟨hn b hb, (f2 b hb).2⟩
 refine codeAny_forLoop_any (fun n s' => ∃ i σ' H', Inv X pins σ' H' s' /\ tn i s'.heap /\ (∀ b ∈ fp, H' b = none) /\ W i n σ' H') ?_ m0 ⟨0, σ, H2, I2, fM, fun b hb => (f2 b hb).1, w0⟩
 rintro n s3 ⟨i, σ3, H3, I3, mf, mh, w3⟩
 rcases turn i n σ3 H3 w3 with ⟨stop, qn⟩ | ⟨go, N, hN, step⟩
 ·refine wpAny_passesOwn hp (aB (T.done X rfl rfl rfl hc i pins s3 σ3 H3 X.xe I3 (qV mh) mf stop) fun r s4 ⟨hr, I4⟩ => ?_)
  subst hr
  exact wpAny_execs_nil ⟨σ3, H3, I4, qn⟩
 ·refine wpAny_passesOwn hp (aB (T.item X rfl rfl rfl hc i pins s3 σ3 H3 X.xe I3 (qV mh) mf go) fun r s4 ⟨u, hr, h4⟩ => ?_)
  subst hr
  refine wpAny_passesOwn hp (aB h4 fun _ s5 ⟨x, H5, I5, r5, y5, jt, qW⟩ => ?_)
  have qX := I5.pinned (qV qW) (T.obj _ _ jt)
  refine wpAny_passesOwn hp (aB (hg _ s5 σ3 H5 x u _ qX r5 (step x H5 y5)) fun _ s6 ⟨σ6, H6, I6, q6⟩ => ?_)
  refine wpAny_passesOwn hp (aB (hb _ s6 σ6 H6 _ I6 q6) fun f s7 q7 => ?_)
  have again : ∀ {σ7 : St} {H7 : Hp}, Inv X (pins ++ me fp s5.heap) σ7 H7 s7 -> N σ7 H7 -> ∃ m, m < n /\ ∃ i σ' H', Inv X pins σ' H' s7 /\ tn i s7.heap /\ (∀ b ∈ fp, H' b = none) /\ W i m σ' H' := fun {σ7 H7} I7 n7 => by
   obtain ⟨m', hm, w7⟩ := hN σ7 H7 n7
   refine ⟨m', hm, i + 1, σ7, H7, I7.o5, T.keep _ _ _ jt fun b hb o e => (I7.pin (b, o) (List.mem_append_right _ (List.mem_append_right _ (o4 hb e)))).1, fun b hb => ?_, w7⟩
   obtain ⟨o, e, d⟩ := T.obj _ _ jt b hb
   exact (I7.pin (b, o) (List.mem_append_right _ (List.mem_append_right _ (o4 hb e)))).2.1
  cases f with
  | next => obtain ⟨σ7, H7, I7, n7⟩ := q7; exact again I7 n7
  | cont => obtain ⟨σ7, H7, I7, n7⟩ := q7; exact again I7 n7
  | brk => obtain ⟨σ7, H7, I7, q7⟩ := q7; exact ⟨σ7, H7, I7.o5, q7⟩
  | ret v => obtain ⟨x7, σ7, H7, I7, r7, q7⟩ := q7; exact ⟨x7, σ7, H7, I7.o5, r7, q7⟩
end
theorem EH {K : PySem.W.Frag} {a : Addr} {xs : List V} {g : TG} {tb : TS} {D : Ends} {σ : St} {H : Hp} (Pv : Nat -> St -> Hp -> Prop) (h0 : Pv 0 σ H) (hl : ∀ i σ H, i <= xs.length -> Pv i σ H -> ao K H a xs)
 (hs : ∀ i x σ H, xs[i]? = some x -> Pv i σ H -> g x σ H fun σ2 H2 => tb { D with nx := Pv (i + 1), ct := Pv (i + 1), bk := D.nx } σ2 H2) (hd : ∀ σ H, Pv xs.length σ H -> D.nx σ H) :
 ∃ W : Nat -> Nat -> St -> Hp -> Prop, (∃ m, W 0 m σ H) /\ ∀ i m σ H, W i m σ H ->
  ((iz K a).stop i H /\ D.nx σ H) ∨ ((iz K a).go i H /\ ∃ N : St -> Hp -> Prop, (∀ σ' H', N σ' H' -> ∃ m', m' < m /\ W (i + 1) m' σ' H') /\ ∀ x H', (iz K a).yld i H x H' -> g x σ H' fun σ2 H2 => tb { D with nx := N, ct := N, bk := D.nx } σ2 H2) := by
 refine ⟨fun i m σ H => m = xs.length - i /\ i <= xs.length /\ Pv i σ H, ⟨xs.length, by simp, Nat.zero_le _, h0⟩, ?_⟩
 rintro i m σ H ⟨rfl, hi, p⟩
 have q := hl i σ H hi p
 by_cases cz : i < xs.length
 ·refine .inr ⟨⟨xs, xs[i], q, by simp [cz]⟩, Pv (i + 1), fun σ' H' p' => ⟨xs.length - (i + 1), by omega, rfl, cz, p'⟩, fun x H' y => ?_⟩
  obtain ⟨e, y⟩ := y
  subst e
  exact hs i x σ _ (y xs q) p
 ·have e : i = xs.length := by omega
  subst e
  exact .inl ⟨⟨xs, q, Nat.le_refl _⟩, hd σ H p⟩
theorem EI {K : PySem.W.Frag} {a : Addr} {xs : List V} {g : TG} {tb : TS} {D : Ends} {σ : St} {H : Hp} (Pv : Nat -> St -> Hp -> Prop) (h0 : Pv 0 σ H) (hl : ∀ i σ H, i <= xs.length -> Pv i σ H -> ay K H a xs)
 (hs : ∀ i x σ H, xs[i]? = some x -> Pv i σ H -> g x σ H fun σ2 H2 => tb { D with nx := Pv (i + 1), ct := Pv (i + 1), bk := D.nx } σ2 H2) (hd : ∀ σ H, Pv xs.length σ H -> D.nx σ H) :
 ∃ W : Nat -> Nat -> St -> Hp -> Prop, (∃ m, W 0 m σ H) /\ ∀ i m σ H, W i m σ H ->
  ((jr K a).stop i H /\ D.nx σ H) ∨ ((jr K a).go i H /\ ∃ N : St -> Hp -> Prop, (∀ σ' H', N σ' H' -> ∃ m', m' < m /\ W (i + 1) m' σ' H') /\ ∀ x H', (jr K a).yld i H x H' -> g x σ H' fun σ2 H2 => tb { D with nx := N, ct := N, bk := D.nx } σ2 H2) := by
 refine ⟨fun i m σ H => m = xs.length - i /\ i <= xs.length /\ Pv i σ H, ⟨xs.length, by simp, Nat.zero_le _, h0⟩, ?_⟩
 rintro i m σ H ⟨rfl, hi, p⟩
 have q := hl i σ H hi p
 by_cases cz : i < xs.length
 ·refine .inr ⟨⟨xs, xs[i], q, by simp [cz]⟩, Pv (i + 1), fun σ' H' p' => ⟨xs.length - (i + 1), by omega, rfl, cz, p'⟩, fun x H' y => ?_⟩
  obtain ⟨e, y⟩ := y
  subst e
  exact hs i x σ _ (y xs q) p
 ·have e : i = xs.length := by omega
  subst e
  exact .inl ⟨⟨xs, q, Nat.le_refl _⟩, hd σ H p⟩
theorem EJ {lo : Int} {n : Nat} {g : TG} {tb : TS} {D : Ends} {σ : St} {H : Hp} (Pv : Nat -> St -> Hp -> Prop) (h0 : Pv 0 σ H)
 (hs : ∀ i σ H, i < n -> Pv i σ H -> g (.int (lo + i)) σ H fun σ2 H2 => tb { D with nx := Pv (i + 1), ct := Pv (i + 1), bk := D.nx } σ2 H2) (hd : ∀ σ H, Pv n σ H -> D.nx σ H) :
 ∃ W : Nat -> Nat -> St -> Hp -> Prop, (∃ m, W 0 m σ H) /\ ∀ i m σ H, W i m σ H ->
  ((fL lo n).stop i H /\ D.nx σ H) ∨ ((fL lo n).go i H /\ ∃ N : St -> Hp -> Prop, (∀ σ' H', N σ' H' -> ∃ m', m' < m /\ W (i + 1) m' σ' H') /\ ∀ x H', (fL lo n).yld i H x H' -> g x σ H' fun σ2 H2 => tb { D with nx := N, ct := N, bk := D.nx } σ2 H2) := by
 refine ⟨fun i m σ H => m = n - i /\ i <= n /\ Pv i σ H, ⟨n, by simp, Nat.zero_le _, h0⟩, ?_⟩
 rintro i m σ H ⟨rfl, hi, p⟩
 by_cases cz : i < n
 ·refine .inr ⟨cz, Pv (i + 1), fun σ' H' p' => ⟨n - (i + 1), by omega, rfl, cz, p'⟩, fun x H' y => ?_⟩
  obtain ⟨e, y⟩ := y
  subst e y
  exact hs i σ _ cz p
 ·have e : i = n := by omega
  subst e
  exact .inl ⟨Nat.le_refl _, hd σ H p⟩
end L2
namespace L2
open PySem PySem.Spec PyProof.Rows
abbrev R2 := V -> V -> Hp -> VK -> Prop
def bf (X : Cx) (f : Value -> Value -> Sem Value) (r : R2) : Prop :=
 ∀ (pins : List (Addr × Obj)) (s : Shared) (σ : St) (H : Hp) (x y : V) (v u : Value) (Q : VK), Inv X pins σ H s -> RelV x v -> RelV y u -> r x y H Q ->
  wpAny (model X.prog X.w) X.A (f v u) (EP X pins σ Q) X.xe s
def kH (X : Cx) (f : Value -> Sem Value) (r : V -> Hp -> VK -> Prop) : Prop :=
 ∀ (pins : List (Addr × Obj)) (s : Shared) (σ : St) (H : Hp) (x : V) (v : Value) (Q : VK), Inv X pins σ H s -> RelV x v -> r x H Q ->
  wpAny (model X.prog X.w) X.A (f v) (EP X pins σ Q) X.xe s
def da (X : Cx) (f : Value) (r : List V -> Hp -> VK -> Prop) : Prop :=
 ∀ (pins : List (Addr × Obj)) (s : Shared) (σ : St) (H : Hp) (xs : List V) (us : List Value) (Q : VK), Inv X pins σ H s -> Vals xs us -> r xs H Q ->
  wpAny (model X.prog X.w) X.A (call f us) (EP X pins σ Q) X.xe s
def ju (r : R2) (ta tb : TE) : TE := fun σ H Q => ta σ H fun x H1 => tb σ H1 fun y H2 => r x y H2 Q
def yk (r : V -> Hp -> VK -> Prop) (ta : TE) : TE := fun σ H Q => ta σ H fun x H1 => r x H1 Q
def rI (C : Int -> Int -> Prop) (g : Int -> Int -> V) : R2 := fun x y H Q => ∃ i j, x = .int i /\ y = .int j /\ C i j /\ Q (g i j) H
def et (g : Int -> Int -> V) : R2 := fun x y H Q => ∃ i j, x = .int i /\ y = .int j /\ Q (g i j) H
def rU (g : Int -> V) : V -> Hp -> VK -> Prop := fun x H Q => ∃ i, x = .int i /\ Q (g i) H
section
variable {X : Cx} {a b c : Expr} {ta tb tc : TE} {pos : Pos}
theorem qY (ha : PE X a ta) (hb : PE X b tb) {pins : List (Addr × Obj)} {s : Shared} {σ : St} {H : Hp} {R : V -> V -> Hp -> Prop} (I : Inv X pins σ H s)
 (h : ta σ H fun x H1 => tb σ H1 fun y H2 => R x y H2) {Q : Value -> Shared -> Prop} {f : Value -> Value -> Sem Value}
 (hf : ∀ v u s2 x y H2, Inv X pins σ H2 s2 -> RelV x v -> RelV y u -> R x y H2 -> wpAny (model X.prog X.w) X.A (f v u) Q X.xe s2) :
 wpAny (model X.prog X.w) X.A (eval a X.env) (fun v s₁ => wpAny (model X.prog X.w) X.A (eval b X.env) (fun u s₂ => wpAny (model X.prog X.w) X.A (f v u) Q X.xe s₂) X.xe s₁) X.xe s := by
 refine aB (ha pins s σ H _ I h) fun v s1 ⟨x, H1, I1, r1, q1⟩ => ?_
 refine aB (hb pins s1 σ H1 _ I1 q1) fun u s2 ⟨y, H2, I2, r2, q2⟩ => ?_
 exact hf v u s2 x y H2 I2 r1 r2 q2
theorem az {op : Operator} {r : R2} (ho : bf X (binaryOp op) r) (ha : PE X a ta) (hb : PE X b tb) : PE X (.BinOp a op b pos) (ju r ta tb) := by
 intro pins s σ H Q I h
 exact wpAny_BinOp (qY ha hb I h fun v u s2 x y H2 I2 rx ry q => ho pins s2 σ H2 x y v u Q I2 rx ry q)
theorem jv {op : UnaryOp} {r : V -> Hp -> VK -> Prop} (ho : kH X (unaryOp op) r) (ha : PE X a ta) : PE X (.UnaryOp op a pos) (yk r ta) := by
 intro pins s σ H Q I h
 exact UnaryOp_ (aB (ha pins s σ H _ I h) fun v s1 ⟨x, H1, I1, r1, q1⟩ => ho pins s1 σ H1 x v Q I1 r1 q1)
theorem mi {f : Value -> Value -> Sem Value} {C : Int -> Int -> Prop} {g : Int -> Int -> Int}
 (rule : ∀ (i j : Int) (t u : Tok) (s : Shared) (Q : Value -> Shared -> Prop) (E : Value -> Shared -> Prop), C i j -> Q (.int (g i j) s.toks) { s with toks := s.toks + 1 } -> wpAny (model X.prog X.w) X.A (f (.int i t) (.int j u)) Q E s) :
 bf X f (rI C fun i j => .int (g i j)) := by
 intro pins s σ H x y v u Q I rx ry h
 obtain ⟨i, j, rfl, rfl, hc, q⟩ := h
 obtain ⟨t, rfl⟩ := rx
 obtain ⟨t', rfl⟩ := ry
 exact rule i j t t' s _ _ hc ⟨.int (g i j), H, I.tok _, ⟨_, rfl⟩, q⟩
theorem ym {f : Value -> Value -> Sem Value} {g : Int -> Int -> Int}
 (rule : ∀ (i j : Int) (t u : Tok) (s : Shared) (Q : Value -> Shared -> Prop) (E : Value -> Shared -> Prop), Q (.int (g i j) s.toks) { s with toks := s.toks + 1 } -> wpAny (model X.prog X.w) X.A (f (.int i t) (.int j u)) Q E s) :
 bf X f (et fun i j => .int (g i j)) := by
 intro pins s σ H x y v u Q I rx ry h
 obtain ⟨i, j, rfl, rfl, q⟩ := h
 obtain ⟨t, rfl⟩ := rx
 obtain ⟨t', rfl⟩ := ry
 exact rule i j t t' s _ _ ⟨.int (g i j), H, I.tok _, ⟨_, rfl⟩, q⟩
theorem o6 {f : Value -> Value -> Sem Value} {g : Int -> Int -> Bool}
 (rule : ∀ (i j : Int) (t u : Tok) (s : Shared) (Q : Value -> Shared -> Prop) (E : Value -> Shared -> Prop), Q (.bool (g i j)) s -> wpAny (model X.prog X.w) X.A (f (.int i t) (.int j u)) Q E s) :
 bf X f (et fun i j => .bl (g i j)) := by
 intro pins s σ H x y v u Q I rx ry h
 obtain ⟨i, j, rfl, rfl, q⟩ := h
 obtain ⟨t, rfl⟩ := rx
 obtain ⟨t', rfl⟩ := ry
 exact rule i j t t' s _ _ ⟨.bl (g i j), H, I, rfl, q⟩
def EK (i j : Int) : Prop := 0 <= j /\ j <= 1000000 /\ i.natAbs < 2 ^ 64
def yn (i j : Int) : Prop := (-(2 ^ 64) < i /\ i < 2 ^ 64) ∨ (-(2 ^ 64) < j /\ j < 2 ^ 64)
theorem yn.ok {i j : Int} (h : yn i j) : IntMulOk i j := by
 rcases h with ⟨h1, h2⟩ | ⟨h1, h2⟩
 ·exact .of_left (intBits_le_64 h1 h2)
 ·exact .of_right (intBits_le_64 h1 h2)
theorem EL : bf X (binaryOp .Add) (et fun i j => .int (i + j)) := ym fun _ _ _ _ _ _ _ q => add_int q
theorem EM : bf X (binaryOp .Sub) (et fun i j => .int (i - j)) := ym fun _ _ _ _ _ _ _ q => sub_int q
theorem EN : bf X (binaryOp .Mod) (rI (fun _ j => 0 < j) fun i j => .int (i % j)) := mi fun i j _ _ _ _ _ hc q => by
 have h1 : (0 : Int) < j := hc
 exact mod_int' (by omega) (by rw [Int.fmod_eq_emod_of_nonneg i (by omega)]; exact q)
theorem yo : bf X (binaryOp .Pow) (rI EK fun i j => .int (i ^ j.toNat)) := mi fun _ _ _ _ _ _ _ hc q => pow_int_small hc.1 hc.2.1 hc.2.2 q
theorem EO {f : Value -> Sem Value} {g : Int -> Int}
 (rule : ∀ (i : Int) (t : Tok) (s : Shared) (Q : Value -> Shared -> Prop) (E : Value -> Shared -> Prop), Q (.int (g i) s.toks) { s with toks := s.toks + 1 } -> wpAny (model X.prog X.w) X.A (f (.int i t)) Q E s) :
 kH X f (rU fun i => .int (g i)) := by
 intro pins s σ H x v Q I rx h
 obtain ⟨i, rfl, q⟩ := h
 obtain ⟨t, rfl⟩ := rx
 exact rule i t s _ _ ⟨.int (g i), H, I.tok _, ⟨_, rfl⟩, q⟩
theorem ER : kH X (unaryOp .USub) (rU fun i => .int (-i)) := EO fun _ _ _ _ _ q => neg_int q
end
noncomputable def gY : V -> V -> Bool
 | .non, .non => true | .non, .int _ => true | .int _, .non => true | .non, .bl _ => true | .bl _, .non => true | .non, .str _ => true | .str _, .non => true
 | .int _, .int _ => true | .bl _, .bl _ => true | .str _, .str _ => true | .byt _, .byt _ => true
 | .int _, .str _ => true | .str _, .int _ => true | .bl _, .str _ => true | .str _, .bl _ => true
 | _, _ => false
def yp : R2 := fun x y H Q => gY x y = true /\ Q (.bl (decide (x = y))) H
def yq : R2 := fun x y H Q => gY x y = true /\ Q (.bl (!decide (x = y))) H
theorem yr {i j : Int} : decide (V.int i = V.int j) = (i == j) := by
 rw [Bool.eq_iff_iff]
 simp
theorem yt {i j : Bool} : decide (V.bl i = V.bl j) = (i == j) := by
 rw [Bool.eq_iff_iff]
 simp
theorem yu {i j : Str} : decide (V.str i = V.str j) = (i == j) := by
 rw [Bool.eq_iff_iff]
 simp
theorem yw {i j : Array UInt8} : decide (V.byt i = V.byt j) = (i.toList == j.toList) := by
 rw [Bool.eq_iff_iff]
 cases i
 cases j
 simp
section
variable {X : Cx} {a b c : Expr} {ta tb tc : TE} {pos : Pos}
theorem bV {pins : List (Addr × Obj)} {σ : St} {H : Hp} {s : Shared} {Q : VK} {k k' : Bool} (I : Inv X pins σ H s) (q : Q (.bl k) H) (e : k = k') : EP X pins σ Q (.bool k') s := by
 subst e
 exact ⟨.bl k, H, I, rfl, q⟩
theorem qZ : bf X (compareOp .Eq) yp := by
 intro pins s σ H x y v u Q I rx ry h
 obtain ⟨hs, q⟩ := h
 cases x with
 | non =>
  cases rx
  cases y with
  | non => cases ry; exact PySem.EqNone.eq_none_none (bV I q (by simp))
  | bl j => cases ry; exact PySem.EqNone.eq_none_bool (bV I q (by simp))
  | int j => obtain ⟨t', rfl⟩ := ry; exact PySem.EqNone.eq_none_int (bV I q (by simp))
  | str j => obtain ⟨t', rfl⟩ := ry; exact PySem.EqNone.eq_none_str (bV I q (by simp))
  | _ => exact absurd (show false = true from hs) Bool.false_ne_true
 | bl i =>
  cases rx
  cases y with
  | non => cases ry; exact PySem.EqNone.eq_bool_none (bV I q (by simp))
  | bl j => cases ry; exact eq_bool (bV I q yt)
  | str j => obtain ⟨t', rfl⟩ := ry; exact PySem.EqMixed.eq_bool_str (bV I q (by simp))
  | _ => exact absurd (show false = true from hs) Bool.false_ne_true
 | int i =>
  obtain ⟨t, rfl⟩ := rx
  cases y with
  | non => cases ry; exact PySem.EqNone.eq_int_none (bV I q (by simp))
  | int j => obtain ⟨t', rfl⟩ := ry; exact eq_int (bV I q yr)
  | str j => obtain ⟨t', rfl⟩ := ry; exact PySem.EqMixed.eq_int_str (bV I q (by simp))
  | _ => exact absurd (show false = true from hs) Bool.false_ne_true
 | str i =>
  obtain ⟨t, rfl⟩ := rx
  cases y with
  | non => cases ry; exact PySem.EqNone.eq_str_none (bV I q (by simp))
  | bl j => cases ry; exact PySem.EqMixed.eq_str_bool (bV I q (by simp))
  | int j => obtain ⟨t', rfl⟩ := ry; exact PySem.EqMixed.eq_str_int (bV I q (by simp))
  | str j => obtain ⟨t', rfl⟩ := ry; exact eq_str (bV I q yu)
  | _ => exact absurd (show false = true from hs) Bool.false_ne_true
 | byt i =>
  obtain ⟨t, rfl⟩ := rx
  cases y with
  | byt j => obtain ⟨t', rfl⟩ := ry; exact PySem.W.eq_bytes (bV I q yw)
  | _ => exact absurd (show false = true from hs) Bool.false_ne_true
 | _ => cases y <;> exact absurd (show false = true from hs) Bool.false_ne_true
theorem yx : bf X (compareOp .NotEq) yq := by
 intro pins s σ H x y v u Q I rx ry h
 obtain ⟨hs, q⟩ := h
 cases x with
 | non =>
  cases rx
  cases y with
  | non => cases ry; exact PySem.EqNone.ne_none_none (bV I q (by simp))
  | bl j => cases ry; exact PySem.EqNone.ne_none_bool (bV I q (by simp))
  | int j => obtain ⟨t', rfl⟩ := ry; exact PySem.EqNone.ne_none_int (bV I q (by simp))
  | str j => obtain ⟨t', rfl⟩ := ry; exact PySem.EqNone.ne_none_str (bV I q (by simp))
  | _ => exact absurd (show false = true from hs) Bool.false_ne_true
 | bl i =>
  cases rx
  cases y with
  | non => cases ry; exact PySem.EqNone.ne_bool_none (bV I q (by simp))
  | bl j => cases ry; exact ne_bool (bV I q (congrArg not yt))
  | str j => obtain ⟨t', rfl⟩ := ry; exact PySem.EqMixed.ne_bool_str (bV I q (by simp))
  | _ => exact absurd (show false = true from hs) Bool.false_ne_true
 | int i =>
  obtain ⟨t, rfl⟩ := rx
  cases y with
  | non => cases ry; exact PySem.EqNone.ne_int_none (bV I q (by simp))
  | int j => obtain ⟨t', rfl⟩ := ry; exact ne_int (bV I q (congrArg not yr))
  | str j => obtain ⟨t', rfl⟩ := ry; exact PySem.EqMixed.ne_int_str (bV I q (by simp))
  | _ => exact absurd (show false = true from hs) Bool.false_ne_true
 | str i =>
  obtain ⟨t, rfl⟩ := rx
  cases y with
  | non => cases ry; exact PySem.EqNone.ne_str_none (bV I q (by simp))
  | bl j => cases ry; exact PySem.EqMixed.ne_str_bool (bV I q (by simp))
  | int j => obtain ⟨t', rfl⟩ := ry; exact PySem.EqMixed.ne_str_int (bV I q (by simp))
  | str j => obtain ⟨t', rfl⟩ := ry; exact ne_str (bV I q (congrArg not yu))
  | _ => exact absurd (show false = true from hs) Bool.false_ne_true
 | byt i =>
  obtain ⟨t, rfl⟩ := rx
  cases y with
  | byt j => obtain ⟨t', rfl⟩ := ry; exact PySem.W.ne_bytes (bV I q (congrArg not yw))
  | _ => exact absurd (show false = true from hs) Bool.false_ne_true
 | _ => cases y <;> exact absurd (show false = true from hs) Bool.false_ne_true
theorem mj : bf X (compareOp .Lt) (et fun i j => .bl (decide (i < j))) := o6 fun _ _ _ _ _ _ _ q => lt_int q
theorem gB : bf X (compareOp .LtE) (et fun i j => .bl (decide (i <= j))) := o6 fun _ _ _ _ _ _ _ q => le_int q
theorem yy : bf X (compareOp .Gt) (et fun i j => .bl (decide (j < i))) := o6 fun _ _ _ _ _ _ _ q => gt_int q
theorem q8 : bf X (compareOp .GtE) (et fun i j => .bl (decide (j <= i))) := o6 fun _ _ _ _ _ _ _ q => ge_int q
theorem ES : bf X (compareOp .In) (fun x y H Q => ∃ i j, x = .str i /\ y = .str j /\ Q (.bl (!(Builtin.Str.occurrences j i 0 j.length 1).isEmpty)) H) := by
 intro pins s σ H x y v u Q I rx ry h
 obtain ⟨i, j, rfl, rfl, q⟩ := h
 obtain ⟨t, rfl⟩ := rx
 obtain ⟨t', rfl⟩ := ry
 exact in_str (bV I q rfl)
theorem cZ (b : Expr) {op : CmpOp} (h : op ≠ .In := by decide) (h2 : op ≠ .NotIn := by decide) : behindInMarks op b = false := by
 have e1 : (op == CmpOp.In) = false := by cases op <;> first | rfl | exact absurd rfl h
 have e2 : (op == CmpOp.NotIn) = false := by cases op <;> first | rfl | exact absurd rfl h2
 cases b <;> simp [behindInMarks, e1, e2]
theorem eJ {op : CmpOp} {r : R2} (ho : bf X (compareOp op) r) (ha : PE X a ta) (hb : PE X b tb) (hm : behindInMarks op b = false) : PE X (.Compare a [op] [b] pos) (ju r ta tb) := by
 intro pins s σ H Q I h
 exact wpAny_Compare1 (qY ha hb I h fun v u s2 x y H2 I2 rx ry q => ho pins s2 σ H2 x y v u Q I2 rx ry q) hm
def o7 (t : TE) : TT := fun σ H Q => t σ H fun x H' => ∃ k, x = .bl k /\ Q k H'
theorem o8 {op : CmpOp} {r : R2} (ho : bf X (compareOp op) r) (ha : PE X a ta) (hb : PE X b tb) (hm : behindInMarks op b = false) : PT X (.Compare a [op] [b] pos) (o7 (ju r ta tb)) := by
 intro pins s σ H Q I h
 refine wpAny_isTrue_Compare1 (aB (ha pins s σ H _ I h) fun v s1 ⟨x, H1, I1, r1, q1⟩ => aB (hb pins s1 σ H1 _ I1 q1) fun u s2 ⟨y, H2, I2, r2, q2⟩ =>
  aB (ho pins s2 σ H2 x y v u _ I2 r1 r2 q2) fun c s3 ⟨z, H3, I3, r3, k, e, q3⟩ => ?_) hm
 subst e
 cases r3
 exact wpAny_truthy_bool ⟨H3, I3, q3⟩
def q9 (r r' : R2) (ta tb tc : TE) : TE := fun σ H Q => ta σ H fun x H1 => tb σ H1 fun y H2 => r x y H2 fun z H3 => ∃ k, z = .bl k /\
 (if k = true then tc σ H3 fun w' H4 => r' y w' H4 Q else Q (.bl false) H3)
theorem ET {op dW : CmpOp} {r r' : R2} (ho : bf X (compareOp op) r) (cQ : bf X (compareOp dW) r') (ha : PE X a ta) (hb : PE X b tb) (hc : PE X c tc)
 (hm : lastMarks [op, dW] [b, c] = false := by with_unfolding_all rfl) : PE X (.Compare a [op, dW] [b, c] pos) (q9 r r' ta tb tc) := by
 intro pins s σ H Q I h
 refine Compare_chain (aB (ha pins s σ H _ I h) fun v s1 ⟨x, H1, I1, r1, q1⟩ => chain_link (aB (hb pins s1 σ H1 _ I1 q1) fun u s2 ⟨y, H2, I2, r2, q2⟩ =>
  aB (ho pins s2 σ H2 x y v u _ I2 r1 r2 q2) fun d s3 ⟨z, H3, I3, r3, k, e, q3⟩ => ?_)) hm
 subst e
 cases r3
 refine wpAny_truthy_bool ?_
 cases k with
 | false => exact ite_ff ⟨.bl false, H3, I3, rfl, q3⟩
 | true => exact ite_tt (chain_last (aB (hc pins s3 σ H3 _ I3 q3) fun w' s4 ⟨z', H4, I4, r4, q4⟩ => cQ pins s4 σ H4 y z' u w' Q I4 r2 r4 q4))
theorem EU {op dW : CmpOp} {r r' : R2} (ho : bf X (compareOp op) r) (cQ : bf X (compareOp dW) r') (ha : PE X a ta) (hb : PE X b tb) (hc : PE X c tc)
 (hm : lastMarks [op, dW] [b, c] = false := by with_unfolding_all rfl) : PT X (.Compare a [op, dW] [b, c] pos) (o7 (q9 r r' ta tb tc)) := by
 intro pins s σ H Q I h
 refine isTrue_chain (aB (ha pins s σ H _ I h) fun v s1 ⟨x, H1, I1, r1, q1⟩ => test_link (aB (hb pins s1 σ H1 _ I1 q1) fun u s2 ⟨y, H2, I2, r2, q2⟩ =>
  aB (ho pins s2 σ H2 x y v u _ I2 r1 r2 q2) fun d s3 ⟨z, H3, I3, r3, k, e, q3⟩ => ?_)) hm
 subst e
 cases r3
 refine wpAny_truthy_bool ?_
 cases k with
 | false =>
  obtain ⟨k', e', q'⟩ := q3
  cases e'
  exact ite_ff ⟨H3, I3, q'⟩
 | true =>
  refine ite_tt (test_last (aB (hc pins s3 σ H3 _ I3 q3) fun w' s4 ⟨z', H4, I4, r4, q4⟩ => aB (cQ pins s4 σ H4 y z' u w' _ I4 r2 r4 q4) fun d' s5 ⟨z2, H5, I5, r5, k2, e2, q5⟩ => ?_))
  subst e2
  cases r5
  exact wpAny_truthy_bool ⟨H5, I5, q5⟩
theorem ml : (sizeLine : Nat) < 2 ^ 63 := by rw [sizeLine_eq]; decide
theorem vals1 {x : V} {us : List Value} (r : Vals [x] us) : ∃ u, us = [u] /\ RelV x u := by
 cases r with
 | cons r1 r2 => cases r2; exact ⟨_, rfl, r1⟩
theorem vals2 {x y : V} {us : List Value} (r : Vals [x, y] us) : ∃ u w', us = [u, w'] /\ RelV x u /\ RelV y w' := by
 cases r with
 | cons r1 r2 =>
  cases r2 with
  | cons r3 r4 => cases r4; exact ⟨_, _, rfl, r1, r3⟩
theorem yz (hc : X.calm = true) : da X (.builtin "max") (fun xs H Q => ∃ i j, xs = [.int i, .int j] /\ Q (.int (if j > i then j else i)) H) := by
 intro pins s σ H xs us Q I r h
 obtain ⟨i, j, rfl, q⟩ := h
 obtain ⟨u, w', rfl, ⟨t, rfl⟩, ⟨t', rfl⟩⟩ := vals2 r
 refine max_two_ints (I.ok.hd hc) fun h' tk k => ⟨_, H, I.kept k, ?_, q⟩
 by_cases hj : j > i
 ·rw [if_pos hj, if_pos hj]; exact ⟨_, rfl⟩
 ·rw [if_neg hj, if_neg hj]; exact ⟨_, rfl⟩
theorem EV (hc : X.calm = true) : da X (.builtin "min") (fun xs H Q => ∃ i j, xs = [.int i, .int j] /\ Q (.int (if j < i then j else i)) H) := by
 intro pins s σ H xs us Q I r h
 obtain ⟨i, j, rfl, q⟩ := h
 obtain ⟨u, w', rfl, ⟨t, rfl⟩, ⟨t', rfl⟩⟩ := vals2 r
 refine min_two_ints (I.ok.hd hc) fun h' tk k => ⟨_, H, I.kept k, ?_, q⟩
 by_cases hj : j < i
 ·rw [if_pos hj, if_pos hj]; exact ⟨_, rfl⟩
 ·rw [if_neg hj, if_neg hj]; exact ⟨_, rfl⟩
theorem rf : da X (.type "int") (fun xs H Q => (∃ i, xs = [.int i] /\ Q (.int i) H) ∨ ∃ k, xs = [.bl k] /\ Q (.int (if k then 1 else 0)) H) := by
 intro pins s σ H xs us Q I r h
 rcases h with ⟨i, rfl, q⟩ | ⟨k, rfl, q⟩
 ·obtain ⟨u, rfl, t, rfl⟩ := vals1 r
  exact call_int_int ⟨.int i, H, I, ⟨_, rfl⟩, q⟩
 ·obtain ⟨u, rfl, r1⟩ := vals1 r
  cases r1
  exact call_int_bool ⟨.int (if k then 1 else 0), H, I.tok _, ⟨_, rfl⟩, q⟩
theorem EW : da X (.type "str") (fun xs H Q => ∃ i, xs = [.int i] /\ i.natAbs.log2 < 1920 /\ Q (.str (toString i)) H) := by
 intro pins s σ H xs us Q I r h
 obtain ⟨i, rfl, hz, q⟩ := h
 obtain ⟨u, rfl, t, rfl⟩ := vals1 r
 exact PySem.P.str_of_int hz ⟨.str _, H, I.tok _, ⟨_, rfl⟩, q⟩
def yA (K : PySem.W.Frag) (x : V) (H : Hp) (n : Nat) : Prop :=
 match x with
 | .str y => y.length <= sizeLine /\ n = y.length
 | .byt y => y.size <= sizeLine /\ n = y.size
 | .ref p => (∃ xs, ao K H p xs /\ n = xs.length) ∨ ∃ xs, ay K H p xs /\ n = xs.length
 | _ => False
theorem dt : da X (.builtin "len") (fun xs H Q => ∃ x n, xs = [x] /\ yA X.K x H n /\ Q (.int n) H) := by
 intro pins s σ H xs us Q I r h
 obtain ⟨x, n, rfl, e, q⟩ := h
 obtain ⟨u, rfl, rx⟩ := vals1 r
 have hl := ml
 have hs : sizeLine = 16777216 := sizeLine_eq
 cases x with
 | str y =>
  obtain ⟨t, rfl⟩ := rx
  obtain ⟨hy, e'⟩ : y.length <= sizeLine /\ n = y.length := e
  subst e'
  exact len_str (by omega) ⟨.int _, H, I.tok _, ⟨_, rfl⟩, q⟩
 | byt y =>
  obtain ⟨t, rfl⟩ := rx
  obtain ⟨hy, e'⟩ : y.size <= sizeLine /\ n = y.size := e
  subst e'
  exact PySem.W.len_bytes (by omega) ⟨.int _, H, I.tok _, ⟨_, rfl⟩, q⟩
 | ref p =>
  cases rx
  have e' : (∃ xs, ao X.K H p xs /\ n = xs.length) ∨ ∃ xs, ay X.K H p xs /\ n = xs.length := e
  rcases e' with ⟨xs, hx, e'⟩ | ⟨xs, hx, e'⟩
  ·subst e'
   obtain ⟨ai, r', pl, hz⟩ := I.list hx
   have hlen := r'.length
   exact Calls.call_len_list pl.isList (by simp only [List.size_toArray]; omega) ⟨.int xs.length, H, I.tok _, ⟨_, by simp only [List.size_toArray]; rw [hlen]⟩, q⟩
  ·subst e'
   obtain ⟨ai, r', pl, hz⟩ := I.tuple hx
   have hlen := r'.length
   exact len_tuple pl (by simp only [List.size_toArray]; omega) ⟨.int xs.length, H, I.tok _, ⟨_, by simp only [List.size_toArray]; rw [hlen]⟩, q⟩
 | _ => exact (show False from e).elim
end
end L2
namespace L2
open PySem PySem.Spec PyProof.Rows
structure jw (h : Heap) (x dx C : Addr) (mA : Str -> Option Value) : Prop where
 obj : h.get? x = some (PySem.W.instObj C dx)
 ns : h.Ns1 dx mA
 ne : dx ≠ x
theorem EX {h : Heap} {dx : Addr} {mA : Str -> Option Value} (n : h.Ns1 dx mA) : ∃ od, h.get? dx = some od /\ ∀ name, PySem.W.lookIn name od = some (mA name) := by
 obtain ⟨o, es, ep, ho, hd, hk, _, hm⟩ := n
 refine ⟨o, ho, fun name => ?_⟩
 have e := hm name
 unfold nsFind findBy at e
 rw [<- Array.find?_toList] at e
 unfold PySem.W.lookIn
 rw [hd]
 dsimp only
 split
 ·rename_i y q
  rw [q] at e
  exact congrArg some e
 ·rename_i q
  rw [q] at e
  have a : es.toList.any (·.refKey) = false := by
   rw [List.any_eq_false]
   intro y hy
   obtain ⟨z, t, hkey⟩ := hk y (Array.mem_toList_iff.mp hy)
   simp [DictEntry.refKey, hkey]
  have a' : ¬ es.toList.any (·.refKey) = true := by rw [a]; exact Bool.false_ne_true
  rw [if_neg a']
  exact congrArg some e
theorem jw.look {h : Heap} {x dx C : Addr} {mA : Str -> Option Value} (I : jw h x dx C mA) : ∃ od, PySem.W.InstAt h x (PySem.W.instObj C dx) C (some od) /\ ∀ name, PySem.W.lookIn name od = some (mA name) :=
 let ⟨od, ho, hl⟩ := EX I.ns
 ⟨od, ⟨I.obj, rfl, rfl, ho⟩, hl⟩
section
variable {prog : Program} {w : World} {A : Around} {E : Value -> Shared -> Prop} {s : Shared} {K : PySem.W.Frag} {x dx C f : Addr} {mA : Str -> Option Value} {name : Str} {v : Value}
theorem get_map {expr : Bool} {Q : Value -> Shared -> Prop} (X : K.In s.heap) (I : jw s.heap x dx C mA) (hg : PySem.W.plainGet K C name = true) (hh : PySem.W.hasDictIn K C = true)
 (ha : PySem.W.findIn K (.ref C) name = some none) (hv : mA name = some v) (rg : PySem.W.handedIn v = true) (h : Q v { s with toks := s.toks + 1 }) :
 wpAny (model prog w) A (getAttr (.ref x) name expr) Q E s := by
 obtain ⟨od, J, hl⟩ := I.look
 exact PySem.W.get_value X J (PySem.W.plainGet_of hg).1 (PySem.W.findObj_own hh ha rfl (by rw [hl, hv])) rg h
theorem EY {pl : Sem Bool} {Q : Value × List Value -> Shared -> Prop} (X : K.In s.heap) (I : jw s.heap x dx C mA) (hg : PySem.W.plainGet K C name = true)
 (hf : PySem.W.findIn K (.ref C) name = some (some (.ref f))) (ht : PySem.W.isFn K (.ref f) = true) (hv : mA name = none) (h : Q (.ref f, [.ref x]) s) :
 wpAny (model prog w) A (getMethod (.ref x) name pl) Q E s := by
 obtain ⟨od, J, hl⟩ := I.look
 exact PySem.W.method_fn X J (PySem.W.plainGet_of hg).1 (PySem.W.plainGet_of hg).2 hf (beq_iff_eq.mp ht) (by show (PySem.W.lookIn name od).map (·.isSome) = some false; rw [hl, hv]; rfl) h
theorem EZ {ns : List Str} {Q : Unit -> Shared -> Prop} (X : K.In s.heap) (I : jw s.heap x dx C mA)
 (hs : PySem.W.findIn K (.ref C) "__setattr__" = some (some (.builtin "object.__setattr__"))) (hp : PySem.W.plainOver K C = true) (ht : PySem.W.takerIn K C name = some none) (hh : PySem.W.hasDictIn K C = true)
 (hw : PySem.Within mA ns) (mm : ns.length <= sizeLine)
 (h : ∀ h', jw h' x dx C (fun y => if y = name then some v else mA y) -> Heap.SameBut dx s.heap h' -> Q () { s with heap := h', toks := s.toks + 2 }) :
 wpAny (model prog w) A (setAttr (.ref x) name v) Q E s := by
 obtain ⟨od, J, hl⟩ := I.look
 refine PySem.W.set_plain X J hs (PySem.W.osa_open (s := { s with toks := s.toks + 1 }) (r := none) X J hp ht fun b => ?_)
 obtain ⟨cd, hc, qI⟩ := PySem.W.any_some hh
 have hx : s.heap.get? x = some ⟨.ref C, some dx, .plain, #[]⟩ := I.obj
 refine wpAny_bind (wpAny_pure (wpAny_bind (wpAny_bind (wpAny_loadPart hx (wpAny_bind (PySem.W.Looks.here (s := { s with toks := s.toks + 1 }) (PySem.W.looks_clsIn X hc) ?_))))))
 rw [qI]
 refine wpAny_pure (a := some dx) (wpAny_bind (wpAny_pure (wpAny_bind ?_)))
 refine wpAny_nsSet1 (s := { s with toks := s.toks + 1 }) I.ns fun h' rh md => ?_
 obtain ⟨oD, PQ, PR, E1, E2, E3⟩ := rh.count (PySem.Within.cons name v hw)
 refine wpAny_bind (wpAny_lookBehind E1 (by rw [E2]; exact pastItsLine_dict (Nat.le_trans E3 (by rw [List.length_cons]; omega))) ?_)
 exact wpAny_pure (h _ ⟨(md.2 _ (Ne.symm I.ne)).trans I.obj, rh, I.ne⟩ md)
theorem E4 {R : Result -> Shared -> Prop} {vs : List Value} {kw : List (Str × Value)} (X : K.In s.heap) (hm : PySem.W.makesIn K C = true)
 (hi : PySem.W.findIn K (.ref C) "__init__" = some (some (.ref f))) (hf : PySem.W.typeIn K (.ref f) = some (.type "function"))
 (h : codeAny (model prog w) (A.under (.builtin "type.__call__" ⟨.ref C :: vs, kw⟩)) (.call (.ref f) ⟨.ref (s.heap.objs.size + 1) :: vs, kw⟩) (PySem.W.InitBack (s.heap.objs.size + 1) R)
   { s with heap := (s.heap.push PySem.W.emptyDict).push (PySem.W.instObj C s.heap.objs.size) }) :
 codeAny (model prog w) A (.call (.ref C) ⟨vs, kw⟩) R s := by
 obtain ⟨hh, g, d, t, os⟩ := s
 exact PySem.W.make_core (PySem.W.makes_of X hm) (PySem.W.looks_findIn X hi) (fun self => PySem.W.bind_fn X self hf) (.inl rfl) h
end
noncomputable def dv (f : Str) (v : V) : List (Str × V) -> List (Str × V)
 | [] => [(f, v)]
 | (g, x) :: r => if g = f then (g, v) :: r else (g, x) :: dv f v r
theorem yB (f g : Str) (v : V) : ∀ fs : List (Str × V), (dv f v fs).lookup g = if g = f then some v else fs.lookup g
 | [] => by
  show List.lookup g [(f, v)] = _
  by_cases h : g = f
  ·have hb : (g == f) = true := beq_iff_eq.mpr h
   simp only [List.lookup, hb, if_pos h]
  ·have hb : (g == f) = false := beq_eq_false_iff_ne.mpr h
   simp only [List.lookup, hb, if_neg h]
 | (k, x) :: r => by
  have ih := yB f g v r
  rw [show dv f v ((k, x) :: r) = (if k = f then (k, v) :: r else (k, x) :: dv f v r) from rfl]
  by_cases hk : k = f
  ·rw [if_pos hk]
   by_cases h : g = k
   ·have hb : (g == k) = true := beq_iff_eq.mpr h
    simp only [List.lookup, hb, if_pos (h.trans hk)]
   ·have hb : (g == k) = false := beq_eq_false_iff_ne.mpr h
    simp only [List.lookup, hb, if_neg (fun e : g = f => h (e.trans hk.symm))]
  ·rw [if_neg hk]
   by_cases h : g = k
   ·have hb : (g == k) = true := beq_iff_eq.mpr h
    simp only [List.lookup, hb, if_neg (fun e : g = f => hk (h.symm.trans e))]
   ·have hb : (g == k) = false := beq_eq_false_iff_ne.mpr h
    simp only [List.lookup, hb]
    exact ih
theorem rj (f : Str) (v : V) : ∀ fs : List (Str × V), f ∈ (dv f v fs).map (·.1) /\ ∀ g, g ∈ fs.map (·.1) -> g ∈ (dv f v fs).map (·.1)
 | [] => ⟨by simp [dv], fun g h => by simp at h⟩
 | (k, x) :: r => by
  obtain ⟨i1, i2⟩ := rj f v r
  rw [show dv f v ((k, x) :: r) = (if k = f then (k, v) :: r else (k, x) :: dv f v r) from rfl]
  by_cases hk : k = f
  ·rw [if_pos hk]
   subst hk
   exact ⟨by simp, fun g h => by simpa using h⟩
  ·rw [if_neg hk]
   refine ⟨?_, fun g h => ?_⟩
   ·rw [List.map_cons]
    exact List.mem_cons_of_mem _ i1
   ·rw [List.map_cons] at h ⊢
    rcases List.mem_cons.mp h with e | e
    ·exact List.mem_cons.mpr (.inl e)
    ·exact List.mem_cons_of_mem _ (i2 g e)
theorem yC (f : Str) (v : V) : ∀ fs : List (Str × V), (dv f v fs).length <= fs.length + 1
 | [] => by simp [dv]
 | (k, x) :: r => by
  have ih := yC f v r
  rw [show dv f v ((k, x) :: r) = (if k = f then (k, v) :: r else (k, x) :: dv f v r) from rfl]
  by_cases hk : k = f
  ·rw [if_pos hk, List.length_cons, List.length_cons]; omega
  ·rw [if_neg hk, List.length_cons, List.length_cons]; omega
theorem dm.some_of {v : V} {o : Option Value} (r : dm (some v) o) : ∃ u, o = some u /\ RelV v u := by
 cases o with
 | none => exact (show False from r).elim
 | some u => exact ⟨u, rfl, r⟩
theorem dm.none_of {o : Option Value} (r : dm none o) : o = none := by
 cases o with
 | none => rfl
 | some u => exact (show False from r).elim
theorem E5 {v : V} {u : Value} (r : RelV v u) : PySem.W.handedIn u = true := by
 cases v with
 | non => cases (show u = Value.none from r); rfl
 | bl b => cases (show u = Value.bool b from r); rfl
 | int i => obtain ⟨t, e⟩ := (show ∃ t, u = Value.int i t from r); cases e; rfl
 | str x => obtain ⟨t, e⟩ := (show ∃ t, u = Value.str x t from r); cases e; rfl
 | byt b => obtain ⟨t, e⟩ := (show ∃ t, u = Value.bytes b t from r); cases e; rfl
 | flt b => obtain ⟨t, e⟩ := (show ∃ t, u = Value.float b t from r); cases e; rfl
 | ref a => cases (show u = Value.ref a from r); rfl
 | ty n => cases (show u = Value.type n from r); rfl
section
variable {P : Program} {w : World} {H H' : Hp} {h h' : Heap} {a C dx : Addr} {fs D9 : List (Str × V)}
theorem o9 (aC : cp P w H h) (e : H a = some (.ins C dx fs)) : ∃ mA, jw h a dx C mA /\ (∀ f, dm (fs.lookup f) (mA f)) /\ PySem.Within mA (fs.map (·.1)) /\ fs.length <= 1000 /\ H dx = some (.own a) := by
 obtain ⟨d, z, ne, ob, mA, n, r, q⟩ := (show cK P w H h a (.ins C dx fs) from aC a _ e)
 exact ⟨mA, ⟨ob, n, ne⟩, r, q, z, d⟩
end
structure bc (K : PySem.W.Frag) (C : Addr) : Prop where
 pg : PySem.W.plainGet K C Str.empty = true
 hd : PySem.W.hasDictIn K C = true
 po : PySem.W.plainOver K C = true
 sa : PySem.W.findIn K (.ref C) "__setattr__" = some (some (.builtin "object.__setattr__"))
theorem bc.get {K : PySem.W.Frag} {C : Addr} (c : bc K C) (f : Str) : PySem.W.plainGet K C f = true := c.pg
def bg (K : PySem.W.Frag) (C : Addr) (f : Str) : Prop := PySem.W.findIn K (.ref C) f = some none
theorem bg.E6 {K : PySem.W.Frag} {C : Addr} {f : Str} (n : bg K C f) : PySem.W.takerIn K C f = some none := by
 unfold PySem.W.takerIn
 rw [show PySem.W.findIn K (.ref C) f = some none from n]
 rfl
structure Meth (K : PySem.W.Frag) (C : Addr) (m : Str) (f : Addr) : Prop where
 at_ : PySem.W.findIn K (.ref C) m = some (some (.ref f))
 fn : PySem.W.isFn K (.ref f) = true
 kp : PySem.W.keepIn K (.ref f) = true
section
variable {X : Cx} {pins : List (Addr × Obj)} {σ : St} {H : Hp} {s : Shared} {a C dx : Addr} {fs : List (Str × V)} {f : Str} {v : V} {A : Around} {E : Value -> Shared -> Prop}
theorem E7 {b : Bool} {Q : Value -> Shared -> Prop} (I : Inv X pins σ H s) (e : H a = some (.ins C dx fs)) (c : bc X.K C) (n : bg X.K C f) (l : fs.lookup f = some v)
 (h : ∀ u s', Inv X pins σ H s' -> RelV v u -> Q u s') : wpAny (model X.prog X.w) A (getAttr (.ref a) f b) Q E s := by
 obtain ⟨mA, O, r, _, _, _⟩ := o9 I.aC e
 obtain ⟨u, hu, ru⟩ := dm.some_of (v := v) (o := mA f) (by rw [<- l]; exact r f)
 exact get_map I.bQ O (c.get f) c.hd n hu (E5 ru) (h u _ (I.tok _) ru)
theorem pd {m : Str} {g : Addr} {pl : Sem Bool} {Q : Value × List Value -> Shared -> Prop} (I : Inv X pins σ H s) (e : H a = some (.ins C dx fs)) (c : bc X.K C) (k : Meth X.K C m g) (l : fs.lookup m = none)
 (h : Q (.ref g, [.ref a]) s) : wpAny (model X.prog X.w) A (getMethod (.ref a) m pl) Q E s := by
 obtain ⟨mA, O, r, _, _, _⟩ := o9 I.aC e
 have hn : mA m = none := dm.none_of (by rw [<- l]; exact r m)
 exact EY I.bQ O (c.get m) k.at_ k.fn hn h
theorem E8 {y : V} {u : Value} {Q : Unit -> Shared -> Prop} (I : Inv X pins σ H s) (e : H a = some (.ins C dx fs)) (c : bc X.K C) (n : bg X.K C f) (hl : fs.length < 1000) (ry : RelV y u)
 (h : ∀ s', Inv X pins σ (upd H a (.ins C dx (dv f y fs))) s' -> Q () s') : wpAny (model X.prog X.w) A (setAttr (.ref a) f u) Q E s := by
 obtain ⟨mA, O, r, wi, _, ho⟩ := o9 I.aC e
 have hz : (fs.map (·.1)).length <= sizeLine := by rw [List.length_map, sizeLine_eq]; omega
 refine EZ I.bQ O c.sa c.po n.E6 c.hd wi hz fun h' O' sb => h _ ?_
 have hd : ∃ o, h'.get? dx = some o := let ⟨o, _, _, e', _⟩ := O'.ns; ⟨o, e'⟩
 refine I.write (x := a) (e := dx) (by rw [e]; exact True.intro) (.inr ho) (fun b q hb z => (sb.2 b hb).trans z) hd ?_
 refine ⟨by rw [aQ O.ne]; exact ho, ?_, O.ne, O'.obj, _, O'.ns, fun g => ?_, fun g hg => ?_⟩
 ·have := yC f y fs; omega
 ·show dm ((dv f y fs).lookup g) (if g = f then some u else mA g)
  rw [yB]
  by_cases q : g = f
  ·rw [if_pos q, if_pos q]; exact ry
  ·rw [if_neg q, if_neg q]; exact r g
 ·by_cases q : g = f
  ·rw [q]; exact (rj f y fs).1
  ·refine (rj f y fs).2 g (wi g fun z => hg ?_)
   show (if g = f then some u else mA g) = none
   rw [if_neg q]; exact z
theorem Inv.made (I : Inv X pins σ H s) : Inv X pins σ (upd (upd H s.heap.objs.size (.own (s.heap.objs.size + 1))) (s.heap.objs.size + 1) (.ins C s.heap.objs.size []))
 { s with heap := (s.heap.push PySem.W.emptyDict).push (PySem.W.instObj C s.heap.objs.size) } := by
 have e1 : (s.heap.push PySem.W.emptyDict).get? s.heap.objs.size = some PySem.W.emptyDict := Heap.get?_push_size s.heap rfl
 have e2 : ((s.heap.push PySem.W.emptyDict).push (PySem.W.instObj C s.heap.objs.size)).get? (s.heap.objs.size + 1) = some (PySem.W.instObj C s.heap.objs.size) := by
  have := Heap.get?_push_size (s.heap.push PySem.W.emptyDict) (o := PySem.W.instObj C s.heap.objs.size) rfl
  rwa [Heap.size_push] at this
 have e3 : (s.heap.push PySem.W.emptyDict).Ns s.heap.objs.size (fun _ => none) := ⟨PySem.W.emptyDict, #[], _, e1, rfl, (fun e he => absurd he (by simp)), fun _ => rfl⟩
 have I1 := I.laid (a := s.heap.objs.size) (o := .own (s.heap.objs.size + 1)) (h' := s.heap.push PySem.W.emptyDict) (t' := s.toks) (fun b u q => Heap.get?_push_of_some _ q) (Nat.le_refl _) ⟨_, e1⟩
 refine I1.laid (a := s.heap.objs.size + 1) (o := .ins C s.heap.objs.size []) (t' := s.toks) (fun b u q => Heap.get?_push_of_some _ q) (Nat.le_of_eq (Heap.size_push _ _)) ?_
 have ne : s.heap.objs.size ≠ s.heap.objs.size + 1 := Nat.ne_of_lt (Nat.lt_succ_self _)
 refine ⟨by rw [aQ ne, aj], Nat.zero_le _, ne, e2, fun _ => none, (Heap.Ns1.of_empty e3).at fun o q => Heap.get?_push_of_some _ q, fun _ => True.intro, fun y hy => absurd rfl hy⟩
theorem E9 {prog : Program} {w : World} {env : Env} {e : Expr} {f : Str} {pos : Pos} {s : Shared} {Q : Value -> Shared -> Prop} (hb : attributeBase e f env (eval e env) = eval e env)
 (h : wpAny (model prog w) A (eval e env) (fun o s₁ => wpAny (model prog w) A (getAttr o f true) Q E s₁) E s) : wpAny (model prog w) A (eval (.Attribute e f pos) env) Q E s :=
 Attribute_any_ h (by rw [arm_eval_Attribute, hb])
end
def yD (K : PySem.W.Frag) (ta : TE) (f : Str) : TE := fun σ H Q => ta σ H fun x H1 => ∃ a C dx fs v, x = .ref a /\ H1 a = some (.ins C dx fs) /\ bc K C /\ bg K C f /\ fs.lookup f = some v /\ Q v H1
def yE (K : PySem.W.Frag) (ta tv : TE) (f : Str) : TS := fun D σ H => tv σ H fun y H1 => ta σ H1 fun x H2 => ∃ a C dx fs, x = .ref a /\ H2 a = some (.ins C dx fs) /\ bc K C /\ bg K C f /\ fs.length < 1000 /\
 D.nx σ (upd H2 a (.ins C dx (dv f y fs)))
section
variable {X : Cx} {o e value : Expr} {f : Str} {pos pos' Fc : Pos} {ta tv : TE}
theorem Fd (he : PE X e ta) (hb : attributeBase e f X.env (eval e X.env) = eval e X.env) : PE X (.Attribute e f pos) (yD X.K ta f) := by
 intro pins s σ H Q I h
 refine E9 hb (aB (he pins s σ H _ I h) fun u s1 ⟨x, H1, I1, rx, a, C, dx, fs, v, ex, ea, c, n, l, q⟩ => ?_)
 subst ex
 obtain rfl : u = Value.ref a := rx
 exact E7 I1 ea c n l fun u' s2 I2 ru => ⟨v, H1, I2, ru, q⟩
theorem Fe (ha : PE X o ta) (hv : PE X value tv) (hs : swapsWith value (some (.Attribute o f pos')) pos.line X.env = pure false) : PS X (.Assign [.Attribute o f pos'] value pos) (yE X.K ta tv f) := by
 intro pins s σ H D I h
 refine plainObj_wpAny_Assign_Attribute (aB (hv pins s σ H _ I h) fun u s1 ⟨y, H1, I1, ry, q⟩ => aB (ha pins s1 σ H1 _ I1 q) fun ov s2 ⟨x, H2, I2, rx, a, C, dx, fs, ex, ea, c, n, l, q2⟩ => ?_) hs
 subst ex
 obtain rfl : ov = Value.ref a := rx
 exact E8 I2 ea c n l ry fun s3 I3 => ⟨σ, _, I3, q2⟩
end
section
variable {X : Cx} {pins : List (Addr × Obj)} {σ : St} {H : Hp} {s : Shared} {A : Around} {E : Value -> Shared -> Prop} {Q : Value -> Shared -> Prop} {c : Value} {b : Bool}
inductive bR (K : PySem.W.Frag) (H : Hp) : V -> Value -> Prop where
 | non : bR K H .non (.type "NoneType")
 | bl (x : Bool) : bR K H (.bl x) (.type "bool")
 | int (i : Int) : bR K H (.int i) (.type "int")
 | str (x : Str) : bR K H (.str x) (.type "str")
 | flt (x : UInt64) : bR K H (.flt x) (.type "float")
 | lst {a : Addr} {xs : List V} (e : H a = some (.lst xs)) : bR K H (.ref a) (.type "list")
 | cY {a : Addr} {o : Obj} {xs : List V} (e : H a = some (.cY o (.lst xs))) : bR K H (.ref a) (.type "list")
 | tup {a : Addr} {xs : List V} (e : H a = some (.tup xs)) : bR K H (.ref a) (.type "tuple")
 | dK {a : Addr} {kvs : List (Key × V)} (e : H a = some (.dK kvs)) : bR K H (.ref a) (.type "dict")
 | dT {a : Addr} {kvs : List (List Key × V)} (e : H a = some (.dT kvs)) : bR K H (.ref a) (.type "dict")
 | ins {a C dx : Addr} {fs : List (Str × V)} (e : H a = some (.ins C dx fs)) (cl : bc K C) (ha : PySem.W.findIn K (.ref C) "__class__" = some (some (.builtin "object.__class__")))
  (hn : PySem.W.specialIn K (.builtin "object.__class__") "__get__" = some (some (.builtin "getset_descriptor.__get__"))) (yF : PySem.W.takesIn K (.builtin "object.__class__") = some true)
  (hm : PySem.W.mroIn K C (.type "object") = some true) : bR K H (.ref a) (.ref C)
theorem Ff {x : V} {u t : Value} (I : Inv X pins σ H s) (rx : RelV x u) (ty : bR X.K H x t) (e : PySem.W.kitOne X.K t c = some b) (h : ∀ tk, Q (.bool b) { s with toks := tk }) :
 wpAny (model X.prog X.w) A (call (.builtin "isinstance") [u, c]) Q E s := by
 cases ty with
 | non => cases (show u = Value.none from rx); exact PySem.W.kia_one PySem.W.kitx_none I.bQ True.intro e (fun z => nomatch z) h
 | bl y => cases (show u = Value.bool y from rx); exact PySem.W.kia_one PySem.W.kitx_bool I.bQ True.intro e (fun z => nomatch z) h
 | int i => obtain ⟨t, q⟩ := (show ∃ t, u = Value.int i t from rx); cases q; exact PySem.W.kia_one PySem.W.kitx_int I.bQ True.intro e (fun z => nomatch z) h
 | str y => obtain ⟨t, q⟩ := (show ∃ t, u = Value.str y t from rx); cases q; exact PySem.W.kia_one PySem.W.kitx_str I.bQ True.intro e (fun z => nomatch z) h
 | flt y => obtain ⟨t, q⟩ := (show ∃ t, u = Value.float y t from rx); cases q; exact PySem.W.kia_one PySem.W.kitx_float I.bQ True.intro e (fun z => nomatch z) h
 | @lst a xs ea =>
  cases (show u = Value.ref a from rx)
  obtain ⟨_, _, n, _, h1⟩ := (show cK X.prog X.w H s.heap a (.lst xs) from I.aC a _ ea)
  exact PySem.W.kia_one PySem.W.kitx_list I.bQ ⟨_, h1, rfl⟩ e (fun z => nomatch z) h
 | @cY a ob xs ea =>
  cases (show u = Value.ref a from rx)
  obtain ⟨_, _, _, n, _, h1⟩ := (show cK X.prog X.w H s.heap a (.cY ob (.lst xs)) from I.aC a _ ea)
  exact PySem.W.kia_one PySem.W.kitx_list I.bQ ⟨_, h1, rfl⟩ e (fun z => nomatch z) h
 | @tup a xs ea =>
  cases (show u = Value.ref a from rx)
  obtain ⟨_, _, _, p⟩ := (show cK X.prog X.w H s.heap a (.tup xs) from I.aC a _ ea)
  obtain ⟨o, h1, h2, _⟩ := p
  exact PySem.W.kia_one PySem.W.kitx_tuple I.bQ ⟨o, h1, h2⟩ e (fun z => nomatch z) h
 | @dK a kvs ea =>
  cases (show u = Value.ref a from rx)
  obtain ⟨_, _, vs, _, p⟩ := (show cK X.prog X.w H s.heap a (.dK kvs) from I.aC a _ ea)
  obtain ⟨o, es, ep, h1, h2, _⟩ := p
  exact PySem.W.kia_one PySem.W.kitx_dict I.bQ ⟨o, h1, h2.1⟩ e (fun z => nomatch z) h
 | @dT a kvs ea =>
  cases (show u = Value.ref a from rx)
  obtain ⟨_, _, xs, _, o, es, ep, h1, h2, _⟩ := (show cK X.prog X.w H s.heap a (.dT kvs) from I.aC a _ ea)
  exact PySem.W.kia_one PySem.W.kitx_dict I.bQ ⟨o, h1, h2.1⟩ e (fun z => nomatch z) h
 | @ins a C dx fs ea cl ha hn yF hm =>
  cases (show u = Value.ref a from rx)
  obtain ⟨mA, O, _⟩ := o9 I.aC ea
  obtain ⟨od, J, _⟩ := O.look
  exact PySem.W.kia_one (PySem.W.kitx_own (cl.get _) cl.hd ha hn yF hm) I.bQ J e (fun z => nomatch z) h
end
end L2
namespace L2
open PySem PySem.Spec PyProof.Rows
structure aR (k : Nat) (A : Around) : Prop where
 hd : A.handled = none
 dp : A.depth + 3 * k + 5 < recursionLimit
 un : A.units + 16 * k + 200 < cLine
theorem aR.mono {j k : Nat} {A : Around} (r : aR k A) (h : j <= k) : aR j A := ⟨r.hd, by have := r.dp; omega, by have := r.un; omega⟩
theorem aR.deeper {k : Nat} {A : Around} (r : aR (k + 1) A) (env : Env) : aR k (A.deeper env) :=
 ⟨r.hd, by have := r.dp; show A.depth + 1 + 3 * k + 5 < _; omega, by have := r.un; show A.units + 3 + 16 * k + 200 < _; omega⟩
theorem Fg {A : Around} {C : Addr} {us : List Value} {kw : List (Str × Value)} : (A.under (.builtin "type.__call__" ⟨.ref C :: us, kw⟩)).depth = A.depth + 1 := by
 first | rfl | simp [Around.under, Code.weight, Code.isCreation, Code.isGuard, Code.isCaller, Code.frames, Code.isFrame, guardIds]
theorem Fh {A : Around} {C : Addr} {us : List Value} {kw : List (Str × Value)} : (A.under (.builtin "type.__call__" ⟨.ref C :: us, kw⟩)).units = A.units + 1 := by
 first | rfl | simp [Around.under, Code.cUnits, Code.frames, Code.isFrame]
theorem aR.make {k : Nat} {A : Around} (r : aR (k + 1) A) (C : Addr) (us : List Value) (kw : List (Str × Value)) : aR k (A.under (.builtin "type.__call__" ⟨.ref C :: us, kw⟩)) :=
 ⟨r.hd, by have := r.dp; rw [Fg]; omega, by have := r.un; rw [Fh]; omega⟩
theorem aR.depth {k : Nat} {A : Around} (r : aR k A) : A.depth < recursionLimit := by have := r.dp; omega
theorem aR.units {k : Nat} {A : Around} (r : aR k A) : A.units + 64 < cLine := by have := r.un; omega
def mn : TA := fun _ H Q => Q [] H
def pf (ta : TE) (tr : TA) : TA := fun σ H Q => ta σ H fun x H1 => tr σ H1 fun xs H2 => Q (x :: xs) H2
section
variable {X : Cx} {e : Expr} {es : List Expr} {te : TE} {t : TA} {pos : Pos}
theorem ag : PA X [] mn := fun _ _ _ _ H Q I h => Calls.spliced_nil ⟨[], H, I, .nil, h⟩
theorem ae (ha : PE X e te) (hr : PA X es t) (hs : starEach (e :: es) X.env = (false, eval e X.env) :: starEach es X.env := by rfl) : PA X (e :: es) (pf te t) := by
 intro pos pins s σ H Q I h
 rw [hs]
 show wpAny _ _ (spliced ((false, eval e X.env) :: backTo pos (starEach es X.env))) _ _ s
 refine Calls.spliced_cons (aB (ha pins s σ H _ I h) fun u s1 ⟨x, H1, I1, r1, q1⟩ => ?_)
 exact aB (hr pos pins s1 σ H1 _ I1 q1) fun us s2 ⟨xs, H2, I2, r2, q2⟩ => ⟨x :: xs, H2, I2, .cons r1 r2, q2⟩
def yG (t : TA) : TE := fun σ H Q => t σ H fun xs H1 => xs.length <= sizeLine /\ ∀ p, H1 p = none -> Q (.ref p) (upd H1 p (.tup xs))
def yH (t : TA) : TE := fun σ H Q => t σ H fun xs H1 => xs.length <= sizeLine /\ ∀ p, H1 p = none -> Q (.ref p) (upd H1 p (.lst xs))
theorem bh {x1} (h : PA X es t) : PE X (.Tuple es x1 pos) (yG t) := by
 intro pins s σ H Q I hq
 refine wpAny_Tuple_spliced (aB (h pos pins s σ H _ I hq) fun us s1 ⟨xs, H1, I1, r, z, q⟩ => ⟨by rw [<- r.length]; exact z, ?_⟩)
 have hf : H1 s1.heap.objs.size = none := I1.aC.fresh (Nat.le_refl _)
 refine ⟨.ref s1.heap.objs.size, upd H1 s1.heap.objs.size (.tup xs), I1.laid (t' := s1.toks) (fun b u e => Heap.get?_push_of_some _ e) (Nat.le_refl _) ?_, rfl, q _ hf⟩
 exact ⟨z, us, r, ⟨_, Heap.get?_push_size _ rfl, rfl, _, rfl⟩⟩
theorem cA (h : PA X es t) : PE X (.List es pos) (yH t) := by
 intro pins s σ H Q I hq
 refine wpAny_List_spliced (aB (h pos pins s σ H _ I hq) fun us s1 ⟨xs, H1, I1, r, z, q⟩ => ⟨by rw [<- r.length]; exact z, ?_⟩)
 have hf : H1 s1.heap.objs.size = none := I1.aC.fresh (Nat.le_refl _)
 refine ⟨.ref s1.heap.objs.size, upd H1 s1.heap.objs.size (.lst xs), I1.laid (t' := s1.toks) (fun b u e => Heap.get?_push_of_some _ e) (Nat.le_refl _) ?_, rfl, q _ hf⟩
 exact ⟨z, us, 0, r, Heap.get?_push_size _ rfl⟩
end
abbrev Sp := List V -> Hp -> VK -> XK -> Prop
abbrev cF := List Env -> Hp -> Shared -> XK -> Value -> Shared -> Prop
structure jx (P : Program) (w : World) (K : PySem.W.Frag) (mg : Str -> Option Value) (base : Heap) (A : Around) (outer : List Env) (s : Shared) (H : Hp) : Prop where
 frames : A.frames = some outer
 mod : Mod K mg base
 bs : ∀ b o, base.get? b = some o -> s.heap.get? b = some o /\ H b = none
 bsz : base.objs.size <= s.heap.objs.size
 fh : s.heap.FunFrames base outer
 frf : ∀ b ∈ aX outer, H b = none
 aC : cp P w H s.heap
 bare : AllBare s.gens
def CE (outer : List Env) (P : Program) (w : World) (H : Hp) (s : Shared) (Q : VK) (u : Value) (s' : Shared) : Prop :=
 ∃ v H', s'.os = s.os /\ AllBare s'.gens /\ Un (aX outer) [] H H' s.heap s'.heap /\ cp P w H' s'.heap /\ RelV v u /\ Q v H'
def CR (CX : cF) (outer : List Env) (P : Program) (w : World) (H : Hp) (s : Shared) (Q : VK) (E : XK) (r : Result) (s' : Shared) : Prop :=
 match r with
 | .ok (.ret u) => CE outer P w H s Q u s'
 | .ok _ => False
 | .error e => CX outer H s E e s'
structure bW (P : Program) (w : World) (K : PySem.W.Frag) (mg : Str -> Option Value) (base : Heap) (CX : cF) (k : Nat) (f : Addr) (fd : FuncData) (ps : List Str) (sp : Sp) : Prop where
 len : ∀ vs H Q E, sp vs H Q E -> vs.length = ps.length
 run : ∀ (A : Around) (outer : List Env) (s : Shared) (H : Hp) (args : Args) (us : List Value) (vs : List V) (Q : VK) (E : XK), aR k A -> jx P w K mg base A outer s H -> BindsTo s fd args (ps.zip us) -> Vals vs us -> sp vs H Q E ->
  codeAny (model P w) A (.call (.ref f) args) (CR CX outer P w H s Q E) s
theorem bW.mono {P : Program} {w : World} {K : PySem.W.Frag} {mg : Str -> Option Value} {base : Heap} {CX : cF} {j k : Nat} {f : Addr} {fd : FuncData} {ps : List Str} {sp : Sp} (F : bW P w K mg base CX j f fd ps sp) (h : j <= k) :
 bW P w K mg base CX k f fd ps sp := ⟨F.len, fun A outer s H args us vs Q E hr => F.run A outer s H args us vs Q E (hr.mono h)⟩
theorem bW.imp {P : Program} {w : World} {K : PySem.W.Frag} {mg : Str -> Option Value} {base : Heap} {CX : cF} {k : Nat} {f : Addr} {fd : FuncData} {ps : List Str} {sp mq : Sp} (F : bW P w K mg base CX k f fd ps sp)
 (h : ∀ vs H Q E, mq vs H Q E -> sp vs H Q E) : bW P w K mg base CX k f fd ps mq :=
 ⟨fun vs H Q E q => F.len vs H Q E (h _ _ _ _ q), fun A outer s H args us vs Q E hr he hb hv hs => F.run A outer s H args us vs Q E hr he hb hv (h _ _ _ _ hs)⟩
theorem jx.make {P : Program} {w : World} {K : PySem.W.Frag} {mg : Str -> Option Value} {base : Heap} {A : Around} {outer : List Env} {s : Shared} {H : Hp} (e : jx P w K mg base A outer s H) (C : Addr) (us : List Value) (kw : List (Str × Value)) :
 jx P w K mg base (A.under (.builtin "type.__call__" ⟨.ref C :: us, kw⟩)) outer s H := ⟨by first | exact e.frames | (simpa [Around.under, Code.envs, Code.isFrame, pushEnvs] using e.frames), e.mod, e.bs, e.bsz, e.fh, e.frf, e.aC, e.bare⟩
section
variable {X : Cx} {pins : List (Addr × Obj)} {σ : St} {H : Hp} {s s' : Shared}
theorem Inv.yI (I : Inv X pins σ H s) : jx X.prog X.w X.K X.mg X.base X.A X.stack s H :=
 ⟨I.ok.frames, I.ok.mod, I.bs, Nat.le_trans I.ok.bsz I.sz, I.stack, I.oP, I.aC, I.bare⟩
theorem Inv.after {Q : VK} {u : Value} (I : Inv X pins σ H s) (h : CE X.stack X.prog X.w H s Q u s') : EP X pins σ Q u s' := by
 obtain ⟨v, H', os, bare, un, aC, r, q⟩ := h
 obtain ⟨hh, g, d, t, ph⟩ := s'
 obtain rfl : ph = s.os := os
 exact ⟨v, H', I.call (h' := hh) (g' := g) (d' := d) (t' := t) (ch := []) un aC bare (fun b z => absurd z (by simp)), r, q⟩
end
def mv (sp : Sp) (bX : List V) (E : XK) (t : TA) : TE := fun σ H Q => t σ H fun vs H1 => sp (vs ++ bX) H1 Q E
def rl (C : Addr) (m : Str) (sp : Sp) (bX : List V) (E : XK) (ta : TE) (t : TA) : TE := fun σ H Q => ta σ H fun x H1 => ∃ a dx fs, x = .ref a /\ H1 a = some (.ins C dx fs) /\ fs.lookup m = none /\
 t σ H1 fun vs H2 => sp (x :: (vs ++ bX)) H2 Q E
def yJ (C : Addr) (sp : Sp) (bX : List V) (E : XK) (t : TA) : TE := fun σ H Q => t σ H fun vs H1 => ∀ x dx, H1 x = none -> H1 dx = none -> dx ≠ x ->
 sp (.ref x :: (vs ++ bX)) (upd (upd H1 dx (.own x)) x (.ins C dx [])) (fun v H2 => v = .non /\ Q (.ref x) H2) E
def Binds (K : PySem.W.Frag) (fd : FuncData) (ps : List Str) (ds : List Value) : Prop :=
 ∀ (s : Shared) (us : List Value), K.In s.heap -> (us ++ ds).length = ps.length -> BindsTo s fd ⟨us, []⟩ (ps.zip (us ++ ds))
theorem Binds.all {K : PySem.W.Frag} {fd : FuncData} {ps : List Str} (h : ∀ us : List Value, us.length = ps.length -> bindArgs fd ⟨us, []⟩ = pure (ps.zip us)) : Binds K fd ps [] := fun s us _ hl => by
 rw [List.append_nil] at hl ⊢
 exact .of_eq (h us hl)
def Passes (CX : cF) (X : Cx) (E : XK) : Prop := ∀ (pins : List (Addr × Obj)) (σ : St) (H : Hp) (s : Shared) (e : Value) (s' : Shared), Inv X pins σ H s -> CX X.stack H s E e s' -> X.xe e s'
section
variable {X : Cx} {CX : cF} {k : Nat} {f C : Addr} {fd : FuncData} {ps : List Str} {sp : Sp} {bX : List V} {ds : List Value} {E : XK} {x m : Str} {p pos apos : Pos} {e o : Expr} {es : List Expr} {ta : TE} {t : TA}
theorem kI {pins : List (Addr × Obj)} {σ : St} {H : Hp} {s : Shared} {Q : VK} {us : List Value} {vs : List V} (F : bW X.prog X.w X.K X.mg X.base CX k f fd ps sp) (hr : aR k X.A) (hb : Binds X.K fd ps ds) (hd : Vals bX ds) (hx : Passes CX X E)
 (I : Inv X pins σ H s) (r : Vals vs us) (h : sp (vs ++ bX) H Q E) : wpAny (model X.prog X.w) X.A (call (.ref f) us) (EP X pins σ Q) X.xe s := by
 have r2 : Vals (vs ++ bX) (us ++ ds) := r.append hd
 have hl : (us ++ ds).length = ps.length := by rw [<- r2.length]; exact F.len _ _ _ _ h
 refine wpAny_call (codeAny_mono (F.run X.A X.stack s H ⟨us, []⟩ (us ++ ds) (vs ++ bX) Q E hr I.yI (hb s us I.bQ hl) r2 h) fun r s' hq => ?_)
 cases r with
 | error e => exact hx pins σ H s e s' I hq
 | ok fl =>
  cases fl with
  | ret u => exact I.after hq
  | next => exact False.elim hq
  | brk => exact False.elim hq
  | cont => exact False.elim hq
theorem eK (F : bW X.prog X.w X.K X.mg X.base CX k f fd ps sp) (hr : aR k X.A) (hg : Gl X x) (hm : X.mg x = some (.ref f)) (hk : PySem.W.keepIn X.K (.ref f) = true) (hb : Binds X.K fd ps ds) (hd : Vals bX ds) (hx : Passes CX X E)
 (ha : PA X (e :: es) t) (eL : (x == ("__debug__" : Str)) = false := by decide) (he : starEach (e :: es) X.env = (false, eval e X.env) :: starEach es X.env := by rfl) (cR : (backTo pos (starEach es X.env)).any (·.1) = false := by rfl) :
 PE X (.Call (.Name x p) (e :: es) [] pos) (mv sp bX E t) := by
 intro pins s σ H Q I h
 refine wpAny_Call_Name_kw (oQ I hg hm ?_ eL)
 refine PySem.W.callWith_K (h₀ := X.base) I.ok.mod.kin hk (aB (ha pos pins s σ H _ I h) fun us s1 ⟨vs, H1, I1, r, q⟩ => ⟨I1.bQ, ?_⟩) he cR
 exact kI F hr hb hd hx I1 r q
theorem kJ {pl : Sem Bool} (he : PE X o ta) (c : bc X.K C) (hm : Meth X.K C m f) (F : bW X.prog X.w X.K X.mg X.base CX k f fd ps sp) (hr : aR k X.A) (hb : Binds X.K fd ps ds) (hd : Vals bX ds) (hx : Passes CX X E) (ha : PA X (e :: es) t)
 (mw : starEach (e :: es) X.env = (false, eval e X.env) :: starEach es X.env := by rfl) (cR : (backTo pos (starEach es X.env)).any (·.1) = false := by rfl)
 (ht : eval (.Call (.Attribute o m apos) (e :: es) [] pos) X.env = (do
   let ov <- eval o X.env
   standAt apos.atName
   let (f, first) <- holding [ov] (getMethod ov m pl)
   callWith pos f first (backTo pos (starEach (e :: es) X.env)) (backToKw pos (keywordEach [] X.env))) := by rfl) :
 PE X (.Call (.Attribute o m apos) (e :: es) [] pos) (rl C m sp bX E ta t) := by
 intro pins s σ H Q I h
 refine PySem.W.methodCall_KW (pl := pl) (aB (he pins s σ H _ I h) fun u s1 ⟨x, H1, I1, rx, a, dx, fs, ex, ea, l, q⟩ => ?_) ht
 subst ex
 obtain rfl : u = Value.ref a := rx
 refine pd I1 ea c hm l ?_
 refine PySem.W.callWith_K (first := [.ref a]) (h₀ := X.base) I.ok.mod.kin hm.kp (aB (ha pos pins s1 σ H1 _ I1 q) fun us s2 ⟨vs, H2, I2, r, q2⟩ => ⟨I2.bQ, ?_⟩) mw cR
 exact kI (us := .ref a :: us) (vs := .ref a :: vs) F hr hb hd hx I2 (.cons rfl r) q2
theorem pj {pl : Sem Bool} (he : PE X o ta) (c : bc X.K C) (hm : Meth X.K C m f) (F : bW X.prog X.w X.K X.mg X.base CX k f fd ps sp) (hr : aR k X.A) (hb : Binds X.K fd ps ds) (hd : Vals bX ds) (hx : Passes CX X E)
 (ht : eval (.Call (.Attribute o m apos) [] [] pos) X.env = (do
   let ov <- eval o X.env
   standAt apos.atName
   let (f, first) <- holding [ov] (getMethod ov m pl)
   callWith pos f first (backTo pos (starEach [] X.env)) (backToKw pos (keywordEach [] X.env))) := by rfl) :
 PE X (.Call (.Attribute o m apos) [] [] pos) (rl C m sp bX E ta mn) := by
 intro pins s σ H Q I h
 refine PySem.W.methodCall_KW (pl := pl) (aB (he pins s σ H _ I h) fun u s1 ⟨x, H1, I1, rx, a, dx, fs, ex, ea, l, q⟩ => ?_) ht
 subst ex
 obtain rfl : u = Value.ref a := rx
 refine pd I1 ea c hm l ?_
 exact PySem.W.callWith_K0 (first := [.ref a]) I1.bQ hm.kp (kI (us := [.ref a]) (vs := [.ref a]) F hr hb hd hx I1 (.cons rfl .nil) q)
structure Mk (K : PySem.W.Frag) (C f : Addr) : Prop where
 makes : PySem.W.makesIn K C = true
 init : PySem.W.findIn K (.ref C) "__init__" = some (some (.ref f))
 fn : PySem.W.isFn K (.ref f) = true
 kp : PySem.W.keepIn K (.ref C) = true
theorem Fi {pins : List (Addr × Obj)} {σ : St} {H : Hp} {s : Shared} {Q : VK} {us : List Value} {vs : List V} (M : Mk X.K C f) (F : bW X.prog X.w X.K X.mg X.base CX k f fd ps sp) (hr : aR (k + 1) X.A) (hb : Binds X.K fd ps ds) (hd : Vals bX ds)
 (hx : Passes CX X E) (I : Inv X pins σ H s) (r : Vals vs us)
 (h : ∀ x dx, H x = none -> H dx = none -> dx ≠ x -> sp (.ref x :: (vs ++ bX)) (upd (upd H dx (.own x)) x (.ins C dx [])) (fun v H2 => v = .non /\ Q (.ref x) H2) E) :
 wpAny (model X.prog X.w) X.A (call (.ref C) us) (EP X pins σ Q) X.xe s := by
 have hq := h (s.heap.objs.size + 1) s.heap.objs.size (I.aC.fresh (Nat.le_succ _)) (I.aC.fresh (Nat.le_refl _)) (Nat.ne_of_lt (Nat.lt_succ_self _))
 have I2 := Inv.made (C := C) I
 have r2 : Vals (V.ref (s.heap.objs.size + 1) :: (vs ++ bX)) (Value.ref (s.heap.objs.size + 1) :: (us ++ ds)) := .cons rfl (r.append hd)
 have hl : (Value.ref (s.heap.objs.size + 1) :: us ++ ds).length = ps.length := by
  have e := r2.length
  rw [F.len _ _ _ _ hq] at e
  exact e.symm
 refine wpAny_call (E4 (f := f) I.bQ M.makes M.init (beq_iff_eq.mp M.fn) (codeAny_mono (F.run _ X.stack _ _ ⟨Value.ref (s.heap.objs.size + 1) :: us, []⟩ (Value.ref (s.heap.objs.size + 1) :: (us ++ ds)) _ _ E (hr.make C us [])
  (I2.yI.make C us []) (hb _ (Value.ref (s.heap.objs.size + 1) :: us) I2.bQ hl) r2 hq) fun r s' mx => ?_))
 cases r with
 | error e => exact hx pins σ _ _ e s' I2 mx
 | ok fl =>
  cases fl with
  | ret u =>
   obtain ⟨v, H', I3, rv, ev, q3⟩ := I2.after mx
   subst ev
   exact ⟨rv, ⟨V.ref (s.heap.objs.size + 1), H', I3, rfl, q3⟩⟩
  | next => exact False.elim mx
  | brk => exact False.elim mx
  | cont => exact False.elim mx
theorem gZ (M : Mk X.K C f) (F : bW X.prog X.w X.K X.mg X.base CX k f fd ps sp) (hr : aR (k + 1) X.A) (hg : Gl X x) (hm : X.mg x = some (.ref C)) (hb : Binds X.K fd ps ds) (hd : Vals bX ds) (hx : Passes CX X E)
 (ha : PA X (e :: es) t) (eL : (x == ("__debug__" : Str)) = false := by decide) (he : starEach (e :: es) X.env = (false, eval e X.env) :: starEach es X.env := by rfl) (cR : (backTo pos (starEach es X.env)).any (·.1) = false := by rfl) :
 PE X (.Call (.Name x p) (e :: es) [] pos) (yJ C sp bX E t) := by
 intro pins s σ H Q I h
 refine wpAny_Call_Name_kw (oQ I hg hm ?_ eL)
 refine PySem.W.callWith_K (h₀ := X.base) I.ok.mod.kin M.kp (aB (ha pos pins s σ H _ I h) fun us s1 ⟨vs, H1, I1, r, q⟩ => ⟨I1.bQ, ?_⟩) he cR
 exact Fi M F hr hb hd hx I1 r q
end
section
variable {X : Cx} {CX : cF} {k : Nat} {f C : Addr} {fd : FuncData} {ps ks : List Str} {sp : Sp} {E : XK} {x m : Str} {p pos apos PU : Pos} {e o : Expr} {es : List Expr} {PV : List Keyword} {te ta : TE} {t tk : TA} {nm : Option Str}
variable {g : List Value -> List Value -> List Value} {gV : List V -> List V -> List V}
end
structure kK (N P : List Str) (sc : Scope) : Prop where
 kind : sc.kind = .function
 co : sc.isCoroutine = false
 gen : sc.isGenerator = false
 nd : N.Nodup
 pre : N.take P.length = P
 par : ∀ x ∈ P, sc.names.lookup x = some .local ∨ sc.names.lookup x = some .cell
 nofree : ∀ y ∈ sc.names, y.2 ≠ .free
theorem yK {kindOf : Str -> Option NameKind} {x : Str} : ∀ {binds : List (Str × Value)} {m : Str -> Option Value}, (∀ v, (x, v) ∉ binds) -> bindL kindOf binds m x = m x
 | [], _, _ => rfl
 | (n, v) :: r, m, h => by
  unfold bindL
  rw [yK fun w hw => h w (List.mem_cons_of_mem _ hw)]
  split
  ·have : x ≠ n := by rintro rfl; exact h v List.mem_cons_self
   simp [this]
  ·rfl
theorem yL {kindOf : Str -> Option NameKind} {x : Str} : ∀ {binds : List (Str × Value)} {m : Str -> Option Value}, (∀ v, (x, v) ∉ binds) -> bindC kindOf binds m x = m x
 | [], _, _ => rfl
 | (n, v) :: r, m, h => by
  unfold bindC
  rw [yL fun w hw => h w (List.mem_cons_of_mem _ hw)]
  split
  ·rfl
  ·have : x ≠ n := by rintro rfl; exact h v List.mem_cons_self
   simp [this]
theorem yM {kindOf : Str -> Option NameKind} {x : Str} {v : Value} : ∀ {P : List Str} {vs : List Value} {i : Nat} {m : Str -> Option Value}, P.Nodup -> P[i]? = some x -> vs[i]? = some v -> kindOf x = some .local ->
 bindL kindOf (P.zip vs) m x = some v
 | [], _, _, _, _, h, _, _ => by simp at h
 | _ :: _, [], _, _, _, _, h, _ => by simp at h
 | p :: P, w :: vs, 0, m, nd, h1, h2, hk => by
  simp at h1 h2; subst h1; subst h2
  show bindL kindOf ((p, w) :: P.zip vs) m p = _
  unfold bindL
  rw [yK fun v hv => (List.nodup_cons.mp nd).1 (List.of_mem_zip hv).1, if_pos hk]
  simp
 | p :: P, w :: vs, i + 1, m, nd, h1, h2, hk => by
  show bindL kindOf ((p, w) :: P.zip vs) m x = _
  unfold bindL
  exact yM (i := i) (List.nodup_cons.mp nd).2 (by simpa using h1) (by simpa using h2) hk
theorem yN {kindOf : Str -> Option NameKind} {x : Str} {v : Value} : ∀ {P : List Str} {vs : List Value} {i : Nat} {m : Str -> Option Value}, P.Nodup -> P[i]? = some x -> vs[i]? = some v -> kindOf x ≠ some .local ->
 bindC kindOf (P.zip vs) m x = some v
 | [], _, _, _, _, h, _, _ => by simp at h
 | _ :: _, [], _, _, _, _, h, _ => by simp at h
 | p :: P, w :: vs, 0, m, nd, h1, h2, hk => by
  simp at h1 h2; subst h1; subst h2
  show bindC kindOf ((p, w) :: P.zip vs) m p = _
  unfold bindC
  rw [yL fun v hv => (List.nodup_cons.mp nd).1 (List.of_mem_zip hv).1, if_neg hk]
  simp
 | p :: P, w :: vs, i + 1, m, nd, h1, h2, hk => by
  show bindC kindOf ((p, w) :: P.zip vs) m x = _
  unfold bindC
  exact yN (i := i) (List.nodup_cons.mp nd).2 (by simpa using h1) (by simpa using h2) hk
noncomputable def start (N : List Str) (vs : List V) : St := vs.map some ++ List.replicate (N.length - vs.length) none
noncomputable def de (CX : cF) (P : Program) (w : World) (K : PySem.W.Frag) (mg : Str -> Option Value) (base : Heap) (N : List Str) (qual : Str) (scope : Scope) (f : Addr) (cd : Value) (A : Around) (outer : List Env) (s : Shared) (H : Hp) (E : XK) : Cx where
 prog := P
 w := w
 K := K
 mg := mg
 base := base
 A := A.deeper (envOfC qual scope s.heap.objs.size f cd)
 N := N
 s₀ := s
 H₀ := H
 env := envOfC qual scope s.heap.objs.size f cd
 outer := outer
 stack := envOfC qual scope s.heap.objs.size f cd :: outer
 ex := []
 calm := true
 fn := fun _ => true
 pn := []
 xe := fun e s' => wpAny (model P w) (A.deeper (envOfC qual scope s.heap.objs.size f cd)) (leaving (envOfC qual scope s.heap.objs.size f cd) e) (fun _ rm => CX outer H s E e rm) (fun e' rm => CX outer H s E e' rm) s'
theorem yO {sc : Scope} {n : Nat} {x : Str} (h : sc.names.lookup x = some .cell) : ∃ c, (cellsFrom n sc.names []).lookup x = some c := by
 have q := PySem.W.cellsFrom_some sc.names n [] (.inl h)
 exact Option.isSome_iff_exists.mp q
theorem Fj {CX : cF} {P : Program} {w : World} {K : PySem.W.Frag} {mg : Str -> Option Value} {base : Heap} {N ps : List Str} {qual : Str} {scope : Scope} {f : Addr} {cd : Value} {A : Around} {outer : List Env} {s s1 : Shared} {H : Hp} {E : XK} {us : List Value} {vs : List V}
 (S : kK N ps scope) (hd : A.handled = none) (e0 : jx P w K mg base A outer s H) (hl : vs.length = ps.length) (r : Vals vs us)
 (x : InCallC s s.heap.objs.size (bindL (envOfC qual scope s.heap.objs.size f cd).kindOf (ps.zip us) fun _ => none) (cellsFrom (s.heap.objs.size + 1) scope.names []) (bindC (envOfC qual scope s.heap.objs.size f cd).kindOf (ps.zip us) fun _ => none) s1) :
 Inv (de CX P w K mg base N qual scope f cd A outer s H E) [] (start N vs) H s1 := by
 have cR : ps.length <= N.length := by have := congrArg List.length S.pre; rw [List.length_take] at this; omega
 obtain ⟨h1, tk, rfl, hk⟩ := x.done
 have jy : ∀ b : Addr, b ∉ (de CX P w K mg base N qual scope f cd A outer s H E).ex := fun b z => absurd (show b ∈ ([] : List Addr) from z) (by simp)
 refine ⟨⟨e0.mod, S.kind, rfl, rfl, Nat.le_refl _, fun y z c h1 h2 => ?_, fun y hy => ?_, fun y c _ h => ?_, fun _ => hd, Around.frames_deeper e0.frames, .inr ⟨rfl, rfl⟩, fun b z => absurd z (jy b), e0.bs, e0.bsz, fun b _ _ => jy b, fun b z => absurd z (jy b), e0.fh, e0.frf⟩,
  rfl, e0.bare, Un.kept hk, ⟨_, x.toInCall.ns, fun i y v h1 h2 h3 => ?_⟩, fun y c h => ⟨_, x.cell y c h⟩, e0.aC.fresh (Nat.le_refl _), fun y c h => ?_, fun p hp => absurd (show p ∈ ([] : List (Addr × Obj)) from hp) (by simp), e0.aC.kept hk, ?_⟩
 ·exact name_of_addr x.apart (PySem.mem_of_lookup h1) (PySem.mem_of_lookup h2)
 ·have hy : scope.names.lookup y = some .cell ∨ scope.names.lookup y = some .free := hy
  rcases hy with hy | hy
  ·exact yO hy
  ·exact absurd rfl (S.nofree _ (PySem.mem_of_lookup hy))
 ·exact Nat.le_of_lt (x.above y c (PySem.mem_of_lookup h))
 ·have hi : i < vs.length := by
   unfold start at h2
   by_cases hi : i < vs.length
   ·exact hi
   ·rw [List.getElem?_append_right (by simpa using hi)] at h2
    rw [List.getElem?_replicate] at h2
    split at h2 <;> cases h2
  have ha : vs[i]? = some v := by
   unfold start at h2
   rw [List.getElem?_append_left (by simpa using hi), List.getElem?_map] at h2
   cases e : vs[i]? with
   | none => rw [e] at h2; cases h2
   | some a => rw [e] at h2; cases h2; rfl
  obtain ⟨u, hu, rv⟩ := r.get ha
  have hp : ps[i]? = some y := by
   rw [<- S.pre, List.getElem?_take_of_lt (by omega)]; exact h1
  have yP : ps.Nodup := by rw [<- S.pre]; exact S.nd.sublist (List.take_sublist _ _)
  refine ⟨u, rv, ?_⟩
  rcases S.par y (List.mem_of_getElem? hp) with k | k
  ·exact .inl ⟨k, yM yP hp hu k⟩
  ·obtain ⟨c, e⟩ := yO (n := s.heap.objs.size + 1) k
   refine .inr ⟨.inl k, c, e, ?_⟩
   have q := x.cell y c e
   rw [yN yP hp hu (by show scope.names.lookup y ≠ _; rw [k]; decide)] at q
   exact q
 ·exact e0.aC.fresh (Nat.le_of_lt (x.above y c (PySem.mem_of_lookup h)))
 ·unfold start
  show _ = N.length
  rw [List.length_append, List.length_map, List.length_replicate]
  omega
theorem rn {CX : cF} {P : Program} {w : World} {K : PySem.W.Frag} {mg : Str -> Option Value} {base : Heap} {k : Nat} {f : Addr} {name qual : Str} {params : Arguments} {body : List Stmt} {scope : Scope} {dV kV doc pm ba ct oc : Value} {an od : Option Addr}
 {fN : Array (Option Value)} {N ps : List Str} {sp : Sp} (lk : K.lookup f = some ⟨oc, od, .func (PySem.W.fnOf name qual params body scope dV kV doc pm an ba ct), fN⟩) (dS : PySem.W.codeIn K ba qual = true) (S : kK N ps scope)
 (len : ∀ vs H Q E, sp vs H Q E -> vs.length = ps.length)
 (dX : ∀ (A : Around) (outer : List Env) (s : Shared) (H : Hp) (vs : List V) (Q : VK) (E : XK), aR k (A.deeper (envOfC qual scope s.heap.objs.size f ba)) -> sp vs H Q E ->
   ∃ t, aV (de CX P w K mg base N qual scope f ba A outer s H E) body t /\ t { nx := fun _ H' => Q .non H', rt := Q } (start N vs) H) :
 bW P w K mg base CX (k + 1) f (PySem.W.fnOf name qual params body scope dV kV doc pm an ba ct) ps sp := by
 refine ⟨len, fun A outer s H args us vs Q E hr e0 hb r gC => ?_⟩
 have hl := len _ _ _ _ gC
 have KX : K.In s.heap := e0.mod.kin.keeps fun b o e => (e0.bs b o e).1
 have lim : s.heap.NoLimit := e0.mod.nolimit.keeps fun b o e => (e0.bs b o e).1
 have Fl : ∀ y ∈ ps.zip us, scope.names.lookup y.1 = some .local ∨ (scope.names.lookup y.1 = some .cell /\ ((cellsFrom (s.heap.objs.size + 1) scope.names []).lookup y.1).isSome = true) := fun ⟨n, v⟩ hy => by
  rcases S.par n (List.of_mem_zip hy).1 with q | q
  ·exact .inl q
  ·exact .inr ⟨q, PySem.W.cellsFrom_some _ _ _ (.inl q)⟩
 refine codeAny_call_function hr.depth (KX _ _ lk) rfl S.co S.gen rfl (PySem.W.codeRec_of KX dS) (hb _ _ _ _ ?_)
 refine wpAny_newFunctionEnv_cells S.kind Fl fun env he s1 x => ?_
 subst he
 refine ⟨lim.keeps x.toInCall.keep, codeAny_func ?_⟩
 obtain ⟨t, ht, hq⟩ := dX A outer s H vs Q E (hr.deeper _) gC
 have I : Inv (de CX P w K mg base N qual scope f ba A outer s H E) [] (start N vs) H s1 := Fj S hr.hd e0 hl r x
 refine wpAny_mono (ht [] s1 (start N vs) H _ I hq) (fun fl s' hs => ?_) fun e s' hs => hs
 have fin : ∀ {σ' : St} {H' : Hp} {v : V} {u : Value}, Inv (de CX P w K mg base N qual scope f ba A outer s H E) [] σ' H' s' -> RelV v u -> Q v H' -> CE outer P w H s Q u s' :=
  fun {σ' H' v u} J rv q => ⟨v, H', J.os, J.bare, J.base, J.aC, rv, q⟩
 cases fl with
 | ret u =>
  obtain ⟨v, σ', H', J, rv, q⟩ := hs
  exact fin J rv q
 | next =>
  obtain ⟨σ', H', J, q⟩ := hs
  exact fin (v := V.non) (u := Value.none) J rfl q
 | brk =>
  obtain ⟨_, _, _, q⟩ := hs
  exact False.elim q
 | cont =>
  obtain ⟨_, _, _, q⟩ := hs
  exact False.elim q
end L2
namespace L2
open PySem PySem.Spec PyProof.Rows
section
variable {X : Cx} {x : Str} {p pos : Pos} {e : Expr} {es : List Expr} {t : TA} {id T : String} {r : List V -> Hp -> VK -> Prop}
def rp (r : List V -> Hp -> VK -> Prop) (t : TA) : TE := fun σ H Q => t σ H fun vs H1 => r vs H1 Q
theorem bD (hc : da X (.builtin id) r) (hg : Gl X x) (hm : X.mg x = none) (hv : bootBuiltins x = some (.builtin id)) (ha : PA X (e :: es) t) (hn : x ≠ "__name__" := by decide) (eL : (x == ("__debug__" : Str)) = false := by decide)
 (he : starEach (e :: es) X.env = (false, eval e X.env) :: starEach es X.env := by rfl) (cR : (backTo pos (starEach es X.env)).any (·.1) = false := by rfl) : PE X (.Call (.Name x p) (e :: es) [] pos) (rp r t) := by
 intro pins s σ H Q I h
 refine wpAny_Call_Name_kw (l6 I hg hm hv ?_ hn eL)
 exact PyProof.Rows.callWith_builtin1 (aB (ha pos pins s σ H _ I h) fun us s1 ⟨vs, H1, I1, r1, q1⟩ => hc pins s1 σ H1 vs us Q I1 r1 q1) he cR
theorem kL (hc : da X (.type T) r) (hg : Gl X x) (hm : X.mg x = none) (hv : bootBuiltins x = some (.type T)) (ha : PA X (e :: es) t) (hn : x ≠ "__name__" := by decide) (eL : (x == ("__debug__" : Str)) = false := by decide)
 (he : starEach (e :: es) X.env = (false, eval e X.env) :: starEach es X.env := by rfl) (cR : (backTo pos (starEach es X.env)).any (·.1) = false := by rfl) : PE X (.Call (.Name x p) (e :: es) [] pos) (rp r t) := by
 intro pins s σ H Q I h
 refine wpAny_Call_Name_kw (l6 I hg hm hv ?_ hn eL)
 exact PyProof.Rows.callWith_type1 (aB (ha pos pins s σ H _ I h) fun us s1 ⟨vs, H1, I1, r1, q1⟩ => hc pins s1 σ H1 vs us Q I1 r1 q1) he cR
end
end L2
namespace HT
open PySem PyProof.Rows
noncomputable def lexLt : List Int -> List Int -> Bool
 | [], [] => false
 | [], _ :: _ => true
 | _ :: _, [] => false
 | x :: xs, y :: ys => if x = y then lexLt xs ys else decide (x < y)
section
open PySem.SeqAt
open PySem.AutoSeq1 (wpAny_loadPart')
open PySem.MeetsSeq PySem.MeetsSeq2 PySem.MeetsSeq3
end
section
variable {prog : Program} {w : World} {A : Around} {E : Value -> Shared -> Prop} {s : Shared}
noncomputable def aT (n d : Nat) : Option Int -> Nat
 | none => d
 | some v => if v < 0 then (v + (n : Int)).toNat else min v.toNat n
theorem rq (n d : Nat) : aT n d none = d := rfl
theorem pk (n d k : Nat) : aT n d (some (k : Int)) = min k n := by
 show (if (k : Int) < 0 then ((k : Int) + (n : Int)).toNat else min (k : Int).toNat n) = min k n
 rw [if_neg (by omega), Int.toNat_natCast]
theorem Fo (n d : Nat) (hd : d <= n) (o : Option Int) : aT n d o <= n := by
 cases o with
 | none => exact hd
 | some v =>
  show (if v < 0 then (v + (n : Int)).toNat else min v.toNat n) <= n
  by_cases hv : v < 0
  ·rw [if_pos hv]; omega
  ·rw [if_neg hv]; exact Nat.min_le_right _ _
theorem yQ (v : Int) (n d : Nat) : (if v < 0 then max (v + (n : Int)) 0 else min v (n : Int)) = ((aT n d (some v) : Nat) : Int) := by
 show (if v < 0 then max (v + (n : Int)) 0 else min v (n : Int)) = (((if v < 0 then (v + (n : Int)).toNat else min v.toNat n) : Nat) : Int)
 by_cases hv : v < 0
 ·simp only [if_pos hv]; omega
 ·simp only [if_neg hv]; omega
theorem Fp (lo hi : Option Int) (n : Nat) : Builtin.Slice.sliceAdjust lo hi 1 (n : Int) = (((aT n 0 lo : Nat) : Int), ((aT n n hi : Nat) : Int)) := by
 have h1 : ¬ ((1 : Int) < 0) := by omega
 unfold Builtin.Slice.sliceAdjust
 simp only [h1, if_false]
 refine Prod.ext ?_ ?_
 ·cases lo with
  | none => rfl
  | some v => exact yQ v n 0
 ·cases hi with
  | none => rfl
  | some v => exact yQ v n n
theorem Fs (i j : Nat) : Builtin.Slice.slicePlaces (i : Int) (j : Int) 1 = j - i := by
 unfold Builtin.Slice.slicePlaces
 have h1 : (1 : Int) > 0 := by omega
 simp only [h1, if_true, Int.ediv_one]
 split <;> omega
theorem yR {v : Value} {o : Option Int} {Q : Option Int -> Shared -> Prop} (p : IsPart v o) (h : Q o s) : wpAny (model prog w) A (Builtin.Slice.slicePartIndex v) Q E s := by
 cases p with
 | none => exact slicePart_none h
 | int i t => exact slicePart_int h
theorem Ft {sl : Addr} {vl vu : Value} {lo hi : Option Int} {n : Nat} {Q : Int × Int × Nat -> Shared -> Prop} (hs : s.heap.IsSliceOf sl vl vu .none) (pl : IsPart vl lo) (pu : IsPart vu hi)
 (h : Q (((aT n 0 lo : Nat) : Int), 1, aT n n hi - aT n 0 lo) s) : wpAny (model prog w) A (Builtin.Slice.sliceApplied (.ref sl) (pure (n : Int))) Q E s := by
 obtain ⟨os, g6, pq, kM⟩ := id hs
 unfold Builtin.Slice.sliceApplied Builtin.Slice.sliceFields
 refine wpAny_bind (wpAny_bind (wpAny_field g6 kM (x := vl) rfl (wpAny_bind (wpAny_field g6 kM (x := vu) rfl (wpAny_bind (wpAny_field g6 kM (x := .none) rfl (wpAny_pure ?_)))))))
 refine wpAny_bind (slicePart_none ?_)
 show wpAny _ _ (if ((1 : Int) == 0) = true then _ else _) _ _ s
 rw [if_neg (by decide)]
 refine wpAny_bind (yR pl (wpAny_bind (yR pu (wpAny_bind (wpAny_pure ?_)))))
 show wpAny _ _ (match Builtin.Slice.sliceAdjust lo hi 1 (n : Int) with | (lo, hi) => pure (lo, (1 : Int), Builtin.Slice.slicePlaces lo hi 1)) _ _ s
 rw [Fp lo hi n]
 show wpAny _ _ (pure (((aT n 0 lo : Nat) : Int), (1 : Int), Builtin.Slice.slicePlaces ((aT n 0 lo : Nat) : Int) ((aT n n hi : Nat) : Int) 1)) _ _ s
 rw [Fs]
 exact wpAny_pure h
theorem Fu (xs : Array Value) (i k : Nat) : ((List.range k).filterMap fun (m : Nat) => xs[((i : Int) + (m : Int) * 1).toNat]?).toArray = ((xs.toList.drop i).take k).toArray := by
 have e : (fun (m : Nat) => xs[((i : Int) + (m : Int) * 1).toNat]?) = fun m => xs[i + m]? := by
  funext m
  have : ((i : Int) + (m : Int) * 1).toNat = i + m := by omega
  rw [this]
 rw [e]
 have := pick_run xs i k
 rw [List.filterMap_map] at this
 have e2 : ((fun x => xs[x]?) ∘ fun x => i + x) = fun m => xs[i + m]? := rfl
 rw [e2] at this
 rw [this]
theorem Fw {t sl : Addr} {items : Array Value} {vl vu : Value} {lo hi : Option Int} {Q : Value -> Shared -> Prop} (ht : IsTup s.heap t items) (hs : s.heap.IsSliceOf sl vl vu .none) (pl : IsPart vl lo) (pu : IsPart vu hi)
 (hw : ¬ (aT items.size 0 lo = 0 /\ aT items.size items.size hi = items.size))
 (h : Q (.ref s.heap.objs.size) { s with heap := s.heap.push { cls := .type "tuple", data := .seq ((items.toList.drop (aT items.size 0 lo)).take (aT items.size items.size hi - aT items.size 0 lo)).toArray } })
 (mm : items.size <= sizeLine) : wpAny (model prog w) A (getItem (.ref t) (.ref sl)) Q E s := by
 have pw : sizeOk (.seq ((items.toList.drop (aT items.size 0 lo)).take (aT items.size items.size hi - aT items.size 0 lo)).toArray) := by
  show ((items.toList.drop (aT items.size 0 lo)).take (aT items.size items.size hi - aT items.size 0 lo)).toArray.size <= sizeLine
  rw [List.size_toArray, List.length_take, List.length_drop, Array.length_toList]
  omega
 have hj : aT items.size items.size hi <= items.size := Fo _ _ (Nat.le_refl _) hi
 obtain ⟨os, g6, pq, kM⟩ := id hs
 have Fx : s.TypeIs (.ref sl) "slice" := ⟨os, g6, pq⟩
 unfold getItem
 try with_reducible refine wpAny_holding ?_
 first | refine wpAny_bind (wpAny_pure ?_) | skip
 refine wpAny_bind (wpAny_sequenceKey ht.typeIs (by decide) ?_)
 refine wpAny_bind (wpAny_callSpecial?_slot (name := Str.ofString "__getitem__") ht.typeIs PyProof.Rows.slot_tuple_getitem
  (wpAny_call_entry PyProof.Rows.slot_tuple_getitem ht.typeIs entry_tuple_getitem ?_ (args_tuple_getitem _ _)))
 show wpAny _ _ (Builtin.Tuple.tupleItemsOf (.ref t) >>= _) _ _ s
 refine wpAny_bind (tupleItemsOf_ ht ?_)
 refine wpAny_bind (wpAny_typeOf Fx ?_)
 rw [if_pos (by decide)]
 refine wpAny_bind (Ft hs pl pu ?_)
 have rz : ¬ ((((aT items.size 0 lo : Nat) : Int) == 0 && (1 : Int) == 1 && (aT items.size items.size hi - aT items.size 0 lo) == items.size) = true) := by
  intro q
  rw [Bool.and_eq_true, Bool.and_eq_true] at q
  have q1 : ((aT items.size 0 lo : Nat) : Int) = 0 := eq_of_beq q.1.1
  have q2 : aT items.size items.size hi - aT items.size 0 lo = items.size := eq_of_beq q.2
  exact hw ⟨by omega, by omega⟩
 show wpAny _ _ (if (((aT items.size 0 lo : Nat) : Int) == 0 && (1 : Int) == 1 && (aT items.size items.size hi - aT items.size 0 lo) == items.size) = true then _ else _) _ _ s
 rw [if_neg rz, Fu]
 first
  | exact wpAny_bind (m := Builtin.Tuple.tupleExact _) (wpAny_newObj_type (wpAny_pure ⟨_, rfl, wpAny_pure h⟩) pw)
  | exact wpAny_bind (m := Builtin.Tuple.tupleExact _) (wpAny_newObj_type (wpAny_bind (wpAny_pure (wpAny_pure ⟨_, rfl, wpAny_pure h⟩))) pw)
  | exact wpAny_bind (wpAny_bind (m := Builtin.Tuple.tupleExact _) (wpAny_newObj_type (wpAny_pure (wpAny_pure ⟨_, rfl, wpAny_pure h⟩)) pw))
  | exact wpAny_bind (wpAny_bind (m := Builtin.Tuple.tupleExact _) (wpAny_newObj_type (wpAny_pure ⟨_, rfl, wpAny_pure h⟩) pw))
end
end HT
namespace L2
open PySem PySem.Spec PyProof.Rows
abbrev TO := St -> Hp -> (Option Int -> Hp -> Prop) -> Prop
def PO (X : Cx) (e : Option Expr) (t : TO) : Prop :=
 ∀ (pins : List (Addr × Obj)) (s : Shared) (σ : St) (H : Hp) (Q : Option Int -> Hp -> Prop), Inv X pins σ H s -> t σ H Q ->
  wpAny (model X.prog X.w) X.A (evalPart e X.env) (fun u s' => ∃ o H', Inv X pins σ H' s' /\ IsPart u o /\ Q o H') X.xe s
noncomputable def yS : TO := fun _ H Q => Q none H
noncomputable def yT (t : TE) : TO := fun σ H Q => t σ H fun x H1 => ∃ i, x = .int i /\ Q (some i) H1
section
variable {X : Cx} {e : Expr} {te : TE} {lo hi : Option Expr} {tl th : TO} {pos p2 : Pos}
theorem kN : PO X none yS := by
 intro pins s σ H Q I h
 rw [evalPart_none]
 exact wpAny_pure ⟨none, H, I, .none, h⟩
theorem iB (h : PE X e te) : PO X (some e) (yT te) := by
 intro pins s σ H Q I hw
 rw [evalPart_some]
 refine aB (h pins s σ H _ I hw) fun u s1 ⟨x, H1, I1, r1, q1⟩ => ?_
 obtain ⟨i, rfl, q⟩ := q1
 obtain ⟨t, rfl⟩ := r1
 exact ⟨some i, H1, I1, .int i t, q⟩
def my (X : Cx) (r : V -> Option Int -> Option Int -> Hp -> VK -> Prop) : Prop :=
 ∀ (pins : List (Addr × Obj)) (s : Shared) (σ : St) (H : Hp) (x : V) (v vl vu : Value) (lo hi : Option Int) (sl : Addr) (Q : VK), Inv X pins σ H s -> RelV x v -> s.heap.IsSliceOf sl vl vu .none -> IsPart vl lo -> IsPart vu hi -> r x lo hi H Q ->
  ∃ T id, typeLookup (.type T) "__getitem__" = pure (some (.builtin id)) /\ s.TypeIs v T /\ wpAny (model X.prog X.w) X.A (getItem v (.ref sl)) (EP X pins σ Q) X.xe s
def yU (r : V -> Option Int -> Option Int -> Hp -> VK -> Prop) (te : TE) (tl th : TO) : TE := fun σ H Q => te σ H fun x H1 => tl σ H1 fun l H2 => th σ H2 fun u H3 => r x l u H3 Q
theorem jz {r : V -> Option Int -> Option Int -> Hp -> VK -> Prop} (hr : my X r) (he : PE X e te) (hl : PO X lo tl) (hu : PO X hi th) : PE X (.Subscript e (.Slice lo hi none p2) pos) (yU r te tl th) := by
 intro pins s σ H Q I h
 refine Subscript_ (aB (he pins s σ H _ I h) fun v s1 ⟨x, H1, I1, r1, q1⟩ => ?_)
 refine wpAny_Slice (aB (hl pins s1 σ H1 _ I1 q1) fun vl s2 ⟨l, H2, I2, pl, q2⟩ => aB (hu pins s2 σ H2 _ I2 q2) fun vu s3 ⟨u, H3, I3, pu, q3⟩ => ?_)
 rw [evalPart_none]
 refine wpAny_pure ?_
 have I4 : Inv X pins σ H3 { s3 with heap := s3.heap.push { cls := .type "slice", data := .fields #[vl, vu, .none] } } := I3.kept (t' := s3.toks) fun b ob q => Heap.get?_push_of_some _ q
 obtain ⟨T, id, hT, ht, hg⟩ := hr pins { s3 with heap := s3.heap.push { cls := .type "slice", data := .fields #[vl, vu, .none] } } σ H3 x v vl vu l u s3.heap.objs.size Q I4 r1 (Heap.IsSliceOf.new ..) pl pu q3
 show wpAny (model X.prog X.w) X.A (subscriptTail e (.Slice lo hi none p2) v (.ref s3.heap.objs.size)) (EP X pins σ Q) X.xe { s3 with heap := s3.heap.push { cls := .type "slice", data := .fields #[vl, vu, .none] } }
 exact tail_any (ops := [.ref s3.heap.objs.size, v]) ht hT hg (by with_unfolding_all rfl)
noncomputable def dI (xs : List V) (lo hi : Option Int) : List V := (xs.drop (HT.aT xs.length 0 lo)).take (HT.aT xs.length xs.length hi - HT.aT xs.length 0 lo)
theorem yV (xs : List V) (lo hi : Option Int) : (dI xs lo hi).length <= xs.length := by
 unfold dI
 rw [List.length_take, List.length_drop]
 omega
def Fz (K : PySem.W.Frag) : V -> Option Int -> Option Int -> Hp -> VK -> Prop := fun x lo hi H Q => ∃ a xs, x = .ref a /\ ay K H a xs /\
 ¬ (HT.aT xs.length 0 lo = 0 /\ HT.aT xs.length xs.length hi = xs.length) /\ ∀ p, H p = none -> Q (.ref p) (upd H p (.tup (dI xs lo hi)))
theorem FC : my X (Fz X.K) := by
 intro pins s σ H x v vl vu lo hi sl Q I rx hs pl pu h
 obtain ⟨a, xs, rfl, hx, hw, q⟩ := h
 cases rx
 obtain ⟨ai, r, ht, hz⟩ := I.tuple hx
 have hlen : ai.toArray.size = xs.length := by rw [List.size_toArray]; exact r.length.symm
 refine ⟨"tuple", _, PyProof.Rows.slot_tuple_getitem.lookup, ht.typeIs, ?_⟩
 refine HT.Fw ht hs pl pu (by rw [hlen]; exact hw) ?_ (by rw [hlen]; exact hz)
 rw [hlen]
 refine ⟨.ref s.heap.objs.size, _, I.laid (t' := s.toks) (o := .tup (dI xs lo hi)) (fun b ob q => Heap.get?_push_of_some _ q) (Nat.le_refl _) ?_, rfl, q _ (I.aC.fresh (Nat.le_refl _))⟩
 exact ⟨Nat.le_trans (yV xs lo hi) hz, _, (r.drop (HT.aT xs.length 0 lo)).take (HT.aT xs.length xs.length hi - HT.aT xs.length 0 lo), IsTup.new _ _⟩
end
end L2
namespace L2
open PySem PySem.Spec PyProof.Rows
noncomputable def fO (n : Nat) (i : Int) : Option Nat := if 0 <= i then (if i < n then some i.toNat else none) else if -(n : Int) <= i then some (i + n).toNat else none
noncomputable def cG {α : Type} (xs : List α) (i : Int) : Option α := (fO xs.length i).bind fun j => xs[j]?
theorem yW {n : Nat} {i : Int} {j : Nat} (h : fO n i = some j) : seqIndex? i n = some j /\ j < n /\ -(n : Int) <= i /\ i < n := by
 unfold fO at h
 by_cases h0 : 0 <= i
 ·rw [if_pos h0] at h
  by_cases h1 : i < n
  ·rw [if_pos h1] at h
   have e : i.toNat = j := Option.some.inj h
   exact ⟨by rw [seqIndex_of h0 h1, e], by omega, by omega, h1⟩
  ·rw [if_neg h1] at h; cases h
 ·rw [if_neg h0] at h
  by_cases h1 : -(n : Int) <= i
  ·rw [if_pos h1] at h
   have e : (i + n).toNat = j := Option.some.inj h
   exact ⟨by rw [seqIndex_neg (by omega) h1, e], by omega, h1, by omega⟩
  ·rw [if_neg h1] at h; cases h
theorem rA {α : Type} {xs : List α} {i : Int} {v : α} (h : cG xs i = some v) : ∃ j, seqIndex? i xs.length = some j /\ xs[j]? = some v /\ j < xs.length /\ -(xs.length : Int) <= i /\ i < xs.length := by
 unfold cG at h
 cases e : fO xs.length i with
 | none => rw [e] at h; cases h
 | some j =>
  rw [e] at h
  obtain ⟨h1, h2, h3, h4⟩ := yW e
  exact ⟨j, h1, h, h2, h3, h4⟩
theorem iC {α : Type} {xs : List α} {j : Nat} {v : α} (h : xs[j]? = some v) : cG xs (j : Int) = some v := by
 have hj : j < xs.length := (List.getElem?_eq_some_iff.mp h).1
 have e : fO xs.length (j : Int) = some j := by
  unfold fO
  rw [if_pos (by omega), if_pos (by omega)]; simp
 unfold cG; rw [e]; exact h
def rB (b : Expr) : Prop := ∀ o i, subscripted b false o i = operate [o, i] (getItem o i)
def gD (X : Cx) (r : R2) : Prop :=
 ∀ (value slice : Expr) (pins : List (Addr × Obj)) (s : Shared) (σ : St) (H : Hp) (x y : V) (v u : Value) (Q : VK), Inv X pins σ H s -> RelV x v -> RelV y u -> r x y H Q ->
  subscripted slice false v u = operate [v, u] (getItem v u) -> wpAny (model X.prog X.w) X.A (subscriptTail value slice v u) (EP X pins σ Q) X.xe s
def pz (X : Cx) (id : String) (r : V -> List V -> Hp -> VK -> Prop) : Prop :=
 ∀ (pins : List (Addr × Obj)) (s : Shared) (σ : St) (H : Hp) (x : V) (xs : List V) (v : Value) (us : List Value) (Q : VK), Inv X pins σ H s -> RelV x v -> Vals xs us -> r x xs H Q ->
  wpAny (model X.prog X.w) X.A (call (.builtin id) (v :: us)) (EP X pins σ Q) X.xe s
section
variable {X : Cx} {a b : Expr} {ta tb : TE} {pos : Pos}
theorem gD.or {r r' : R2} (h : gD X r) (h' : gD X r') : gD X (fun x y H Q => r x y H Q ∨ r' x y H Q) := by
 intro value slice pins s σ H x y v u Q I rx ry q hs
 rcases q with q | q
 ·exact h value slice pins s σ H x y v u Q I rx ry q hs
 ·exact h' value slice pins s σ H x y v u Q I rx ry q hs
theorem yX {r : R2} (hr : gD X r) (ha : PE X a ta) (hb : PE X b tb) (hs : rB b) : PE X (.Subscript a b pos) (ju r ta tb) := by
 intro pins s σ H Q I h
 exact Subscript_ (qY ha hb I h fun v u s2 x y H2 I2 rx ry q => hr a b pins s2 σ H2 x y v u Q I2 rx ry q (hs _ _))
def yY (K : PySem.W.Frag) : R2 := fun x y H Q => ∃ p xs i v, x = .ref p /\ y = .int i /\ ao K H p xs /\ cG xs i = some v /\ Q v H
def yZ (K : PySem.W.Frag) : R2 := fun x y H Q => ∃ p xs i v, x = .ref p /\ y = .int i /\ ay K H p xs /\ cG xs i = some v /\ Q v H
def y0 : R2 := fun x y H Q => ∃ z i c, x = .str z /\ y = .int i /\ z.length <= sizeLine /\ cG z.cps.toList i = some c /\ Q (.str ⟨#[c]⟩) H
theorem FD : gD X (yY X.K) := by
 intro value slice pins s σ H x y v u Q I rx ry h hs
 obtain ⟨p, xs, i, z, rfl, rfl, hq, he, q⟩ := h
 cases rx
 obtain ⟨t, rfl⟩ := ry
 obtain ⟨ai, r, pl, hz⟩ := I.list hq
 obtain ⟨j, h1, h2, h3, h4, h5⟩ := rA he
 obtain ⟨w, ew, mz⟩ := r.get h2
 have hl := r.length
 have hn := ml
 have fin : EP X pins σ Q w s := ⟨z, H, I, mz, q⟩
 by_cases h0 : 0 <= i
 ·have hj : i.toNat = j := by
   rw [seqIndex_of h0 h5] at h1
   exact Option.some.inj h1
  exact item_listR pl.isList h0 (by omega) (by rw [hj]; simpa using ew) fin hs
 ·have hj : (i + (ai.toArray.size : Int)).toNat = j := by
   rw [seqIndex_neg (by omega) h4] at h1
   rw [List.size_toArray, <- hl]
   exact Option.some.inj h1
  exact subscriptTail_builtinR (x := w) pl.isList.typeIs slot_list_getitem.lookup
   (wpAny_getItem_list_neg (Q := fun r s' => r = w /\ EP X pins σ Q r s') pl.isList (by omega) (by rw [List.size_toArray] <;> omega) (by omega) (by rw [hj]; simpa using ew) ⟨rfl, fin⟩) hs
theorem FE : gD X (yZ X.K) := by
 intro value slice pins s σ H x y v u Q I rx ry h hs
 obtain ⟨p, xs, i, z, rfl, rfl, hq, he, q⟩ := h
 cases rx
 obtain ⟨t, rfl⟩ := ry
 obtain ⟨ai, r, pl, hz⟩ := I.tuple hq
 obtain ⟨j, h1, h2, h3, h4, h5⟩ := rA he
 obtain ⟨w, ew, mz⟩ := r.get h2
 have hl := r.length
 have hn := ml
 have fin : EP X pins σ Q w s := ⟨z, H, I, mz, q⟩
 exact subscriptTail_builtinR (x := w) pl.typeIs slot_tuple_getitem.lookup
  (getItem_tuple (j := j) (Q := fun r s' => r = w /\ EP X pins σ Q r s') pl (by omega) (by omega) (by rw [List.size_toArray, <- hl]; exact h1) (by simpa using ew) ⟨rfl, fin⟩) hs
theorem FF : gD X y0 := by
 intro value slice pins s σ H x y v u Q I rx ry h hs
 obtain ⟨z, i, c, rfl, rfl, hz, he, q⟩ := h
 obtain ⟨t, rfl⟩ := rx
 obtain ⟨t', rfl⟩ := ry
 obtain ⟨j, h1, h2, h3, h4, h5⟩ := rA he
 have hl : z.cps.toList.length = z.length := by simp [Str.length]
 rw [hl] at h1 h4 h5
 have hn := ml
 exact tail_any (typeIs_str s z t) slot_str_getitem.lookup (getItem_str (c := c) (by
  have e1 : decide (i < -(2 ^ 63 : Int)) = false := decide_eq_false (by omega)
  have e2 : decide (i ≥ 2 ^ 63) = false := decide_eq_false (by omega)
  rw [e1, e2, Bool.or_false]) (by rw [h1]; simpa using h2) ⟨.str ⟨#[c]⟩, H, I.tok _, ⟨_, rfl⟩, q⟩) hs
def jA (K : PySem.W.Frag) : R2 := fun x y H Q => yY K x y H Q ∨ yZ K x y H Q ∨ y0 x y H Q
theorem y9 : gD X (jA X.K) := FD.or (FE.or FF)
theorem FG (ai : List Value) (n j : Nat) (u : Value) : Obj.mapSeq (·.setIfInBounds j u) { cls := .type "list", data := .seq ai.toArray n } = { cls := .type "list", data := .seq (ai.set j u).toArray n } := by
 simp [Obj.mapSeq]
theorem Inv.lst {pins : List (Addr × Obj)} {σ : St} {H : Hp} {s : Shared} {p : Addr} {xs : List V} (I : Inv X pins σ H s) (h : H p = some (.lst xs)) :
 ∃ (ai : List Value) (n : Nat), Vals xs ai /\ s.heap.get? p = some { cls := .type "list", data := .seq ai.toArray n } /\ xs.length <= sizeLine := by
 obtain ⟨z, ai, n, r, e⟩ := I.aC p _ h
 exact ⟨ai, n, r, e, z⟩
theorem Inv.FH {pins : List (Addr × Obj)} {σ : St} {H : Hp} {s : Shared} {p : Addr} {xs ys : List V} {ai its' : List Value} {n n' : Nat} {f : Obj -> Obj} (I : Inv X pins σ H s) (h : H p = some (.lst xs))
 (ho : s.heap.get? p = some { cls := .type "list", data := .seq ai.toArray n }) (hf : f { cls := .type "list", data := .seq ai.toArray n } = { cls := .type "list", data := .seq its'.toArray n' }) (r : Vals ys its') (hz : ys.length <= sizeLine) (t : Nat) :
 Inv X pins σ (upd H p (.lst ys)) { s with heap := s.heap.update p f, toks := t } := by
 have e : (s.heap.update p f).get? p = some { cls := .type "list", data := .seq its'.toArray n' } := by
  rw [Heap.get?_update_self f ho (by rw [hf] <;> rfl), hf]
 refine I.write (x := p) (e := p) (by rw [h]; trivial) (.inl rfl) (fun b u hb q => (Heap.get?_update_other _ _ (Ne.symm hb)).trans q) ⟨_, e⟩ ?_
 exact ⟨hz, its', n', r, e⟩
def za : V -> V -> V -> Hp -> (Hp -> Prop) -> Prop := fun o i v H Q => ∃ p xs k j, o = .ref p /\ i = .int k /\ H p = some (.lst xs) /\ fO xs.length k = some j /\ Q (upd H p (.lst (xs.set j v)))
theorem set_list : yg X za := by
 intro pins s σ H o i v ov iv u Q I ro ri rv h
 obtain ⟨p, xs, k, j, rfl, rfl, hp, hj, q⟩ := h
 cases ro
 obtain ⟨t, rfl⟩ := ri
 obtain ⟨ai, n, r, ho, hz⟩ := I.lst hp
 obtain ⟨h1, h2, h3, h4⟩ := yW hj
 have hl := r.length
 have hn := ml
 have I' : Inv X pins σ (upd H p (.lst (xs.set j v))) { s with heap := s.heap.update p (Obj.mapSeq (·.setIfInBounds j u)) } :=
  I.FH hp ho (FG ai n j u) (r.set rv j) (by rw [List.length_set]; exact hz) s.toks
 by_cases h0 : 0 <= k
 ·have hk : k.toNat = j := by
   rw [seqIndex_of h0 h4] at h1
   exact Option.some.inj h1
  exact PySem.W.ki_setAt ho h0 (by omega) (by rw [List.size_toArray, <- hl]; exact h4) (by rw [hk]; exact ⟨_, I', q⟩)
 ·have hk : (k + (ai.toArray.size : Int)).toNat = j := by
   rw [seqIndex_neg (by omega) h3] at h1
   rw [List.size_toArray, <- hl]
   exact Option.some.inj h1
  exact PySem.W.ki_setBack ho (by omega) (by rw [List.size_toArray, <- hl]; exact h3) (by omega) (by rw [hk]; exact ⟨_, I', q⟩)
theorem FI (lo hi : Option Int) (n : Nat) : (sliceBounds lo hi none n).1 = ((HT.aT n 0 lo : Nat) : Int) /\ (sliceBounds lo hi none n).2.1 = ((HT.aT n n hi : Nat) : Int) /\ (sliceBounds lo hi none n).2.2 = 1 := by
 refine ⟨?_, ?_, rfl⟩
 ·cases lo with
  | none => simp [sliceBounds, HT.aT]
  | some i =>
   simp only [sliceBounds, HT.aT, Option.getD_none, show (1 : Int) > 0 by decide, if_true]
   by_cases h : i < 0
   ·simp only [h, if_true] <;> omega
   ·simp only [h, if_false] <;> omega
 ·cases hi with
  | none => simp [sliceBounds, HT.aT]
  | some i =>
   simp only [sliceBounds, HT.aT, Option.getD_none, show (1 : Int) > 0 by decide, if_true]
   by_cases h : i < 0
   ·simp only [h, if_true] <;> omega
   ·simp only [h, if_false] <;> omega
theorem FK (ai : List Value) (lo hi : Option Int) : slicePick ai.toArray lo hi none = ((ai.drop (HT.aT ai.length 0 lo)).take (HT.aT ai.length ai.length hi - HT.aT ai.length 0 lo)).toArray := by
 obtain ⟨h1, h2, h3⟩ := FI lo hi ai.toArray.size
 unfold slicePick
 rw [h1, h2, h3]
 simp only [sliceRange_one, pick_run, List.size_toArray] <;> rfl
def rC (K : PySem.W.Frag) : V -> Option Int -> Option Int -> Hp -> VK -> Prop := fun x lo hi H Q => ∃ a xs, x = .ref a /\ ao K H a xs /\ ∀ p, H p = none -> Q (.ref p) (upd H p (.lst (dI xs lo hi)))
theorem pA : my X (rC X.K) := by
 intro pins s σ H x v vl vu lo hi sl Q I rx hs pl pu h
 obtain ⟨a, xs, rfl, hx, q⟩ := h
 cases rx
 obtain ⟨ai, r, ht, hz⟩ := I.list hx
 have hlen := r.length
 refine ⟨"list", _, slot_list_getitem.lookup, ht.isList.typeIs, ?_⟩
 refine wpAny_getItem_list_slice ht.isList hs pl pu .none (by simp) ?_ (by rw [List.size_toArray] <;> omega)
 rw [FK, <- hlen]
 refine ⟨.ref s.heap.objs.size, _, I.laid (t' := s.toks) (o := .lst (dI xs lo hi)) (fun b ob q => Heap.get?_push_of_some _ q) (Nat.le_refl _) ?_, rfl, q _ (I.aC.fresh (Nat.le_refl _))⟩
 exact ⟨Nat.le_trans (yV xs lo hi) hz, _, 0, (r.drop (HT.aT xs.length 0 lo)).take (HT.aT xs.length xs.length hi - HT.aT xs.length 0 lo), Heap.get?_push_size _ rfl⟩
theorem FL : da X (.type "list") (fun xs H Q => ∃ p ys, xs = [.ref p] /\ (ao X.K H p ys ∨ ay X.K H p ys) /\ ∀ l, H l = none -> Q (.ref l) (upd H l (.lst ys))) := by
 intro pins s σ H xs us Q I r h
 obtain ⟨p, ys, rfl, hq, q⟩ := h
 obtain ⟨u, rfl, rx⟩ := vals1 r
 cases rx
 have fin : ∀ (ai : List Value), Vals ys ai -> ys.length <= sizeLine -> ∀ (h' : Heap) (c' : Nat), (∀ b o', s.heap.get? b = some o' -> h'.get? b = some o') ->
  h'.get? s.heap.objs.size = some { cls := .type "list", dict := none, data := .seq ai.toArray c', slots := #[] } -> EP X pins σ Q (.ref s.heap.objs.size) { s with heap := h' } := fun ai r' hz h' c' kp e =>
  ⟨.ref s.heap.objs.size, _, I.laid (t' := s.toks) kp (Nat.le_refl _) (show cK X.prog X.w _ h' _ (.lst ys) from ⟨hz, ai, c', r', e⟩), rfl, q _ (I.aC.fresh (Nat.le_refl _))⟩
 rcases hq with hq | hq
 ·obtain ⟨ai, r', pl, hz⟩ := I.list hq
  have hlen := r'.length
  obtain ⟨o, ho, hc, n, hd⟩ := pl.isList
  exact call_list_seq p (.inl rfl) ho hc hd (fun h' c' kp e => fin ai r' hz h' c' kp e) (by simp only [List.size_toArray] <;> omega)
 ·obtain ⟨ai, r', pl, hz⟩ := I.tuple hq
  have hlen := r'.length
  obtain ⟨o, ho, hc, n, hd⟩ := pl
  exact call_list_seq p (.inr rfl) ho hc hd (fun h' c' kp e => fin ai r' hz h' c' kp e) (by simp only [List.size_toArray] <;> omega)
def pB (K : PySem.W.Frag) (T : String) (x : V) (H : Hp) : Prop := match x with
 | .str _ => T = "str"
 | .int _ => T = "int"
 | .ref p => (T = "list" /\ ∃ xs, ao K H p xs) ∨ (T = "tuple" /\ ∃ o, K.lookup p = some o /\ o.cls = .type "tuple" /\ o.dict = none) ∨
  (T = "dict" /\ ((∃ kvs, H p = some (.dK kvs)) ∨ ∃ kvs, H p = some (.dT kvs))) ∨ (T = "set" /\ ∃ S n, H p = some (.set S n))
 | _ => False
theorem FN {pins : List (Addr × Obj)} {σ : St} {H : Hp} {s : Shared} {T : String} {x : V} {v : Value} (I : Inv X pins σ H s) (r : RelV x v) (ty : pB X.K T x H) :
 s.TypeIs v T /\ ∀ a, v = .ref a -> ∃ ob, s.heap.get? a = some ob /\ ob.dict = none := by
 cases x with
 | str z =>
  obtain ⟨t, rfl⟩ := r
  cases (show T = "str" from ty)
  exact ⟨typeIs_str s z t, fun _ e => nomatch e⟩
 | int i =>
  obtain ⟨t, rfl⟩ := r
  cases (show T = "int" from ty)
  exact ⟨typeIs_int s i t, fun _ e => nomatch e⟩
 | ref p =>
  cases r
  rcases ty with ⟨rfl, xs, hq⟩ | ⟨rfl, o, hk, hc, hd⟩ | ⟨rfl, hk⟩ | ⟨rfl, S, n, hk⟩
  ·obtain ⟨ai, _, pl, _⟩ := I.list hq
   refine ⟨pl.isList.typeIs, fun a e => ?_⟩
   cases e
   obtain ⟨o, n, e, c, hd, _⟩ := pl
   exact ⟨o, e, hd⟩
  ·refine ⟨⟨o, I.bQ p o hk, hc⟩, fun a e => ?_⟩
   cases e
   exact ⟨o, I.bQ _ o hk, hd⟩
  ·have z : ∃ o, s.heap.get? p = some o /\ o.ExactDict := by
    rcases hk with ⟨kvs, hk⟩ | ⟨kvs, hk⟩
    ·obtain ⟨_, _, _, _, o, _, _, e, ex, _⟩ := I.aC p _ hk
     exact ⟨o, e, ex⟩
    ·obtain ⟨_, _, _, _, o, _, _, e, ex, _⟩ := I.aC p _ hk
     exact ⟨o, e, ex⟩
   obtain ⟨o, e, ex⟩ := z
   refine ⟨⟨o, e, ex.1⟩, fun a e2 => ?_⟩
   cases e2
   exact ⟨o, e, ex.2.1⟩
  ·obtain ⟨o, _, _, _, e, ex, _⟩ := I.aC p _ hk
   refine ⟨⟨o, e, ex.1⟩, fun a e2 => ?_⟩
   cases e2
   exact ⟨o, e, ex.2.1⟩
 | _ => exact False.elim ty
def FP (K : PySem.W.Frag) (T : String) (r : V -> List V -> Hp -> VK -> Prop) (to : TE) : TE := fun σ H Q => to σ H fun x H1 => pB K T x H1 /\ r x [] H1 Q
def ze (K : PySem.W.Frag) (T : String) (r : V -> List V -> Hp -> VK -> Prop) (to : TE) (t : TA) : TE := fun σ H Q => to σ H fun x H1 => pB K T x H1 /\ t σ H1 fun xs H2 => r x xs H2 Q
variable {o e : Expr} {es : List Expr} {to : TE} {t : TA} {name : Str} {apos eu : Pos} {T id : String} {r : V -> List V -> Hp -> VK -> Prop}
theorem fu (pa : PlainAttrs T) (slot : Slot T name id) (rD : typeOf (.builtin id) = pure (.type "method_descriptor")) (hm : pz X id r) (ho : PE X o to) (ha : PA X (e :: es) t)
 (FQ : attributeBase o name X.env (eval o X.env) = eval o X.env := by rfl)
 (FR : ((backTo eu (starEach (e :: es) X.env)).all (fun x => !x.1) && (backToKw eu (keywordEach [] X.env)).all (fun x => x.1.isSome)
   && decide ((e :: es).length + ([] : List Keyword).length + (if ([] : List Keyword).isEmpty then 0 else 1) < 30)) = true := by rfl)
 (FT : (apos.endLine == eu.line) = true := by rfl) (hs : starEach (e :: es) X.env = (false, eval e X.env) :: starEach es X.env := by rfl) (FU : (backTo eu (starEach es X.env)).any (·.1) = false := by rfl) :
 PE X (.Call (.Attribute o name apos) (e :: es) [] eu) (ze X.K T r to t) := by
 intro pins s σ H Q I h
 refine wpAny_Call_method_late FQ FR FT rfl (aB (ho pins s σ H _ I h) fun v s1 ⟨x, H1, I1, r1, ty, q1⟩ => ?_)
 obtain ⟨h1, h2⟩ := FN I1 r1 ty
 refine ⟨T, id, pa, slot, rD, h1, h2, ?_⟩
 have hA := ha eu pins s1 σ H1 _ I1 q1
 rw [hs] at hA ⊢
 refine Calls.callWith_builtin (by show (false || (backTo eu (starEach es X.env)).any (·.1)) = false; rw [FU] <;> rfl) (Calls.evalArgs_plain ?_)
 exact aB hA fun us s2 ⟨vs, H2, I2, r2, q2⟩ => hm pins s2 σ H2 x vs v us Q I2 r1 r2 q2
end
end L2
namespace L2
open PySem PySem.Spec PyProof.Rows
def zf (X : Cx) (id : String) (r : V -> List V -> Hp -> VK -> Prop) : Prop :=
 ∀ (pins : List (Addr × Obj)) (s : Shared) (σ : St) (H : Hp) (x : V) (xs : List V) (v : Value) (us : List Value) (Q : VK), Inv X pins σ H s -> RelV x v -> Vals xs us -> r x xs H Q ->
  wpAny (model X.prog X.w) X.A (call (.builtin id) (v :: us)) (EP X pins σ Q) X.xe s
theorem Vals.one : ∀ {x : V} {us : List Value}, Vals [x] us -> ∃ u, us = [u] /\ RelV x u
 | _, _, .cons r .nil => ⟨_, rfl, r⟩
theorem Vals.zero : ∀ {us : List Value}, Vals [] us -> us = []
 | _, .nil => rfl
theorem Vals.reverse {xs : List V} {us : List Value} (h : Vals xs us) : Vals xs.reverse us.reverse := by
 induction h with
 | nil => exact .nil
 | cons r t ih => rw [List.reverse_cons, List.reverse_cons]; exact Vals.append ih (.cons r .nil)
section
variable {X : Cx} {pins : List (Addr × Obj)} {σ : St} {H : Hp} {s : Shared} {l b : Addr} {xs ys zs : List V}
theorem Inv.zg {ai its' : List Value} {n : Nat} {f : Array Value -> Array Value} {t' : Nat} (I : Inv X pins σ H s) (hH : H l = some (.lst xs))
 (e : s.heap.get? l = some { cls := .type "list", data := .seq ai.toArray n }) (hf : f ai.toArray = its'.toArray) (hv : Vals ys its') (hz : ys.length <= sizeLine) :
 Inv X pins σ (upd H l (.lst ys)) { s with heap := s.heap.update l (Obj.mapSeq f), toks := t' } := by
 have q := PySem.IsL.update e f
 rw [hf] at q
 refine I.write (x := l) (e := l) (by rw [hH]; exact trivial) (.inl rfl) (fun b' u hb hu => (Heap.get?_update_other s.heap (Obj.mapSeq f) (Ne.symm hb)).trans hu) ⟨_, q⟩ ?_
 exact ⟨hz, its', _, hv, q⟩
theorem Inv.zh {ai : List Value} {t' : Nat} (I : Inv X pins σ H s) (hv : Vals ys ai) (hz : ys.length <= sizeLine) :
 Inv X pins σ (upd H s.heap.objs.size (.lst ys)) { s with heap := s.heap.push { cls := .type "list", data := .seq ai.toArray }, toks := t' } :=
 I.laid (fun _ _ q => Heap.get?_push_of_some _ q) (Nat.le_refl _) ⟨hz, ai, 0, hv, Heap.get?_push_size _ rfl⟩
theorem Inv.fresh (I : Inv X pins σ H s) : H s.heap.objs.size = none := I.aC.fresh (Nat.le_refl _)
theorem Inv.mB (I : Inv X pins σ H s) (hH : H l = some (.lst xs)) : xs.length <= sizeLine /\ ∃ (ai : List Value) (n : Nat), Vals xs ai /\ xs.length = ai.length /\ s.heap.get? l = some { cls := .type "list", data := .seq ai.toArray n } := by
 obtain ⟨z, ai, n, r, e⟩ := I.aC l _ hH
 exact ⟨z, ai, n, r, r.length, e⟩
theorem FV {n : Nat} (h : n <= sizeLine) : Builtin.List.listTooLong n = false := by
 unfold Builtin.List.listTooLong
 exact decide_eq_false (by omega)
end
section
variable {X : Cx}
def zi : V -> List V -> Hp -> VK -> Prop := fun x vs H Q => ∃ l xs y, x = .ref l /\ vs = [y] /\ H l = some (.lst xs) /\ xs.length < sizeLine /\ Q .non (upd H l (.lst (xs ++ [y])))
theorem mC : zf X "list.append" zi := by
 intro pins s σ H x vs v us Q I rx rv h
 obtain ⟨l, xs, y, rfl, rfl, hH, hz, q⟩ := h
 cases rx
 obtain ⟨u, rfl, ru⟩ := rv.one
 obtain ⟨z, ai, n, r, hl, e⟩ := I.mB hH
 refine call_meets F.slot_list_append ⟨_, e, rfl⟩ F.entry_list_append (F.args_list_append_2 _ _) (PySem.list_append l ai.toArray n u (by rw [List.size_toArray]; omega)) ⟨e, ?_⟩
 refine ⟨.non, _, I.zg (its' := ai ++ [u]) hH e (by simp) (r.append (.cons ru .nil)) ?_, rfl, q⟩
 rw [List.length_append, List.length_singleton]
 omega
def FW : V -> List V -> Hp -> VK -> Prop := fun x vs H Q => ∃ l b xs zs, x = .ref l /\ vs = [.ref b] /\ H l = some (.lst xs) /\ H b = some (.lst zs) /\ xs.length + zs.length <= sizeLine /\ Q .non (upd H l (.lst (xs ++ zs)))
theorem rE : zf X "list.extend" FW := by
 intro pins s σ H x vs v us Q I rx rv h
 obtain ⟨l, b, xs, zs, rfl, rfl, hH, hB, hz, q⟩ := h
 cases rx
 obtain ⟨u, rfl, ru⟩ := rv.one
 cases ru
 obtain ⟨z, ai, n, r, hl, e⟩ := I.mB hH
 obtain ⟨z2, jB, n2, r2, aZ, e2⟩ := I.mB hB
 have mm : ai.toArray.size + jB.toArray.size <= sizeLine := by rw [List.size_toArray, List.size_toArray]; omega
 have FX : ¬ (!ai.toArray.isEmpty && Builtin.List.listTooLong (ai.toArray.size + jB.toArray.size)) = true := by
  rw [FV mm, Bool.and_false]
  exact Bool.false_ne_true
 refine call_meets F.slot_list_extend ⟨_, e, rfl⟩ F.entry_list_extend (F.args_list_extend_2 _ _)
  (AutoSeq1.list_extend_list_list_0 l ai.toArray n b jB.toArray n2 FX (by rw [List.size_toArray]; omega) (by omega)) ⟨e, e2, ?_⟩
 refine ⟨.non, _, I.zg (its' := ai ++ jB) hH e (by simp) (r.append r2) ?_, rfl, q⟩
 rw [List.length_append]
 omega
def zj : R2 := fun x y H Q => ∃ l b xs zs, x = .ref l /\ y = .ref b /\ H l = some (.lst xs) /\ H b = some (.lst zs) /\ xs.length + zs.length <= sizeLine /\ ∀ p, H p = none -> Q (.ref p) (upd H p (.lst (xs ++ zs)))
theorem gE : bf X (binaryOp .Add) zj := by
 intro pins s σ H x y v u Q I rx ry h
 obtain ⟨l, b, xs, zs, rfl, rfl, hH, hB, hz, q⟩ := h
 cases rx
 cases ry
 obtain ⟨z, ai, n, r, hl, e⟩ := I.mB hH
 obtain ⟨z2, jB, n2, r2, aZ, e2⟩ := I.mB hB
 refine PySem.P.add_list e e2 ?_ (by rw [List.size_toArray, List.size_toArray]; omega)
 have ea : ai.toArray ++ jB.toArray = (ai ++ jB).toArray := by simp
 rw [ea]
 exact ⟨.ref _, _, I.zh (t' := s.toks) (r.append r2) (by rw [List.length_append]; omega), rfl, q _ I.fresh⟩
end
section
variable {prog : Program} {w : World} {A : Around} {E : Value -> Shared -> Prop} {s : Shared}
set_option maxRecDepth 100000 in
end
section
variable {X : Cx}
end
end L2
namespace rF
open PySem PySem.W PySem.Calls PyProof.Rows
theorem FY {P : Params} {h : Heap} : ∀ (ns : List Int) (vs : List Value), WellAll P h vs (ns.map WData.int) -> IntsAre vs ns := by
 intro ns
 induction ns with
 | nil =>
  intro vs w
  rw [List.map_nil] at w
  cases w
  exact .nil
 | cons n ns ih =>
  intro vs w
  rw [List.map_cons] at w
  cases w with
  | cons a b =>
   cases a
   exact .cons _ _ (ih _ b)
theorem FZ {l : OpenLaw} {n : Nat} (hn : l.most = some n) {P : Params} {h : Heap} {args : List WData} {vals : List Value}
 (zk : l.row.toRowW.claim.pre args = true) (F0 : WellAll P h vals args) :
 ∃ a vs ns, vals = [Value.ref a] /\ args = [WData.list (ns.map WData.int)] /\ h.get? a = some { cls := .type "list", data := .seq vs.toArray } /\ IntsAre vs ns /\ ns.length <= n := by
 have F1 : WShape.hasAll [] args [.list .int] = true := (pre_splitW zk).1
 have hc : l.pre.holds [] { args := args } = true := (pre_splitW zk).2
 obtain ⟨d, r, rfl, h1, h2⟩ := hasAllW_cons F1
 obtain rfl := hasAllW_nil h2
 obtain ⟨xs, rfl, h3⟩ := hasW_list h1
 obtain ⟨ns, rfl⟩ := items_int h3
 have hlen : ns.length <= n := by
  unfold OpenLaw.pre at hc
  have h4 : (WTm.not (.lt (.lit (.int (n : Int))) (.len (.arg 0)))).holds [] { args := [.list (ns.map .int)] } = true := by
   have h4 := (holds_andW hc).1
   rw [hn] at h4
   exact h4
  have h5 := condW_of h4 (w_not (w_lt w_lit (w_len_list (w_arg rfl))))
  rw [List.length_map] at h5
  refine Nat.le_of_not_lt fun q => ?_
  have q' : (n : Int) < ((ns.length : Nat) : Int) := by omega
  first
   | (rw [decide_eq_true q'] at h5; exact absurd h5 (by decide))
   | (simp at h5; omega)
 cases F0 with
 | cons w1 w2 =>
  cases w2
  cases w1 with
  | list ho hall => exact ⟨_, _, ns, rfl, rfl, ho, FY ns _ hall, hlen⟩
theorem F2 (l : OpenLaw) (args : List WData) : l.row.toRowW.claim.post args (.bool true) args = true :=
 postW_of (r := l.row.toRowW) (X := (true == true))
  (show WShape.has [] (.bool true) .bool = true by first | rfl | decide | simp [WShape.has, WShape.arms, WShape.armsAll])
  (show (WTm.eq .res (.lit (.bool true))).value [] { args := args, res := some (.bool true), after := args } = some (.bool (true == true)) from w_eq_bool (w_res rfl) w_lit) rfl
section
variable {prog : Program} {w : World} {A : Around} {E : Value -> Shared -> Prop} {s : Shared} {K : Frag}
end
end rF
namespace L2
open PySem PySem.Spec PyProof.Rows
theorem rG : ∀ {vs : List Value} {ns : List Int}, IntsAre vs ns -> Vals (ns.map V.int) vs
 | _, _, .nil => .nil
 | _, _, .cons n t h => .cons ⟨t, rfl⟩ (rG h)
def zm (H : Hp) : Prop := ∀ b, H b = none ∨ ∃ o xs, H b = some (.cY o (.lst xs))
theorem F3 {P : Program} {w : World} {K : PySem.W.Frag} {mg mb : Str -> Option Value} {CX : cF} {k : Nat} {fa a : Addr} {fd : FuncData} {x : Str} {sp : Sp} {s₁ : Shared} {vs : List Value} {ns : List Int}
 (KX : K.In s₁.heap) (jC : s₁.heap.Ns mainGlobals mg) (hb : s₁.heap.Ns builtinsNs mb) (F4 : ∀ x : Str, x ≠ "__name__" -> mb x = bootBuiltins x) (F5 : s₁.heap.NoLimit) (hg : s₁.gens = #[])
 (ha : s₁.heap.get? a = some { cls := .type "list", data := .seq vs.toArray }) (hi : IntsAre vs ns) (hl : ns.length <= sizeLine) (hr : aR k callerA)
 (F : ∀ base : Heap, K.In base -> base.Ns mainGlobals mg -> bW P w K mg base CX k fa fd [x] sp) (F6 : ∀ (s : Shared) (u : Value), BindsTo s fd ⟨[u], []⟩ [(x, u)])
 (gC : ∀ H : Hp, zm H -> ao K H a (ns.map V.int) -> sp [.ref a] H (fun v _ => v = .bl true) fun _ _ _ => False)
 (F7 : ∀ H e s', CX [] H s₁ (fun _ _ _ => False) e s' -> False) :
 codeAny (model P w) callerA (.call (.ref fa) ⟨[.ref a], []⟩) (fun r s' => r = .ok (.ret (.bool true)) /\ OldK s₁.heap s'.heap /\ s'.os = s₁.os /\ AllBare s'.gens) s₁ := by
 have rv := rG hi
 have F8 := hi.length
 have core : ∀ H : Hp, zm H -> ao K H a (ns.map V.int) -> cp P w H s₁.heap -> (∀ b, H b ≠ none -> b = a) -> (H a ≠ none -> K.lookup a = none) ->
  codeAny (model P w) callerA (.call (.ref fa) ⟨[.ref a], []⟩) (fun r s' => r = .ok (.ret (.bool true)) /\ OldK s₁.heap s'.heap /\ s'.os = s₁.os /\ AllBare s'.gens) s₁ := by
  intro H hO hS aC hA hK
  have zo : ∀ {b : Addr} {o : Obj}, s₁.heap.get? b = some o -> H b = none -> (gW s₁.heap H).get? b = some o := fun e n => Eb e n
  have jy : ∀ {b : Addr} {o : Obj} {es : Array DictEntry} {ep : Nat}, s₁.heap.get? b = some o -> o.data = .dict es ep -> H b = none := fun {b o es ep} e d => by
   cases q : H b with
   | none => rfl
   | some u =>
    have e' : b = a := hA b (by rw [q]; simp)
    subst e'
    rw [ha] at e; cases e
    have d' : Data.seq vs.toArray _ = Data.dict es ep := d
    cases d'
  have pC : ∀ {b : Addr} {m : Str -> Option Value}, s₁.heap.Ns b m -> (gW s₁.heap H).Ns b m := fun {b m} ⟨o, es, ep, e, d, r⟩ => ⟨o, es, ep, zo e (jy e d), d, r⟩
  have zp : K.In (gW s₁.heap H) := fun b o e => zo (KX b o e) (by
   cases q : H b with
   | none => rfl
   | some u =>
    have e' : b = a := hA b (by rw [q]; simp)
    subst e'
    rw [hK (by rw [q]; simp)] at e; cases e)
  have hM : Mod K mg (gW s₁.heap H) := ⟨zp, pC jC, ⟨mb, pC hb, F4⟩, let ⟨mc, h1, h2⟩ := F5; ⟨mc, pC h1, h2⟩⟩
  have e0 : jx P w K mg (gW s₁.heap H) callerA [] s₁ H := ⟨rfl, hM, fun b o e => Ec e, Nat.le_of_eq (Ea _ _), trivial, fun b hb => absurd (show b ∈ ([] : List Addr) from hb) (by simp), aC, .of_eq hg⟩
  refine codeAny_mono ((F _ zp (pC jC)).run callerA [] s₁ H ⟨[.ref a], []⟩ [.ref a] [.ref a] _ _ hr e0 (F6 s₁ (.ref a)) (.cons rfl .nil) (gC H hO hS)) fun r s' h => ?_
  cases r with
  | error e => exact (F7 H e s' h).elim
  | ok fl =>
   cases fl with
   | next => exact False.elim h
   | brk => exact False.elim h
   | cont => exact False.elim h
   | ret u =>
    obtain ⟨v, H', os, bare, un, F9, r', q⟩ := h
    have q' : v = .bl true := q
    subst q'
    obtain rfl : u = Value.bool true := r'
    refine ⟨rfl, OldK.of_keep fun b o e => ?_, os, bare⟩
    cases q : H b with
    | none => exact un.keep b o e q (by intro z; exact absurd (show b ∈ ([] : List Addr) from z) (by simp)) (by simp)
    | some u =>
     rcases hO b with z | ⟨ob, xs, z⟩
     ·rw [q] at z; cases z
     ·have z2 := un.dH b ob _ z
      obtain ⟨e1, _⟩ := aC b _ z
      obtain ⟨e2, _⟩ := F9 b _ z2
      rw [e] at e1; cases e1
      exact e2
 cases hk : K.lookup a with
 | some o =>
  have e := KX a o hk
  rw [ha] at e
  cases e
  refine core (fun _ => none) (fun _ => .inl rfl) (.inr ⟨_, vs.toArray, _, hk, rfl, rfl, rfl, by rw [List.size_toArray, F8]; exact hl, by simpa using rv⟩) (fun b u z => by have z' : (none : Option HO) = some u := z; cases z') (fun b z => absurd rfl z) fun z => absurd rfl z
 | none =>
  refine core (fun b => if b = a then some (.cY { cls := .type "list", data := .seq vs.toArray } (.lst (ns.map V.int))) else none) (fun b => ?_) (.inl (.inr ⟨{ cls := .type "list", data := .seq vs.toArray }, if_pos rfl⟩)) (fun b u z => ?_) (fun b z => ?_) fun _ => hk
  ·by_cases hb : b = a
   ·exact .inr ⟨_, _, if_pos hb⟩
   ·exact .inl (if_neg hb)
  ·by_cases hb : b = a
   ·have z' := (if_pos hb).symm.trans z
    cases z'
    subst hb
    exact ⟨ha, by rw [List.length_map]; exact hl, vs, _, rv, ha⟩
   ·have z' := (if_neg hb).symm.trans z
    cases z'
  ·by_cases hb : b = a
   ·exact hb
   ·exact absurd (if_neg hb) z
end L2
namespace L2
open PySem PySem.Spec PyProof.Rows
end L2
namespace L2
open PySem PySem.Spec PyProof.Rows
def inClass (s : Stmt) (j : Nat) : Stmt := match s with
 | .ClassDef _ _ _ body _ _ _ _ _ _ _ => body.getD j (.Pass ⟨0, 0, 0, 0⟩)
 | _ => .Pass ⟨0, 0, 0, 0⟩
noncomputable def jD (s : Stmt) : Arguments := match s with
 | .FunctionDef _ a _ _ _ _ _ _ _ _ => a
 | _ => { posonlyargs := [], args := [], vararg := none, kwonlyargs := [], kw_defaults := [], kwarg := none, defaults := [] }
noncomputable def ez (s : Stmt) : List Stmt := match s with
 | .FunctionDef _ _ b _ _ _ _ _ _ _ => b
 | _ => []
noncomputable def cq (s : Stmt) : Scope := match s with
 | .FunctionDef _ _ _ _ _ _ sc _ _ _ => sc
 | _ => { kind := .function, names := [], isGenerator := false, isCoroutine := false }
abbrev zq : cF := fun _ _ _ _ _ _ => False
abbrev E0 : XK := fun _ _ _ => False
structure gF (K : PySem.W.Frag) (x qual : Str) (st : Stmt) (f : Addr) (fd : FuncData) : Prop where
 ex : ∃ (oc : Value) (od : Option Addr) (kV doc pm : Value) (an : Option Addr) (ba ct : Value) (fN : Array (Option Value)),
  fd = PySem.W.fnOf x qual (jD st) (ez st) (cq st) .none kV doc pm an ba ct /\ K.lookup f = some ⟨oc, od, .func fd, fN⟩ /\ PySem.W.codeIn K ba qual = true
 kp : PySem.W.keepIn K (.ref f) = true
section
variable {P : Program} {w : World} {K : PySem.W.Frag} {mg : Str -> Option Value} {base : Heap}
theorem gF.ok {x qual : Str} {st : Stmt} {f : Addr} {fd : FuncData} {N ps : List Str} {k : Nat} {sp : Sp} (F : gF K x qual st f fd) (S : kK N ps (cq st)) (len : ∀ vs H Q E, sp vs H Q E -> vs.length = ps.length)
 (dX : ∀ (ba : Value) (A : Around) (outer : List Env) (s : Shared) (H : Hp) (vs : List V) (Q : VK) (E : XK), aR k (A.deeper (envOfC qual (cq st) s.heap.objs.size f ba)) -> sp vs H Q E ->
   ∃ t, aV (de zq P w K mg base N qual (cq st) f ba A outer s H E).ft (ez st) t /\ t { nx := fun _ H' => Q .non H', rt := Q } (start N vs) H) : bW P w K mg base zq (k + 1) f fd ps sp := by
 obtain ⟨oc, od, kV, doc, pm, an, ba, ct, fN, rfl, lk, dS⟩ := F.ex
 refine rn lk dS S len fun A outer s H vs Q E hr gC => ?_
 obtain ⟨t, h, q⟩ := dX ba A outer s H vs Q E hr gC
 exact ⟨t, h.ft, q⟩
theorem gF.binds {x qual : Str} {st : Stmt} {f : Addr} {fd : FuncData} {ps : List Str} (F : gF K x qual st f fd)
 (h : ∀ (kV doc pm : Value) (an : Option Addr) (ba ct : Value) (us : List Value), us.length = ps.length -> bindArgs (PySem.W.fnOf x qual (jD st) (ez st) (cq st) .none kV doc pm an ba ct) ⟨us, []⟩ = pure (ps.zip us)) : Binds K fd ps [] := by
 obtain ⟨oc, od, kV, doc, pm, an, ba, ct, fN, rfl, lk, dS⟩ := F.ex
 exact .all (h kV doc pm an ba ct)
theorem g8 {x qual : Str} {st : Stmt} {f : Addr} {oc : Value} {od an : Option Addr} {fN : Array (Option Value)} {kV doc pm ba ct : Value} (l : K.lookup f = some ⟨oc, od, .func (PySem.W.fnOf x qual (jD st) (ez st) (cq st) .none kV doc pm an ba ct), fN⟩)
 (c : PySem.W.codeIn K ba qual = true) (k : PySem.W.keepIn K (.ref f) = true) : gF K x qual st f (PySem.W.fnOf x qual (jD st) (ez st) (cq st) .none kV doc pm an ba ct) := ⟨⟨oc, od, kV, doc, pm, an, ba, ct, fN, rfl, l, c⟩, k⟩
end
section
variable {X : Cx}
theorem pv (i : Nat) {x : Str} {pos : Pos} (hN : X.N[i]? = some x := by rfl) (hv : oO X.env.scope x := by first | exact Or.inl rfl | exact Or.inr (Or.inl rfl) | exact Or.inr (Or.inr rfl)) (hd : (x == ("__debug__" : Str)) = false := by decide)
 (dS : (x == ("__classdict__" : Str)) = false := by decide) : PE X (.Name x pos) (qL i) := Ej hN hv hd dS
end
def ah (H H' : Hp) : Prop := ∀ b o, H b = some o -> H' b = some o
theorem ah.refl (H : Hp) : ah H H := fun _ _ h => h
theorem ah.trans {H H1 H2 : Hp} (a : ah H H1) (b : ah H1 H2) : ah H H2 := fun c o h => b c o (a c o h)
theorem ah.free {H H' : Hp} (e : ah H H') {l : Addr} (h : H' l = Option.none) : H l = Option.none := by
 cases q : H l with
 | none => rfl
 | some o =>
  rw [e l o q] at h
  cases h
theorem ah.seq {K : PySem.W.Frag} {H H' : Hp} {a : Addr} {xs : List V} (e : ah H H') (h : ao K H a xs) : ao K H' a xs := by
 rcases h with (h | ⟨o, h⟩) | h
 ·exact .inl (.inl (e _ _ h))
 ·exact .inl (.inr ⟨o, e _ _ h⟩)
 ·exact .inr h
end L2
namespace Gz
open PySem PySem.Spec PyProof.Rows L2
def Bd (n : Nat) (x : Int) : Prop := x.natAbs < 2 ^ n
theorem Bd.of {n : Nat} {x : Int} (h1 : -((2 ^ n : Nat) : Int) < x) (h2 : x < ((2 ^ n : Nat) : Int)) : Bd n x := by
 unfold Bd; lia
theorem Bd.up {n m : Nat} {x : Int} (h : Bd n x) (hm : n <= m) : Bd m x := Nat.lt_of_lt_of_le h (Nat.pow_le_pow_right (by decide) hm)
theorem Bd.bits {n : Nat} {x : Int} (h : Bd n x) : Builtin.Int.intBits x <= n := by
 unfold Builtin.Int.intBits
 by_cases e : x = 0
 ·subst e; simp
 ·have e0 : ¬ ((x == 0) = true) := by simpa using e
  rw [if_neg e0]
  have hn : x.natAbs ≠ 0 := by lia
  have := (Nat.log2_lt hn).mpr h
  lia
theorem Bd.log {n : Nat} {x : Int} (h : Bd n x) (hn : n <= 9000) (h0 : 0 < n) : x.natAbs.log2 < 9000 := by
 by_cases e : x.natAbs = 0
 ·rw [e]; decide
 ·have := (Nat.log2_lt e).mpr h
  lia
def mD (i j : Int) : Prop := Bd 4000 i /\ Bd 4000 j
theorem mD.ok {i j : Int} (h : mD i j) : IntMulOk i j :=
 IntMulOk.of_bits (Nat.le_trans h.1.bits (by decide)) (Nat.le_trans h.2.bits (by decide))
section
variable {X : Cx}
theorem Ga : bf X (binaryOp .Mult) (rI mD fun i j => .int (i * j)) := mi fun _ _ _ _ _ _ _ hc q => mul_int q hc.ok
theorem zr : bf X (binaryOp .FloorDiv) (rI (fun _ j => 0 < j /\ Bd 4000 j) fun i j => .int (i / j)) := mi fun i j _ _ _ _ _ hc q => by
 have h1 : (0 : Int) < j := hc.1
 exact floordiv_int (by lia) (by rw [Int.fdiv_eq_ediv_of_nonneg i (by lia)]; exact q) (.inl (PyProof.noPylong_of_log2 (hc.2.log (by decide) (by decide))))
noncomputable def mE : V -> Value
 | .ref a => .ref a
 | .ty n => .type n
 | _ => .none
theorem Gb : da X (.builtin "isinstance") (fun xs H Q => ∃ x c t b, xs = [x, c] /\ bR X.K H x t /\ mE c ≠ .none /\ PySem.W.kitOne X.K t (mE c) = some b /\ Q (.bl b) H) := by
 intro pins s σ H xs us Q I r h
 obtain ⟨x, c, t, b, rfl, ty, hc, e, q⟩ := h
 obtain ⟨u, v, rfl, rx, rc⟩ := vals2 r
 have ev : v = mE c := by
  cases c with
  | ref a => exact rc
  | ty n => exact rc
  | non => exact absurd rfl hc
  | bl _ => exact absurd rfl hc
  | int _ => exact absurd rfl hc
  | str _ => exact absurd rfl hc
  | byt _ => exact absurd rfl hc
  | flt _ => exact absurd rfl hc
 subst ev
 exact Ff I rx ty e fun tk => ⟨.bl b, H, I.tok tk, rfl, q⟩
end
theorem rH {K : PySem.W.Frag} {t : Value} : PySem.W.kitOne K t t = some true := by
 unfold PySem.W.kitOne
 rw [if_pos (by simp)]
theorem pE {K : PySem.W.Frag} {a c : String} {b : Bool} (h : PySem.W.kitMeta c = true) (h2 : (PySem.fastBuiltinMro a).map (·.contains (.type c)) = some b) (h3 : (a == c) = false) : PySem.W.kitOne K (.type a) (.type c) = some b := by
 unfold PySem.W.kitOne
 have e : ¬ ((Value.type a == Value.type c) = true) := by
  simp only [beq_iff_eq, Value.type.injEq]
  simpa using h3
 rw [if_neg e]
 show (if PySem.W.kitMeta c = true then PySem.W.subIn K (.type a) (.type c) else none) = some b
 rw [if_pos h]
 exact h2
theorem Ge {K : PySem.W.Frag} : PySem.W.kitOne K (.type "int") (.type "bool") = some false := pE (by decide +kernel) (by decide +kernel) (by decide)
theorem Gf {K : PySem.W.Frag} : PySem.W.kitOne K (.type "bool") (.type "int") = some true := pE (by decide +kernel) (by decide +kernel) (by decide)
theorem Gg {K : PySem.W.Frag} : PySem.W.kitOne K (.type "NoneType") (.type "int") = some false := pE (by decide +kernel) (by decide +kernel) (by decide)
theorem Gh {K : PySem.W.Frag} : PySem.W.kitOne K (.type "NoneType") (.type "tuple") = some false := pE (by decide +kernel) (by decide +kernel) (by decide)
theorem dw : bootBuiltins "len" = some (.builtin "len") := by decide +kernel
theorem rJ : bootBuiltins "min" = some (.builtin "min") := by decide +kernel
theorem kO : bootBuiltins "max" = some (.builtin "max") := by decide +kernel
theorem mF : bootBuiltins "isinstance" = some (.builtin "isinstance") := by decide +kernel
theorem zt : bootBuiltins "any" = some (.builtin "any") := by decide +kernel
theorem pF : bootBuiltins "all" = some (.builtin "all") := by decide +kernel
theorem mG : bootBuiltins "int" = some (.type "int") := by decide +kernel
theorem zu : bootBuiltins "bool" = some (.type "bool") := by decide +kernel
theorem Gi : bootBuiltins "str" = some (.type "str") := by decide +kernel
theorem Gj : bootBuiltins "list" = some (.type "list") := by decide +kernel
theorem Gk : bootBuiltins "tuple" = some (.type "tuple") := by decide +kernel
noncomputable def rK : V -> V -> Option Bool
 | .int _, .ty n => if n = "int" then some true else if n = "bool" then some false else none
 | .bl _, .ty n => if n = "int" then some true else if n = "bool" then some true else none
 | .non, .ty n => if n = "int" then some false else if n = "tuple" then some false else none
 | _, _ => none
def fP (K : PySem.W.Frag) (x c : V) (H : Hp) (Q : VK) : Prop := match rK x c with
 | some b => Q (.bl b) H
 | none => ∃ t b, bR K H x t /\ mE c ≠ .none /\ PySem.W.kitOne K t (mE c) = some b /\ Q (.bl b) H
section
variable {X : Cx}
theorem mH : da X (.builtin "isinstance") (fun xs H Q => ∃ x c, xs = [x, c] /\ fP X.K x c H Q) := by
 intro pins s σ H xs us Q I r h
 obtain ⟨x, c, rfl, h⟩ := h
 refine Gb pins s σ H _ us Q I r ?_
 cases e : rK x c with
 | none =>
  unfold fP at h
  rw [e] at h
  obtain ⟨t, b, h1, h2, h3, h4⟩ := h
  exact ⟨x, c, t, b, rfl, h1, h2, h3, h4⟩
 | some b =>
  unfold fP at h
  rw [e] at h
  unfold rK at e
  split at e
  ·rename_i i n
   split at e
   ·rename_i z; subst z; cases e
    exact ⟨_, _, _, _, rfl, bR.int i, (fun z => nomatch z), rH, h⟩
   ·split at e
    ·rename_i z; subst z; cases e
     exact ⟨_, _, _, _, rfl, bR.int i, (fun z => nomatch z), Ge, h⟩
    ·cases e
  ·rename_i i n
   split at e
   ·rename_i z; subst z; cases e
    exact ⟨_, _, _, _, rfl, bR.bl i, (fun z => nomatch z), Gf, h⟩
   ·split at e
    ·rename_i z; subst z; cases e
     exact ⟨_, _, _, _, rfl, bR.bl i, (fun z => nomatch z), rH, h⟩
    ·cases e
  ·rename_i n
   split at e
   ·rename_i z; subst z; cases e
    exact ⟨_, _, _, _, rfl, bR.non, (fun z => nomatch z), Gg, h⟩
   ·split at e
    ·rename_i z; subst z; cases e
     exact ⟨_, _, _, _, rfl, bR.non, (fun z => nomatch z), Gh, h⟩
    ·cases e
  ·cases e
end
section
variable {K : PySem.W.Frag} {H : Hp} {Q : VK} {i : Int} {b : Bool} {p : Addr} {xs : List V}
theorem Gm : fP K (.int i) (.ty "int") H Q = Q (.bl true) H := rfl
theorem Gq : fP K (.int i) (.ty "bool") H Q = Q (.bl false) H := rfl
theorem Gr : fP K (.bl b) (.ty "int") H Q = Q (.bl true) H := rfl
theorem Gs : fP K (.bl b) (.ty "bool") H Q = Q (.bl true) H := rfl
theorem Gu : fP K .non (.ty "int") H Q = Q (.bl false) H := rfl
theorem Gv : fP K .non (.ty "tuple") H Q = Q (.bl false) H := rfl
theorem Gw (h : H p = some (.tup xs)) (q : Q (.bl true) H) : fP K (.ref p) (.ty "tuple") H Q := ⟨_, _, bR.tup h, (fun z => nomatch z), rH, q⟩
end
end Gz
namespace Gz
open PySem PySem.Spec PyProof.Rows L2
def cL (P : Program) (w : World) : cF := fun outer H s E e s' =>
 ∃ (x : Addr) (cls a0 : Value) (H' : Hp) (B : Heap), e = .ref x /\ s'.os = s.os /\ AllBare s'.gens /\ Un (aX outer) [] H H' s.heap s'.heap /\
  (∀ b o, s.heap.get? b = some o -> H b = none -> b ∉ aX outer -> B.get? b = some o) /\ (∀ b o, s.heap.get? b = some o -> b ∉ aX outer -> ∃ o', B.get? b = some o') /\ cp P w H' B /\ H' x = none /\ s.heap.get? x = none /\
  Heap.FlyingW B outer x cls a0 s'.heap /\ E cls none H'
theorem dY {P : Program} {w : World} {X : Cx} : Passes (cL P w) X E0 := fun _ _ _ _ _ _ _ ⟨_, _, _, _, _, _, _, _, _, _, _, _, _, _, _, h⟩ => h.elim
theorem Gx {P : Program} {w : World} {outer : List Env} {H : Hp} {s s' : Shared} {e : Value} (h : cL P w outer H s (fun _ _ _ => False) e s') : False := by
 obtain ⟨_, _, _, _, _, _, _, _, _, _, _, _, _, _, _, h⟩ := h
 exact h
section
variable {P : Program} {w : World} {K : PySem.W.Frag} {mg : Str -> Option Value} {base : Heap}
theorem okN {x qual : Str} {st : Stmt} {f : Addr} {fd : FuncData} {N ps : List Str} {k : Nat} {sp : Sp} (F : gF K x qual st f fd) (S : kK N ps (cq st)) (len : ∀ vs H Q E, sp vs H Q E -> vs.length = ps.length)
 (dX : ∀ (ba : Value) (A : Around) (outer : List Env) (s : Shared) (H : Hp) (vs : List V) (Q : VK) (E : XK), aR k (A.deeper (envOfC qual (cq st) s.heap.objs.size f ba)) -> sp vs H Q E ->
   ∃ t, aV (de (cL P w) P w K mg base N qual (cq st) f ba A outer s H E).ft (ez st) t /\ t { nx := fun _ H' => Q .non H', rt := Q } (start N vs) H) : bW P w K mg base (cL P w) (k + 1) f fd ps sp := by
 obtain ⟨oc, od, kV, doc, pm, an, ba, ct, fN, rfl, lk, dS⟩ := F.ex
 refine rn lk dS S len fun A outer s H vs Q E hr gC => ?_
 obtain ⟨t, h, q⟩ := dX ba A outer s H vs Q E hr gC
 exact ⟨t, h.ft, q⟩
end
theorem Gy (a b : Int) : gY (.int a) (.int b) = true := rfl
theorem GA (a b : Bool) : gY (.bl a) (.bl b) = true := rfl
theorem GB (a : Int) : gY (.int a) .non = true := rfl
theorem GC (a : Int) : gY .non (.int a) = true := rfl
theorem GD : gY .non .non = true := rfl
theorem ite_tt {A B : Prop} : (if true = true then A else B) = A := if_pos rfl
theorem ite_ff {A B : Prop} : (if false = true then A else B) = B := if_neg Bool.false_ne_true
end Gz
namespace Gz
open PySem PySem.Spec PyProof.Rows L2
theorem GF {CX : cF} {P : Program} {w : World} {K : PySem.W.Frag} {mg : Str -> Option Value} {base : Heap} {N : List Str} {qual : Str} {scope : Scope} {f : Addr} {cd : Value} {A : Around} {outer : List Env} {s : Shared} {H : Hp} {E : XK} :
 (de CX P w K mg base N qual scope f cd A outer s H E).K = K := rfl
theorem GG {CX : cF} {P : Program} {w : World} {K : PySem.W.Frag} {mg : Str -> Option Value} {base : Heap} {N : List Str} {qual : Str} {scope : Scope} {f : Addr} {cd : Value} {A : Around} {outer : List Env} {s : Shared} {H : Hp} {E : XK} :
 (de CX P w K mg base N qual scope f cd A outer s H E).N = N := rfl
section
variable {K : PySem.W.Frag} {H H' : Hp} {a p : Addr} {xs ys : List V} {i : Int} {v : V} {Q : VK}
theorem ak {o : HO} (h : H p = none) : ah H (upd H p o) := fun b u e => by rw [aQ (jm e h)]; exact e
theorem aO (h : ay K H p xs) (e : cG xs i = some v) (q : Q v H) : jA K (.ref p) (.int i) H Q := .inr (.inl ⟨p, xs, i, v, rfl, rfl, h, e, q⟩)
theorem bK (h : ao K H p xs) (e : cG xs i = some v) (q : Q v H) : jA K (.ref p) (.int i) H Q := .inl ⟨p, xs, i, v, rfl, rfl, h, e, q⟩
theorem dZ (h : ao K H p xs) : yA K (.ref p) H xs.length := .inl ⟨xs, h, rfl⟩
end
noncomputable def isWhole : V -> Bool
 | .int _ => true
 | _ => false
end Gz
namespace Gz
open PySem PySem.Spec PyProof.Rows L2
def FJ (J : It) (g : TG) (tb : TS) (D : Ends) (σ : L2.St) (H : Hp) : Prop := ∃ W : Nat -> Nat -> L2.St -> Hp -> Prop, (∃ m, W 0 m σ H) /\ ∀ i m σ H, W i m σ H ->
 (J.stop i H /\ D.nx σ H) ∨ (J.go i H /\ ∃ N : L2.St -> Hp -> Prop, (∀ σ' H', N σ' H' -> ∃ m', m' < m /\ W (i + 1) m' σ' H') /\ ∀ x H', J.yld i H x H' -> g x σ H' fun σ2 H2 => tb { D with nx := N, ct := N, bk := D.nx } σ2 H2)
section
variable {K : PySem.W.Frag} {g : TG} {tb : TS} {D : Ends} {σ : L2.St} {H : Hp} {a : Addr} {xs : List V} {lo : Int} {n : Nat}
theorem GH {ta : TA} : gA (qT ta) g tb D σ H = ta σ H (fun vs H1 => ∃ j : Int, vs = [.int j] /\ -(2 ^ 62) <= j /\ j < 2 ^ 62 /\ FJ (fL 0 j.toNat) g tb D σ H1) := rfl
theorem GI {tl : TE} : gA (qR K tl) g tb D σ H = tl σ H (fun x H1 => ∃ a, x = .ref a /\ (∃ xs, ao K H1 a xs) /\ FJ (iz K a) g tb D σ H1) := rfl
theorem GJ {tl : TE} : gA (qS K tl) g tb D σ H = tl σ H (fun x H1 => ∃ a, x = .ref a /\ (∃ xs, ay K H1 a xs) /\ FJ (jr K a) g tb D σ H1) := rfl
theorem rL (Pv : Nat -> L2.St -> Hp -> Prop) (h0 : Pv 0 σ H)
 (hs : ∀ i σ H, i < n -> Pv i σ H -> g (.int (lo + i)) σ H fun σ2 H2 => tb { D with nx := Pv (i + 1), ct := Pv (i + 1), bk := D.nx } σ2 H2) (hd : ∀ σ H, Pv n σ H -> D.nx σ H) : FJ (fL lo n) g tb D σ H := EJ Pv h0 hs hd
theorem rM (Pv : Nat -> L2.St -> Hp -> Prop) (h0 : Pv 0 σ H) (hl : ∀ i σ H, i <= xs.length -> Pv i σ H -> ao K H a xs)
 (hs : ∀ i x σ H, xs[i]? = some x -> Pv i σ H -> g x σ H fun σ2 H2 => tb { D with nx := Pv (i + 1), ct := Pv (i + 1), bk := D.nx } σ2 H2) (hd : ∀ σ H, Pv xs.length σ H -> D.nx σ H) : FJ (iz K a) g tb D σ H := EH Pv h0 hl hs hd
theorem GK (Pv : Nat -> L2.St -> Hp -> Prop) (h0 : Pv 0 σ H) (hl : ∀ i σ H, i <= xs.length -> Pv i σ H -> ay K H a xs)
 (hs : ∀ i x σ H, xs[i]? = some x -> Pv i σ H -> g x σ H fun σ2 H2 => tb { D with nx := Pv (i + 1), ct := Pv (i + 1), bk := D.nx } σ2 H2) (hd : ∀ σ H, Pv xs.length σ H -> D.nx σ H) : FJ (jr K a) g tb D σ H := EI Pv h0 hl hs hd
end
theorem bI : (2 : Nat) <= sizeLine := by decide
theorem pG {x : Int} (h : x.natAbs < 2 ^ 200) : Bd 4000 x := Bd.up (n := 200) h (by decide)
theorem g9 {x y : Int} (h : x.natAbs < 2 ^ 200) (h' : y.natAbs < 2 ^ 200) : mD x y := ⟨pG h, pG h'⟩
end Gz
namespace Gz
open PySem PySem.Spec PyProof.Rows L2
section
variable {X : Cx}
end
section
variable {K : PySem.W.Frag} {H H1 : Hp} {l p : Addr} {xs ys : List V} {o : HO}
theorem fv (hl : H l = none) (s : ah H H1) : ah H (upd H1 l o) := fun b u e => by
 rw [aQ (jm e hl)]; exact s b u e
theorem GL (h : ay K H1 p xs) (hl : H1 l = some (.lst ys)) : ay K (upd H1 l o) p xs := by
 rcases h with (h | ⟨z, h⟩) | h
 ·exact .inl (.inl (by rw [aQ (lX h hl (fun e => nomatch e))]; exact h))
 ·exact .inl (.inr ⟨z, by rw [aQ (lX h hl (fun e => nomatch e))]; exact h⟩)
 ·exact .inr h
def pH (K : PySem.W.Frag) (H : Hp) (v : V) (a b : Int) : Prop := ∃ p, v = .ref p /\ ay K H p [.int a, .int b]
theorem pH.put {v : V} {a b : Int} (h : pH K H1 v a b) (hl : H1 l = some (.lst ys)) : pH K (upd H1 l o) v a b := by
 obtain ⟨p, e, h⟩ := h
 exact ⟨p, e, GL h hl⟩
end
end Gz
namespace Gz
open PySem PySem.W PySem.Spec PySem.Calls PyProof.Rows Builtin Builtin.ObjectAttr Builtin.Getset_descriptor
section
variable {prog : Program} {w : World} {A : Around} {E : Value -> Shared -> Prop} {s : Shared} {K : Frag} {x C : Addr} {oe : Obj} {R : Result -> Shared -> Prop}
end
structure XC (K : Frag) (C : Addr) : Prop where
 ex : excIn K C [.type "ValueError", .type "Exception", .type "BaseException", .type "object"] "ValueError.__new__" = true
 mo : mroIn K C (.type "object") = some true
 mb : mroIn K C (.type "BaseException") = some true
 ga : findIn K (.ref C) "__getattribute__" = some (some (.builtin "BaseException.__getattribute__"))
 gr : findIn K (.ref C) "__getattr__" = some none
 gc : findIn K (.ref C) "__class__" = some (some (.builtin "object.__class__"))
theorem XC.cls {K : Frag} {C : Addr} (x : XC K C) : ∃ c d cd sl, K.lookup C = some ⟨c, d, .cls cd, sl⟩ := by
 have q := x.ex
 unfold excIn at q
 split at q
 ·rename_i dd cd sl ho
  exact ⟨_, _, _, _, ho⟩
 ·cases q
theorem GN {K : Frag} {h : Heap} {C : Addr} (X : K.In h) (c : XC K C) :
 ∃ bm N nm q bs hdct sn sub ab col dd k0 k1 k2 k3 k5 mN, h.get? C = some (excClassObj nm q C N bs bm hdct sn sub ab col dd k0 k1 k2 k3 k5 "ValueError.__new__") /\ h.Ns N mN /\ mN "__init__" = none /\
  OwnTail h [.type "ValueError", .type "Exception", .type "BaseException", .type "object"] bm := by
 have q := c.ex
 unfold excIn at q
 split at q
 ·rename_i dd cd sl ho
  split at q
  ·rename_i C' bm k0 k1 k2 k3 n k5 hm hs
   simp only [Bool.and_eq_true, beq_iff_eq, Bool.not_eq_true'] at q
   obtain ⟨⟨⟨⟨⟨rfl, rfl⟩, hdel⟩, ht⟩, aC⟩, hni⟩ := q
   obtain ⟨nm, bs, mro, ns, qn, hd, sn, sub, ab, col, del⟩ := cd
   dsimp only at hm hdel aC hni
   subst hm hdel
   have GO : sl = #[k0, k1, k2, k3, some (.builtin "ValueError.__new__"), k5] := by
    obtain ⟨l⟩ := sl
    simp only at hs
    rw [hs]
   subst GO
   exact ⟨bm, ns, nm, qn, bs, hd, sn, sub, ab, col, dd, k0, k1, k2, k3, k5, _, X _ _ ho, .of_isNs (isNs_of_in X aC), nsMap_none_of_in X aC hni, tail_of_in X ht⟩
  ·cases q
 ·cases q
end Gz
namespace Gz
open PySem PySem.Spec PyProof.Rows L2
section
variable {X : Cx}
end
end Gz
namespace Gz
open PySem PySem.Spec PyProof.Rows L2
theorem cK.some {P : Program} {w : World} {H : Hp} {h : Heap} {a : Addr} {o : HO} (x : cK P w H h a o) : ∃ ob, h.get? a = some ob := by
 cases o with
 | lst xs => obtain ⟨_, _, _, _, e⟩ := x; exact ⟨_, e⟩
 | tup xs => obtain ⟨_, _, _, o, e, _⟩ := x; exact ⟨_, e⟩
 | dK kvs => obtain ⟨_, _, _, _, o, _, _, e, _⟩ := x; exact ⟨_, e⟩
 | dT kvs => obtain ⟨_, _, _, _, o, _, _, e, _⟩ := x; exact ⟨_, e⟩
 | set S n => obtain ⟨o, _, _, _, e, _⟩ := x; exact ⟨_, e⟩
 | ins C dx fs => obtain ⟨_, _, _, e, _⟩ := x; exact ⟨_, e⟩
 | own y => exact x
 | xd fs => obtain ⟨_, ⟨_, _, _, e, _⟩, _⟩ := x; exact ⟨_, e⟩
 | gq lo hi => obtain ⟨_, _, _, e⟩ := x; exact ⟨_, e⟩
 | cY ob u => obtain ⟨e, _⟩ := x; exact ⟨_, e⟩
 | tbl ps => exact ⟨_, x⟩
 | met f y => exact ⟨_, x⟩
 | ext φ => exact x.2.1
def zv (X : Cx) (E : XK) : Prop := ∀ (pins : List (Addr × Obj)) (σ : L2.St) (H : Hp) (s : Shared) (e C : Addr) (vs : List Value) (h' : Heap), Inv X pins σ H s -> Heap.MadeExcOf s.heap h' e (.ref C) vs -> E (.ref C) none H -> X.xe (.ref e) { s with heap := h' }
def rN (C : Addr) (E : XK) (ta : TA) : TS := fun D σ H => ta σ H fun vs H1 => vs.length <= sizeLine /\ E (.ref C) none H1
section
variable {X : Cx}
theorem gG {x : Str} {np eu pos : Pos} {e₀ : Expr} {rest : List Expr} {ta : TA} {C : Addr} {E : XK} (hx : zv X E) (hg : Gl X x) (hm : X.mg x = some (.ref C)) (xc : XC X.K C) (hc : X.calm = true) (ha : PA X (e₀ :: rest) ta)
 (hd : (x == ("__debug__" : Str)) = false := by decide) (he : starEach (e₀ :: rest) X.env = (false, eval e₀ X.env) :: starEach rest X.env := by rfl)
 (cR : (backTo eu (starEach rest X.env)).any (·.1) = false := by rfl) :
 PS X (.Raise (some (.Call (.Name x np) (e₀ :: rest) [] eu)) none pos) (rN C E ta) := by
 intro pins s σ H D I h
 obtain ⟨tl, N, nm, q, bs, hdct, sn, sub, ab, col, dd, k0, k1, k2, k3, k5, mN, hC, hN, hni, T⟩ := GN I.ok.mod.kin xc
 refine wpAny_Raise_call_subU (C := C) (nm := nm) (q := q) (N := N) (bs := bs) (bm := tl) (hdct := hdct) (sn := sn) (sub := sub) (ab := ab) (col := col) (dd := dd) (k0 := k0) (k1 := k1) (k2 := k2) (k3 := k3) (k5 := k5)
  PySem.F.excBase_ValueError (by decide +kernel) PySem.F.excBase_ValueError (mN := mN) (T.hasType PySem.F.excBase_ValueError.hasBase) (I.ok.hd hc) (by rw [he]; show (false || (backTo eu (starEach rest X.env)).any (·.1)) = false; rw [cR]; rfl) hni (oQ I hg hm ⟨rfl, ?_⟩ hd)
 have zw := ha eu pins s σ H _ I h
 rw [he] at zw ⊢
 refine Calls.evalArgs_plain (wpAny_mono zw (fun us s₂ h₂ => ?_) fun _ _ y => y)
 obtain ⟨vs, H1, I1, r, hl, hE⟩ := h₂
 exact ⟨rfl, by rw [<- r.length]; exact hl, I1.bk _ _ hC, hN.keeps I1.bk, T.keeps I1.bk, fun h' e hm => hx pins σ H1 s₂ e C us h' I1 hm hE⟩
end
section
variable {P : Program} {w : World} {K : PySem.W.Frag} {mg : Str -> Option Value} {base : Heap} {N : List Str} {qual : Str} {scope : Scope} {f : Addr} {cd : Value} {A : Around} {outer : List Env} {s : Shared} {H : Hp} {E : XK}
theorem zx {env : Env} {b L : Addr} (hf : env.frame = some L) (h : b ∈ aX (env :: outer)) : b = L ∨ b ∈ aX outer := by
 unfold aX at h
 rw [List.filterMap_cons, hf] at h
 exact List.mem_cons.mp h
theorem gH : zv (de (cL P w) P w K mg base N qual scope f cd A outer s H E) E := by
 intro pins σ H1 s1 e C vs h1 I hx hE
 have rO : (de (cL P w) P w K mg base N qual scope f cd A outer s H E).A.frames = some (envOfC qual scope s.heap.objs.size f cd :: outer) := I.ok.frames
 have hF : s1.heap.FunFrames base (envOfC qual scope s.heap.objs.size f cd :: outer) := I.stack
 have kP : ∀ env ∈ (envOfC qual scope s.heap.objs.size f cd :: outer), ∀ b, env.frame = some b -> b ∈ aX (envOfC qual scope s.heap.objs.size f cd :: outer) := fun env he b hb => List.mem_filterMap.mpr ⟨env, he, hb⟩
 have GP : ∀ b ∈ aX (envOfC qual scope s.heap.objs.size f cd :: outer), H1 b = none := I.oP
 have kD : ∀ b o, s.heap.get? b = some o -> b ≠ s.heap.objs.size := fun b o e => Nat.ne_of_lt (Heap.lt_size e)
 have gX : ∀ b o, s.heap.get? b = some o -> b ∉ aX outer -> b ∉ aX (envOfC qual scope s.heap.objs.size f cd :: outer) := fun b o e hb z => by
  rcases zx rfl z with z | z
  ·exact kD b o e z
  ·exact hb z
 have ub : Un (aX outer) [] H H1 s.heap s1.heap := I.base
 refine wpAny_leaves_madeW (base := PySem.W.hideAll s1.heap (aX (envOfC qual scope s.heap.objs.size f cd :: outer))) rO rfl (fun b o q => PySem.W.of_hideAll _ q) (PySem.W.funFrames_hide hF kP) hx fun h' t fl tup bt up => ?_
 have stays := fl.1
 have kQ : ∀ b o, s1.heap.get? b = some o -> b ∉ aX (envOfC qual scope s.heap.objs.size f cd :: outer) -> (PySem.W.hideAll s1.heap (aX (envOfC qual scope s.heap.objs.size f cd :: outer))).get? b = some o := fun b o q hb => PySem.W.hideAll_get _ q hb
 have mI : ∀ b ∈ aX (envOfC qual scope s.heap.objs.size f cd :: outer), ∀ o, s1.heap.get? b = some o -> ∃ sl, h'.get? b = some { o with slots := sl } := fun b hb o q => by
  obtain ⟨_, o', cQ, hnf⟩ := hF.mem hb
  rw [q] at cQ; cases cQ
  exact up b o (hx.keeps b o q) hnf
 refine ⟨e, .ref C, .ref t, H1, _, rfl, I.os, I.bare, ⟨fun b o q n hb d6 => ?_, fun b o q n hb d6 => ?_, ub.free, fun b o q d6 => ?_, ub.dn, ub.dH, ub.dR⟩, fun b o q n hb => ?_, fun b o q hb => ?_, fun a o q => ?_, ?_, ?_, fl, hE⟩
 ·exact stays b o (kQ b o (ub.keep b o q n hb d6) (gX b o q hb))
 ·obtain ⟨sl, e1⟩ := ub.slot b o q n hb d6
  obtain ⟨gU, e2⟩ := mI b (by unfold aX; rw [List.filterMap_cons]; exact List.mem_cons_of_mem _ hb) _ e1
  exact ⟨gU, e2⟩
 ·obtain ⟨o', e1⟩ := ub.there b o q d6
  by_cases hb : b ∈ aX (envOfC qual scope s.heap.objs.size f cd :: outer)
  ·obtain ⟨sl, e2⟩ := mI b hb o' e1
   exact ⟨_, e2⟩
  ·exact ⟨o', stays b o' (kQ b o' e1 hb)⟩
 ·exact kQ b o (ub.keep b o q n hb (by simp)) (gX b o q hb)
 ·obtain ⟨o', e1⟩ := ub.there b o q (by simp)
  exact ⟨o', kQ b o' e1 (gX b o q hb)⟩
 ·refine (I.aC a o q).stay (fun b u hb z => kQ b u z fun hm => ?_) (fun _ z => z) fun _ _ z => z
  have := GP b hm
  rcases hb with hb | hb
  ·rw [hb, q] at this; cases this
  ·rw [hb] at this; cases this
 ·cases q : H1 e with
  | none => rfl
  | some u =>
   obtain ⟨ob, z⟩ := cK.some (I.aC e u q)
   rw [hx.new] at z; cases z
 ·cases q : s.heap.get? e with
  | none => rfl
  | some u =>
   obtain ⟨o', z⟩ := ub.there e u q (by simp)
   rw [hx.new] at z; cases z
theorem cu : Passes (cL P w) (de (cL P w) P w K mg base N qual scope f cd A outer s H E) E := by
 intro pins σ H1 s1 ev s2 I cx
 obtain ⟨x, cls, a0, H', B, rfl, os, bare, un, kb, tb, aC, hx, hn, fl, hE⟩ := cx
 have rO : (de (cL P w) P w K mg base N qual scope f cd A outer s H E).A.frames = some (envOfC qual scope s.heap.objs.size f cd :: outer) := I.ok.frames
 have hF : s1.heap.FunFrames base (envOfC qual scope s.heap.objs.size f cd :: outer) := I.stack
 have kD : ∀ b o, s.heap.get? b = some o -> b ≠ s.heap.objs.size := fun b o e => Nat.ne_of_lt (Heap.lt_size e)
 have gX : ∀ b o, s.heap.get? b = some o -> b ∉ aX outer -> b ∉ aX (envOfC qual scope s.heap.objs.size f cd :: outer) := fun b o e hb z => by
  rcases zx rfl z with z | z
  ·exact kD b o e z
  ·exact hb z
 have GQ : ∀ b, b ∈ aX outer -> b ∈ aX (envOfC qual scope s.heap.objs.size f cd :: outer) := fun b hb => by
  unfold aX; rw [List.filterMap_cons]; exact List.mem_cons_of_mem _ hb
 have ub : Un (aX outer) [] H H1 s.heap s1.heap := I.base
 have zy : Un (aX (envOfC qual scope s.heap.objs.size f cd :: outer)) [] H1 H' s1.heap s2.heap := un
 have zz : ∀ b o, s1.heap.get? b = some o -> H1 b = none -> b ∉ aX (envOfC qual scope s.heap.objs.size f cd :: outer) -> B.get? b = some o := kb
 have hJ : ∀ b o, s1.heap.get? b = some o -> b ∉ aX (envOfC qual scope s.heap.objs.size f cd :: outer) -> ∃ o', B.get? b = some o' := tb
 have GR : ∀ b ∈ aX (envOfC qual scope s.heap.objs.size f cd :: outer), H1 b = none := I.oP
 refine wpAny_leaves_onW rO rfl fl fun h' zA up => ?_
 have stays := zA.1
 have mI : ∀ b ∈ aX (envOfC qual scope s.heap.objs.size f cd :: outer), ∀ o, s1.heap.get? b = some o -> ∃ sl, h'.get? b = some { o with slots := sl } := fun b hb o q => by
  obtain ⟨_, o', cQ, hnf⟩ := hF.mem hb
  rw [q] at cQ; cases cQ
  obtain ⟨sl, e1⟩ := zy.slot b o q (GR b hb) hb (by simp)
  obtain ⟨gU, e2⟩ := up b _ e1 hnf
  exact ⟨gU, e2⟩
 refine ⟨x, cls, a0, H', B, rfl, os.trans I.os, bare, ⟨fun b o q n hb d6 => ?_, fun b o q n hb d6 => ?_, fun b o q n d6 => ?_, fun b o q d6 => ?_, fun b xs q => un.dn _ _ (ub.dn _ _ q), fun b o u q => un.dH _ _ _ (ub.dH _ _ _ q), fun b ps q => ?_⟩, fun b o q n hb => ?_, fun b o q hb => ?_, aC, hx, ?_, zA, hE⟩
 ·exact stays b o (zz b o (ub.keep b o q n hb d6) (ub.free b o q n d6) (gX b o q hb))
 ·obtain ⟨sl, e1⟩ := ub.slot b o q n hb d6
  obtain ⟨gU, e2⟩ := mI b (GQ b hb) _ e1
  exact ⟨gU, e2⟩
 ·obtain ⟨o', e1⟩ := ub.there b o q d6
  exact zy.free b o' e1 (ub.free b o q n d6) (by simp)
 ·obtain ⟨o', e1⟩ := ub.there b o q d6
  by_cases hb : b ∈ aX (envOfC qual scope s.heap.objs.size f cd :: outer)
  ·obtain ⟨sl, e2⟩ := mI b hb o' e1
   exact ⟨_, e2⟩
  ·obtain ⟨o2, e2⟩ := hJ b o' e1 hb
   exact ⟨o2, stays b o2 e2⟩
 ·obtain ⟨m1, e1⟩ := ub.dR b ps q
  obtain ⟨m2, e2⟩ := un.dR b _ e1
  exact ⟨m1 ++ m2, by rw [e2, Array.append_assoc]⟩
 ·exact zz b o (ub.keep b o q n hb (by simp)) (ub.free b o q n (by simp)) (gX b o q hb)
 ·obtain ⟨o', e1⟩ := ub.there b o q (by simp)
  exact hJ b o' e1 (gX b o q hb)
 ·cases q : s.heap.get? x with
  | none => rfl
  | some u =>
   obtain ⟨o', z⟩ := ub.there x u q (by simp)
   rw [hn] at z; cases z
theorem zB {x qual : Str} {st : Stmt} {f : Addr} {fd : FuncData} {N ps : List Str} {k : Nat} {sp : Sp} (F : gF K x qual st f fd) (S : kK N ps (cq st)) (len : ∀ vs H Q E, sp vs H Q E -> vs.length = ps.length)
 (dX : ∀ (ba : Value) (A : Around) (outer : List Env) (s : Shared) (H : Hp) (vs : List V) (Q : VK) (E : XK), aR k (A.deeper (envOfC qual (cq st) s.heap.objs.size f ba)) -> sp vs H Q E ->
   ∃ t, aV (de (cL P w) P w K mg base N qual (cq st) f ba A outer s H E) (ez st) t /\ t { nx := fun _ H' => Q .non H', rt := Q } (start N vs) H) : bW P w K mg base (cL P w) (k + 1) f fd ps sp := by
 obtain ⟨oc, od, kV, doc, pm, an, ba, ct, fN, rfl, lk, dS⟩ := F.ex
 refine rn lk dS S len fun A outer s H vs Q E hr gC => ?_
 exact dX ba A outer s H vs Q E hr gC
end
end Gz
namespace Gz
open PySem PySem.Spec PyProof.Rows L2
section
variable {X : Cx} {F : Value -> Shared -> Prop} {pins pn : List (Addr × Obj)} {σ : L2.St} {H : Hp} {s : Shared} {A' : Around}
end
end Gz
namespace Gz
open PySem PySem.Spec PyProof.Rows L2
local macro_rules | `(tactic| walk_at "om") => `(tactic| ((try simp only [PySem.Addr] at *); lia))
inductive eM (X : Cx) (scope : Scope) (cl : List (Str × Addr)) : List Nat -> List Str -> Prop where
 | nil : eM X scope cl [] []
 | cons {j : Nat} {y : Str} {c : Addr} {js : List Nat} {ys : List Str} (hN : X.N[j]? = some y) (hk : X.env.kindOf y = some .cell) (h1 : cl.lookup y = some c) (h2 : X.env.cells.lookup y = some c) (h : eM X scope cl js ys) : eM X scope cl (j :: js) (y :: ys)
inductive fQ (X : Cx) : List (Str × Addr) -> Prop where
 | nil : fQ X []
 | cons {n : Str} {a : Addr} {r : List (Str × Addr)} (h : X.env.cells.lookup n = some a) (t : fQ X r) : fQ X ((n, a) :: r)
theorem fQ.get {X : Cx} : ∀ {cl : List (Str × Addr)}, fQ X cl -> ∀ y c, cl.lookup y = some c -> X.env.cells.lookup y = some c
 | _, .nil, y, c, e => by simp at e
 | _, .cons (n := n) h t, y, c, e => by
  rw [List.lookup_cons] at e
  by_cases hy : (y == n) = true
  ·rw [hy] at e
   have e1 : y = n := by simpa using hy
   cases e
   rw [e1]; exact h
  ·rw [Bool.eq_false_iff.mpr hy] at e
   exact t.get y c e
theorem eM.get {X : Cx} {scope : Scope} {cl : List (Str × Addr)} {σ : L2.St} : ∀ {js : List Nat} {ys : List Str}, eM X scope cl js ys -> ∀ (i : Nat) (y : Str) (v : V), ys[i]? = some y -> (js.map fun j => (σ[j]?).join)[i]? = some (some v) ->
 ∃ (j : Nat) (c : Addr), X.N[j]? = some y /\ σ[j]? = some (some v) /\ X.env.kindOf y = some .cell /\ cl.lookup y = some c /\ X.env.cells.lookup y = some c
 | _, _, .nil, i, y, v, e, _ => by simp at e
 | _, _, .cons (j := j) hN hk h1 h2 h, 0, y, v, e, q => by
  simp at e q
  subst e
  refine ⟨j, _, hN, ?_, hk, h1, h2⟩
  cases z : σ[j]? with
  | none => rw [z] at q; simp at q
  | some o => rw [z] at q; simp at q; rw [q]
 | _, _, .cons hN hk h1 h2 h, i + 1, y, v, e, q => by
  simp only [List.getElem?_cons_succ, List.map_cons] at e q
  exact h.get i y v e q
theorem eM.len {X : Cx} {scope : Scope} {cl : List (Str × Addr)} : ∀ {js : List Nat} {ys : List Str}, eM X scope cl js ys -> js.length = ys.length
 | _, _, .nil => rfl
 | _, _, .cons _ _ _ _ h => by simp [h.len]
noncomputable def df (X : Cx) (N' : List Str) (scope : Scope) (cl : List (Str × Addr)) (C : Addr) (s2 : Shared) (H2 : Hp) (ex : List Addr) (pn : List (Addr × Obj)) : Cx :=
 { X with N := N', s₀ := s2, H₀ := H2, env := compEnvC scope cl C X.env, outer := X.stack, ex := ex, fn := fun _ => false, pn := pn, xe := fun _ _ => False }
structure jE (X : Cx) (x : Str) (scope : Scope) (cl : List (Str × Addr)) (fr : List Nat) (ys : List Str) : Prop where
 clos : closureFor scope X.env = pure cl
 nocell : (scope.names.all fun p => p.2 != .cell) = true
 kind : scope.kind = .function
 names : (scope.names.all fun p => p.2 != .local || scope.names.lookup p.1 == some .local) = true
 own : scope.names.lookup x = some .local
 kinds : ((relabel scope X.env).names.all fun p => (p.2 != .cell && p.2 != .free) || (cl.lookup p.1).isSome) = true
 cls : fQ X cl
 aX : eM X scope cl fr ys
 nd : (x :: ys).Nodup
 kfr : (ys.all fun y => (relabel scope X.env).names.lookup y == some .cell) = true
def jF (X : Cx) (ifs : List Expr) (t : TT) : Prop :=
 ∀ (pins : List (Addr × Obj)) (s : Shared) (σ : L2.St) (H : Hp) (Q : Bool -> Hp -> Prop), Inv X pins σ H s -> t σ H Q ->
  wpAny (model X.prog X.w) X.A (forIn ifs true fun c r => if r = true then do let ok <- isTrue c X.env (eval c X.env); pure (ForInStep.yield ok) else pure (ForInStep.yield r)) (TP X pins σ Q) X.xe s
def zC : TT := fun _ H Q => Q true H
theorem d7 {X : Cx} : jF X [] zC := fun _ _ _ H _ I h => wpAny_tests_nil ⟨H, I, h⟩
def mJ (J : It) (ρ : L2.St) (tt : TT) (te : TE) (H : Hp) (Q : VK) : Prop := ∃ W : Nat -> Nat -> List V -> Hp -> Prop, (∃ m, W 0 m [] H) /\ ∀ i m ys H, W i m ys H ->
 (J.stop i H /\ ys.length <= sizeLine /\ ∀ l, H l = none -> Q (.ref l) (upd H l (.lst ys))) ∨ (J.go i H /\ ys.length < sizeLine /\ ∃ N : List V -> Hp -> Prop, (∀ zs H', N zs H' -> ∃ m', m' < m /\ W (i + 1) m' zs H') /\
  ∀ x H', J.yld i H x H' -> tt (some x :: ρ) H' fun b H1 => if b = true then te (some x :: ρ) H1 fun y H2 => N (ys ++ [y]) H2 else N ys H1)
def rP (wi : TI) (fr : List Nat) (tt : TT) (te : TE) : TE := fun σ H Q => wi σ H fun J H1 => mJ J (fr.map fun j => (σ[j]?).join) tt te H1 Q
structure mK (X : Cx) (own : List Str) (scope : Scope) (cl : List (Str × Addr)) (fr : List Nat) (ys : List Str) : Prop where
 clos : closureFor scope X.env = pure cl
 nocell : (scope.names.all fun p => p.2 != .cell) = true
 kind : scope.kind = .function
 names : (scope.names.all fun p => p.2 != .local || scope.names.lookup p.1 == some .local) = true
 kinds : ((relabel scope X.env).names.all fun p => (p.2 != .cell && p.2 != .free) || (cl.lookup p.1).isSome) = true
 cls : fQ X cl
 aX : eM X scope cl fr ys
 kfr : (ys.all fun y => (relabel scope X.env).names.lookup y == some .cell) = true
def kR (k : Nat) (J : It) (g : TG) (ρ : L2.St) (tt : TT) (te : TE) (H : Hp) (Q : VK) : Prop := ∃ W : Nat -> Nat -> List V -> Hp -> Prop, (∃ m, W 0 m [] H) /\ ∀ i m ys H, W i m ys H ->
 (J.stop i H /\ ys.length <= sizeLine /\ ∀ l, H l = none -> Q (.ref l) (upd H l (.lst ys))) ∨ (J.go i H /\ ys.length < sizeLine /\ ∃ N : List V -> Hp -> Prop, (∀ zs H', N zs H' -> ∃ m', m' < m /\ W (i + 1) m' zs H') /\
  ∀ os : List (Option V), os.length = k -> ∀ x H', J.yld i H x H' -> g x (os ++ ρ) H' fun σ2 H2 => ∃ ph, ph.length = k /\ σ2 = ph ++ ρ /\ tt σ2 H2 fun b H1 => if b = true then te σ2 H1 fun y H2 => N (ys ++ [y]) H2 else N ys H1)
def GS (k : Nat) (wi : TI) (g : TG) (fr : List Nat) (tt : TT) (te : TE) : TE := fun σ H Q => wi σ H fun J H1 => kR k J g (fr.map fun j => (σ[j]?).join) tt te H1 Q
theorem GU {prog : Program} {w : World} {A : Around} {s : Shared} {R : Result -> Shared -> Prop} {elt target iter : Expr} {ifs : List Expr} {scope : Scope} {pos : Pos} {it acc : Value} {env : Env} (I : Nat -> Shared -> Prop)
 (turn : ∀ n s, I n s -> wpAny (model prog w) A (pyNext it) (fun r s₁ => match r with
   | none => R (.ok .next) s₁
   | some v => wpAny (model prog w) A (letOwnedTupleGo target it v) (fun _ zD => wpAny (model prog w) A (assign target env v) (fun _ s₂ =>
    wpAny (model prog w) A (forIn ifs true fun c r => if r = true then do let ok <- isTrue c env (eval c env); pure (ForInStep.yield ok) else pure (ForInStep.yield r)) (fun ok s₃ =>
     if ok = true then wpAny (model prog w) A (eval elt env) (fun x s₄ =>
      wpAny (model prog w) A (call (.builtin "list.append") [acc, x]) (fun _ s₅ => ∃ m, m < n /\ I m s₅) (notedBy (model prog w) A env fun e s' => R (.error e) s') s₄) (notedBy (model prog w) A env fun e s' => R (.error e) s') s₃
     else ∃ m, m < n /\ I m s₃) (notedBy (model prog w) A env fun e s' => R (.error e) s') s₂) (notedBy (model prog w) A env fun e s' => R (.error e) s') zD) (notedBy (model prog w) A env fun e s' => R (.error e) s') s₁) (notedBy (model prog w) A env fun e s' => R (.error e) s') s)
 (n : Nat) (h : I n s) :
 codeAny (model prog w) A (.compLoop (.ListComp elt [⟨target, iter, ifs, 0⟩] scope pos) 0 it acc env) R s := by
 refine codeAny_loop rfl I (fun n s hI => ?_) n h
 show wpAny _ A ((compTurn (.ListComp elt [⟨target, iter, ifs, 0⟩] scope pos) 0 it acc env).onRaise (fun x => do noteFrame x env; theTreesLotGoes x)) _ _ s
 refine wpAny_noted ?_
 rw [compTurn_list]
 refine wpAny_bind (wpAny_standAt (wpAny_bind (wpAny_mono (turn n s hI) (fun r s₁ h₁ => ?_) fun _ _ h' => h')))
 cases r with
 | none => exact wpAny_pure h₁
 | some v =>
  refine wpAny_bind (wpAny_mono h₁ (fun _ zD GV => ?_) fun _ _ h' => h')
  refine wpAny_bind (wpAny_mono GV (fun _ s₂ h₂ => wpAny_bind (wpAny_mono h₂ (fun ok s₃ h₃ => ?_) fun _ _ h' => h')) fun _ _ h' => h')
  cases ok with
  | false => exact wpAny_pure ⟨rfl, h₃⟩
  | true =>
   exact wpAny_bind (wpAny_bind (wpAny_mono h₃ (fun x s₄ h₄ => wpAny_bind (wpAny_mono h₄ (fun _ s₅ h₅ => wpAny_pure (wpAny_pure ⟨rfl, h₅⟩)) fun _ _ h' => h')) fun _ _ h' => h'))
theorem zE {l : List (Str × NameKind)} {p : Str × NameKind -> Bool} (h : l.all p = true) {y : Str} {k : NameKind} (e : l.lookup y = some k) : p (y, k) = true := by
 exact List.all_eq_true.mp h _ (PySem.mem_of_lookup e)
def rQ (i : Nat) (te : TE) : TS := fun D σ H => te σ H fun v H1 => D.nx (σ.set i (some v)) H1
section
variable {X : Cx} {pins : List (Addr × Obj)} {σ : L2.St} {H2 : Hp} {s2 : Shared} {own : List Str} {tg : Expr} {g : TG} {pos : Pos} {elt iter : Expr} {ifs : List Expr} {scope : Scope} {cl : List (Str × Addr)} {fr : List Nat} {ys : List Str} {tt : TT} {te : TE}
theorem GW {C : Addr} {ex : List Addr} {pn : List (Addr × Obj)} (S : mK X own scope cl fr ys) (I2 : Inv X pins σ H2 s2) (f2 : ∀ b ∈ ex, eI X pins H2 b) (hC : s2.heap.objs.size <= C) (hex : ∀ b ∈ ex, b < s2.heap.objs.size) : (df X (own ++ ys) scope cl C s2 H2 ex pn).Ok := by
 refine ⟨I2.ok.mod, S.kind, I2.ok.glob, I2.ok.blt, hC, fun a b c h1 h2 => ?_, fun y hy => ?_, fun _ _ z => (nomatch z), I2.ok.hd, I2.ok.frames, .inl rfl, fun b hb => ⟨?_, fun y c e z => ?_⟩, I2.bs, Nat.le_trans I2.ok.bsz I2.sz, fun b o e hb => ?_, fun b hb z => ?_, I2.stack, I2.oP⟩
 ·exact I2.ok.inj a b c (S.cls.get a c h1) (S.cls.get b c h2)
 ·have GX : (relabel scope X.env).names.lookup y = some .cell ∨ (relabel scope X.env).names.lookup y = some .free := hy
  have q : (cl.lookup y).isSome = true := by
   rcases GX with e | e
   ·simpa using zE S.kinds e
   ·simpa using zE S.kinds e
  exact Option.isSome_iff_exists.mp q
 ·exact Nat.ne_of_lt (Nat.lt_of_lt_of_le (hex b hb) hC)
 ·exact (f2 b hb).2.2.2.2.1 y c (S.cls.get y c e) z
 ·obtain ⟨_, _, _, d, _, _⟩ := f2 b hb
  rcases d with d | d
  ·exact I2.ok.noex b o e d
  ·exact absurd (Nat.lt_of_lt_of_le (Heap.lt_size e) (Nat.le_trans I2.ok.bsz d)) (Nat.lt_irrefl _)
 ·obtain ⟨_, d1, d2, _⟩ := f2 b hb
  rcases List.mem_cons.mp (I2.kC b z) with q | q
  ·exact d1 q
  ·exact d2 q
noncomputable def fR (X : Cx) (N' : List Str) (fn : Str -> Bool) (scope : Scope) (cl : List (Str × Addr)) (C : Addr) (s2 : Shared) (H2 : Hp) (ex : List Addr) (pn : List (Addr × Obj)) : Cx :=
 { X with N := N', s₀ := s2, H₀ := H2, env := compEnvC scope cl C X.env, outer := X.stack, ex := ex, fn := fn, pn := pn, xe := fun _ _ => False }
theorem zF {C D : Addr} {fp : List Addr} (I2 : Inv X pins σ H2 s2) (f2 : ∀ b ∈ fp, eI X pins H2 b) (hC : s2.heap.objs.size <= C) (hD : s2.heap.objs.size <= D) : ∀ p ∈ X.pn ++ pins, p.1 ≠ C /\ p.1 ≠ D /\ p.1 ∉ aX X.stack /\ ∀ b ∈ fp, p.1 ≠ b := fun p hp => by
 obtain ⟨e, n, nL, nf, _⟩ := I2.pin p hp
 have lt := Heap.lt_size e
 refine ⟨by walk_at "om", by walk_at "om", fun z => ?_, fun b hb => (f2 b hb).2.2.2.2.2 p hp⟩
 rcases List.mem_cons.mp (I2.kC _ z) with q | q
 ·exact nL q
 ·exact nf q
theorem GY {J : It} {fp : List Addr} {it C D : Addr} {tn : Nat -> Heap -> Prop} {Q : VK} {RR : Value -> Addr -> Result -> Shared -> Prop} {nm : List Str} {fn : Str -> Bool} {k : Nat} {rR ρ : List (Option V)} {h1 : Heap} {tk : Nat}
 (hc : X.calm = true) (hg : PG (fR X nm fn scope cl C s2 H2 fp (X.pn ++ pins)) tg g) (hb : jF (fR X nm fn scope cl C s2 H2 fp (X.pn ++ pins)) ifs tt /\ PE (fR X nm fn scope cl C s2 H2 fp (X.pn ++ pins)) elt te)
 (I2 : Inv X pins σ H2 s2) (T : Turn X.prog X.w X.K tg J fp it tn) (fM : tn 0 s2.heap) (f2 : ∀ b ∈ fp, eI X pins H2 b)
 (h : kR k J g ρ tt te H2 Q)
 (rS : ∀ D C s' H', Inv X pins σ H' s' -> (∃ m, s'.heap.Ns C m) -> eI X pins H' C -> Q (.ref D) H' -> RR (.ref D) C (.ok .next) s')
 (g6 : rR.length = k) (I4 : Inv (fR X nm fn scope cl C s2 H2 fp (X.pn ++ pins)) [] (rR ++ ρ) H2 { s2 with heap := h1, toks := tk }) (keep : ∀ b o, s2.heap.get? b = some o -> h1.get? b = some o)
 (hD : h1.get? D = some { cls := .type "list", data := .seq ([] : List Value).toArray 0 }) (eD : s2.heap.objs.size = D) (eC : s2.heap.objs.size + 1 = C)
 (hU : ∀ y c, cl.lookup y = some c -> c ≠ D /\ ∀ b ∈ fp, c ≠ b) :
 codeAny (model X.prog X.w) X.A (.compStart (.ListComp elt [⟨tg, iter, ifs, 0⟩] scope pos) 0 (.ref it) (.ref D) (compEnvC scope cl C X.env)) (RR (.ref D) C) { s2 with heap := h1, toks := tk } := by
 obtain ⟨W, ⟨m0, w0⟩, turn⟩ := h
 have jG : D ≠ C := by walk_at "om"
 have kS : s2.heap.objs.size <= C := by walk_at "om"
 have mL : s2.heap.objs.size <= D := by walk_at "om"
 have jH : ∀ b ∈ fp, b < D := fun b hb => by
  obtain ⟨o, e, _⟩ := T.obj 0 _ fM b hb
  exact eD ▸ Heap.lt_size e
 have GZ : ∀ b, D <= b -> b ∉ aX X.stack := fun b hle z => by
  rcases List.mem_cons.mp (I2.kC b z) with q | q
  ·have := I2.lt; walk_at "om"
  ·exact I2.xP (eD ▸ hle) q
 have rT := zF I2 f2 kS mL
 have zG : tn 0 h1 := T.keep 0 _ _ fM fun b _ o e => keep b o e
 have rV : ∀ (H' : Hp) (o : Obj), (∀ b ∈ fp, H' b = none) -> ∀ b ∈ fp, eI (fR X nm fn scope cl C s2 H2 fp (X.pn ++ pins)) [(D, o)] H' b := fun H' o hn b hb => by
  obtain ⟨_, d1, d2, d3, d4, d5⟩ := f2 b hb
  have lt := jH b hb
  refine ⟨hn b hb, ?_, fun z => ?_, .inl hb, fun y c e z => (hU y c e).2 b hb z, fun p hp => ?_⟩
  ·show b ≠ C
   walk_at "om"
  ·rcases List.mem_cons.mp (I2.kC b z) with q | q
   ·exact d1 q
   ·exact d2 q
  ·have kT : p ∈ (X.pn ++ pins) ++ [(D, o)] := hp
   rcases List.mem_append.mp kT with z | z
   ·exact d5 p z
   ·have : p = (D, o) := by simpa using z
    subst this
    show D ≠ b
    walk_at "om"
 have loop : ∀ s' : Shared, s' = { s2 with heap := h1, toks := tk } ->
  codeAny (model X.prog X.w) X.A (.compLoop (.ListComp elt [⟨tg, iter, ifs, 0⟩] scope pos) 0 (.ref it) (.ref D) (compEnvC scope cl C X.env)) (RR (.ref D) C) s' := by
  rintro s' rfl
  refine GU (fun n s' => ∃ i zs H' os ai nn, os.length = k /\ Inv (fR X nm fn scope cl C s2 H2 fp (X.pn ++ pins)) [] (os ++ ρ) H' s' /\ tn i s'.heap /\ (∀ b ∈ fp, H' b = none) /\ H' D = none /\
   s'.heap.get? D = some { cls := .type "list", data := .seq (ai : List Value).toArray nn } /\ Vals zs ai /\ W i n zs H') ?_ m0 ⟨0, [], H2, rR, [], 0, g6, I4, zG, fun b hb => (f2 b hb).1, I2.aC.fresh mL, hD, .nil, w0⟩
  rintro n s3 ⟨i, zs, H3, zH, ai, nn, G0, I3, mf, mh, rW, G1, r3, w3⟩
  have zI : Inv (fR X nm fn scope cl C s2 H2 fp (X.pn ++ pins)) [(D, { cls := .type "list", data := .seq ai.toArray nn })] (zH ++ ρ) H3 s3 := I3.lZ fun p hp => by
   have : p = (D, { cls := .type "list", data := .seq ai.toArray nn }) := by simpa using hp
   subst this
   exact ⟨G1, rW, jG, GZ D (Nat.le_refl _), fun v z => nomatch z⟩
  rcases turn i n zs H3 w3 with ⟨stop, hlen, q⟩ | ⟨go, hlen, N, zJ, step⟩
  ·refine wpAny_mono (T.done (fR X nm fn scope cl C s2 H2 fp (X.pn ++ pins)) rfl rfl rfl hc i _ s3 _ H3 (fun _ _ => False) zI (rV H3 _ mh) mf stop) (fun r s4 ⟨hr, J4⟩ => ?_) fun _ _ z => z.elim
   subst hr
   have un := J4.base
   have G2 : ∀ b o, s2.heap.get? b = some o -> b ≠ D := fun b o e => by have := Heap.lt_size e; walk_at "om"
   have mM : ∀ b u, H3 b = some u -> b ≠ D := fun b u e z => by rw [z, rW] at e; cases e
   refine rS D C s4 (upd H3 D (.lst zs)) ?_ ?_ ?_ (q D rW)
   ·refine I2.Ei (ch := fp) J4.os ⟨un.keep, un.slot, fun b o e nn hx => ?_, un.there, fun b xs e => ?_, fun b o u e => ?_, fun b ps e => ?_⟩ (fun a o e => ?_) J4.bare fun b hb => ?_
    ·rw [aQ (G2 b o e)]; exact un.free b o e nn hx
    ·have := un.dn b xs e; rw [aQ (mM b _ this)]; exact this
    ·have := un.dH b o u e; rw [aQ (mM b _ this)]; exact this
    ·obtain ⟨more, this⟩ := un.dR b ps e
     exact ⟨more, by rw [aQ (mM b _ this)]; exact this⟩
    ·by_cases ha : a = D
     ·subst ha
      rw [aj] at e; cases e
      exact ⟨hlen, ai, nn, r3, (J4.pin (a, _) (List.mem_append_right _ (List.mem_singleton.mpr rfl))).1⟩
     ·rw [aQ ha] at e
      exact (J4.aC a o e).stay (fun _ _ _ z => z) (fun b z => by rw [aQ (mM b _ z)]; exact z) fun b xs z => by rw [aQ (mM b _ z)]; exact z
    ·obtain ⟨_, d1, d2, d3, d4, d5⟩ := f2 b hb
     exact ⟨d3, d1, d4, d5⟩
   ·obtain ⟨m, hm, _⟩ := J4.loc
    exact ⟨m, hm⟩
   ·exact I2.l7 kS (by rw [aQ (Ne.symm jG)]; exact J4.free)
  ·refine wpAny_mono (T.item (fR X nm fn scope cl C s2 H2 fp (X.pn ++ pins)) rfl rfl rfl hc i _ s3 _ H3 (fun _ _ => False) zI (rV H3 _ mh) mf go) (fun r s4 ⟨u, hr, h4⟩ => ?_) fun _ _ z => z.elim
   subst hr
   refine wpAny_mono h4 (fun _ s5 ⟨y5, H5, I5, r5, yl, jt, qW⟩ => ?_) fun _ _ z => z.elim
   have qX := I5.pinned (rV H5 _ qW) (T.obj _ _ jt)
   refine wpAny_mono (hg _ s5 _ H5 y5 u _ qX r5 (step zH G0 y5 H5 yl)) (fun _ s6 ⟨σ6, H6, I6, pI, zK, e6, q6⟩ => ?_) fun _ _ z => z.elim
   subst e6
   have after : ∀ (s7 : Shared) (H7 : Hp), Inv (fR X nm fn scope cl C s2 H2 fp (X.pn ++ pins)) ([(D, { cls := .type "list", data := .seq ai.toArray nn })] ++ me fp s5.heap) (pI ++ ρ) H7 s7 ->
    Inv (fR X nm fn scope cl C s2 H2 fp (X.pn ++ pins)) [] (pI ++ ρ) H7 s7 /\ tn (i + 1) s7.heap /\ (∀ b ∈ fp, H7 b = none) /\ H7 D = none /\ s7.heap.get? D = some { cls := .type "list", data := .seq ai.toArray nn } := fun s7 H7 I7 => by
    have pD := I7.pin (D, { cls := .type "list", data := .seq ai.toArray nn }) (List.mem_append_right _ (List.mem_append_left _ (List.mem_singleton.mpr rfl)))
    refine ⟨I7.lZ fun p hp => absurd hp (by simp), T.keep _ _ _ jt fun b hb o e => (I7.pin (b, o) (List.mem_append_right _ (List.mem_append_right _ (o4 hb e)))).1, fun b hb => ?_, pD.2.1, pD.1⟩
    obtain ⟨o, e, _⟩ := T.obj _ _ jt b hb
    exact (I7.pin (b, o) (List.mem_append_right _ (List.mem_append_right _ (o4 hb e)))).2.1
   refine wpAny_mono (hb.1 _ s6 _ H6 _ I6 q6) (fun ok s7 ⟨H7, I7, q7⟩ => ?_) fun _ _ z => z.elim
   dsimp only at q7
   by_cases aC : ok = true
   ·rw [if_pos aC] at q7 ⊢
    refine wpAny_mono (hb.2 _ s7 _ H7 _ I7 q7) (fun yv s8 ⟨y8, H8, I8, r8, n8⟩ => ?_) fun _ _ z => z.elim
    obtain ⟨m', rX, w8⟩ := zJ _ _ n8
    obtain ⟨J8, G3, G4, zL, rY⟩ := after s8 H8 I8
    have hl := r3.length
    refine call_meets F.slot_list_append ⟨_, rY, rfl⟩ F.entry_list_append (F.args_list_append_2 _ _) (PySem.list_append D ai.toArray nn yv (by rw [List.size_toArray]; walk_at "om")) ⟨rY, ?_⟩
    have zM := PySem.IsL.update rY (fun a => a.push yv)
    rw [List.push_toArray] at zM
    refine ⟨m', rX, i + 1, zs ++ [y8], H8, pI, ai ++ [yv], _, zK, J8.turned (it := D) (fun b o rZ e => (Heap.get?_update_other _ _ (Ne.symm rZ)).trans e) zL jG (.inr mL) (fun y c e z => ?_) (fun p hp => ?_), T.keep _ _ _ G3 fun b rZ o e => ?_, G4, zL, zM, r3.append (.cons r8 .nil), w8⟩
    ·exact (hU y c e).1 z
    ·have kT : p ∈ X.pn ++ pins := by
      have : p ∈ (X.pn ++ pins) ++ [] := hp
      simpa using this
     exact (rT p kT).2.1
    ·have := jH b rZ
     exact (Heap.get?_update_other _ _ (by walk_at "om")).trans e
   ·rw [if_neg aC] at q7 ⊢
    obtain ⟨m', rX, w7⟩ := zJ _ _ q7
    obtain ⟨J7, G5, G6, G7, G8⟩ := after s7 H7 I7
    exact ⟨m', rX, i + 1, zs, H7, pI, ai, nn, zK, J7, G5, G6, G7, G8, r3, w7⟩
 exact codeAny_compStart_list (loop _ rfl) (T.self X.A 0 _ _ _ zG (loop _ rfl))
theorem zN {J : It} {fp : List Addr} {it : Addr} {tn : Nat -> Heap -> Prop} {E : Value -> Shared -> Prop} {Q : VK} {RR : Value -> Addr -> Result -> Shared -> Prop}
 (S : mK X own scope cl fr ys) (hc : X.calm = true) (hg : ∀ (C : Addr) (s : Shared) (H : Hp) (ex : List Addr) (pn : List (Addr × Obj)), PG (df X (own ++ ys) scope cl C s H ex pn) tg g)
 (hb : ∀ (C : Addr) (s : Shared) (H : Hp) (ex : List Addr) (pn : List (Addr × Obj)), jF (df X (own ++ ys) scope cl C s H ex pn) ifs tt /\ PE (df X (own ++ ys) scope cl C s H ex pn) elt te)
 (I2 : Inv X pins σ H2 s2) (T : Turn X.prog X.w X.K tg J fp it tn) (fM : tn 0 s2.heap) (f2 : ∀ b ∈ fp, eI X pins H2 b)
 (h : kR own.length J g (fr.map fun j => (σ[j]?).join) tt te H2 Q)
 (rS : ∀ D C s' H', Inv X pins σ H' s' -> (∃ m, s'.heap.Ns C m) -> eI X pins H' C -> Q (.ref D) H' -> RR (.ref D) C (.ok .next) s') :
 wpAny (model X.prog X.w) X.A (newList []) (fun acc s3 => wpAny (model X.prog X.w) X.A (newFunctionEnv scope X.env.globals cl [] X.env.qual none .none (some X.env)) (fun zO s4 =>
  codeAny (model X.prog X.w) X.A (.compStart (.ListComp elt [⟨tg, iter, ifs, 0⟩] scope pos) 0 (.ref it) acc { zO with scope := relabel scope X.env }) (RR acc zO.locals) s4) E s3) E s2 := by
 refine wpAny_newObj_type (wpAny_newFunctionEnv (fun y hy => by simpa using List.all_eq_true.mp S.nocell y hy) (fun y hy => absurd hy (by simp)) (fun h1 jC mO => ?_) S.kind)
 dsimp only at jC mO ⊢
 generalize eP : s2.heap.push { cls := .type "list", dict := none, data := .seq ([] : List Value).toArray } = P2 at jC mO ⊢
 have sz : P2.objs.size = s2.heap.objs.size + 1 := by rw [<- eP, Heap.size_push]
 have jG : s2.heap.objs.size ≠ P2.objs.size := by walk_at "om"
 have keep : ∀ b o, s2.heap.get? b = some o -> h1.get? b = some o := fun b o e => by
  have lt := Heap.lt_size e
  exact mO.extBut b o (by walk_at "om") (Heap.get?_push_of_some _ (eP ▸ Heap.get?_push_of_some _ e))
 have hD : h1.get? s2.heap.objs.size = some { cls := .type "list", data := .seq ([] : List Value).toArray 0 } :=
  mO.extBut _ _ jG (Heap.get?_push_of_some _ (eP ▸ Heap.get?_push_size _ rfl))
 generalize eC : P2.objs.size = C at jC mO jG ⊢
 generalize eD : s2.heap.objs.size = D at jG hD
 have kS : s2.heap.objs.size <= C := by walk_at "om"
 have mL : s2.heap.objs.size <= D := by walk_at "om"
 have jH : ∀ b ∈ fp, b < s2.heap.objs.size := fun b hb => by
  obtain ⟨o, e, _⟩ := T.obj 0 _ fM b hb
  exact Heap.lt_size e
 have G9 : (df X (own ++ ys) scope cl C s2 H2 fp (X.pn ++ pins)).Ok := GW S I2 f2 kS (fun b hb => by have := jH b hb; walk_at "om")
 have rT := zF I2 f2 kS mL
 have I4 : Inv (df X (own ++ ys) scope cl C s2 H2 fp (X.pn ++ pins)) [] ((own.map fun _ => none) ++ fr.map fun j => (σ[j]?).join) H2 { s2 with heap := h1, toks := s2.toks + ([] : List (Str × Value)).length } := by
  refine ⟨G9, rfl, I2.bare, Un.kept keep, ⟨_, jC, fun i y v e1 e2 e3 => ?_⟩, fun y c e => ?_, I2.aC.fresh kS, fun y c e => I2.gu y c (S.cls.get y c e), fun p hp => ?_, I2.aC.kept keep, ?_⟩
  ·by_cases hio : i < own.length
   ·rw [List.getElem?_append_left (by simpa using hio)] at e2
    simp [hio] at e2
   ·rw [List.getElem?_append_right (by simp; lia)] at e2
    have zP : ys[i - own.length]? = some y := by
     have : (own ++ ys)[i]? = some y := e1
     rwa [List.getElem?_append_right (by lia)] at this
    rw [List.length_map] at e2
    obtain ⟨j, c, hN, hσ, hk, Ha, r9⟩ := S.aX.get (i - own.length) y v zP e2
    obtain ⟨m, hm, hl⟩ := I2.loc
    obtain ⟨u, ru, lu⟩ := hl j y v hN hσ (.inr (.inl hk))
    refine ⟨u, ru, .inr ⟨.inl ?_, c, Ha, ?_⟩⟩
    ·have z := List.all_eq_true.mp S.kfr y (List.mem_of_getElem? zP)
     exact (by simpa using z : (relabel scope X.env).names.lookup y = some .cell)
    ·rcases lu with ⟨z, _⟩ | ⟨_, c', e', q'⟩
     ·rw [hk] at z; cases z
     ·rw [r9] at e'; cases e'
      obtain ⟨o, ho, hd⟩ := q'
      exact ⟨o, keep _ _ ho, hd⟩
  ·obtain ⟨v, o, ho, hd⟩ := I2.cell y c (S.cls.get y c e)
   exact ⟨v, o, keep _ _ ho, hd⟩
  ·have kT : p ∈ X.pn ++ pins := by
    have : p ∈ (X.pn ++ pins) ++ [] := hp
    simpa using this
   obtain ⟨e, n, _, _, d⟩ := I2.pin p kT
   obtain ⟨p1, _, p3, _⟩ := rT p kT
   exact ⟨keep _ _ e, n, p1, p3, d⟩
  ·show ((own.map fun _ => (none : Option V)) ++ fr.map fun j => (σ[j]?).join).length = (own ++ ys).length
   simp [S.aX.len]
 refine GY hc (hg C s2 H2 fp (X.pn ++ pins)) (hb C s2 H2 fp (X.pn ++ pins)) I2 T fM f2 h rS (by simp) I4 keep hD eD (sz.symm.trans eC) fun y c e => ?_
 obtain ⟨v, o, ho, _⟩ := I2.cell y c (S.cls.get y c e)
 have := Heap.lt_size ho
 exact ⟨by walk_at "om", fun b hb z => (f2 b hb).2.2.2.2.1 y c (S.cls.get y c e) z⟩
theorem Hb {wi : TI} {B : L2.St -> It -> Hp -> VK -> Prop} (S : mK X own scope cl fr ys) (hc : X.calm = true) (hi : PI X tg iter wi) (hg : ∀ (C : Addr) (s : Shared) (H : Hp) (ex : List Addr) (pn : List (Addr × Obj)), PG (df X (own ++ ys) scope cl C s H ex pn) tg g)
 (hb : ∀ (C : Addr) (s : Shared) (H : Hp) (ex : List Addr) (pn : List (Addr × Obj)), jF (df X (own ++ ys) scope cl C s H ex pn) ifs tt /\ PE (df X (own ++ ys) scope cl C s H ex pn) elt te)
 (hB : ∀ ρ J H Q, B ρ J H Q -> kR own.length J g ρ tt te H Q) (hs : ∀ z, foldedSetIterable iter X.env z = pure z := by intro _; rfl) : PE X (.ListComp elt [⟨tg, iter, ifs, 0⟩] scope pos) (fun σ H Q => wi σ H fun J H1 => B (fr.map fun j => (σ[j]?).join) J H1 Q) := by
 intro pins s σ H Q I h
 rw [eval_ListComp]
 refine wpAny_comprehension_free (use := none) rfl hs S.clos S.kind (fun y hy hl => ?_) (aB (hi pins s σ H _ I h) fun xv s1 h1 => aB h1 fun oZ s2 h2 => ?_)
 ·have z := List.all_eq_true.mp S.names y hy
  rw [hl] at z
  simpa using z
 ·obtain ⟨it, fp, tn, J, H2, rfl, I2, T, fM, f2, sf⟩ := h2
  refine zN (RR := fun acc C => compPost (model X.prog X.w) X.A X.xe none (EP X pins σ Q) acc C) S hc hg hb I2 T fM f2 (hB _ _ _ _ sf) fun D C s' H' J' hn fC q => ?_
  obtain ⟨m, hm⟩ := hn
  obtain ⟨c0, c1, c2, c3, c4, c5⟩ := fC
  exact ⟨m, hm, fun h' sb => ⟨.ref D, H', J'.turned (it := C) (fun b o hb e => sb.extBut b o hb e) c0 c1 c3 c4 c5, rfl, q⟩⟩
theorem Hc {wi : TI} {B : L2.St -> It -> Hp -> VK -> Prop} {y : Str} {py mP : Pos} {i : Nat} (S : mK X own scope cl fr ys) (hc : X.calm = true) (hN : X.N.Nodup) (hy : X.N[i]? = some y) (hl : X.env.scope.names.lookup y = some .local) (hi : PI X tg iter wi) (hg : ∀ (C : Addr) (s : Shared) (H : Hp) (ex : List Addr) (pn : List (Addr × Obj)), PG (df X (own ++ ys) scope cl C s H ex pn) tg g)
 (hb : ∀ (C : Addr) (s : Shared) (H : Hp) (ex : List Addr) (pn : List (Addr × Obj)), jF (df X (own ++ ys) scope cl C s H ex pn) ifs tt /\ PE (df X (own ++ ys) scope cl C s H ex pn) elt te)
 (hB : ∀ ρ J H Q, B ρ J H Q -> kR own.length J g ρ tt te H Q) (si : swapsWith (.ListComp elt [⟨tg, iter, ifs, 0⟩] scope pos) (some (.Name y py)) mP.line X.env = pure true := by rfl)
 (hs : ∀ z, foldedSetIterable iter X.env z = pure z := by intro _; rfl) : PS X (.Assign [.Name y py] (.ListComp elt [⟨tg, iter, ifs, 0⟩] scope pos) mP) (rQ i fun σ H Q => wi σ H fun J H1 => B (fr.map fun j => (σ[j]?).join) J H1 Q) := by
 intro pins s σ H Dn I h
 rw [exec_Assign_Name_used _ _ _ _ si]
 refine wpAny_bind (wpAny_standAt (wpAny_bind ?_))
 show wpAny _ X.A (do let _ <- comprehension (.ListComp elt [⟨tg, iter, ifs, 0⟩] scope pos) scope X.env _ (newList []) false (eval iter X.env) (some (assign (.Name y py) X.env))) _ _ s
 refine wpAny_bind (aB (wpAny_comprehension_free (use := some (assign (.Name y py) X.env)) (Q := fun _ s' => SP X pins Dn .next s') rfl hs S.clos S.kind (fun z hz hl => ?_) (aB (hi pins s σ H _ I h) fun xv s1 h1 => aB h1 fun oZ s2 h2 => ?_)) fun _ s' hq => wpAny_pure (wpAny_pure hq))
 ·have z' := List.all_eq_true.mp S.names z hz
  rw [hl] at z'
  simpa using z'
 ·obtain ⟨it, fp, tn, J, H2, rfl, I2, T, fM, f2, sf⟩ := h2
  refine zN (RR := fun acc C => compPost (model X.prog X.w) X.A X.xe (some (assign (.Name y py) X.env)) (fun _ s' => SP X pins Dn .next s') acc C) S hc hg hb I2 T fM f2 (hB _ _ _ _ sf) fun D C s' H' J' hn fC q => ?_
  obtain ⟨m, oC, es, ep, ho, hd, hr⟩ := hn
  obtain ⟨c0, c1, c2, c3, c4, c5⟩ := fC
  have J2 : Inv X (pins ++ [(C, oC)]) σ H' s' := J'.lZ fun p hp => by
   rcases List.mem_append.mp hp with z | z
   ·exact J'.pin p (List.mem_append_right _ z)
   ·have : p = (C, oC) := by simpa using z
    subst this
    exact ⟨ho, c0, c1, c2, fun v z => by rw [hd] at z; cases z⟩
  show wpAny _ X.A (assign (.Name y py) X.env (.ref D)) _ _ _
  refine aB (qQ (X := X) hN hy (.inl hl) (.inr hl) _ s' σ H' (.ref D) (.ref D) (fun σ' fS => σ' = σ.set i (some (.ref D)) /\ fS = H') J2 rfl ⟨rfl, rfl⟩) fun _ s3 ⟨σ3, H3, J3, e1, e2⟩ => ?_
  subst e1 e2
  obtain ⟨pc, PX, _⟩ := J3.pin (C, oC) (List.mem_append_right _ (List.mem_append_right _ (List.mem_singleton.mpr rfl)))
  refine ⟨m, ⟨oC, es, ep, pc, hd, hr⟩, fun h' sb => ⟨_, H3, J3.o5.turned (it := C) (fun b o hb e => sb.extBut b o hb e) c0 c1 c3 c4 c5, q⟩⟩
end
theorem zQ {J : It} {ρ : L2.St} {tt : TT} {te : TE} {H : Hp} {Q : VK} (h : mJ J ρ tt te H Q) : kR 1 J (jq 0) ρ tt te H Q := by
 obtain ⟨W, w0, turn⟩ := h
 refine ⟨W, w0, fun i m ys H hw => (turn i m ys H hw).imp id fun ⟨a, b, N, hN, st⟩ => ⟨a, b, N, hN, fun os ho x H' y => ?_⟩⟩
 match os, ho with
 | [_], _ => exact ⟨[some x], rfl, rfl, st x H' y⟩
section
variable {X : Cx} {x : Str} {px pos : Pos} {elt iter : Expr} {ifs : List Expr} {scope : Scope} {cl : List (Str × Addr)} {fr : List Nat} {ys : List Str} {tt : TT} {te : TE}
theorem jE.g (S : jE X x scope cl fr ys) : mK X [x] scope cl fr ys := ⟨S.clos, S.nocell, S.kind, S.names, S.kinds, S.cls, S.aX, S.kfr⟩
theorem jE.pg (S : jE X x scope cl fr ys) (C : Addr) (s : Shared) (H : Hp) (ex : List Addr) (pn : List (Addr × Obj)) : PG (df X ([x] ++ ys) scope cl C s H ex pn) (.Name x px) (jq 0) :=
 qQ (X := df X (x :: ys) scope cl C s H ex pn) (i := 0) S.nd rfl (.inl (lookup_relabel_local S.own)) (.inr (lookup_relabel_local S.own))
theorem fw {wi : TI} (S : jE X x scope cl fr ys) (hc : X.calm = true) (hi : PI X (.Name x px) iter wi)
 (hb : ∀ (C : Addr) (s : Shared) (H : Hp) (ex : List Addr) (pn : List (Addr × Obj)), jF (df X (x :: ys) scope cl C s H ex pn) ifs tt /\ PE (df X (x :: ys) scope cl C s H ex pn) elt te)
 (hs : ∀ z, foldedSetIterable iter X.env z = pure z := by intro _; rfl) : PE X (.ListComp elt [⟨.Name x px, iter, ifs, 0⟩] scope pos) (rP wi fr tt te) := Hb (B := fun ρ J H Q => mJ J ρ tt te H Q) S.g hc hi S.pg hb (fun _ _ _ _ h => zQ h) hs
theorem sj {wi : TI} {y : Str} {py mP : Pos} {i : Nat} (S : jE X x scope cl fr ys) (hc : X.calm = true) (hN : X.N.Nodup) (hy : X.N[i]? = some y) (hl : X.env.scope.names.lookup y = some .local) (hi : PI X (.Name x px) iter wi)
 (hb : ∀ (C : Addr) (s : Shared) (H : Hp) (ex : List Addr) (pn : List (Addr × Obj)), jF (df X (x :: ys) scope cl C s H ex pn) ifs tt /\ PE (df X (x :: ys) scope cl C s H ex pn) elt te)
 (si : swapsWith (.ListComp elt [⟨.Name x px, iter, ifs, 0⟩] scope pos) (some (.Name y py)) mP.line X.env = pure true := by rfl)
 (hs : ∀ z, foldedSetIterable iter X.env z = pure z := by intro _; rfl) : PS X (.Assign [.Name y py] (.ListComp elt [⟨.Name x px, iter, ifs, 0⟩] scope pos) mP) (rQ i (rP wi fr tt te)) := Hc (B := fun ρ J H Q => mJ J ρ tt te H Q) S.g hc hN hy hl hi S.pg hb (fun _ _ _ _ h => zQ h) si hs
end
def gI (Ok : Hp -> Prop) (ρ : L2.St) (tt : TT) (te : TE) : List V -> List V -> Hp -> (List V -> Hp -> Prop) -> Prop
 | [], ys, H, Q => Ok H /\ Q ys H
 | x :: r, ys, H, Q => Ok H /\ tt (some x :: ρ) H fun b H1 => if b = true then te (some x :: ρ) H1 fun y H2 => gI Ok ρ tt te r (ys ++ [y]) H2 Q else gI Ok ρ tt te r ys H1 Q
structure pJ (J : It) (Ok : Hp -> Prop) (xs : List V) : Prop where
 go : ∀ i H x, Ok H -> xs[i]? = some x -> J.go i H
 yld : ∀ i H x H', Ok H -> J.yld i H x H' -> H' = H /\ (i < xs.length -> xs[i]? = some x)
 stop : ∀ i H, Ok H -> xs.length <= i -> J.stop i H
section
variable {J : It} {Ok : Hp -> Prop} {xs : List V} {ρ : L2.St} {tt : TT} {te : TE} {H : Hp} {Q : VK} {K : PySem.W.Frag} {a : Addr}
theorem d8 (O : pJ J Ok xs) (hn : xs.length <= sizeLine) (h : gI Ok ρ tt te xs [] H fun ys H' => ∀ l, H' l = none -> Q (.ref l) (upd H' l (.lst ys))) : mJ J ρ tt te H Q := by
 refine ⟨fun i m ys H => m = xs.length - i /\ i <= xs.length /\ ys.length <= i /\ gI Ok ρ tt te (xs.drop i) ys H fun ys H' => ∀ l, H' l = none -> Q (.ref l) (upd H' l (.lst ys)), ⟨_, rfl, Nat.zero_le _, Nat.le_refl _, h⟩, ?_⟩
 rintro i m ys H ⟨rfl, hi, hy, g⟩
 by_cases cz : i < xs.length
 ·have e := List.drop_eq_getElem_cons cz
  rw [e] at g
  obtain ⟨g0, g1⟩ := g
  refine .inr ⟨O.go i H _ g0 (List.getElem?_eq_getElem cz), by walk_at "om", fun zs H' => zs.length <= i + 1 /\ gI Ok ρ tt te (xs.drop (i + 1)) zs H' fun ys H' => ∀ l, H' l = none -> Q (.ref l) (upd H' l (.lst ys)), fun zs H' q => ⟨_, by walk_at "om", rfl, cz, q.1, q.2⟩, fun x H' y => ?_⟩
  obtain ⟨rfl, ex⟩ := O.yld i H x H' g0 y
  have ex := ex cz
  rw [List.getElem?_eq_getElem cz] at ex
  cases ex
  have l1 : ∀ y : V, (ys ++ [y]).length <= i + 1 := fun y => by rw [List.length_append, List.length_singleton]; walk_at "om"
  have l2 : ys.length <= i + 1 := by walk_at "om"
  simp only [l1, l2, true_and]
  exact g1
 ·have e : i = xs.length := by walk_at "om"
  subst e
  rw [List.drop_length] at g
  exact .inl ⟨O.stop _ H g.1 (Nat.le_refl _), by walk_at "om", g.2⟩
theorem jI : pJ (iz K a) (fun H => ao K H a xs) xs :=
 ⟨fun _ _ _ h e => ⟨xs, _, h, e⟩, fun _ _ _ _ h y => ⟨y.1, fun _ => y.2 xs h⟩, fun _ _ h hi => ⟨xs, h, hi⟩⟩
theorem jJ {lo : Int} {n : Nat} : pJ (fL lo n) (fun _ => True) ((List.range n).map fun k => V.int (lo + (k : Nat))) :=
 ⟨fun i _ _ _ e => by
  have := (List.getElem?_eq_some_iff.mp e).1
  show i < n
  simpa using this, fun i _ _ _ _ y => ⟨y.1, fun hi => by
   have mQ : i < n := by simpa using hi
   rw [y.2, List.getElem?_map, List.getElem?_range mQ]; rfl⟩, fun i _ _ hi => by
   show n <= i
   simpa using hi⟩
theorem sk {p : V -> Bool} {f : V -> V} {Q' : List V -> Hp -> Prop} (cB : Ok H) : ∀ {xs ys : List V}, (∀ x ∈ xs, ∀ Q, Q (p x) H -> tt (some x :: ρ) H Q) -> (∀ x ∈ xs, p x = true -> ∀ Q, Q (f x) H -> te (some x :: ρ) H Q) -> Q' (ys ++ (xs.filter p).map f) H -> gI Ok ρ tt te xs ys H Q'
 | [], ys, _, _, q => ⟨cB, by simpa using q⟩
 | x :: r, ys, ht, he, q => by
  refine ⟨cB, ht x (.head _) _ ?_⟩
  by_cases hb : p x = true
  ·rw [if_pos hb]
   refine he x (.head _) hb _ (sk cB (fun y hy => ht y (.tail _ hy)) (fun y hy => he y (.tail _ hy)) ?_)
   rw [List.filter_cons, if_pos hb] at q
   simpa using q
  ·rw [if_neg hb]
   refine sk cB (fun y hy => ht y (.tail _ hy)) (fun y hy => he y (.tail _ hy)) ?_
   rw [List.filter_cons, if_neg hb] at q
   exact q
end
section
variable {X : Cx} {K : PySem.W.Frag}
theorem Hd (h : X.K = K) : gD X (jA K) := h ▸ y9
end
end Gz
namespace Gz
open PySem PySem.Spec PyProof.Rows L2
local macro_rules | `(tactic| walk_at "om") => `(tactic| ((try simp only [PySem.Addr] at *); lia))
section
set_option hygiene false
local macro_rules | `(tactic| walk_at "mm1") => `(tactic| (
 have nS : S ∉ wr := fun z => hS (W.sub _ z)
 intro k
 induction k with
 | zero =>
  intro j s vb c e st pb oS fin
  have e' : j + 1 = n := by walk_at "om"
  refine codeAny_builtin e1 ?_
  rw [Around.under_plainId e2 _]
  show wpAny _ A.in1 (seqItems? (.ref S) >>= _) _ _ s
  refine wpAny_bind (wpAny_seqItems oS rfl ?_)
  show wpAny _ A.in1 (tryCatch (pyNext (.ref I)) _ >>= _) _ _ s
  refine wpAny_bind (wpAny_tryCatch (W.done s _ _ (e' ▸ st) fun h1 tk kp => ?_))
  have iD := kp S _ nS oS
  show wpAny _ A.in1 (updateSeq S (fun _ => #[]) >>= _) _ _ _
  refine wpAny_bind ?_
  refine wpAny_updateSeq iD rfl (wpAny_bind (wpAny_letGo (wpAny_pure ?_)))
  exact fin vb _ tk (by rw [<- e']; exact pb) fun b o hw hb q => (Heap.get?_update_other _ _ (Ne.symm hb)).trans (kp b o hw q)
 | succ k ih =>
  intro j s vb c e st pb oS fin
  have lt : j + 1 < n := by walk_at "om"
  refine codeAny_builtin e1 ?_
  rw [Around.under_plainId e2 _]
  show wpAny _ A.in1 (seqItems? (.ref S) >>= _) _ _ s
  refine wpAny_bind (wpAny_seqItems oS rfl ?_)
  show wpAny _ A.in1 (tryCatch (pyNext (.ref I)) _ >>= _) _ _ s
  refine wpAny_bind (wpAny_tryCatch (W.item (j + 1) s _ _ lt st fun v h1 tk pv pK kp => ?_))
  have iD := kp S _ nS oS
  show wpAny _ A.in1 (tryCatch (holding [v, v] (richCompare _ v vb >>= _)) _ >>= _) _ _ _
  refine wpAny_bind (wpAny_tryCatch (wpAny_holding (wpAny_bind (hcmp (j + 1) (argBest bt j) v vb _ _ _ pv pb ?_))))
  refine wpAny_bind (wpAny_holding (wpAny_truthy_bool ?_))
  refine wpAny_bind (wpAny_letGo (wpAny_pure ?_))
  cases hb : bt (j + 1) (argBest bt j) with
  | true =>
   simp only [if_true]
   refine wpAny_bind ?_
   refine wpAny_updateSeq iD rfl (wpAny_bind (wpAny_letGo ?_))
   rw [nm]
   refine wpAny_pure ⟨plainId_quiet e2 _, ih (j + 1) _ v _ (by walk_at "om") (W.frame _ _ _ pK fun b hf o q => ?_) (by simp only [argBest, hb, if_true]; exact pv) (Heap.get?_update_self _ iD rfl) fun v2 h2 sq p2 k2 => ?_⟩
   ·exact (Heap.get?_update_other _ _ (fun z : S = b => hS (by rw [z]; exact hf))).trans q
   ·exact fin v2 h2 sq p2 fun b o hw pL q => k2 b o hw pL ((Heap.get?_update_other _ _ (Ne.symm pL)).trans (kp b o hw q))
  | false =>
   simp only [Bool.false_eq_true, if_false]
   refine wpAny_bind (wpAny_letGo ?_)
   rw [nm]
   refine wpAny_pure ⟨plainId_quiet e2 _, ih (j + 1) _ vb c (by walk_at "om") pK (by simp only [argBest, hb, Bool.false_eq_true, if_false]; exact pb) iD fun v2 h2 sq p2 k2 => ?_⟩
   exact fin v2 h2 sq p2 fun b o hw pL q => k2 b o hw pL (kp b o hw q)))
local macro_rules | `(tactic| walk_at "mm2") => `(tactic| (
 show wpAny _ A.in1 (Builtin.Builtins.bindParams _ ["key", "default"] 0 ⟨[], [("default", d)]⟩ >>= _) _ _ s
 refine wpAny_bind (wpAny_of_eq (show Builtin.Builtins.bindParams _ ["key", "default"] 0 ⟨[], [("default", d)]⟩ = pure [none, some d] from rfl) ?_)
 refine wpAny_bind (wpAny_pure ?_)
 refine wpAny_bind (iter_intList hl fun s2 e2 st jH He => ?_)
 subst e2
 refine wpAny_bind (wpAny_newObj_type ?_)
 have W := Walks.list (prog := prog) (w := w) (A := A.in1) hh s.heap.objs.size l He (intItems xs)
 generalize eP : (s.heap.push { cls := .type "list_iterator", data := .fields #[.ref l, .int 0 0] }) = P2 at st jH ⊢
 have sr : P2.objs.size ∉ [s.heap.objs.size, l] := fun z => Nat.lt_irrefl _ (jH _ z)
 have up : ∀ b o, s.heap.get? b = some o -> b ≠ P2.objs.size /\ b ∉ [s.heap.objs.size] /\ (P2.push { cls := .type "list", dict := none, data := .seq ([] : List Value).toArray }).get? b = some o := fun b o q => by
  have lt := Heap.lt_size q
  have q2 : P2.get? b = some o := by rw [<- eP]; exact Heap.get?_push_of_some _ q
  refine ⟨Nat.ne_of_lt (Heap.lt_size q2), fun z => ?_, Heap.get?_push_of_some _ q2⟩
  have : b = s.heap.objs.size := by simpa using z
  walk_at "om"
 rw [nm]
 refine wpAny_pure ⟨plainId_quiet e2 _, ?_⟩
 have oS : (P2.push { cls := .type "list", dict := none, data := .seq ([] : List Value).toArray }).get? P2.objs.size = some { cls := .type "list", dict := none, data := .seq #[] 0, slots := #[] } := Heap.get?_push_size _ rfl
 have c9 := W.frame 0 P2 (P2.push { cls := .type "list", dict := none, data := .seq ([] : List Value).toArray }) st fun b _ o q => Heap.get?_push_of_some _ q
 have nS : P2.objs.size ∉ [s.heap.objs.size] := fun z => sr (by simp at z; simp [z])
 by_cases hz : xs.size = 0
 ·have Hf : (P2.push { cls := .type "list", dict := none, data := .seq ([] : List Value).toArray }).IsListIter s.heap.objs.size l (intItems xs).size /\ (P2.push { cls := .type "list", dict := none, data := .seq ([] : List Value).toArray }).IsList l (intItems xs) := by
   have : (intItems xs).size = 0 := by simpa [intItems] using hz
   rw [this]; exact c9
  refine codeAny_builtin e1 ?_
  rw [Around.under_plainId e2 _]
  show wpAny _ A.in1 (seqItems? (.ref P2.objs.size) >>= _) _ _ _
  refine wpAny_bind (wpAny_seqItems oS rfl ?_)
  show wpAny _ A.in1 (tryCatch (pyNext (.ref s.heap.objs.size)) _ >>= _) _ _ _
  refine wpAny_bind (wpAny_tryCatch (W.done _ _ _ Hf fun h2 tk kp => ?_))
  refine wpAny_bind (wpAny_rule (wpAny_pure ?_))
  exact h0 hz h2 tk fun b o q => kp b o (up b o q).2.1 (up b o q).2.2
 ·have hp : 0 < xs.size := by walk_at "om"
  have hn : 0 < (intItems xs).size := by simpa [intItems] using hp
  refine codeAny_builtin e1 ?_
  rw [Around.under_plainId e2 _]
  show wpAny _ A.in1 (seqItems? (.ref P2.objs.size) >>= _) _ _ _
  refine wpAny_bind (wpAny_seqItems oS rfl ?_)
  show wpAny _ A.in1 (tryCatch (pyNext (.ref s.heap.objs.size)) _ >>= _) _ _ _
  refine wpAny_bind (wpAny_tryCatch (W.item 0 _ _ _ hn c9 fun v h2 tk pv pK kp => ?_))
  have iD := kp _ _ nS oS
  show wpAny _ A.in1 (updateSeq P2.objs.size (fun _ => #[v, v]) >>= _) _ _ _
  refine wpAny_bind ?_
  refine wpAny_updateSeq iD rfl ?_
  rw [nm]
  refine wpAny_pure ⟨plainId_quiet e2 _, e3 W (e4 (numAt xs) (fun _ _ => intItems_at)) sr ((intItems xs).size - 1) 0 _ v _ (by walk_at "om") (W.frame _ _ _ pK fun b hf o q => ?_) pv (Heap.get?_update_self _ iD rfl) fun v2 h3 Hg p3 k3 => ?_⟩
  ·exact (Heap.get?_update_other _ _ (fun z : P2.objs.size = b => sr (by rw [z]; exact hf))).trans q
  ·refine h1 hp v2 h3 Hg (by simpa [intItems] using p3) fun b o q => ?_
   exact k3 b o (up b o q).2.1 (up b o q).1 ((Heap.get?_update_other _ _ (Ne.symm (up b o q).1)).trans (kp b o (up b o q).2.1 (up b o q).2.2))))
end
noncomputable def d9 : List Int -> Int
 | [] => 0
 | x :: r => r.foldl (fun b y => if y > b then y else b) x
noncomputable def fy : List Int -> Int
 | [] => 0
 | x :: r => r.foldl (fun b y => if y < b then y else b) x
theorem zR : ∀ (r : List Int) (b : Int), b <= r.foldl (fun b y => if y > b then y else b) b /\ (∀ y ∈ r, y <= r.foldl (fun b y => if y > b then y else b) b) /\ (r.foldl (fun b y => if y > b then y else b) b = b ∨ r.foldl (fun b y => if y > b then y else b) b ∈ r)
 | [], b => ⟨Int.le_refl _, fun _ z => (nomatch z), .inl rfl⟩
 | x :: r, b => by
  simp only [List.foldl_cons]
  obtain ⟨h1, h2, h3⟩ := zR r (if x > b then x else b)
  refine ⟨?_, fun y hy => ?_, ?_⟩
  ·refine Int.le_trans ?_ h1; split <;> lia
  ·rcases List.mem_cons.mp hy with rfl | hy
   ·refine Int.le_trans ?_ h1; split <;> lia
   ·exact h2 y hy
  ·rcases h3 with h3 | h3
   ·rw [h3]; split
    ·right; simp
    ·left; rfl
   ·right; exact List.mem_cons_of_mem _ h3
theorem zS : ∀ (r : List Int) (b : Int), r.foldl (fun b y => if y < b then y else b) b <= b /\ (∀ y ∈ r, r.foldl (fun b y => if y < b then y else b) b <= y) /\ (r.foldl (fun b y => if y < b then y else b) b = b ∨ r.foldl (fun b y => if y < b then y else b) b ∈ r)
 | [], b => ⟨Int.le_refl _, fun _ z => (nomatch z), .inl rfl⟩
 | x :: r, b => by
  simp only [List.foldl_cons]
  obtain ⟨h1, h2, h3⟩ := zS r (if x < b then x else b)
  refine ⟨?_, fun y hy => ?_, ?_⟩
  ·refine Int.le_trans h1 ?_; split <;> lia
  ·rcases List.mem_cons.mp hy with rfl | hy
   ·refine Int.le_trans h1 ?_; split <;> lia
   ·exact h2 y hy
  ·rcases h3 with h3 | h3
   ·rw [h3]; split
    ·right; simp
    ·left; rfl
   ·right; exact List.mem_cons_of_mem _ h3
theorem kU {ns : List Int} (h : ns ≠ []) : d9 ns ∈ ns /\ ∀ y ∈ ns, y <= d9 ns := by
 cases ns with
 | nil => exact absurd rfl h
 | cons x r =>
  obtain ⟨h1, h2, h3⟩ := zR r x
  refine ⟨?_, fun y hy => ?_⟩
  ·rcases h3 with h3 | h3
   ·show r.foldl _ x ∈ _
    rw [h3]; exact .head _
   ·exact .tail _ h3
  ·rcases List.mem_cons.mp hy with rfl | hy
   ·exact h1
   ·exact h2 y hy
theorem zT {ns : List Int} (h : ns ≠ []) : fy ns ∈ ns /\ ∀ y ∈ ns, fy ns <= y := by
 cases ns with
 | nil => exact absurd rfl h
 | cons x r =>
  obtain ⟨h1, h2, h3⟩ := zS r x
  refine ⟨?_, fun y hy => ?_⟩
  ·rcases h3 with h3 | h3
   ·show r.foldl _ x ∈ _
    rw [h3]; exact .head _
   ·exact .tail _ h3
  ·rcases List.mem_cons.mp hy with rfl | hy
   ·exact h1
   ·exact h2 y hy
theorem pM : ∀ {ns : List Int} {ai : List Value}, Vals (ns.map V.int) ai -> ∃ xs : Array (Int × Tok), ai.toArray = intItems xs /\ xs.toList.map (·.1) = ns
 | [], _, .nil => ⟨#[], by simp [intItems], rfl⟩
 | n :: ns, _, .cons (l₂ := ai) r t => by
  obtain ⟨xs, e1, e2⟩ := pM (ns := ns) t
  obtain ⟨tk, rfl⟩ := r
  refine ⟨((n, tk) :: xs.toList).toArray, ?_, ?_⟩
  ·have : ai = xs.toList.map (fun p => Value.int p.1 p.2) := by
    have := congrArg Array.toList e1
    simpa [intItems] using this
   simp [intItems, this]
  ·simp [e2]
theorem zU {xs : Array (Int × Tok)} {ns : List Int} (e : xs.toList.map (·.1) = ns) {i : Nat} (hi : i < xs.size) : numAt xs i ∈ ns /\ numAt xs i = ns.getD i 0 := by
 subst e
 unfold numAt
 rw [Array.getElem?_eq_getElem hi]
 refine ⟨List.mem_map.mpr ⟨xs[i], by simp, rfl⟩, ?_⟩
 simp [hi]
theorem zV {xs : Array (Int × Tok)} {ns : List Int} (e : xs.toList.map (·.1) = ns) {y : Int} (hy : y ∈ ns) : ∃ i, i < xs.size /\ numAt xs i = y := by
 subst e
 obtain ⟨p, hp, rfl⟩ := List.mem_map.mp hy
 obtain ⟨i, hi, e⟩ := List.mem_iff_getElem.mp hp
 refine ⟨i, by simpa using hi, ?_⟩
 unfold numAt
 have mQ : i < xs.size := by simpa using hi
 rw [Array.getElem?_eq_getElem mQ]
 have : xs[i] = p := by simpa using e
 rw [this]; rfl
theorem zW {xs : Array (Int × Tok)} {ns : List Int} (e : xs.toList.map (·.1) = ns) (h : 0 < xs.size) : numAt xs (argBest (fun i j => decide (numAt xs i > numAt xs j)) (xs.size - 1)) = d9 ns := by
 obtain ⟨h1, h2⟩ := argBest_gt (numAt xs) (xs.size - 1)
 have dg : ns ≠ [] := by
  intro z; subst z
  have q := congrArg List.length e
  rw [List.length_map, Array.length_toList, List.length_nil] at q
  lia
 obtain ⟨m1, m2⟩ := kU dg
 refine Int.le_antisymm (m2 _ (zU e (by lia)).1) ?_
 obtain ⟨i, hi, ei⟩ := zV e m1
 rw [<- ei]; exact h2 i (by lia)
theorem Hh {xs : Array (Int × Tok)} {ns : List Int} (e : xs.toList.map (·.1) = ns) (h : 0 < xs.size) : numAt xs (argBest (fun i j => decide (numAt xs i < numAt xs j)) (xs.size - 1)) = fy ns := by
 obtain ⟨h1, h2⟩ := argBest_lt (numAt xs) (xs.size - 1)
 have dg : ns ≠ [] := by
  intro z; subst z
  have q := congrArg List.length e
  rw [List.length_map, Array.length_toList, List.length_nil] at q
  lia
 obtain ⟨m1, m2⟩ := zT dg
 refine Int.le_antisymm ?_ (m2 _ (zU e (by lia)).1)
 obtain ⟨i, hi, ei⟩ := zV e m1
 rw [<- ei]; exact h2 i (by lia)
section
variable {X : Cx} {e d : Expr} {te td : TE} {p pos kp : Pos}
noncomputable def Hi (f : List Int -> Int) : List Int -> V -> V
 | [], y => y
 | n :: ns, _ => .int (f (n :: ns))
def Hj (K : PySem.W.Frag) (f : List Int -> Int) (te td : TE) : TE := fun σ H Q => te σ H fun x H1 => td σ H1 fun y H2 => ∃ a ns, x = .ref a /\ ao K H2 a (ns.map V.int) /\ Q (Hi f ns y) H2
theorem zX (hc : X.calm = true) : da X (.builtin "max") (fun xs H Q => ∃ a ns, xs = [.ref a] /\ ao X.K H a (ns.map V.int) /\ ns ≠ [] /\ Q (.int (d9 ns)) H) := by
 intro pins s σ H xs us Q I r h
 obtain ⟨a, ns, rfl, hS, dg, q⟩ := h
 obtain ⟨u, rfl, ru⟩ := vals1 r
 cases ru
 obtain ⟨ai, rv, hp, _⟩ := I.list hS
 obtain ⟨xs, e1, e2⟩ := pM rv
 obtain ⟨o, n, ho, hU, _, hdt⟩ := hp
 have hl : s.heap.IsList a (intItems xs) := ⟨o, ho, hU, n, by rw [hdt, e1]⟩
 have len : xs.size = ns.length := by rw [<- e2, List.length_map]; simp
 have iE : 0 < xs.size := by rw [len]; exact List.length_pos_iff.mpr dg
 refine max_intList (I.ok.hd hc) hl iE fun v h' tk hv hk => ⟨.int (d9 ns), H, I.kept hk, ?_, q⟩
 obtain ⟨t, rfl⟩ := intItems_at hv
 exact ⟨t, by rw [zW e2 iE]⟩
theorem zY (hc : X.calm = true) : da X (.builtin "min") (fun xs H Q => ∃ a ns, xs = [.ref a] /\ ao X.K H a (ns.map V.int) /\ ns ≠ [] /\ Q (.int (fy ns)) H) := by
 intro pins s σ H xs us Q I r h
 obtain ⟨a, ns, rfl, hS, dg, q⟩ := h
 obtain ⟨u, rfl, ru⟩ := vals1 r
 cases ru
 obtain ⟨ai, rv, hp, _⟩ := I.list hS
 obtain ⟨xs, e1, e2⟩ := pM rv
 obtain ⟨o, n, ho, hU, _, hdt⟩ := hp
 have hl : s.heap.IsList a (intItems xs) := ⟨o, ho, hU, n, by rw [hdt, e1]⟩
 have len : xs.size = ns.length := by rw [<- e2, List.length_map]; simp
 have iE : 0 < xs.size := by rw [len]; exact List.length_pos_iff.mpr dg
 refine min_intList (I.ok.hd hc) hl iE fun v h' tk hv hk => ⟨.int (fy ns), H, I.kept hk, ?_, q⟩
 obtain ⟨t, rfl⟩ := intItems_at hv
 exact ⟨t, by rw [Hh e2 iE]⟩
end
end Gz
namespace Gz
open PySem PySem.Spec PyProof.Rows L2
local macro_rules | `(tactic| walk_at "om") => `(tactic| ((try simp only [PySem.Addr] at *); lia))
section
variable {X : Cx} {pins : List (Addr × Obj)} {σ : L2.St} {H : Hp} {s : Shared} {h' : Heap}
end
noncomputable def zZ (K : PySem.W.Frag) (a : Addr) (n : Nat) : It :=
 ⟨fun i H => ∃ xs x, ao K H a xs /\ xs.length = n /\ xs.reverse[i]? = some x, fun i H x H' => H' = H /\ ∀ xs, ao K H a xs -> xs.length = n -> xs.reverse[i]? = some x, fun i _ => i = n⟩
def z6 (K : PySem.W.Frag) (ta : TA) : TI := fun σ H R => ta σ H fun vs H1 => ∃ a xs, vs = [.ref a] /\ ao K H1 a xs /\ R (zZ K a xs.length) H1
noncomputable def z7 (K : PySem.W.Frag) (a : Addr) : It :=
 ⟨fun i H => ∃ xs x, ao K H a xs /\ xs[i]? = some x, fun i H v H' => ∃ (p : Addr) (x : V), v = .ref p /\ H p = none /\ H' = upd H p (.tup [.int i, x]) /\ ∀ xs, ao K H a xs -> xs[i]? = some x, fun i H => ∃ xs, ao K H a xs /\ xs.length <= i⟩
def z8 (K : PySem.W.Frag) (ta : TA) : TI := fun σ H R => ta σ H fun vs H1 => ∃ a, vs = [.ref a] /\ (∃ xs, ao K H1 a xs) /\ R (z7 K a) H1
noncomputable def z9 (K : PySem.W.Frag) (a b : Addr) : It :=
 ⟨fun i H => ∃ xs ys x y, ao K H a xs /\ ao K H b ys /\ xs[i]? = some x /\ ys[i]? = some y, fun i H v H' => ∃ (p : Addr) (x y : V), v = .ref p /\ H p = none /\ H' = upd H p (.tup [x, y]) /\ (∀ xs, ao K H a xs -> xs[i]? = some x) /\ ∀ ys, ao K H b ys -> ys[i]? = some y,
  fun i H => ∃ xs ys, ao K H a xs /\ ao K H b ys /\ (xs.length <= i ∨ ys.length <= i)⟩
def Aa (K : PySem.W.Frag) (ta : TA) : TI := fun σ H R => ta σ H fun vs H1 => ∃ a b, vs = [.ref a, .ref b] /\ (∃ xs, ao K H1 a xs) /\ (∃ ys, ao K H1 b ys) /\ R (z9 K a b) H1
section
variable {X : Cx}
theorem su : ∀ {bs : List Bool} {ai : List Value}, Vals (bs.map V.bl) ai -> ai = bs.map Value.bool
 | [], ai, r => by cases r; rfl
 | b :: bs, ai, r => by
  cases r with
  | cons r1 r2 =>
   cases r1
   rw [su r2]; rfl
theorem pN (hc : X.calm = true) : da X (.builtin "all") (fun xs H Q => ∃ (a : Addr) (bs : List Bool), xs = [.ref a] /\ ao X.K H a (bs.map V.bl) /\ Q (.bl (bs.all id)) H) := by
 intro pins s σ H xs us Q I r h
 obtain ⟨a, bs, rfl, hS, q⟩ := h
 obtain ⟨u, rfl, ru⟩ := vals1 r
 cases ru
 obtain ⟨ai, rv, hp, _⟩ := I.list hS
 have e := su rv
 subst e
 have hl := hp.isList
 have cz : a < s.heap.objs.size := by obtain ⟨_, e, _⟩ := hl; exact Heap.lt_size e
 refine call_all_walk (wpAny_pyIter_list hl ?_)
 refine ⟨s.heap.objs.size, [s.heap.objs.size, a], [s.heap.objs.size], (bs.map Value.bool).toArray.size, _, _, fun i => (bs[i]?).getD true, rfl, Walks.list (A := X.A.in1) (I.ok.hd hc) _ a (Nat.ne_of_lt cz) (bs.map Value.bool).toArray, ⟨⟨_, Heap.get?_push_size _ rfl, rfl, rfl⟩, hl.push _⟩, fun i v s' Q' E' hP hQ => ?_, fun h' tk hk => ?_⟩
 ·have hV : (bs[i]?).map Value.bool = some v := by simpa using hP
  cases e : bs[i]? with
  | none => rw [e] at hV; cases hV
  | some b =>
   rw [e] at hV; cases hV
   simp only [e, Option.getD_some] at hQ
   exact wpAny_truthy_bool hQ
 ·have e : ((List.range (bs.map Value.bool).toArray.size).all fun i => (bs[i]?).getD true) = bs.all id := by
   rw [List.size_toArray, List.length_map]; exact PyProof.Rows.LSm.range_all bs
  rw [e]
  exact ⟨.bl (bs.all id), H, I.kept (fun b o q => hk b o (fun z => by
   have : b = s.heap.objs.size := by simpa using z
   rw [this] at q; exact Nat.lt_irrefl _ (Heap.lt_size q)) (Heap.get?_push_of_some _ q)), rfl, q⟩
theorem Ab (hc : X.calm = true) : da X (.builtin "any") (fun xs H Q => ∃ (a : Addr) (bs : List Bool), xs = [.ref a] /\ ao X.K H a (bs.map V.bl) /\ Q (.bl (bs.any id)) H) := by
 intro pins s σ H xs us Q I r h
 obtain ⟨a, bs, rfl, hS, q⟩ := h
 obtain ⟨u, rfl, ru⟩ := vals1 r
 cases ru
 obtain ⟨ai, rv, hp, _⟩ := I.list hS
 have e := su rv
 subst e
 have hl := hp.isList
 have cz : a < s.heap.objs.size := by obtain ⟨_, e, _⟩ := hl; exact Heap.lt_size e
 refine call_any_walk (wpAny_pyIter_list hl ?_)
 refine ⟨s.heap.objs.size, [s.heap.objs.size, a], [s.heap.objs.size], (bs.map Value.bool).toArray.size, _, _, fun i => (bs[i]?).getD false, rfl, Walks.list (A := X.A.in1) (I.ok.hd hc) _ a (Nat.ne_of_lt cz) (bs.map Value.bool).toArray, ⟨⟨_, Heap.get?_push_size _ rfl, rfl, rfl⟩, hl.push _⟩, fun i v s' Q' E' hP hQ => ?_, fun h' tk hk => ?_⟩
 ·have hV : (bs[i]?).map Value.bool = some v := by simpa using hP
  cases e : bs[i]? with
  | none => rw [e] at hV; cases hV
  | some b =>
   rw [e] at hV; cases hV
   simp only [e, Option.getD_some] at hQ
   exact wpAny_truthy_bool hQ
 ·have e : ((List.range (bs.map Value.bool).toArray.size).any fun i => (bs[i]?).getD false) = bs.any id := by
   rw [List.size_toArray, List.length_map]; exact PyProof.Rows.LSm.range_any bs
  rw [e]
  exact ⟨.bl (bs.any id), H, I.kept (fun b o q => hk b o (fun z => by
   have : b = s.heap.objs.size := by simpa using z
   rw [this] at q; exact Nat.lt_irrefl _ (Heap.lt_size q)) (Heap.get?_push_of_some _ q)), rfl, q⟩
end
section
variable {K : PySem.W.Frag} {g : TG} {tb : TS} {D : Ends} {σ : L2.St} {H : Hp} {a b : Addr} {xs ys : List V}
theorem Hk {ta : TA} : gA (z6 K ta) g tb D σ H = ta σ H (fun vs H1 => ∃ a xs, vs = [.ref a] /\ ao K H1 a xs /\ FJ (zZ K a xs.length) g tb D σ H1) := rfl
theorem Hl {ta : TA} : gA (z8 K ta) g tb D σ H = ta σ H (fun vs H1 => ∃ a, vs = [.ref a] /\ (∃ xs, ao K H1 a xs) /\ FJ (z7 K a) g tb D σ H1) := rfl
theorem Hm {ta : TA} : gA (Aa K ta) g tb D σ H = ta σ H (fun vs H1 => ∃ a b, vs = [.ref a, .ref b] /\ (∃ xs, ao K H1 a xs) /\ (∃ ys, ao K H1 b ys) /\ FJ (z9 K a b) g tb D σ H1) := rfl
end
end Gz
namespace Gz
open PySem PySem.Spec PyProof.Rows L2
section
variable {X : Cx} {K : PySem.W.Frag}
theorem Ac (h : X.K = K) : my X (rC K) := h ▸ pA
variable {ρ : L2.St} {tt : TT} {te : TE} {H : Hp} {Q : VK} {a b : Addr} {xs ys : List V}
end
end Gz
namespace Gz
open PySem PySem.Spec PyProof.Rows L2
mutual
inductive Dat (K : PySem.W.Frag) (H : Hp) : V -> PyData -> Prop where
 | non : Dat K H .non .none
 | bl (b : Bool) : Dat K H (.bl b) (.bool b)
 | int (i : Int) : Dat K H (.int i) (.int i)
 | str (x : Str) : Dat K H (.str x) (.str x)
 | tup {a : Addr} {xs : List V} {ds : List PyData} (h : ay K H a xs) (r : kW K H xs ds) : Dat K H (.ref a) (.tuple ds)
 | lst {a : Addr} {xs : List V} {ds : List PyData} (h : ao K H a xs) (r : kW K H xs ds) : Dat K H (.ref a) (.list ds)
inductive kW (K : PySem.W.Frag) (H : Hp) : List V -> List PyData -> Prop where
 | nil : kW K H [] []
 | cons {x : V} {d : PyData} {xs : List V} {ds : List PyData} (h : Dat K H x d) (r : kW K H xs ds) : kW K H (x :: xs) (d :: ds)
end
section
variable {X : Cx} {pins : List (Addr × Obj)} {σ : L2.St} {H : Hp} {s : Shared}
theorem Dat.reads (I : Inv X pins σ H s) (d : PyData) {v : V} {u : Value} (h : Dat X.K H v d) : RelV v u -> ∃ as, Reads s.heap u d as := by
 refine Dat.rec (motive_1 := fun v d _ => ∀ u, RelV v u -> ∃ as, Reads s.heap u d as) (motive_2 := fun vs ds _ => ∀ us, Vals vs us -> ∃ as, ReadsAll s.heap us ds as) ?_ ?_ ?_ ?_ ?_ ?_ ?_ ?_ h u
 ·intro u r; cases r; exact ⟨_, .none⟩
 ·intro b u r; cases r; exact ⟨_, .bool b⟩
 ·rintro i u ⟨t, rfl⟩; exact ⟨_, .int i t⟩
 ·rintro x u ⟨t, rfl⟩; exact ⟨_, .str x t⟩
 ·intro a xs ds h q ih u r
  cases r
  obtain ⟨ai, rv, ⟨o, ho, hc, n, hd⟩, _⟩ := I.tuple h
  obtain ⟨as, ra⟩ := ih ai rv
  exact ⟨_, .tuple ho hc hd (by simpa using ra)⟩
 ·intro a xs ds h q ih u r
  cases r
  obtain ⟨ai, rv, ⟨o, n, ho, hc, _, hd⟩, _⟩ := I.list h
  obtain ⟨as, ra⟩ := ih ai rv
  exact ⟨_, .list ho hc hd (by simpa using ra)⟩
 ·intro us r; cases r; exact ⟨_, .nil⟩
 ·intro x d xs ds h q sv sA us r
  cases r with
  | cons r1 r2 =>
   obtain ⟨as, ra⟩ := sv _ r1
   obtain ⟨bs, rb⟩ := sA _ r2
   exact ⟨_, .cons ra rb⟩
def Ad (K : PySem.W.Frag) (neg : Bool) : R2 := fun x y H Q => ∃ d e, Dat K H x d /\ Dat K H y e /\ d.canLay0 = true /\ e.canLay0 = true /\ d.depth <= 60 /\ Q (.bl (if neg = true then !PyData.eqv d e else PyData.eqv d e)) H
theorem Hn (hu : X.A.units + 64 < cLine) : bf X (compareOp .NotEq) (Ad X.K true) := by
 intro pins s σ H x y v u Q I rx ry h
 obtain ⟨d, e, dx, dy, c1, c2, dd, q⟩ := h
 obtain ⟨as, ra⟩ := Dat.reads I d dx rx
 obtain ⟨bs, rb⟩ := Dat.reads I e dy ry
 exact SeqAt.compareNe_reads ra rb c1 c2 (by lia) ⟨.bl _, H, I, rfl, q⟩
end
end Gz
namespace Gz
open PySem PySem.Spec PyProof.Rows L2
noncomputable def Ae (lo st : Int) (n : Nat) : It := ⟨fun i _ => i < n, fun i H x H' => H' = H /\ x = .int (lo + (i : Int) * st), fun i _ => n <= i⟩
noncomputable def Af (lo hi st : Int) : Nat := (Builtin.Range.rangeSize lo hi st).toNat
def Ag (ta : TA) : TI := fun σ H R => ta σ H fun vs H1 => ∃ i j c : Int, vs = [.int i, .int j, .int c] /\ (-1000000 <= i /\ i <= 1000000 /\ -1000000 <= j /\ j <= 1000000 /\ -1000000 <= c /\ c <= 1000000 /\ c ≠ 0) /\ R (Ae i c (Af i j c)) H1
section
variable {g : TG} {tb : TS} {D : Ends} {σ : L2.St} {H : Hp} {lo st : Int} {n : Nat}
theorem Ho {ta : TA} : gA (qU ta) g tb D σ H = ta σ H (fun vs H1 => ∃ i j : Int, vs = [.int i, .int j] /\ (-(2 ^ 62) <= i /\ i < 2 ^ 62 /\ -(2 ^ 62) <= j /\ j < 2 ^ 62) /\ FJ (fL i (j - i).toNat) g tb D σ H1) := rfl
theorem Hq {ta : TA} : gA (Ag ta) g tb D σ H = ta σ H (fun vs H1 => ∃ i j c : Int, vs = [.int i, .int j, .int c] /\ (-1000000 <= i /\ i <= 1000000 /\ -1000000 <= j /\ j <= 1000000 /\ -1000000 <= c /\ c <= 1000000 /\ c ≠ 0) /\ FJ (Ae i c (Af i j c)) g tb D σ H1) := rfl
end
end Gz
namespace Gz
open PySem PySem.Spec PyProof.Rows L2
theorem Hr (xs : List V) {a b : Nat} (h2 : b <= xs.length) : dI xs (some (a : Int)) (some (b : Int)) = (xs.drop a).take (b - a) := by
 unfold dI
 rw [HT.pk, HT.pk, Nat.min_eq_left h2]
 by_cases h : a <= xs.length
 ·rw [Nat.min_eq_left h]
 ·rw [Nat.min_eq_right (by lia), List.drop_eq_nil_of_le (Nat.le_refl _), List.drop_eq_nil_of_le (by lia)]; simp
theorem Ah (xs : List V) (b : Nat) : dI xs none (some (b : Int)) = xs.take b := by
 unfold dI
 rw [HT.pk, HT.rq, List.drop_zero, Nat.sub_zero]
 by_cases h : b <= xs.length
 ·rw [Nat.min_eq_left h]
 ·rw [Nat.min_eq_right (by lia), List.take_length, List.take_of_length_le (by lia)]
theorem Ai (xs : List V) (a : Nat) : dI xs (some (a : Int)) none = xs.drop a := by
 unfold dI
 rw [HT.pk, HT.rq]
 by_cases h : a <= xs.length
 ·rw [Nat.min_eq_left h, List.take_of_length_le (by rw [List.length_drop]; lia)]
 ·rw [Nat.min_eq_right (by lia), List.drop_eq_nil_of_le (Nat.le_refl _), List.drop_eq_nil_of_le (by lia)]; simp
theorem sC {K : PySem.W.Frag} {H : Hp} : ∀ (ns : List Int), kW K H (ns.map V.int) (ns.map PyData.int)
 | [] => .nil
 | n :: ns => .cons (.int n) (sC ns)
mutual
noncomputable def eN : Nat -> PyData -> Bool
 | _, .none => true
 | _, .bool _ => true
 | _, .int _ => true
 | n + 1, .tuple ds => kX n ds
 | n + 1, .list ds => kX n ds
 | _, _ => false
noncomputable def kX : Nat -> List PyData -> Bool
 | _, [] => true
 | n, d :: ds => eN n d && kX n ds
end
mutual
theorem sD : ∀ (d : PyData) {n : Nat}, eN n d = true -> PyData.eqv d d = true /\ d.canLay0 = true /\ d.depth <= n
 | .none, n, _ => ⟨rfl, rfl, Nat.zero_le _⟩
 | .bool b, n, _ => ⟨by simp [PyData.eqv], rfl, Nat.zero_le _⟩
 | .int i, n, _ => ⟨by simp [PyData.eqv], rfl, Nat.zero_le _⟩
 | .str x, 0, h => by simp [eN] at h
 | .str x, n + 1, h => by simp [eN] at h
 | .dict x, 0, h => by simp [eN] at h
 | .dict x, n + 1, h => by simp [eN] at h
 | .tuple ds, 0, h => by simp [eN] at h
 | .list ds, 0, h => by simp [eN] at h
 | .tuple ds, n + 1, h => by
  obtain ⟨a, b, c⟩ := sE ds (n := n) (by simpa [eN] using h)
  exact ⟨by simpa only [PyData.eqv] using a, by simpa only [PyData.canLay0] using b, by simp only [PyData.depth]; lia⟩
 | .list ds, n + 1, h => by
  obtain ⟨a, b, c⟩ := sE ds (n := n) (by simpa [eN] using h)
  exact ⟨by simpa only [PyData.eqv] using a, by simpa only [PyData.canLay0] using b, by simp only [PyData.depth]; lia⟩
theorem sE : ∀ (ds : List PyData) {n : Nat}, kX n ds = true -> PyData.eqvAll ds ds = true /\ PyData.canLayAll0 ds = true /\ PyData.depthAll ds <= n
 | [], n, _ => ⟨rfl, rfl, Nat.zero_le _⟩
 | d :: ds, n, h => by
  have h' : eN n d = true /\ kX n ds = true := by simpa [kX] using h
  obtain ⟨a, b, c⟩ := sD d h'.1
  obtain ⟨a', b', c'⟩ := sE ds h'.2
  exact ⟨by simp only [PyData.eqvAll, a, a', Bool.and_self], by simp only [PyData.canLayAll0, b, b', Bool.and_self], by simp only [PyData.depthAll]; lia⟩
end
theorem Hs {K : PySem.W.Frag} {H : Hp} {x y : V} {d : PyData} {n : Nat} {neg : Bool} {Q : VK} (hx : Dat K H x d) (hy : Dat K H y d) (hp : eN n d = true) (hn : n <= 60) (q : Q (.bl (!neg)) H) : Ad K neg x y H Q := by
 obtain ⟨a, b, c⟩ := sD d hp
 refine ⟨d, d, hx, hy, b, b, Nat.le_trans c hn, ?_⟩
 rw [a]
 cases neg <;> exact q
end Gz
namespace Gz
open PySem PySem.Spec PyProof.Rows L2
end Gz
namespace Gz
noncomputable def num (c : Int) : Int := if c % 3 = 0 then c / 3 % 13 - 6 else c / 3 % 1000000000000000000000000000000 * 3315501701285949699224633478459810372516696558535471 % 200000000000000000000000000000000000000000000000001 - 100000000000000000000000000000000000000000000000000
noncomputable def pO (a b : Int) : Int := ((Nat.gcd a.natAbs b.natAbs : Nat) : Int)
noncomputable def sg (t b : Int) : Int := if b < 0 then -pO t b else pO t b
noncomputable def rt (t b : Int) : Int := t.fdiv (sg t b)
noncomputable def rb (t b : Int) : Int := b.fdiv (sg t b)
end Gz
namespace Gz
open PySem PySem.Spec PyProof.Rows L2
def av {α : Type} (R : V -> α -> Prop) : List V -> List α -> Prop
 | [], [] => True
 | x :: xs, a :: as => R x a /\ av R xs as
 | _, _ => False
section
variable {α : Type} {R R' : V -> α -> Prop}
theorem av.len : ∀ {xs : List V} {as : List α}, av R xs as -> xs.length = as.length
 | [], [], _ => rfl
 | _ :: _, _ :: _, h => by simp [av.len h.2]
 | [], _ :: _, h => h.elim
 | _ :: _, [], h => h.elim
theorem av.imp (f : ∀ x a, R x a -> R' x a) : ∀ {xs : List V} {as : List α}, av R xs as -> av R' xs as
 | [], [], _ => trivial
 | _ :: _, _ :: _, h => ⟨f _ _ h.1, av.imp f h.2⟩
 | [], _ :: _, h => h.elim
 | _ :: _, [], h => h.elim
theorem av.get : ∀ {xs : List V} {as : List α}, av R xs as -> ∀ {i : Nat} {x : V}, xs[i]? = some x -> ∃ a, as[i]? = some a /\ R x a
 | [], [], _, i, x, e => by simp at e
 | _ :: _, a :: _, h, 0, x, e => by simp at e; subst e; exact ⟨a, by simp, h.1⟩
 | _ :: _, _ :: _, h, i + 1, x, e => by
  simp only [List.getElem?_cons_succ] at e ⊢
  exact av.get h.2 e
 | [], _ :: _, h, _, _, _ => h.elim
 | _ :: _, [], h, _, _, _ => h.elim
theorem av.at : ∀ {xs : List V} {as : List α}, av R xs as -> ∀ {i : Nat} {a : α}, as[i]? = some a -> ∃ x, xs[i]? = some x /\ R x a
 | [], [], _, i, x, e => by simp at e
 | x :: _, _ :: _, h, 0, a, e => by simp at e; subst e; exact ⟨x, by simp, h.1⟩
 | _ :: _, _ :: _, h, i + 1, a, e => by
  simp only [List.getElem?_cons_succ] at e ⊢
  exact av.at h.2 e
 | [], _ :: _, h, _, _, _ => h.elim
 | _ :: _, [], h, _, _, _ => h.elim
theorem av.app : ∀ {xs ys : List V} {as bs : List α}, av R xs as -> av R ys bs -> av R (xs ++ ys) (as ++ bs)
 | [], _, [], _, _, h => h
 | _ :: _, _, _ :: _, _, h, h' => ⟨h.1, av.app h.2 h'⟩
 | [], _, _ :: _, _, h, _ => h.elim
 | _ :: _, _, [], _, h, _ => h.elim
theorem av.snoc {xs : List V} {as : List α} {x : V} {a : α} (h : av R xs as) (h' : R x a) : av R (xs ++ [x]) (as ++ [a]) := h.app ⟨h', trivial⟩
theorem av.take : ∀ {xs : List V} {as : List α} (n : Nat), av R xs as -> av R (xs.take n) (as.take n)
 | [], [], n, _ => by simp [av]
 | _ :: _, _ :: _, 0, _ => by simp [av]
 | _ :: _, _ :: _, n + 1, h => by simpa [av] using ⟨h.1, av.take n h.2⟩
 | [], _ :: _, _, h => h.elim
 | _ :: _, [], _, h => h.elim
theorem av.drop : ∀ {xs : List V} {as : List α} (n : Nat), av R xs as -> av R (xs.drop n) (as.drop n)
 | [], [], n, _ => by simp [av]
 | _ :: _, _ :: _, 0, h => by simpa using h
 | _ :: _, _ :: _, n + 1, h => by simpa using av.drop n h.2
 | [], _ :: _, _, h => h.elim
 | _ :: _, [], _, h => h.elim
theorem av.ints : ∀ (ns : List Int), av (fun x n => x = V.int n) (ns.map V.int) ns
 | [] => trivial
 | n :: ns => ⟨rfl, av.ints ns⟩
theorem av.gq {lo : Int} (n : Nat) : av (fun x (k : Nat) => x = V.int (lo + k)) ((List.range n).map fun k => V.int (lo + (k : Nat))) (List.range n) := by
 suffices ∀ l : List Nat, av (fun x (k : Nat) => x = V.int (lo + k)) (l.map fun k => V.int (lo + (k : Nat))) l from this _
 intro l
 induction l with
 | nil => trivial
 | cons a l ih => exact ⟨rfl, ih⟩
end
theorem kY {α : Type} {R : Hp -> V -> α -> Prop} {Ok : Hp -> Prop} {ρ : L2.St} {tt : TT} {te : TE} {p : α -> Bool} {f : α -> V} {Q' : List V -> Hp -> Prop} (mono : ∀ H H' x a, ah H H' -> R H x a -> R H' x a) : ∀ {xs : List V} {as : List α} {ys : List V} {H : Hp}, av (R H) xs as -> (∀ H', ah H H' -> Ok H') ->
 (∀ x a, a ∈ as -> ∀ H', ah H H' -> R H' x a -> ∀ Q, (∀ fS, ah H' fS -> Q (p a) fS) -> tt (some x :: ρ) H' Q) -> (∀ x a, a ∈ as -> p a = true -> ∀ H', ah H H' -> R H' x a -> ∀ Q : VK, (∀ fS, ah H' fS -> Q (f a) fS) -> te (some x :: ρ) H' Q) ->
 (∀ H', ah H H' -> Q' (ys ++ (as.filter p).map f) H') -> gI Ok ρ tt te xs ys H Q'
 | [], [], ys, H, _, cB, _, _, q => ⟨cB H (ah.refl H), by simpa using q H (ah.refl H)⟩
 | x :: xs, a :: as, ys, H, h, cB, ht, he, q => by
  refine ⟨cB H (ah.refl H), ht x a (.head _) H (ah.refl H) h.1 _ fun H1 s1 => ?_⟩
  by_cases hb : p a = true
  ·rw [if_pos hb]
   refine he x a (.head _) hb H1 s1 (mono _ _ _ _ s1 h.1) _ fun H2 s2 => ?_
   have S := s1.trans s2
   refine kY mono (h.2.imp fun x a r => mono _ _ _ _ S r) (fun H' s' => cB H' (S.trans s')) (fun x a ha H' s' => ht x a (.tail _ ha) H' (S.trans s')) (fun x a ha hb H' s' => he x a (.tail _ ha) hb H' (S.trans s')) fun H' s' => ?_
   have := q H' (S.trans s')
   rw [List.filter_cons, if_pos hb] at this
   simpa using this
  ·rw [if_neg hb]
   refine kY mono (h.2.imp fun x a r => mono _ _ _ _ s1 r) (fun H' s' => cB H' (s1.trans s')) (fun x a ha H' s' => ht x a (.tail _ ha) H' (s1.trans s')) (fun x a ha hb H' s' => he x a (.tail _ ha) hb H' (s1.trans s')) fun H' s' => ?_
   have := q H' (s1.trans s')
   rw [List.filter_cons, if_neg hb] at this
   exact this
 | [], _ :: _, _, _, h, _, _, _, _ => h.elim
 | _ :: _, [], _, _, h, _, _, _, _ => h.elim
theorem pP {α : Type} {R : V -> α -> Prop} {Ok : Hp -> Prop} {ρ : L2.St} {tt : TT} {te : TE} {p : α -> Bool} {f : α -> V} {Q' : List V -> Hp -> Prop} {H : Hp} (cB : Ok H) : ∀ {xs : List V} {as : List α} {ys : List V}, av R xs as ->
 (∀ x a, a ∈ as -> R x a -> ∀ Q, Q (p a) H -> tt (some x :: ρ) H Q) -> (∀ x a, a ∈ as -> p a = true -> R x a -> ∀ Q : VK, Q (f a) H -> te (some x :: ρ) H Q) ->
 Q' (ys ++ (as.filter p).map f) H -> gI Ok ρ tt te xs ys H Q'
 | [], [], ys, _, _, _, q => ⟨cB, by simpa using q⟩
 | x :: xs, a :: as, ys, h, ht, he, q => by
  refine ⟨cB, ht x a (.head _) h.1 _ ?_⟩
  by_cases hb : p a = true
  ·rw [if_pos hb]
   refine he x a (.head _) hb h.1 _ (pP cB h.2 (fun x a ha => ht x a (.tail _ ha)) (fun x a ha => he x a (.tail _ ha)) ?_)
   rw [List.filter_cons, if_pos hb] at q
   simpa using q
  ·rw [if_neg hb]
   refine pP cB h.2 (fun x a ha => ht x a (.tail _ ha)) (fun x a ha => he x a (.tail _ ha)) ?_
   rw [List.filter_cons, if_neg hb] at q
   exact q
 | [], _ :: _, _, h, _, _, _ => h.elim
 | _ :: _, [], _, h, _, _, _ => h.elim
theorem filter_tt {α : Type} (l : List α) : l.filter (fun _ => true) = l := List.filter_eq_self.mpr fun _ _ => rfl
abbrev P2 := Int × Int
def jK (H : Hp) (v : V) (p : P2) : Prop := ∃ a, v = .ref a /\ H a = some (.tup [.int p.1, .int p.2])
theorem jK.put {H : Hp} {v : V} {p : P2} {r : Addr} {ys zs : List V} (h : jK H v p) (hr : H r = some (.lst ys)) : jK (upd H r (.lst zs)) v p := by
 obtain ⟨a, e, q⟩ := h
 refine ⟨a, e, ?_⟩
 rw [aQ (lX q hr (fun z => nomatch z))]; exact q
abbrev sF (H : Hp) : List V -> List P2 -> Prop := av (jK H)
theorem sF.put {H : Hp} {xs : List V} {ps : List P2} {r : Addr} {ys zs : List V} (h : sF H xs ps) (hr : H r = some (.lst ys)) : sF (upd H r (.lst zs)) xs ps := av.imp (fun _ _ x => x.put hr) h
noncomputable def pQ (ns : List Int) : Bool := (ns.zip (ns.drop 1)).all fun r => decide (r.1 < r.2)
theorem Ht {ns : List Int} : pQ ns = true ↔ ∀ i, i + 1 < ns.length -> ns.getD i 0 < ns.getD (i + 1) 0 := by
 unfold pQ
 rw [List.all_eq_true]
 constructor
 ·intro h i hi
  have e : (ns.zip (ns.drop 1))[i]? = some (ns.getD i 0, ns.getD (i + 1) 0) := by
   rw [List.getElem?_zip_eq_some, List.getElem?_drop, List.getD_eq_getElem?_getD, List.getD_eq_getElem?_getD, List.getElem?_eq_getElem (show i < ns.length by lia), show 1 + i = i + 1 by lia, List.getElem?_eq_getElem hi]
   exact ⟨rfl, rfl⟩
  simpa using h _ (List.mem_of_getElem? e)
 ·intro h r hr
  obtain ⟨i, hi⟩ := List.mem_iff_getElem?.mp hr
  rw [List.getElem?_zip_eq_some, List.getElem?_drop] at hi
  have h1 := (List.getElem?_eq_some_iff.mp hi.2).1
  have := h i (by lia)
  rw [List.getD_eq_getElem?_getD, List.getD_eq_getElem?_getD, hi.1, show i + 1 = 1 + i by lia, hi.2] at this
  simpa using this
noncomputable def dh (ps : List P2) (i : Nat) : P2 := ps.getD i (0, 0)
end Gz
namespace Gz
open PySem PySem.Spec PyProof.Rows L2
end Gz
namespace Gz
open PySem PySem.Spec PyProof.Rows L2
end Gz
namespace Gz
open PySem PySem.Spec PyProof.Rows L2
def mR (s e : P2) (p q t b : Int) : Prop := (t - s.2 * b) * (e.1 - s.1) * q = (p - s.1 * q) * (e.2 - s.2) * b
def pR (ks : List P2) (p q : Int) (i : Nat) : Prop := i + 1 < ks.length /\ (dh ks i).1 * q <= p /\ p <= (dh ks (i + 1)).1 * q
def hit (ks : List P2) (p q : Int) : Prop := ∃ i, pR ks p q i
structure Led (ks : List P2) (p q t b : Int) : Prop where
 pos : 1 <= b
 low : pO t b = 1
 on : ∀ i, pR ks p q i -> mR (dh ks i) (dh ks (i + 1)) p q t b
theorem Aj {ks : List P2} {i : Nat} (h : i < ks.length) : (ks.map (·.1)).getD i 0 = (dh ks i).1 := by
 unfold dh
 rw [List.getD_eq_getElem?_getD, List.getElem?_map, List.getD_eq_getElem?_getD, List.getElem?_eq_getElem h]; rfl
theorem Ak {ks : List P2} (h : pQ (ks.map (·.1)) = true) : ∀ {i j : Nat}, i < j -> j < ks.length -> (dh ks i).1 < (dh ks j).1 := by
 rw [Ht] at h
 have st : ∀ i, i + 1 < ks.length -> (dh ks i).1 < (dh ks (i + 1)).1 := fun i hi => by
  have := h i (by rw [List.length_map]; exact hi)
  rwa [Aj (by lia), Aj hi] at this
 intro i j jL hj
 induction j with
 | zero => lia
 | succ j ih =>
  by_cases e : i = j
  ·subst e; exact st i hj
  ·exact Int.lt_trans (ih (by lia) (by lia)) (st j hj)
theorem Hu {a b c : P2} {p q t w : Int} (hq : 0 < q) (sG : a.1 < b.1) (h1 : p = b.1 * q) (h : mR a b p q t w) : mR b c p q t w := by
 unfold mR at *
 subst h1
 have e : (t - b.2 * w) * ((b.1 - a.1) * q) = 0 := by grind
 have n : (b.1 - a.1) * q ≠ 0 := Int.mul_ne_zero (by lia) (by lia)
 have := (Int.mul_eq_zero.mp e).resolve_right n
 have e2 : t - b.2 * w = 0 := this
 rw [e2]; grind
theorem Led.of {ks : List P2} {p q t b : Int} {i : Nat} (hr : pQ (ks.map (·.1)) = true) (hq : 0 < q) (h1 : 1 <= b) (h2 : pO t b = 1) (hi : pR ks p q i) (first : ∀ j, j < i -> ¬ pR ks p q j) (h : mR (dh ks i) (dh ks (i + 1)) p q t b) : Led ks p q t b := by
 refine ⟨h1, h2, fun j hj => ?_⟩
 by_cases e : j = i
 ·rw [e]; exact h
 by_cases lt : j < i
 ·exact absurd hj (first j lt)
 by_cases e1 : j = i + 1
 ·subst e1
  have l1 := Ak hr (i := i) (j := i + 1) (by lia) (by have := hj.1; lia)
  exact Hu hq l1 (by have := hi.2.2; have := hj.2.1; lia) h
 ·have l1 := Ak hr (i := i + 1) (j := j) (by lia) (by have := hj.1; lia)
  have : (dh ks (i + 1)).1 * q < (dh ks j).1 * q := Int.mul_lt_mul_of_pos_right l1 hq
  have a1 := hi.2.2
  have a2 := hj.2.1
  lia
def Al (H : Hp) (v : V) (t b : Int) : Prop := ∃ a, v = .ref a /\ H a = some (.tup [.int t, .int b])
theorem Al.p {K : PySem.W.Frag} {H : Hp} {v : V} {t b : Int} (h : Al H v t b) : pH K H v t b := let ⟨a, e, q⟩ := h; ⟨a, e, ay.of q⟩
def SameBut (x : Addr) (H H' : Hp) : Prop := ∀ b o, b ≠ x -> H b = some o -> H' b = some o
end Gz
namespace Gz
open PySem PySem.Spec PyProof.Rows L2
end Gz
namespace Gz
open PySem PySem.Spec PyProof.Rows L2
theorem jM {α β : Type} {R : Hp -> V -> α -> Prop} {R' : Hp -> V -> β -> Prop} {Ok : Hp -> Prop} {ρ : L2.St} {tt : TT} {te : TE} {f : α -> β} {Q' : List V -> Hp -> Prop} (mono : ∀ H H' x a, ah H H' -> R H x a -> R H' x a) (Am : ∀ H H' x a, ah H H' -> R' H x a -> R' H' x a) :
 ∀ {xs : List V} {as : List α} {ys : List V} {bs : List β} {H : Hp}, av (R H) xs as -> av (R' H) ys bs -> (∀ H', ah H H' -> Ok H') -> (∀ x a, a ∈ as -> ∀ H', ah H H' -> R H' x a -> ∀ Q, Q true H' -> tt (some x :: ρ) H' Q) ->
 (∀ x a, a ∈ as -> ∀ H', ah H H' -> R H' x a -> ∀ Q : VK, (∀ fS y, ah H' fS -> R' fS y (f a) -> Q y fS) -> te (some x :: ρ) H' Q) ->
 (∀ H' zs, ah H H' -> av (R' H') zs (bs ++ as.map f) -> Q' zs H') -> gI Ok ρ tt te xs ys H Q'
 | [], [], ys, bs, H, _, hy, cB, _, _, q => ⟨cB H (ah.refl H), q H ys (ah.refl H) (by simpa using hy)⟩
 | x :: xs, a :: as, ys, bs, H, h, hy, cB, ht, he, q => by
  refine ⟨cB H (ah.refl H), ht x a (.head _) H (ah.refl H) h.1 _ ?_⟩
  rw [if_pos rfl]
  refine he x a (.head _) H (ah.refl H) h.1 _ fun H2 y s2 r2 => ?_
  refine jM mono Am (bs := bs ++ [f a]) (h.2.imp fun x a r => mono _ _ _ _ s2 r) ((hy.imp fun x a r => Am _ _ _ _ s2 r).snoc r2) (fun H' s' => cB H' (s2.trans s')) (fun x a ha H' s' => ht x a (.tail _ ha) H' (s2.trans s')) (fun x a ha H' s' => he x a (.tail _ ha) H' (s2.trans s')) fun H' zs s' hz => ?_
  refine q H' zs (s2.trans s') ?_
  rw [List.map_cons]
  rwa [List.append_assoc] at hz
 | [], _ :: _, _, _, _, h, _, _, _, _, _ => h.elim
 | _ :: _, [], _, _, _, h, _, _, _, _, _ => h.elim
noncomputable def sw (ks : List P2) : List P2 := ks.map fun p => (p.2, p.1)
end Gz
namespace Gz
open PySem PySem.Spec PyProof.Rows L2
end Gz
namespace Gz
open PySem PySem.W PyProof.Rows
section
variable {lt : Nat -> Nat -> Bool} {n : Nat}
structure Ord (lt : Nat -> Nat -> Bool) : Prop where
 asym : ∀ {a b}, lt a b = true -> lt b a = false
 tr : ∀ {a b c}, lt b a = false -> lt c b = false -> lt c a = false
theorem Ord.rfl' (O : Ord lt) (a : Nat) : lt a a = false := by
 cases h : lt a a with
 | false => rfl
 | true => rw [O.asym h] at h; cases h
def mS (lt : Nat -> Nat -> Bool) (p : Array Nat) (k : Nat) : Prop := ∀ i j, i <= j -> j < k -> lt (p.getD j 0) (p.getD i 0) = false
def mT (lt : Nat -> Nat -> Bool) (p : Array Nat) (k : Nat) : Prop := ∀ i j, i <= j -> j < k -> lt (p.getD i 0) (p.getD j 0) = false
def jN (n : Nat) (p : Array Nat) : Prop := p.toList.Perm (List.range n)
theorem jN.size {p : Array Nat} (h : jN n p) : p.size = n := by
 have := h.length_eq
 simpa using this
theorem jN.below {p : Array Nat} (h : jN n p) {i : Nat} (hi : i < n) : p.getD i 0 < n := by
 have hs := h.size
 have mQ : i < p.size := by lia
 have e : p.getD i 0 = p[i] := by simp [Array.getD, mQ]
 rw [e]
 have m : p[i] ∈ p.toList := by simp
 simpa using h.mem_iff.mp m
theorem jN.of {p q : Array Nat} (h : jN n p) (hq : q.Perm p) : jN n q := (Array.perm_iff_toList_perm.mp hq).trans h
theorem mS.one (O : Ord lt) {p : Array Nat} : mS lt p 1 := fun i j jL hj => by
 have : i = j := by lia
 subst this; exact O.rfl' _
theorem mT.one (O : Ord lt) {p : Array Nat} : mT lt p 1 := fun i j jL hj => by
 have : i = j := by lia
 subst this; exact O.rfl' _
theorem mS.succ (O : Ord lt) {p : Array Nat} {k : Nat} (h : mS lt p k) (hk : 1 <= k) (hn : lt (p.getD k 0) (p.getD (k - 1) 0) = false) : mS lt p (k + 1) := fun i j jL hj => by
 by_cases e : j = k
 ·subst e
  by_cases ei : i = j
  ·subst ei; exact O.rfl' _
  ·exact O.tr (h i (j - 1) (by lia) (by lia)) hn
 ·exact h i j jL (by lia)
theorem mT.succ (O : Ord lt) {p : Array Nat} {k : Nat} (h : mT lt p k) (hk : 1 <= k) (hn : lt (p.getD (k - 1) 0) (p.getD k 0) = false) : mT lt p (k + 1) := fun i j jL hj => by
 by_cases e : j = k
 ·subst e
  by_cases ei : i = j
  ·subst ei; exact O.rfl' _
  ·exact O.tr hn (h i (j - 1) (by lia) (by lia))
 ·exact h i j jL (by lia)
noncomputable def An {α : Type} (lt : Nat -> Nat -> Bool) : KasT α -> α
 | .ret a => a
 | .ask i j k => An lt (k (lt i j))
noncomputable def Hv (lt : Nat -> Nat -> Bool) (n : Nat) : Array Nat := if n < 2 then List.toArray (List.range n) else An lt (kas_sort n)
end
end Gz
namespace Gz
open PySem PySem.Spec PyProof.Rows L2
local macro_rules | `(tactic| walk_at "om") => `(tactic| ((try simp only [PySem.Addr] at *); lia))
section
variable {prog : Program} {w : World} {A : Around} {E : Value -> Shared -> Prop} {s : Shared}
end
def Ao (sp : Sp) : List V -> List V -> Hp -> (List V -> Hp -> Prop) -> Prop
 | [], ks, H, Q => Q ks H
 | x :: r, ks, H, Q => sp [x] H (fun k H1 => Ao sp r (ks ++ [k]) H1 Q) E0
def ef (K : PySem.W.Frag) (H : Hp) : List V -> List (List Int) -> Prop
 | [], [] => True
 | k :: ks, n :: ns => (∃ p, k = .ref p /\ ay K H p (n.map V.int) /\ n ≠ []) /\ ef K H ks ns
 | _, _ => False
theorem ef.len {K : PySem.W.Frag} {H : Hp} : ∀ {ks : List V} {ns : List (List Int)}, ef K H ks ns -> ks.length = ns.length
 | [], [], _ => rfl
 | _ :: _, _ :: _, h => by simp [ef.len h.2]
 | [], _ :: _, h => h.elim
 | _ :: _, [], h => h.elim
theorem ef.snoc {K : PySem.W.Frag} {H : Hp} {p : Addr} {n : List Int} (hp : ay K H p (n.map V.int)) (hn : n ≠ []) : ∀ {ks : List V} {ns : List (List Int)}, ef K H ks ns -> ef K H (ks ++ [.ref p]) (ns ++ [n])
 | [], [], _ => ⟨⟨p, rfl, hp, hn⟩, trivial⟩
 | _ :: _, _ :: _, h => ⟨h.1, ef.snoc hp hn h.2⟩
 | [], _ :: _, h => h.elim
 | _ :: _, [], h => h.elim
theorem ef.get {K : PySem.W.Frag} {H : Hp} : ∀ {ks : List V} {ns : List (List Int)} {i : Nat} {k : V}, ef K H ks ns -> ks[i]? = some k -> ∃ p, k = .ref p /\ ay K H p ((ns.getD i []).map V.int)
 | [], [], _, _, _, e => by simp at e
 | k :: _, n :: _, 0, _, h, e => by
  simp at e; subst e
  obtain ⟨⟨p, a, b, _⟩, _⟩ := h
  exact ⟨p, a, b⟩
 | _ :: _, _ :: _, i + 1, _, h, e => by
  have := ef.get (i := i) h.2 (by simpa using e)
  simpa using this
 | [], _ :: _, _, _, h, _ => h.elim
 | _ :: _, [], _, _, h, _ => h.elim
section
variable {X : Cx} {pins : List (Addr × Obj)} {σ : L2.St} {H : Hp} {s : Shared}
theorem ef.dn (I : Inv X pins σ H s) : ∀ {ks : List V} {ns : List (List Int)} {us : List Value}, ef X.K H ks ns -> Vals ks us -> ∃ fs, PySem.W.KatTups s.heap us fs /\ fs.length = us.length /\ ∀ v ∈ fs, ∃ i t, v = .int i t
 | [], [], _, _, .nil => ⟨[], trivial, rfl, fun _ z => (nomatch z)⟩
 | k :: ks, n :: ns, _, h, .cons r rs => by
  obtain ⟨⟨p, rfl, hp, hn⟩, h⟩ := h
  cases r
  obtain ⟨fs, a, b, c⟩ := ef.dn I h rs
  obtain ⟨ai, rv, ⟨o, ho, hc, m, hd⟩, _⟩ := I.tuple hp
  cases n with
  | nil => exact absurd rfl hn
  | cons z zs =>
   cases rv with
   | cons r1 r2 =>
    obtain ⟨t, rfl⟩ := r1
    refine ⟨.int z t :: fs, PySem.W.KatTups.cons ho hc hd (by simp) a, by simp [b], fun v hv => ?_⟩
    rcases List.mem_cons.mp hv with rfl | hv
    ·exact ⟨_, _, rfl⟩
    ·exact c v hv
 | [], _ :: _, _, h, _ => h.elim
 | _ :: _, [], _, h, _ => h.elim
noncomputable def Hw (fz : List (List Int)) (i j : Nat) : Bool := HT.lexLt (fz.getD i []) (fz.getD j [])
noncomputable def Hx {α : Type} (fz : List (List Int)) (d : α) (as : List α) : List α := (Hv (Hw fz) as.length).toList.map fun i => as.getD i d
end
section
variable {X : Cx} {pins : List (Addr × Obj)} {σ : L2.St} {H : Hp} {s : Shared} {CX : cF} {k : Nat} {fa a : Addr} {fd : FuncData} {y : Str} {sp : Sp} {xs : List V} {Q : VK}
def Hy (K : PySem.W.Frag) (sp : Sp) (x : V) (H1 : Hp) (Q : VK) : Prop := ∃ (a : Addr) (xs : List V), x = .ref a /\ ao K H1 a xs /\ xs.length < 64 /\ Ao sp xs [] H1 fun ks H2 => ∃ fz, ef K H2 ks fz /\ ∀ l, H2 l = none -> Q (.ref l) (upd H2 l (.lst (Hx fz .non xs)))
def Hz (K : PySem.W.Frag) (sp : Sp) (te : TE) : TE := fun σ H Q => te σ H fun x H1 => Hy K sp x H1 Q
end
end Gz
namespace Gz
open PySem PySem.Spec PyProof.Rows L2
abbrev En := Option Int
noncomputable def ev : En -> V
 | none => .non
 | some i => .int i
theorem Ap : ev none = .non := rfl
theorem Aq (i : Int) : ev (some i) = .int i := rfl
noncomputable def eA : En -> En -> Bool
 | some x, some y => decide (y < x)
 | _, _ => false
def bY (H : Hp) (v : V) (a b : En) : Prop := ∃ p, v = .ref p /\ H p = some (.tup [ev a, ev b])
theorem bY.same {H H1 : Hp} {v : V} {a b : En} (h : bY H v a b) (s : ah H H1) : bY H1 v a b := by
 obtain ⟨p, e, h⟩ := h
 exact ⟨p, e, s _ _ h⟩
noncomputable def hold (a b : En) (n : Int) : Bool := !eA a (some n) && !eA (some n) b
theorem fT {a b : En} {n : Int} : hold a b n = true ↔ (∀ x, a = some x -> x <= n) /\ (∀ y, b = some y -> n <= y) := by
 unfold hold
 rcases a with _ | x <;> rcases b with _ | y <;> simp [eA]
end Gz
namespace Gz
open L2
abbrev S2 := En × En
noncomputable def hs (s : S2) (n : Int) : Bool := hold s.1 s.2 n
def Ar (s : S2) : Prop := eA s.1 s.2 = false
def kZ (a b : En) : Prop := a = none ∨ ∃ x y, a = some x /\ b = some y /\ x <= y
theorem kZ.refl (a : En) : kZ a a := by
 rcases a with _ | x
 ·exact .inl rfl
 ·exact .inr ⟨x, x, rfl, rfl, Int.le_refl _⟩
theorem kZ.trans {a b c : En} (h : kZ a b) (h' : kZ b c) : kZ a c := by
 rcases h with rfl | ⟨x, y, rfl, rfl, h1⟩
 ·exact .inl rfl
 ·rcases h' with h' | ⟨x', y', e, rfl, h2⟩
  ·cases h'
  ·cases e; exact .inr ⟨_, _, rfl, rfl, by lia⟩
def jO (p q : S2) : Prop := ∃ h l, p.2 = some h /\ q.1 = some l /\ h + 2 <= l
def Apart : List S2 -> Prop
 | x :: y :: r => jO x y /\ Apart (y :: r)
 | _ => True
theorem Apart.snoc : ∀ {i : List S2} {p q : S2}, Apart (i ++ [p]) -> jO p q -> Apart (i ++ [p, q])
 | [], p, q, _, h => ⟨h, trivial⟩
 | [x], p, q, h, h' => ⟨h.1, h', trivial⟩
 | x :: y :: r, p, q, h, h' => ⟨h.1, Apart.snoc (i := y :: r) h.2 h'⟩
theorem Apart.get : ∀ {l : List S2} {k : Nat} {p q : S2}, Apart l -> l[k]? = some p -> l[k + 1]? = some q -> jO p q
 | [], _, _, _, _, e, _ => by simp at e
 | [_], _, _, _, _, _, e => by simp at e
 | x :: y :: r, 0, p, q, h, e, e' => by simp at e e'; subst e e'; exact h.1
 | x :: y :: r, k + 1, p, q, h, e, e' => Apart.get (l := y :: r) (k := k) h.2 (by simpa using e) (by simpa using e')
def k4 (a b : En) : Prop := b = none ∨ ∃ x y, a = some x /\ b = some y /\ x <= y
theorem k4.refl (a : En) : k4 a a := by
 rcases a with _ | x
 ·exact .inl rfl
 ·exact .inr ⟨x, x, rfl, rfl, Int.le_refl _⟩
theorem k4.trans {a b c : En} (h : k4 a b) (h' : k4 b c) : k4 a c := by
 rcases h' with rfl | ⟨x', y', rfl, rfl, h2⟩
 ·exact .inl rfl
 ·rcases h with h | ⟨x, y, rfl, e, h1⟩
  ·cases h
  ·cases e; exact .inr ⟨_, _, rfl, rfl, by lia⟩
open PySem in
def cS (H : Hp) : List V -> List S2 -> Prop
 | [], [] => True
 | v :: vs, s :: ss => bY H v s.1 s.2 /\ cS H vs ss
 | _, _ => False
section
variable {H H1 : Hp} {K : PySem.W.Frag}
theorem bY.put {v : V} {a b : En} {l : PySem.Addr} {ys : List V} {o : HO} (h : bY H v a b) (hl : H l = some (.lst ys)) : bY (upd H l o) v a b := by
 obtain ⟨p, e, h⟩ := h
 exact ⟨p, e, by rw [aQ (lX h hl fun z => nomatch z)]; exact h⟩
theorem cS.put {l : PySem.Addr} {ys : List V} {o : HO} (hl : H l = some (.lst ys)) : ∀ {vs : List V} {ss : List S2}, cS H vs ss -> cS (upd H l o) vs ss
 | [], [], _ => trivial
 | _ :: _, _ :: _, h => ⟨h.1.put hl, cS.put hl h.2⟩
 | [], _ :: _, h => h.elim
 | _ :: _, [], h => h.elim
theorem cS.len : ∀ {vs : List V} {ss : List S2}, cS H vs ss -> vs.length = ss.length
 | [], [], _ => rfl
 | _ :: _, _ :: _, h => by simp [cS.len h.2]
 | [], _ :: _, h => h.elim
 | _ :: _, [], h => h.elim
theorem cS.get : ∀ {vs : List V} {ss : List S2} {i : Nat} {v : V}, cS H vs ss -> vs[i]? = some v -> ∃ s, ss[i]? = some s /\ bY H v s.1 s.2
 | [], [], _, _, _, e => by simp at e
 | _ :: _, s :: _, 0, _, h, e => by simp at e; subst e; exact ⟨s, rfl, h.1⟩
 | _ :: _, _ :: _, i + 1, _, h, e => by
  obtain ⟨s, a, b⟩ := cS.get (i := i) h.2 (by simpa using e)
  exact ⟨s, by simpa using a, b⟩
 | [], _ :: _, _, _, h, _ => h.elim
 | _ :: _, [], _, _, h, _ => h.elim
theorem cS.app : ∀ {vs ws : List V} {ss ts : List S2}, cS H vs ss -> cS H ws ts -> cS H (vs ++ ws) (ss ++ ts)
 | [], _, [], _, _, h => h
 | _ :: _, _, _ :: _, _, h, h' => ⟨h.1, cS.app h.2 h'⟩
 | [], _, _ :: _, _, h, _ => h.elim
 | _ :: _, _, [], _, h, _ => h.elim
open PySem
end
end Gz
namespace Gz
open PySem PySem.Spec PyProof.Rows L2
structure As (K : PySem.W.Frag) (C : Addr) (m : Str) (f : Addr) : Prop where
 ga : PySem.W.specialIn K (.ref C) "__getattribute__" = some (some (.builtin "type.__getattribute__"))
 rd : PySem.W.readsIn K C (.type "type") = true
 fd : PySem.W.findCls K (.ref C) (.type "type") m = some (.val (.ref f))
 kp : PySem.W.keepIn K (.ref f) = true
section
variable {X : Cx} {CX : cF} {k : Nat} {f C : Addr} {fd : FuncData} {ps : List Str} {ds : List Value} {bX : List V} {sp : Sp} {E : XK} {x m : Str} {p pos apos : Pos} {e : Expr} {es : List Expr} {t : TA}
theorem mU {pl : Sem Bool} (hg : Gl X x) (hm : X.mg x = some (.ref C)) (c : As X.K C m f) (F : bW X.prog X.w X.K X.mg X.base CX k f fd ps sp) (hr : aR k X.A) (hb : Binds X.K fd ps ds) (hd : Vals bX ds) (hx : Passes CX X E) (ha : PA X (e :: es) t)
 (eL : (x == ("__debug__" : Str)) = false := by decide) (mw : starEach (e :: es) X.env = (false, eval e X.env) :: starEach es X.env := by rfl) (cR : (backTo pos (starEach es X.env)).any (·.1) = false := by rfl)
 (ht : eval (.Call (.Attribute (.Name x p) m apos) (e :: es) [] pos) X.env = (do
   let ov <- eval (.Name x p) X.env
   standAt apos.atName
   let (f, first) <- holding [ov] (getMethod ov m pl)
   callWith pos f first (backTo pos (starEach (e :: es) X.env)) (backToKw pos (keywordEach [] X.env))) := by rfl) :
 PE X (.Call (.Attribute (.Name x p) m apos) (e :: es) [] pos) (mv sp bX E t) := by
 intro pins s σ H Q I h
 refine PySem.W.methodCall_KW (pl := pl) (aB (kF (X := X) (v := .ref C) hg hm rfl eL pins s σ H (fun v H1 => v = .ref C /\ H1 = H) I ⟨rfl, rfl⟩) fun u s1 ⟨y, H1, I1, rx, e1, e2⟩ => ?_) ht
 subst e1 e2
 obtain rfl : u = Value.ref C := rx
 refine PySem.W.method_cls I1.bQ c.ga (PySem.W.cls_value I1.bQ c.rd c.fd rfl ?_)
 have I2 : Inv X pins σ H1 { s1 with toks := s1.toks + 1 } := I1.tok _
 refine PySem.W.callWith_K (first := []) (h₀ := X.base) I.ok.mod.kin c.kp (aB (ha pos pins _ σ H1 _ I2 h) fun us s2 ⟨vs, H2, I3, r, q2⟩ => ⟨I3.bQ, ?_⟩) mw cR
 exact kI (us := us) (vs := vs) F hr hb hd hx I3 r q2
end
section
variable {X : Cx}
end
section
variable {X : Cx} {CX : cF} {k : Nat} {f : Addr} {fd : FuncData} {ps : List Str} {ds : List Value} {bX : List V} {sp : Sp} {E : XK} {m : Str} {pos apos : Pos} {o e : Expr} {es : List Expr} {ta : TE} {t : TA}
def Au (K : PySem.W.Frag) (m : Str) (f : Addr) (sp : Sp) (bX : List V) (E : XK) (ta : TE) (t : TA) : TE := fun σ H Q => ta σ H fun x H1 => ∃ a C dx fs, x = .ref a /\ H1 a = some (.ins C dx fs) /\ bc K C /\ Meth K C m f /\ fs.lookup m = none /\
 t σ H1 fun vs H2 => sp (.ref a :: (vs ++ bX)) H2 Q E
theorem Av {pl : Sem Bool} (he : PE X o ta) (F : bW X.prog X.w X.K X.mg X.base CX k f fd ps sp) (hr : aR k X.A) (hb : Binds X.K fd ps ds) (hd : Vals bX ds) (hx : Passes CX X E) (ha : PA X (e :: es) t)
 (mw : starEach (e :: es) X.env = (false, eval e X.env) :: starEach es X.env := by rfl) (cR : (backTo pos (starEach es X.env)).any (·.1) = false := by rfl)
 (ht : eval (.Call (.Attribute o m apos) (e :: es) [] pos) X.env = (do
   let ov <- eval o X.env
   standAt apos.atName
   let (f, first) <- holding [ov] (getMethod ov m pl)
   callWith pos f first (backTo pos (starEach (e :: es) X.env)) (backToKw pos (keywordEach [] X.env))) := by rfl) :
 PE X (.Call (.Attribute o m apos) (e :: es) [] pos) (Au X.K m f sp bX E ta t) := by
 intro pins s σ H Q I h
 refine PySem.W.methodCall_KW (pl := pl) (aB (he pins s σ H _ I h) fun u s1 ⟨x, H1, I1, rx, a, C, dx, fs, ex, ea, c, hm, l, q⟩ => ?_) ht
 subst ex
 obtain rfl : u = Value.ref a := rx
 refine pd I1 ea c hm l ?_
 refine PySem.W.callWith_K (first := [.ref a]) (h₀ := X.base) I.ok.mod.kin hm.kp (aB (ha pos pins s1 σ H1 _ I1 q) fun us s2 ⟨vs, H2, I2, r, q2⟩ => ⟨I2.bQ, ?_⟩) mw cR
 exact kI (us := .ref a :: us) (vs := .ref a :: vs) F hr hb hd hx I2 (.cons rfl r) q2
end
abbrev W2 := Option S2
def sH (H : Hp) (v : V) : W2 -> Prop
 | none => v = .non
 | some s => bY H v s.1 s.2
theorem sH.put {H : Hp} {v : V} {w : W2} {l : Addr} {ys : List V} {o : HO} (h : sH H v w) (hl : H l = some (.lst ys)) : sH (upd H l o) v w := by
 cases w with
 | none => exact h
 | some a => exact bY.put h hl
end Gz
namespace Gz
open PySem L2 PySem.W PySem.Spec PyProof.Rows
def Bt (n : Nat) (x : Int) : Prop := Builtin.Int.intBits x <= n
theorem Bt.add {n : Nat} {x y : Int} (h : Bt n x) (h' : Bt n y) : Bt (n + 1) (x + y) := by
 have := PyProof.Rows.bits_add h h'
 rwa [Nat.max_self] at this
theorem Bt.mul {n m : Nat} {x y : Int} (h : Bt n x) (h' : Bt m y) : Bt (n + m) (x * y) := PyProof.Rows.bits_mul h h'
theorem Bt.up {n m : Nat} {x : Int} (h : Bt n x) (hm : n <= m) : Bt m x := Nat.le_trans h hm
theorem Bt.small {x : Int} (h1 : -(2 ^ 64) < x) (h2 : x < 2 ^ 64) : Bt 64 x := PySem.intBits_le_64 h1 h2
def k6 (i j : Int) : Prop := Bt 40000000 i /\ Bt 40000000 j
theorem k6.ok {i j : Int} (h : k6 i j) : IntMulOk i j := PyProof.Rows.mulOk_of_bits h.1 h.2 (by decide)
theorem HA {X : Cx} : bf X (binaryOp .Mult) (rI k6 fun i j => .int (i * j)) := mi fun _ _ _ _ _ _ _ hc q => mul_int q hc.ok
def iF (ns : List Int) : Prop := ns.length <= 63 /\ ∀ x ∈ ns, Bt 1048576 x
theorem weigh : ∀ (ns : List Int) (x : Int), x ∈ ns -> Builtin.Int.intBits x <= PySem.W.WData.weightAll (ns.map PySem.W.WData.int)
 | [], x, h => by simp at h
 | y :: ns, x, h => by
  have e : PySem.W.WData.weightAll ((y :: ns).map PySem.W.WData.int) = (if y == 0 then 0 else y.natAbs.log2 + 1) + 1 + PySem.W.WData.weightAll (ns.map PySem.W.WData.int) := by
   rw [List.map_cons]
   simp only [PySem.W.WData.weightAll, PySem.W.WData.weight]
  rw [e]
  rcases List.mem_cons.mp h with rfl | h
  ·unfold Builtin.Int.intBits
   lia
  ·have := weigh ns x h
   lia
theorem HB {ns : List Int} (h : PySem.W.WData.layableAll [PySem.W.WData.list (ns.map PySem.W.WData.int)] = true) : ∀ x ∈ ns, Bt 1048576 x := by
 intro x hx
 have h1 : PySem.W.WData.layable (PySem.W.WData.list (ns.map PySem.W.WData.int)) = true := by
  have : (PySem.W.WData.layable (PySem.W.WData.list (ns.map PySem.W.WData.int)) && true) = true := h
  rwa [Bool.and_true] at this
 unfold PySem.W.WData.layable at h1
 rw [Bool.and_eq_true] at h1
 have h2 := of_decide_eq_true h1.2
 have h3 := weigh ns x hx
 simp only [PySem.W.WData.weight] at h2
 unfold Bt
 lia
theorem HC {l : PySem.W.OpenLaw} {k : Nat} {q : Program} {loose : List Str} {XP : (Str -> Option Value) -> Heap -> Prop} {YP : World -> Heap -> Prop} {d : DefRec} {K : Params -> PySem.W.Frag} {CX : World -> cF} {sp : World -> Sp} {x : Str}
 (most : l.most = some 63) (plain : d.params.defaults = []) (room : aR k callerA)
 (HD : ∀ (w : World) (h : Heap), YP w h -> (K w.params).In h)
 (F : ∀ (w : World) (mg : Str -> Option Value) (fa : Addr) (h : Heap), (K w.params).In h -> h.Ns mainGlobals mg -> mg d.name = some (.ref fa) ->
   ∃ fd : FuncData, (∀ (s : Shared) (u : Value), BindsTo s fd ⟨[u], []⟩ [(x, u)]) /\
    ∀ base : Heap, (K w.params).In base -> base.Ns mainGlobals mg -> bW l.prog w (K w.params) mg base (CX w) k fa fd [x] (sp w))
 (law : ∀ (w : World) (H : Hp) (a : Addr) (ns : List Int), iF ns -> ao (K w.params) H a (ns.map V.int) -> sp w [.ref a] H (fun v _ => v = .bl true) fun _ _ _ => False)
 (calm : ∀ (w : World) (H : Hp) (s : Shared) (e : Value) (s' : Shared), CX w [] H s (fun _ _ _ => False) e s' -> False) :
 PySem.W.WalkO q loose XP YP l.row.toRowW d [] (fun f vs => PySem.call f vs) := by
 intro w t₀ t mg mb G Y f ob pm cd doc dV kV look data code defs at_ gens args vals as pre lay _ well _
 have e1 : dV = .none := Dflts.none defs plain
 have e2 : kV = .none := Dflts.noKw defs
 cases e1
 cases e2
 obtain ⟨a, vs, ns, e3, e4, obj, are, len⟩ := rF.FZ most pre well
 cases e3
 cases e4
 have KX := HD w _ Y
 obtain ⟨fd, bind, ok⟩ := F w mg f _ KX G.T.g at_
 have run := F3 KX G.T.g G.T.b G.T.builtins G.T.nolimit gens obj are (Nat.le_trans len (by decide)) room ok bind
  (fun H _ S => law w H a ns ⟨len, HB lay⟩ S) fun H e s' => calm w H t e s'
 refine enter_call (codeAny_mono run ?_)
 rintro r s' ⟨rfl, old, os, bare⟩
 exact ⟨.inl ⟨.bool true, .bool true, [], rfl, fun _ => rfl, .bool true, rF.F2 l _, fun _ => ⟨List.Pairwise.nil, fun _ z => (nomatch z)⟩⟩, old, os, bare⟩
noncomputable def mV (ns : List Int) (k : Int) : Int := if 0 < (ns.length : Int) then ns.getD (k % (ns.length : Int)).toNat 0 else 0
theorem HE {ns : List Int} (h : iF ns) (k : Int) : Bt 1048576 (mV ns k) := by
 unfold mV
 split
 ·rw [List.getD_eq_getElem?_getD]
  cases e : ns[(k % (ns.length : Int)).toNat]? with
  | none => exact (Bt.small (by decide) (by decide)).up (by decide)
  | some n => exact h.2 _ (List.mem_of_getElem? e)
 ·exact (Bt.small (by decide) (by decide)).up (by decide)
theorem HF {ns : List Int} {k : Int} (h : 0 < (ns.length : Int)) : cG (ns.map V.int) (k % (ns.length : Int)) = some (.int (mV ns k)) := by
 have h1 := Int.emod_nonneg k (show (ns.length : Int) ≠ 0 by lia)
 have h2 := Int.emod_lt_of_pos k h
 unfold mV
 rw [if_pos h]
 have ek : k % (ns.length : Int) = (((k % (ns.length : Int)).toNat : Nat) : Int) := by lia
 refine (congrArg (cG _) ek).trans (iC ?_)
 rw [List.getElem?_map, List.getD_eq_getElem?_getD, List.getElem?_eq_getElem (by lia)]
 rfl
end Gz
namespace Gz
open PySem PySem.Spec PyProof.Rows L2
theorem sI {P : Int -> Prop} {Ok : Hp -> Prop} {ρ : L2.St} {tt : TT} {te : TE} {H : Hp} {Q' : List V -> Hp -> Prop} (cB : Ok H) : ∀ {xs ys : List V}, (∀ x ∈ xs, ∀ Q, Q true H -> tt (some x :: ρ) H Q) -> (∀ x ∈ xs, ∀ Q : VK, (∀ n : Int, P n -> Q (.int n) H) -> te (some x :: ρ) H Q) -> (∀ ms : List Int, ms.length = xs.length -> (∀ m ∈ ms, P m) -> Q' (ys ++ ms.map V.int) H) -> gI Ok ρ tt te xs ys H Q'
 | [], ys, _, _, q => ⟨cB, by simpa using q [] rfl fun _ h => by simp at h⟩
 | x :: r, ys, ht, he, q => by
  refine ⟨cB, ht x (.head _) _ ?_⟩
  rw [if_pos rfl]
  refine he x (.head _) _ fun n hn => sI (P := P) cB (fun y hy => ht y (.tail _ hy)) (fun y hy => he y (.tail _ hy)) fun ms hm hP => ?_
  have := q (n :: ms) (by simp [hm]) fun m h => by
   rcases List.mem_cons.mp h with rfl | h
   ·exact hn
   ·exact hP m h
  simpa using this
end Gz
namespace Gz
open PySem PySem.Spec PyProof.Rows L2
end Gz
namespace Gz
end Gz
namespace Gz
open PySem L2
theorem bb {a b : TS} {D : Ends} {σ : L2.St} {H : Hp} (I : L2.St -> Hp -> Prop) (h1 : ∀ N : L2.St -> Hp -> Prop, (∀ σ H, I σ H -> N σ H) -> a { D with nx := N } σ H) (h2 : ∀ σ H, I σ H -> b D σ H) : qN a b D σ H := h1 _ h2
end Gz
namespace Gz
open PySem PySem.Spec PyProof.Rows L2
theorem bH {c : Prop} [Decidable c] {a b : Prop} (h : c -> a) (h' : ¬ c -> b) : if c then a else b := by
 by_cases z : c
 ·rw [if_pos z]; exact h z
 ·rw [if_neg z]; exact h' z
section
variable {X : Cx} {pos : Pos}
theorem sJ {e : Expr} : PE X e (fun _ _ _ => False) := fun _ _ _ _ _ _ h => h.elim
theorem mW {x : Str} {n : Int} (h : ∃ t, X.mg x = some (.int n t)) (hg : Gl X x) (hd : (x == ("__debug__" : Str)) = false := by decide) : PE X (.Name x pos) (tC (.int n)) := by
 obtain ⟨t, ht⟩ := h
 exact kF (v := .int n) hg ht ⟨t, rfl⟩ hd
end
end Gz
namespace Gz
open PySem PySem.Spec PyProof.Rows L2
section
variable {X : Cx} {a b c d : Expr} {ta tb tc td : TE} {pos : Pos}
def Aw (r r' pS : R2) (ta tb tc td : TE) : TE := fun σ H Q => ta σ H fun x H1 => tb σ H1 fun y H2 => r x y H2 fun z H3 => ∃ k, z = .bl k /\
 (if k = true then tc σ H3 fun w' H4 => r' y w' H4 fun z2 H5 => ∃ k2, z2 = .bl k2 /\ (if k2 = true then td σ H5 fun w2 H6 => pS w' w2 H6 Q else Q (.bl false) H5) else Q (.bl false) H3)
theorem HG {op dW sL : CmpOp} {r r' pS : R2} (ho : bf X (compareOp op) r) (cQ : bf X (compareOp dW) r') (HH : bf X (compareOp sL) pS) (ha : PE X a ta) (hb : PE X b tb) (hc : PE X c tc) (hd : PE X d td)
 (hm : lastMarks [op, dW, sL] [b, c, d] = false := by with_unfolding_all rfl) : PT X (.Compare a [op, dW, sL] [b, c, d] pos) (o7 (Aw r r' pS ta tb tc td)) := by
 intro pins s σ H Q I h
 refine isTrue_chain (aB (ha pins s σ H _ I h) fun v s1 ⟨x, H1, I1, r1, q1⟩ => test_link (aB (hb pins s1 σ H1 _ I1 q1) fun u s2 ⟨y, H2, I2, r2, q2⟩ =>
  aB (ho pins s2 σ H2 x y v u _ I2 r1 r2 q2) fun d s3 ⟨z, H3, I3, r3, k, e, q3⟩ => ?_)) hm
 subst e
 cases r3
 refine wpAny_truthy_bool ?_
 cases k with
 | false =>
  obtain ⟨k', e', q'⟩ := q3
  cases e'
  exact (if_neg (by decide)).mpr ⟨H3, I3, q'⟩
 | true =>
  refine (if_pos rfl).mpr (test_link (aB (hc pins s3 σ H3 _ I3 q3) fun w' s4 ⟨z', H4, I4, r4, q4⟩ => aB (cQ pins s4 σ H4 y z' u w' _ I4 r2 r4 q4) fun d2 s5 ⟨z2, H5, I5, r5, k2, e2, q5⟩ => ?_))
  subst e2
  cases r5
  refine wpAny_truthy_bool ?_
  cases k2 with
  | false =>
   obtain ⟨k', e', q'⟩ := q5
   cases e'
   exact (if_neg (by decide)).mpr ⟨H5, I5, q'⟩
  | true =>
   refine (if_pos rfl).mpr (test_last (aB (hd pins s5 σ H5 _ I5 q5) fun w2 s6 ⟨z3, H6, I6, r6, q6⟩ => aB (HH pins s6 σ H6 z' z3 w' w2 _ I6 r4 r6 q6) fun d' s7 ⟨z4, H7, I7, r7, k3, e3, q7⟩ => ?_))
   subst e3
   cases r7
   exact wpAny_truthy_bool ⟨H7, I7, q7⟩
end
section
variable {X : Cx} {CX : cF} {k : Nat} {f : Addr} {fd : FuncData} {ps : List Str} {ds : List Value} {bX : List V} {sp : Sp} {E : XK} {m : Str} {pos apos : Pos} {o : Expr} {ta : TE}
end
def HI (t1 t2 : TE) : TE := fun σ H Q => t1 σ H Q ∨ t2 σ H Q
end Gz
namespace Gz
open PySem L2
end Gz
namespace L2
open PySem PySem.Spec PyProof.Rows
section
variable {κ : Type} [DecidableEq κ]
noncomputable def cM (kvs : List (κ × V)) (k : κ) : Option V := (kvs.find? fun kv => decide (kv.1 = k)).map (·.2)
noncomputable def putK (kvs : List (κ × V)) (k : κ) (v : V) : List (κ × V) :=
 if (kvs.any fun kv => decide (kv.1 = k)) = true then kvs.map (fun kv => if kv.1 = k then (kv.1, v) else kv) else kvs ++ [(k, v)]
noncomputable def pT (kvs : List (κ × V)) (k : κ) : List (κ × V) := kvs.filter fun kv => decide (kv.1 ≠ k)
theorem pU {p : κ × V} {r : List (κ × V)} {k : κ} (e : p.1 = k) : cM (p :: r) k = some p.2 := by simp [cM, List.find?_cons, e]
theorem pV {p : κ × V} {r : List (κ × V)} {k : κ} (e : ¬ p.1 = k) : cM (p :: r) k = cM r k := by simp [cM, List.find?_cons, e]
theorem Ax (k : κ) : ∀ kvs : List (κ × V), (kvs.any fun kv => decide (kv.1 = k)) = (cM kvs k).isSome
 | [] => rfl
 | p :: r => by
  rw [List.any_cons]
  by_cases e : p.1 = k
  ·simp only [pU e, decide_eq_true e, Bool.true_or, Option.isSome_some]
  ·rw [pV e, decide_eq_false e, Bool.false_or]; exact Ax k r
theorem dm.Ay {o : Option V} {u : Option Value} (r : dm o u) : o.isSome = u.isSome := by
 cases o with
 | none => cases u with
  | none => rfl
  | some _ => exact (show False from r).elim
 | some _ => cases u with
  | none => exact (show False from r).elim
  | some _ => rfl
theorem dm.getD {o : Option V} {u : Option Value} {d : V} {d' : Value} (r : dm o u) (rd : RelV d d') : RelV (o.getD d) (u.getD d') := by
 cases o with
 | none => cases u with
  | none => exact rd
  | some _ => exact (show False from r).elim
 | some _ => cases u with
  | none => exact (show False from r).elim
  | some _ => exact r
theorem KV.val {kvs : List (κ × V)} {vs : List (κ × Value)} (r : KV kvs vs) (k : κ) : dm (cM kvs k) (valueAt vs k) := by
 unfold KV at r
 induction r with
 | nil => exact True.intro
 | @cons p q ps qs h t ih =>
  obtain ⟨h1, h2⟩ := h
  by_cases e : p.1 = k
  ·have e' : q.1 = k := h1.symm.trans e
   have b : valueAt (q :: qs) k = some q.2 := by simp [valueAt, List.find?_cons, e']
   rw [pU e, b]; exact h2
  ·have e' : ¬ q.1 = k := fun z => e (h1.trans z)
   have b : valueAt (q :: qs) k = valueAt qs k := by simp [valueAt, List.find?_cons, e']
   rw [pV e, b]; exact ih
theorem KV.any {kvs : List (κ × V)} {vs : List (κ × Value)} (r : KV kvs vs) (k : κ) : (kvs.any fun kv => decide (kv.1 = k)) = vs.any fun kv => decide (kv.1 = k) := by
 unfold KV at r
 induction r with
 | nil => rfl
 | cons h t ih => rw [List.any_cons, List.any_cons, ih, h.1]
theorem KV.k7 {kvs : List (κ × V)} {vs : List (κ × Value)} (r : KV kvs vs) (k : κ) {y : V} {u : Value} (ry : RelV y u) :
 KV (kvs.map fun kv => if kv.1 = k then (kv.1, y) else kv) (vs.map fun kv => if kv.1 = k then (kv.1, u) else kv) := by
 unfold KV at r ⊢
 induction r with
 | nil => exact .nil
 | @cons p q ps qs h t ih =>
  rw [List.map_cons, List.map_cons]
  refine .cons ?_ ih
  obtain ⟨h1, h2⟩ := h
  by_cases e : p.1 = k
  ·rw [if_pos e, if_pos (h1.symm.trans e)]; exact ⟨h1, ry⟩
  ·rw [if_neg e, if_neg (fun z => e (h1.trans z))]; exact ⟨h1, h2⟩
theorem KV.put {kvs : List (κ × V)} {vs : List (κ × Value)} (r : KV kvs vs) (k : κ) {y : V} {u : Value} (ry : RelV y u) : KV (putK kvs k y) (stored vs k u) := by
 unfold putK stored
 rw [r.any k]
 by_cases e : (vs.any fun kv => decide (kv.1 = k)) = true
 ·rw [if_pos e, if_pos e]; exact r.k7 k ry
 ·rw [if_neg e, if_neg e]; exact Paired.snoc r ⟨rfl, ry⟩
theorem KV.drop {kvs : List (κ × V)} {vs : List (κ × Value)} (r : KV kvs vs) (k : κ) : KV (pT kvs k) (without vs k) := by
 unfold KV at r ⊢
 unfold pT without
 induction r with
 | nil => exact .nil
 | @cons p q ps qs h t ih =>
  obtain ⟨h1, h2⟩ := h
  rw [List.filter_cons, List.filter_cons]
  by_cases e : p.1 = k
  ·have a : ¬ decide (p.1 ≠ k) = true := by simp [e]
   have b : ¬ decide (q.1 ≠ k) = true := by simp [h1.symm.trans e]
   rw [if_neg a, if_neg b]; exact ih
  ·have e' : ¬ q.1 = k := fun z => e (h1.trans z)
   have a : decide (p.1 ≠ k) = true := by simp [e]
   have b : decide (q.1 ≠ k) = true := by simp [e']
   rw [if_pos a, if_pos b]; exact .cons ⟨h1, h2⟩ ih
theorem KV.length {kvs : List (κ × V)} {vs : List (κ × Value)} (r : KV kvs vs) : kvs.length = vs.length := Paired.length r
end
theorem Az {P : Program} {w : World} {k : Key} {u : Value} (r : RelV (kV k) u) : (iy P w).is k u = true := by
 cases k with
 | inl i => obtain ⟨t, e⟩ := (show ∃ t, u = Value.int i t from r); subst e; exact D6 P w i t
 | inr x => obtain ⟨t, e⟩ := (show ∃ t, u = Value.str x t from r); subst e; exact D7 P w x t
abbrev KT (H : Hp) : List (List Key × V) -> List (List Key × Addr × Value) -> Prop := Paired fun p q => p.1 = q.1 /\ H q.2.1 = some (.tup (p.1.map kV)) /\ RelV p.2 q.2.2
theorem KT.val {H : Hp} {kvs : List (List Key × V)} {xs : List (List Key × Addr × Value)} (r : KT H kvs xs) (k : List Key) : dm (cM kvs k) ((atKey xs k).map (·.2)) := by
 induction r with
 | nil => exact True.intro
 | @cons p q ps qs h t ih =>
  obtain ⟨h1, _, h2⟩ := h
  by_cases e : p.1 = k
  ·have e' : q.1 = k := h1.symm.trans e
   have b : atKey (q :: qs) k = some q.2 := by simp [atKey, List.find?_cons, e']
   rw [pU e, b]; exact h2
  ·have e' : ¬ q.1 = k := fun z => e (h1.trans z)
   have b : atKey (q :: qs) k = atKey qs k := by simp [atKey, List.find?_cons, e']
   rw [pV e, b]; exact ih
theorem KT.k7 {H : Hp} {kvs : List (List Key × V)} {xs : List (List Key × Addr × Value)} (r : KT H kvs xs) (k : List Key) {y : V} {u : Value} (ry : RelV y u) :
 KT H (kvs.map fun kv => if kv.1 = k then (kv.1, y) else kv) (xs.map (putAt k u)) := by
 induction r with
 | nil => exact .nil
 | @cons p q ps qs h t ih =>
  rw [List.map_cons, List.map_cons]
  refine .cons ?_ ih
  obtain ⟨h1, h2, h3⟩ := h
  unfold putAt
  by_cases e : p.1 = k
  ·rw [if_pos e, if_pos (h1.symm.trans e)]; exact ⟨h1, h2, ry⟩
  ·rw [if_neg e, if_neg (fun z => e (h1.trans z))]; exact ⟨h1, h2, h3⟩
theorem KT.put {H : Hp} {kvs : List (List Key × V)} {xs : List (List Key × Addr × Value)} (r : KT H kvs xs) (k : List Key) {b : Addr} {y : V} {u : Value} (hb : H b = some (.tup (k.map kV))) (ry : RelV y u) :
 KT H (putK kvs k y) (storedH xs k b u) := by
 have e : (kvs.any fun kv => decide (kv.1 = k)) = (atKey xs k).isSome := by
  rw [Ax, (r.val k).Ay, Option.isSome_map]
 unfold putK storedH
 rw [e]
 by_cases q : (atKey xs k).isSome = true
 ·rw [if_pos q, if_pos q]; exact r.k7 k ry
 ·rw [if_neg q, if_neg q]; exact Paired.snoc r ⟨rfl, hb, ry⟩
section
variable {P : Program} {w : World} {H : Hp} {h : Heap} {a : Addr}
end
def k8 (H : Hp) (a : Addr) (y : V) (r : Option V) : Prop :=
 (∃ kvs k, Rd H a (.dK kvs) /\ y = kV k /\ r = cM kvs k) ∨ ∃ kvs k b, Rd H a (.dT kvs) /\ y = .ref b /\ H b = some (.tup (k.map kV)) /\ r = cM kvs k
def pW (H : Hp) (a : Addr) (y v : V) (H' : Hp) : Prop :=
 (∃ kvs k, H a = some (.dK kvs) /\ y = kV k /\ kvs.length < sizeLine /\ H' = upd H a (.dK (putK kvs k v))) ∨
 ∃ kvs k b, H a = some (.dT kvs) /\ y = .ref b /\ H b = some (.tup (k.map kV)) /\ kvs.length < sizeLine /\ H' = upd H a (.dT (putK kvs k v))
theorem k8.k {H : Hp} {a : Addr} {kvs : List (Key × V)} {k : Key} (e : H a = some (.dK kvs)) : k8 H a (kV k) (cM kvs k) := .inl ⟨kvs, k, .inl e, rfl, rfl⟩
theorem k8.t {H : Hp} {a b : Addr} {kvs : List (List Key × V)} {k : List Key} (e : H a = some (.dT kvs)) (eb : H b = some (.tup (k.map kV))) : k8 H a (.ref b) (cM kvs k) := .inr ⟨kvs, k, b, .inl e, rfl, eb, rfl⟩
theorem pW.k {H : Hp} {a : Addr} {kvs : List (Key × V)} {k : Key} {v : V} (e : H a = some (.dK kvs)) (hl : kvs.length < sizeLine) : pW H a (kV k) v (upd H a (.dK (putK kvs k v))) := .inl ⟨kvs, k, e, rfl, hl, rfl⟩
theorem pW.t {H : Hp} {a b : Addr} {kvs : List (List Key × V)} {k : List Key} {v : V} (e : H a = some (.dT kvs)) (eb : H b = some (.tup (k.map kV))) (hl : kvs.length < sizeLine) :
 pW H a (.ref b) v (upd H a (.dT (putK kvs k v))) := .inr ⟨kvs, k, b, e, rfl, eb, hl, rfl⟩
section
variable {X : Cx} {pins : List (Addr × Obj)} {σ : St} {H : Hp} {s : Shared} {a : Addr} {y v : V} {u r : Value} {o : Option V} {A : Around} {E : Value -> Shared -> Prop}
end
section
variable {X : Cx} {pins : List (Addr × Obj)} {σ : St} {H : Hp} {s : Shared} {a : Addr} {kvs : List (Key × V)} {k : Key} {u : Value} {A : Around} {E : Value -> Shared -> Prop}
end
def AA (i : Expr) : Prop := ∀ ov iv, subscripted i false ov iv = operate [ov, iv] (getItem ov iv)
theorem HJ {prog : Program} {w : World} {A : Around} {E : Value -> Shared -> Prop} {s : Shared} {env : Env} {value slice : Expr} {pos : Pos} {T id : String} {Q : Value -> Shared -> Prop}
 (hl : typeLookup (.type T) "__getitem__" = pure (some (.builtin id))) (hs : AA slice)
 (h : wpAny (model prog w) A (eval value env) (fun o s₁ => wpAny (model prog w) A (eval slice env) (fun i s₂ => s₂.TypeIs o T /\ wpAny (model prog w) A (getItem o i) Q E s₂) E s₁) E s) :
 wpAny (model prog w) A (eval (.Subscript value slice pos) env) Q E s := by
 refine Subscript_ (wpAny_mono h (fun o s₁ h₁ => wpAny_mono h₁ (fun i s₂ h₂ => ?_) fun _ _ x => x) fun _ _ x => x)
 obtain ⟨hT, h₂⟩ := h₂
 unfold subscriptTail
 refine wpAny_bind ?_
 rw [getitemInPython_of_ne hT.not_modules]
 refine wpAny_bind (wpAny_specialOf hT hl ?_)
 have fin : wpAny (model prog w) A (subscripted slice false o i) (fun r s₃ => wpAny (model prog w) A (letTemporaryGo value o r >>= fun _ => pure r) Q E s₃) E s₂ := by
  rw [hs o i]
  exact wpAny_operating (wpAny_mono h₂ (fun r s₃ h₃ => wpAny_bind (wpAny_letTemporaryGo (wpAny_pure h₃))) fun _ _ x => x)
 first
  | exact wpAny_pure (wpAny_bind fin)
  | exact wpAny_bind (wpAny_pure (wpAny_bind fin))
  | exact wpAny_bind fin
section
variable {X : Cx} {o i e value : Expr} {pos pos' Fc : Pos} {td ty tv : TE}
end
section
variable {X : Cx} {pos : Pos}
end
section
variable {X : Cx} {pins : List (Addr × Obj)} {σ : St} {H : Hp} {s : Shared} {a : Addr} {y d : V} {u r : Value} {o : Option V} {A : Around} {E : Value -> Shared -> Prop}
end
section
variable {X : Cx} {o e f : Expr} {apos eu : Pos} {td ty tx : TE}
end
section
variable {X : Cx} {pins : List (Addr × Obj)} {σ : St} {H : Hp} {s : Shared} {a : Addr} {kvs : List (Key × V)} {A : Around} {E : Value -> Shared -> Prop}
end
section
variable {X : Cx} {pins : List (Addr × Obj)} {σ : St} {H : Hp} {s : Shared} {a : Addr} {y : V} {u : Value} {A : Around} {E : Value -> Shared -> Prop}
end
end L2
namespace L2
open PySem PySem.Spec PyProof.Rows
section
variable {κ : Type} [DecidableEq κ]
theorem AB : ∀ {l : List κ} {k : κ}, l.Nodup -> ¬ k ∈ l -> (l ++ [k]).Nodup
 | [], k, _, _ => by simp
 | a :: r, k, h, hk => by
  obtain ⟨h1, h2⟩ := List.nodup_cons.mp h
  show (a :: (r ++ [k])).Nodup
  refine List.nodup_cons.mpr ⟨fun m => ?_, AB h2 fun m => hk (List.mem_cons.mpr (Or.inr m))⟩
  rcases List.mem_append.mp m with q | q
  ·exact h1 q
  ·exact hk (List.mem_cons.mpr (Or.inl (List.mem_singleton.mp q).symm))
end
end L2
namespace Gz
open PySem PySem.Spec PyProof.Rows L2
def bits (bs : List Int) : Prop := ∀ x ∈ bs, x = 0 ∨ x = 1
abbrev Lk := Option (List Int)
def k9 (xs : List Addr) (H : Hp) (v : V) : Lk -> Prop
 | none => v = .non
 | some bs => ∃ l, v = .ref l /\ l ∉ xs /\ H l = some (.lst (bs.map V.int))
abbrev IsL := k9 []
theorem k9.put {xs : List Addr} {H : Hp} {v : V} {k : Lk} {c : Addr} {o : HO} (h : k9 xs H v k) (hc : c ∈ xs) : k9 xs (upd H c o) v k := by
 cases k with
 | none => exact h
 | some bs => obtain ⟨l, a, b, e⟩ := h; exact ⟨l, a, b, by rw [aQ (show l ≠ c from fun z => b (by rw [z]; exact hc))]; exact e⟩
theorem k9.l {xs : List Addr} {H : Hp} {v : V} {k : Lk} (h : k9 xs H v k) : IsL H v k := by
 cases k with
 | none => exact h
 | some bs => obtain ⟨l, a, b, c⟩ := h; exact ⟨l, a, (fun z => nomatch z), c⟩
end Gz
namespace Gz
open PySem PySem.Spec PyProof.Rows L2
local macro_rules | `(tactic| walk_at "om") => `(tactic| ((try simp only [PySem.Addr] at *); lia))
section
variable {κ : Type} [DecidableEq κ]
end
section
variable {prog : Program} {w : World} {K : Type} [DecidableEq K] {knd : HeapKind prog w K} {A : Around} {E : Value -> Shared -> Prop} {s : Shared}
end
def jP (h : Heap) (d : Addr) (es : Array DictEntry) (ep : Nat) : Prop := ∃ o, h.get? d = some o /\ o.ExactDict /\ o.data = .dict es ep
theorem jP.at {h h' : Heap} {d : Addr} {es : Array DictEntry} {ep : Nat} (x : jP h d es ep) (e : ∀ o, h.get? d = some o -> h'.get? d = some o) : jP h' d es ep := let ⟨o, ho, r⟩ := x; ⟨o, e o ho, r⟩
theorem jP.lt {h : Heap} {d : Addr} {es : Array DictEntry} {ep : Nat} (x : jP h d es ep) : d < h.objs.size := let ⟨_, ho, _⟩ := x; Heap.lt_size ho
theorem jP.ty {s : Shared} {d : Addr} {es : Array DictEntry} {ep : Nat} (x : jP s.heap d es ep) : s.TypeIs (.ref d) "dict" := let ⟨o, ho, hc, _⟩ := x; ⟨o, ho, hc.1⟩
section
variable {prog : Program} {w : World} {A : Around} {E : Value -> Shared -> Prop} {s : Shared} {d it : Addr} {es : Array DictEntry} {i ep : Nat}
end
section
variable {prog : Program} {w : World} {A : Around} {E : Value -> Shared -> Prop} {s : Shared}
def sM (h : Heap) (vs : List Value) (fz : List (List Int)) (i : Nat) : Prop := ∃ (p : Addr) (o : Obj) (ai : List Value) (m : Nat), vs[i]? = some (.ref p) /\ h.get? p = some o /\ o.cls = .type "tuple" /\ o.data = .seq ai.toArray m /\ IntsAre ai (fz.getD i []) /\ ai ≠ []
theorem sM.keep {h h' : Heap} {vs : List Value} {fz : List (List Int)} {i : Nat} (x : sM h vs fz i) (k : ∀ b o, h.get? b = some o -> (∀ n xs, o ≠ seqObj "list" xs n) -> h'.get? b = some o) : sM h' vs fz i := by
 obtain ⟨p, o, ai, m, h1, h2, h3, r⟩ := x
 exact ⟨p, o, ai, m, h1, k p o h2 (fun n xs z => by rw [z] at h3; exact absurd (Value.type.inj h3) (by decide)), h3, r⟩
end
section
variable {X : Cx} {pins : List (Addr × Obj)} {σ : L2.St} {H : Hp} {s : Shared} {p : Addr} {kvs : List (List Key × V)}
end
section
variable {X : Cx} {pins : List (Addr × Obj)} {σ : L2.St} {H : Hp} {s : Shared} {p b : Addr} {kvs : List (List Key × V)} {k : List Key} {A : Around} {E : Value -> Shared -> Prop}
end
section
variable {X : Cx} {o e f : Expr} {td ty tx : TE} {apos eu : Pos}
end
section
variable {prog : Program} {w : World} {K : Type} [DecidableEq K] {knd : KeyKind prog w K} {A : Around} {E : Value -> Shared -> Prop} {s : Shared} {o d : Addr} {es : Array DictEntry} {ep : Nat}
end
end Gz
namespace Gz
open PySem PySem.Spec PyProof.Rows L2
local macro_rules | `(tactic| walk_at "om") => `(tactic| ((try simp only [PySem.Addr] at *); lia))
section
variable {prog : Program} {w : World} {A : Around} {E : Value -> Shared -> Prop} {s : Shared}
end
noncomputable abbrev KD (prog : Program) (w : World) := tupleKind (iy prog w)
abbrev Row := Addr × List Key × Addr × Value
section
variable {prog : Program} {w : World} {A : Around} {E : Value -> Shared -> Prop} {s : Shared}
theorem HK {h h' : Heap} {k : List Key} {a : Addr} (x : (KD prog w).is h k a) (e : ∀ o, h.get? a = some o -> h'.get? a = some o) : (KD prog w).is h' k a :=
 let ⟨o, ai, n, h1, r⟩ := x; ⟨o, ai, n, e o h1, r⟩
def sN (prog : Program) (w : World) (h : Heap) (r : Row) : Prop := (∃ o m, h.get? r.1 = some o /\ o.cls = .type "tuple" /\ o.data = .seq #[.ref r.2.2.1, r.2.2.2] m) /\ (KD prog w).is h r.2.1 r.2.2.1
theorem sN.keep {h h' : Heap} {r : Row} (x : sN prog w h r) (e1 : ∀ o, h.get? r.1 = some o -> h'.get? r.1 = some o) (e2 : ∀ o, h.get? r.2.2.1 = some o -> h'.get? r.2.2.1 = some o) : sN prog w h' r :=
 let ⟨⟨o, m, a, b⟩, c⟩ := x; ⟨⟨o, m, e1 o a, b⟩, HK c e2⟩
end
section
variable {X : Cx} {pins : List (Addr × Obj)} {σ : L2.St} {H : Hp} {s : Shared}
end
end Gz
namespace Gz
open PySem PySem.Spec PyProof.Rows L2
local macro_rules | `(tactic| walk_at "om") => `(tactic| ((try simp only [PySem.Addr] at *); lia))
def sO (B : Heap) (l : List Env) (x : Addr) (cls a0 mk : Value) (h : Heap) : Prop := B.StaysIn h /\ B.get? x = none /\ h.FunFrames B l /\ h.TracedAtW B x cls a0 mk
section
variable {M : Model} {A : Around} {E : Value -> Shared -> Prop} {s : Shared} {B : Heap} {l outer : List Env} {env : Env} {L x C : Addr} {cls a0 mk : Value} {Q : Unit -> Shared -> Prop}
theorem sO.but {h h' : Heap} {ob : Obj} (fl : sO B l x cls a0 mk h) (hC : h.get? C = some ob) (hn : ∀ us, ob.data ≠ .fields us) (hB : B.get? C = none) (hl : C ∉ aX l) (sb : Heap.SameBut C h h') : sO B l x cls a0 mk h' := by
 obtain ⟨f1, f2, f3, ox, us, T, oT, ts, e1, e2, e3, e4, e5, e6, e7, e8, e9⟩ := fl
 have nx : x ≠ C := fun z => by rw [z, hC] at e1; cases e1; exact hn _ e3
 have nT : T ≠ C := fun z => by rw [z, hC] at e7; cases e7; exact hn _ e8
 have all : ∀ (l : List Env), C ∉ aX l -> h.FunFrames B l -> h'.FunFrames B l := by
  intro l
  induction l with
  | nil => intro _ _; trivial
  | cons env r ih =>
   intro hs hl
   obtain ⟨hk, ⟨L, o, hf, hn, ho, hd⟩, hr⟩ := hl
   unfold aX at hs
   rw [List.filterMap_cons, hf] at hs
   exact ⟨hk, ⟨L, o, hf, hn, (sb.2 L fun z => hs (by rw [z]; exact List.mem_cons_self)).trans ho, hd⟩, ih (fun z => hs (List.mem_cons_of_mem _ z)) hr⟩
 exact ⟨fun b o z => (sb.2 b fun y => by rw [y, hB] at z; cases z).trans (f1 b o z), f2, all l hl f3, ox, us, T, oT, ts, (sb.2 x nx).trans e1, e2, e3, e4, e5, e6, (sb.2 T nT).trans e7, e8, e9⟩
end
section
variable {P : Program} {w : World} {K : PySem.W.Frag} {mg : Str -> Option Value} {base : Heap} {N : List Str} {qual : Str} {scope : Scope} {f : Addr} {cd : Value} {A : Around} {outer : List Env} {s : Shared} {H : Hp} {E : XK}
end
section
variable {X : Cx} {pins : List (Addr × Obj)} {σ : L2.St} {H2 : Hp} {s2 : Shared} {x : Str} {px pos : Pos} {elt iter : Expr} {ifs : List Expr} {scope : Scope} {cl : List (Str × Addr)} {fr : List Nat} {ys : List Str} {tt : TT} {te : TE}
end
section
variable {X : Cx} {F : Value -> Shared -> Prop} {pins pn : List (Addr × Obj)} {σ : L2.St} {H : Hp} {s : Shared} {A' : Around}
end
end Gz
namespace Gz
open PySem PySem.Spec PyProof.Rows L2
noncomputable def kQ (ks : List P2) (r : Int) (i : Nat) : Bool := decide ((dh ks i).1 <= r) && decide (r <= (dh ks (i + 1)).1)
def bS (ks : List P2) (r : En) : Prop := ∀ n, r = some n -> hit ks n 1
end Gz
namespace Gz
open PySem PySem.Spec PyProof.Rows L2
local macro_rules | `(tactic| walk_at "om") => `(tactic| ((try simp only [PySem.Addr] at *); lia))
abbrev Tb := List (P2 × S2)
noncomputable def fA (i j : Int) : List Key := [.inl i, .inl j]
theorem pX {a b : P2} (h : fA a.1 a.2 = fA b.1 b.2) : a = b := by
 unfold fA at h
 injection h with h1 h2
 injection h2 with h2 _
 exact Prod.ext (Sum.inl.inj h1) (Sum.inl.inj h2)
noncomputable def jQ (tb : Tb) (s : P2) : Option S2 := (tb.find? fun r => decide (r.1 = s)).map (·.2)
noncomputable def pY (tb : Tb) (s : P2) (w : S2) : Tb := if (tb.any fun r => decide (r.1 = s)) = true then tb.map (fun r => if r.1 = s then (r.1, w) else r) else tb ++ [(s, w)]
noncomputable def sP (tb : Tb) (s : P2) : Tb := tb.filter fun r => decide (r.1 ≠ s)
def bL (H : Hp) : List (List Key × V) -> Tb -> Prop
 | [], [] => True
 | kv :: kvs, r :: tb => (kv.1 = fA r.1.1 r.1.2 /\ bY H kv.2 r.2.1 r.2.2) /\ bL H kvs tb
 | _, _ => False
section
variable {H H' : Hp} {kvs : List (List Key × V)} {tb : Tb}
theorem bL.len : ∀ {kvs : List (List Key × V)} {tb : Tb}, bL H kvs tb -> kvs.length = tb.length
 | [], [], _ => rfl
 | _ :: kvs, _ :: tb, h => congrArg (· + 1) (bL.len (kvs := kvs) (tb := tb) h.2)
 | [], _ :: _, h => h.elim
 | _ :: _, [], h => h.elim
theorem bL.imp (f : ∀ v a b, bY H v a b -> bY H' v a b) : ∀ {kvs : List (List Key × V)} {tb : Tb}, bL H kvs tb -> bL H' kvs tb
 | [], [], _ => trivial
 | _ :: kvs, _ :: tb, h => ⟨⟨h.1.1, f _ _ _ h.1.2⟩, bL.imp f (kvs := kvs) (tb := tb) h.2⟩
 | [], _ :: _, h => h.elim
 | _ :: _, [], h => h.elim
theorem bL.app : ∀ {kvs sQ : List (List Key × V)} {tb hJ : Tb}, bL H kvs tb -> bL H sQ hJ -> bL H (kvs ++ sQ) (tb ++ hJ)
 | [], _, [], _, _, h => h
 | _ :: kvs, sQ, _ :: tb, hJ, h, h' => ⟨h.1, bL.app (kvs := kvs) (tb := tb) h.2 h'⟩
 | [], _, _ :: _, _, h, _ => h.elim
 | _ :: _, _, [], _, h, _ => h.elim
theorem bL.any (s : P2) : ∀ {kvs : List (List Key × V)} {tb : Tb}, bL H kvs tb -> (kvs.any fun kv => decide (kv.1 = fA s.1 s.2)) = tb.any fun r => decide (r.1 = s)
 | [], [], _ => rfl
 | kv :: kvs, r :: tb, h => by
  rw [List.any_cons, List.any_cons, bL.any s (kvs := kvs) (tb := tb) h.2, h.1.1]
  congr 1
  by_cases e : r.1 = s
  ·rw [e, decide_eq_true rfl, decide_eq_true rfl]
  ·rw [decide_eq_false e, decide_eq_false fun z => e (pX z)]
 | [], _ :: _, h => h.elim
 | _ :: _, [], h => h.elim
theorem bL.val (s : P2) : ∀ {kvs : List (List Key × V)} {tb : Tb}, bL H kvs tb -> (jQ tb s = none -> cM kvs (fA s.1 s.2) = none) /\ ∀ w, jQ tb s = some w -> ∃ v, cM kvs (fA s.1 s.2) = some v /\ bY H v w.1 w.2
 | [], [], _ => ⟨fun _ => rfl, fun w h => by cases h⟩
 | kv :: kvs, r :: tb, h => by
  have ih := bL.val s (kvs := kvs) (tb := tb) h.2
  by_cases e : r.1 = s
  ·have e1 : jQ (r :: tb) s = some r.2 := by simp [jQ, List.find?_cons, e]
   rw [e1, pU (h.1.1.trans (by rw [e]))]
   exact ⟨fun z => (by cases z), fun w z => (by cases z; exact ⟨_, rfl, h.1.2⟩)⟩
  ·have e1 : jQ (r :: tb) s = jQ tb s := by simp [jQ, List.find?_cons, e]
   rw [e1, pV (fun z => e (pX (h.1.1.symm.trans z)))]
   exact ih
 | [], _ :: _, h => h.elim
 | _ :: _, [], h => h.elim
theorem bL.k7 {s : P2} {v : V} {w : S2} (hv : bY H v w.1 w.2) : ∀ {kvs : List (List Key × V)} {tb : Tb}, bL H kvs tb -> bL H (kvs.map fun kv => if kv.1 = fA s.1 s.2 then (kv.1, v) else kv) (tb.map fun r => if r.1 = s then (r.1, w) else r)
 | [], [], _ => trivial
 | kv :: kvs, r :: tb, h => by
  rw [List.map_cons, List.map_cons]
  refine ⟨?_, bL.k7 hv (kvs := kvs) (tb := tb) h.2⟩
  by_cases e : r.1 = s
  ·rw [if_pos e, if_pos (h.1.1.trans (by rw [e]))]; exact ⟨h.1.1, hv⟩
  ·rw [if_neg e, if_neg (fun z => e (pX (h.1.1.symm.trans z)))]; exact h.1
 | [], _ :: _, h => h.elim
 | _ :: _, [], h => h.elim
theorem bL.put {s : P2} {v : V} {w : S2} (h : bL H kvs tb) (hv : bY H v w.1 w.2) : bL H (putK kvs (fA s.1 s.2) v) (pY tb s w) := by
 unfold putK pY
 rw [h.any s]
 split
 ·exact h.k7 hv
 ·exact h.app ⟨⟨rfl, hv⟩, trivial⟩
theorem bL.drop {s : P2} : ∀ {kvs : List (List Key × V)} {tb : Tb}, bL H kvs tb -> bL H (pT kvs (fA s.1 s.2)) (sP tb s)
 | [], [], _ => trivial
 | kv :: kvs, r :: tb, h => by
  have ih := bL.drop (s := s) (kvs := kvs) (tb := tb) h.2
  unfold pT sP at *
  rw [List.filter_cons, List.filter_cons]
  by_cases e : r.1 = s
  ·have e2 : kv.1 = fA s.1 s.2 := h.1.1.trans (by rw [e])
   rw [if_neg (by simp [e2]), if_neg (by simp [e])]; exact ih
  ·have e2 : ¬ kv.1 = fA s.1 s.2 := fun z => e (pX (h.1.1.symm.trans z))
   rw [if_pos (by simp [e2]), if_pos (by simp [e])]; exact ⟨h.1, ih⟩
 | [], _ :: _, h => h.elim
 | _ :: _, [], h => h.elim
end
def TabAt (H : Hp) (p : Addr) (tb : Tb) : Prop := ∃ kvs, H p = some (.dT kvs) /\ bL H kvs tb
def Fr (H H' : Hp) : Prop := ∀ b o, (∀ kvs, o ≠ HO.dT kvs) -> H b = some o -> H' b = some o
def gJ (ps : List Addr) (H H' : Hp) : Prop := ∀ b o, b ∉ ps -> H b = some o -> H' b = some o
def sR (H : Hp) (ps : List Addr) : Prop := ∀ p ∈ ps, ∃ kvs, H p = some (.dT kvs)
section
variable {H H' H2 : Hp} {ps qs : List Addr} {p q : Addr} {tb : Tb}
theorem Fr.trans (a : Fr H H') (b : Fr H' H2) : Fr H H2 := fun c o h e => b c o h (a c o h e)
theorem Fr.refl (H : Hp) : Fr H H := fun _ _ _ e => e
theorem _root_.L2.ah.fr (s : ah H H') : Fr H H' := fun b o _ e => s b o e
theorem _root_.L2.ah.but (s : ah H H') : gJ ps H H' := fun b o _ e => s b o e
theorem gJ.trans (a : gJ ps H H') (b : gJ ps H' H2) : gJ ps H H2 := fun c o h e => b c o h (a c o h e)
theorem SameBut.but (a : SameBut p H H') (h : p ∈ ps) : gJ ps H H' := fun c o z e => a c o (fun y => z (y ▸ h)) e
theorem gJ.fr (a : gJ ps H H') (d : sR H ps) : Fr H H' := fun b o ho e => by
 by_cases hb : b ∈ ps
 ·obtain ⟨kvs, hk⟩ := d b hb
  rw [hk] at e
  exact absurd (Option.some.inj e).symm (ho kvs)
 ·exact a b o hb e
theorem HL {kvs : List (List Key × V)} (h : H p = some (.dT kvs)) : sR H [p] := fun b hb => ⟨kvs, (List.mem_singleton.mp hb) ▸ h⟩
theorem SameBut.fr {kvs : List (List Key × V)} (a : SameBut p H H') (h : H p = some (.dT kvs)) : Fr H H' := gJ.fr (SameBut.but a (.head _)) (HL h)
theorem bY.fr {v : V} {a b : En} (h : bY H v a b) (f : Fr H H') : bY H' v a b := let ⟨p, e, hp⟩ := h; ⟨p, e, f _ _ (fun _ z => nomatch z) hp⟩
theorem jK.fr {v : V} {a : P2} (h : jK H v a) (f : Fr H H') : jK H' v a := let ⟨p, e, hp⟩ := h; ⟨p, e, f _ _ (fun _ z => nomatch z) hp⟩
theorem TabAt.fr (h : TabAt H p tb) (f : Fr H H') (e : ∀ kvs, H p = some (.dT kvs) -> H' p = some (.dT kvs)) : TabAt H' p tb := let ⟨kvs, a, b⟩ := h; ⟨kvs, e _ a, b.imp fun _ _ _ z => z.fr f⟩
theorem TabAt.but (h : TabAt H p tb) (b : gJ ps H H') (d : sR H ps) (hp : p ∉ ps) : TabAt H' p tb := h.fr (b.fr d) fun _ e => b _ _ hp e
theorem TabAt.ne (h : TabAt H p tb) (hq : H q = none) : p ≠ q := fun z => by obtain ⟨kvs, a, _⟩ := h; rw [z, hq] at a; cases a
end
def pZ (e t : Int) (s : P2) : Prop := (0 <= s.1 /\ s.1 < e) /\ 0 <= s.2 /\ s.2 < t
instance (e t : Int) (s : P2) : Decidable (pZ e t s) := by unfold pZ; infer_instance
def iG (e t : Int) (tb : Tb) : Prop := (tb.map (·.1)).Nodup /\ ∀ r ∈ tb, pZ e t r.1
theorem iG.put {e t : Int} {tb : Tb} {s : P2} {w : S2} (h : iG e t tb) (hs : pZ e t s) : iG e t (pY tb s w) := by
 unfold pY
 split
 ·refine ⟨?_, fun r hr => ?_⟩
  ·have : (tb.map fun r => if r.1 = s then (r.1, w) else r).map (·.1) = tb.map (·.1) := by
    rw [List.map_map]
    refine List.map_congr_left fun r _ => ?_
    show (if r.1 = s then (r.1, w) else r).1 = r.1
    split <;> rfl
   rw [this]; exact h.1
  ·obtain ⟨x, hx, rfl⟩ := List.mem_map.mp hr
   have := h.2 x hx
   split <;> exact this
 ·rename_i z
  refine ⟨?_, fun r hr => ?_⟩
  ·rw [List.map_append]
   refine AB h.1 fun y => z ?_
   obtain ⟨x, hx, e⟩ := List.mem_map.mp y
   rw [List.any_eq_true]
   exact ⟨x, hx, by simpa using e⟩
  ·rcases List.mem_append.mp hr with y | y
   ·exact h.2 r y
   ·rw [List.mem_singleton.mp y]; exact hs
theorem iG.drop {e t : Int} {tb : Tb} {s : P2} (h : iG e t tb) : iG e t (sP tb s) :=
 ⟨h.1.sublist ((List.filter_sublist).map _), fun r hr => h.2 r (List.mem_filter.mp hr).1⟩
theorem iG.nil {e t : Int} : iG e t [] := ⟨List.nodup_nil, fun r h => by cases h⟩
def sS (H : Hp) (v : V) (r : P2 × S2) : Prop := ∃ a w, v = .ref a /\ H a = some (.tup [.int r.1.1, .int r.1.2, w]) /\ bY H w r.2.1 r.2.2
theorem sS.fr {H H' : Hp} {v : V} {r : P2 × S2} (h : sS H v r) (s : Fr H H') : sS H' v r := let ⟨a, w, e, ha, hw⟩ := h; ⟨a, w, e, s _ _ (fun _ z => nomatch z) ha, hw.fr s⟩
end Gz
namespace Gz
open PySem PySem.Spec PyProof.Rows L2
theorem sT {H : Hp} : ∀ {xs : List V} {ss : List S2}, cS H xs ss ↔ av (fun x s => bY H x s.1 s.2) xs ss
 | [], [] => Iff.rfl
 | _ :: _, _ :: _ => and_congr Iff.rfl sT
 | [], _ :: _ => Iff.rfl
 | _ :: _, [] => Iff.rfl
abbrev Pa := Str × Int × S2
def fB (H : Hp) (v : V) (p : Pa) : Prop := ∃ (t q : Addr), v = .ref t /\ H t = some (.tup [.str p.1, .int p.2.1, .ref q]) /\ H q = some (.tup [ev p.2.2.1, ev p.2.2.2])
theorem fB.same {H H' : Hp} {v : V} {p : Pa} (h : fB H v p) (s : ah H H') : fB H' v p := let ⟨t, q, e, a, b⟩ := h; ⟨t, q, e, s _ _ a, s _ _ b⟩
abbrev cN (H : Hp) : List V -> List Pa -> Prop := av (fB H)
theorem cN.same {H H' : Hp} {xs : List V} {ps : List Pa} (h : cN H xs ps) (s : ah H H') : cN H' xs ps := av.imp (fun _ _ r => r.same s) h
theorem fB.fr {H : Hp} {v : V} {p : Pa} {r : Addr} {ys : List V} {o : HO} (h : fB H v p) (hr : H r = some (.lst ys)) : fB (upd H r o) v p := by
 obtain ⟨t, q, e, a, b⟩ := h
 have h1 : t ≠ r := fun z => by rw [z, hr] at a; cases a
 have h2 : q ≠ r := fun z => by rw [z, hr] at b; cases b
 exact ⟨t, q, e, by rw [aQ h1]; exact a, by rw [aQ h2]; exact b⟩
theorem cN.put {H : Hp} {xs : List V} {ps : List Pa} {r : Addr} {ys : List V} {o : HO} (h : cN H xs ps) (hr : H r = some (.lst ys)) : cN (upd H r o) xs ps := av.imp (fun _ _ x => x.fr hr) h
noncomputable def hasB (n : Int) (k : Str) (t : Int) : Bool := if k = "step" then decide (0 <= t /\ t < n) && decide (0 <= t + 1 /\ t + 1 < n) else decide (k = "at") && decide (0 <= t /\ t < n)
def fD (n : Int) (ps : List Pa) : Prop := ∀ p ∈ ps, hasB n p.1 p.2.1 = true
theorem p4 {n t : Int} : hasB n "step" t = true ↔ 0 <= t /\ t + 1 < n := by
 unfold hasB
 rw [if_pos rfl]
 simp only [Bool.and_eq_true, decide_eq_true_eq]
 lia
theorem AD {n t : Int} {k : Str} (h : k ≠ "step") : hasB n k t = true ↔ k = "at" /\ 0 <= t /\ t < n := by
 unfold hasB
 rw [if_neg h]
 simp only [Bool.and_eq_true, decide_eq_true_eq]
noncomputable def eh (cs : List Int) (k : Str) (t : Int) : Int := if k = "step" then cs.getD (t + 1).toNat 0 - cs.getD t.toNat 0 else cs.getD t.toNat 0
noncomputable def ax (cs : List Int) (ps : List Pa) : Bool := ps.all fun p => hold p.2.2.1 p.2.2.2 (eh cs p.1 p.2.1)
theorem int_at {cs : List Int} {t : Int} (h0 : 0 <= t) (h1 : t < (cs.length : Int)) : cG (cs.map V.int) t = some (.int (cs.getD t.toNat 0)) := by
 have e : t = ((t.toNat : Nat) : Int) := by lia
 refine (congrArg (cG _) e).trans (iC ?_)
 rw [List.getElem?_map, List.getD_eq_getElem?_getD, List.getElem?_eq_getElem (by lia)]
 rfl
structure Gd (n : Nat) (d : PyData) : Prop where
 eqv : PyData.eqv d d = true
 lay : d.canLay0 = true
 dep : d.depth <= n
theorem Gd.of {n : Nat} {d : PyData} (h : eN n d = true) : Gd n d := let ⟨a, b, c⟩ := sD d h; ⟨a, b, c⟩
theorem Gd.str {x : Str} (h : PyData.strOk x = true) : Gd 0 (.str x) := ⟨by simp [PyData.eqv], by simpa [PyData.canLay0] using h, Nat.le_refl _⟩
theorem Gd.int (i : Int) : Gd 0 (.int i) := .of rfl
theorem Gd.all : ∀ {ds : List PyData} {n : Nat}, (∀ d ∈ ds, Gd n d) -> PyData.eqvAll ds ds = true /\ PyData.canLayAll0 ds = true /\ PyData.depthAll ds <= n
 | [], n, _ => ⟨rfl, rfl, Nat.zero_le _⟩
 | d :: ds, n, h => by
  obtain ⟨a, b, c⟩ := h d (.head _)
  obtain ⟨a', b', c'⟩ := Gd.all (ds := ds) fun x hx => h x (.tail _ hx)
  exact ⟨by simp only [PyData.eqvAll, a, a', Bool.and_self], by simp only [PyData.canLayAll0, b, b', Bool.and_self], by simp only [PyData.depthAll]; lia⟩
theorem Gd.lst {ds : List PyData} {n : Nat} (h : ∀ d ∈ ds, Gd n d) : Gd (n + 1) (.list ds) := by
 obtain ⟨a, b, c⟩ := Gd.all h
 exact ⟨by simpa only [PyData.eqv] using a, by simpa only [PyData.canLay0] using b, by simp only [PyData.depth]; lia⟩
theorem Gd.tup {ds : List PyData} {n : Nat} (h : ∀ d ∈ ds, Gd n d) : Gd (n + 1) (.tuple ds) := by
 obtain ⟨a, b, c⟩ := Gd.all h
 exact ⟨by simpa only [PyData.eqv] using a, by simpa only [PyData.canLay0] using b, by simp only [PyData.depth]; lia⟩
end Gz
namespace Gz
open PySem PySem.Spec PyProof.Rows L2
end Gz
namespace Gz
open PySem PySem.Spec PyProof.Rows L2
end Gz
namespace Gz
open PySem PySem.Spec PyProof.Rows L2
end Gz
namespace Gz
open PySem L2
theorem hW {H : Hp} {x dx C : Addr} {fs : List (Str × V)} (hx : H x = none) (hd : H dx = none) (hn : dx ≠ x) : ah H (upd (upd H dx (.own x)) x (.ins C dx fs)) :=
 (ak hd).trans (ak (by rw [aQ (Ne.symm hn)]; exact hx))
end Gz
namespace Gz
open PySem PySem.Spec PyProof.Rows L2
noncomputable def cU : S2 -> List S2
 | (none, none) => []
 | (some l, none) => [(none, some (l - 1))]
 | (none, some h) => [(some (h + 1), none)]
 | (some l, some h) => [(none, some (l - 1)), (some (h + 1), none)]
noncomputable def bq (ps : List Pa) : List (List Pa) := ps.flatMap fun p => (cU p.2.2).map fun o => [((p.1, p.2.1, o) : Pa)]
noncomputable def aU (i j : Int) (s : S2) : List Pa := (List.range (j + 1 - i).toNat).map fun k => ("at", i + (k : Nat), s)
def lh (H : Hp) (v : V) (ps : List Pa) : Prop := ∃ l xs, v = .ref l /\ H l = some (.lst xs) /\ cN H xs ps
theorem lh.same {H H' : Hp} {v : V} {ps : List Pa} (h : lh H v ps) (s : ah H H') : lh H' v ps := let ⟨l, xs, e, a, b⟩ := h; ⟨l, xs, e, s _ _ a, b.same s⟩
def mX (l : Addr) (H : Hp) (v : V) (ps : List Pa) : Prop := ∃ c xs, v = .ref c /\ c ≠ l /\ H c = some (.lst xs) /\ cN H xs ps
theorem mX.put {l : Addr} {H : Hp} {v : V} {ps : List Pa} {ys : List V} {o : HO} (h : mX l H v ps) (hl : H l = some (.lst ys)) : mX l (upd H l o) v ps := let ⟨c, xs, e, n, a, b⟩ := h; ⟨c, xs, e, n, by rw [aQ n]; exact a, b.put hl⟩
theorem mX.cl {l : Addr} {H : Hp} {v : V} {ps : List Pa} (h : mX l H v ps) : lh H v ps := let ⟨c, xs, e, _, a, b⟩ := h; ⟨c, xs, e, a, b⟩
def bA (H0 H : Hp) (v : V) (ps : List Pa) : Prop := ∃ c xs, v = .ref c /\ H0 c = none /\ H c = some (.lst xs) /\ cN H xs ps
theorem bA.same {H0 H H' : Hp} {v : V} {ps : List Pa} (h : bA H0 H v ps) (s : ah H H') : bA H0 H' v ps := let ⟨c, xs, e, n, a, b⟩ := h; ⟨c, xs, e, n, s _ _ a, b.same s⟩
theorem bA.back {H0 H1 H : Hp} {v : V} {ps : List Pa} (h : bA H1 H v ps) (s : ah H0 H1) : bA H0 H v ps := let ⟨c, xs, e, n, a, b⟩ := h; ⟨c, xs, e, s.free n, a, b⟩
theorem bA.cl {H0 H : Hp} {v : V} {ps : List Pa} (h : bA H0 H v ps) : lh H v ps := let ⟨c, xs, e, _, a, b⟩ := h; ⟨c, xs, e, a, b⟩
def eB (H0 : Hp) (l : Addr) (H : Hp) (v : V) (ps : List Pa) : Prop := ∃ c xs, v = .ref c /\ c ≠ l /\ H0 c = none /\ H c = some (.lst xs) /\ cN H xs ps
theorem eB.same {H0 : Hp} {l : Addr} {H H' : Hp} {v : V} {ps : List Pa} (h : eB H0 l H v ps) (s : ah H H') : eB H0 l H' v ps := let ⟨c, xs, e, m, n, a, b⟩ := h; ⟨c, xs, e, m, n, s _ _ a, b.same s⟩
theorem eB.put {H0 : Hp} {l : Addr} {H : Hp} {v : V} {ps : List Pa} {ys : List V} {o : HO} (h : eB H0 l H v ps) (hl : H l = some (.lst ys)) : eB H0 l (upd H l o) v ps := let ⟨c, xs, e, m, n, a, b⟩ := h; ⟨c, xs, e, m, n, by rw [aQ m]; exact a, b.put hl⟩
theorem eB.sU {H0 : Hp} {l : Addr} {H : Hp} {v : V} {ps : List Pa} (h : eB H0 l H v ps) : bA H0 H v ps := let ⟨c, xs, e, _, n, a, b⟩ := h; ⟨c, xs, e, n, a, b⟩
def Kp (P : Addr -> Prop) (H H' : Hp) : Prop := ∀ a o, ¬ P a -> H a = some o -> H' a = some o
theorem Kp.refl {P : Addr -> Prop} {H : Hp} : Kp P H H := fun _ _ _ h => h
theorem Kp.put {P : Addr -> Prop} {H H1 : Hp} {c : Addr} {o : HO} (h : Kp P H H1) (hc : P c) : Kp P H (upd H1 c o) := fun a o n e => by
 have ne : a ≠ c := fun z => by rw [z] at n; exact n hc
 rw [aQ ne]
 exact h a o n e
theorem HM {ps : List Pa} {i : Nat} {p : Pa} (h : ps[i]? = some p) : bq (ps.take (i + 1)) = bq (ps.take i) ++ (cU p.2.2).map fun o => [((p.1, p.2.1, o) : Pa)] := by
 unfold bq
 rw [List.take_succ, h, List.flatMap_append]
 simp
theorem sV (s : S2) : (cU s).length <= 2 := by
 obtain ⟨a, b⟩ := s
 cases a <;> cases b <;> simp [cU]
theorem dA (i j : Int) (s : S2) : (aU i j s).length = (j + 1 - i).toNat := by
 unfold aU
 rw [List.length_map, List.length_range]
noncomputable def cV (i j : Int) (s : S2) : List Pa := (List.range (j - i).toNat).map fun k => ("step", i + (k : Nat), s)
noncomputable def eE (i j l h : Int) : List (List Pa) := (List.range (j - i).toNat).flatMap fun k => (aU (i + (k : Nat) + 1) j (some h, none)).map fun p => [(("at", i + (k : Nat), none, some l) : Pa), p]
theorem p8 {i j : Int} {s : S2} {p : Pa} (h : p ∈ aU i j s) : ∃ k : Nat, k < (j + 1 - i).toNat /\ p = (("at", i + (k : Int), s) : Pa) := by
 unfold aU at h
 obtain ⟨k, hk, rfl⟩ := List.mem_map.mp h
 exact ⟨k, List.mem_range.mp hk, rfl⟩
theorem HN {i j : Int} {s : S2} {p : Pa} (h : p ∈ cV i j s) : ∃ k : Nat, k < (j - i).toNat /\ p = (("step", i + (k : Int), s) : Pa) := by
 unfold cV at h
 obtain ⟨k, hk, rfl⟩ := List.mem_map.mp h
 exact ⟨k, List.mem_range.mp hk, rfl⟩
theorem sW {ps qs : List Pa} (h : qs ∈ bq ps) : ∃ p ∈ ps, ∃ o ∈ cU p.2.2, qs = [((p.1, p.2.1, o) : Pa)] := by
 unfold bq at h
 obtain ⟨p, hp, h⟩ := List.mem_flatMap.mp h
 obtain ⟨o, ho, rfl⟩ := List.mem_map.mp h
 exact ⟨p, hp, o, ho, rfl⟩
theorem AE {i j l h : Int} {qs : List Pa} (hq : qs ∈ eE i j l h) : ∃ k : Nat, k < (j - i).toNat /\ ∃ p ∈ aU (i + (k : Int) + 1) j (some h, none), qs = [(("at", i + (k : Int), none, some l) : Pa), p] := by
 unfold eE at hq
 obtain ⟨k, hk, hq⟩ := List.mem_flatMap.mp hq
 obtain ⟨p, hp, rfl⟩ := List.mem_map.mp hq
 exact ⟨k, List.mem_range.mp hk, p, hp, rfl⟩
theorem AF {α β : Type} {f : α -> List β} {c : Nat} : ∀ (l : List α), (∀ a ∈ l, (f a).length <= c) -> (l.flatMap f).length <= c * l.length
 | [], _ => by simp
 | a :: l, h => by
  have h1 := h a (.head _)
  have h2 := AF l fun b hb => h b (.tail _ hb)
  rw [List.flatMap_cons, List.length_append, List.length_cons, Nat.mul_add, Nat.mul_one]
  omega
theorem AG (ps : List Pa) : (bq ps).length <= 2 * ps.length := AF ps fun p _ => by
 rw [List.length_map]
 exact sV _
theorem HP {X : Cx} {K : PySem.W.Frag} (h : X.K = K) (hc : X.calm = true) : da X (.builtin "max") (fun xs H Q => ∃ a ns, xs = [.ref a] /\ ao K H a (ns.map V.int) /\ ns ≠ [] /\ Q (.int (d9 ns)) H) := h ▸ zX hc
theorem HQ {X : Cx} {K : PySem.W.Frag} (h : X.K = K) (hc : X.calm = true) : da X (.builtin "min") (fun xs H Q => ∃ a ns, xs = [.ref a] /\ ao K H a (ns.map V.int) /\ ns ≠ [] /\ Q (.int (fy ns)) H) := h ▸ zY hc
noncomputable def aS (cs : List Int) (i : Int) (k : Nat) : Int := cs.getD (i + (k : Int)).toNat 0
theorem sX (cs : List Int) (i j : Int) (s : S2) : ax cs (aU i j s) = (List.range (j + 1 - i).toNat).all fun k => hold s.1 s.2 (aS cs i k) := by
 unfold ax aU
 rw [List.all_map]
 congr 1
theorem HR (cs : List Int) (i j : Int) (s : S2) : ax cs (cV i j s) = (List.range (j - i).toNat).all fun k => hold s.1 s.2 (cs.getD (i + (k : Int) + 1).toNat 0 - aS cs i k) := by
 unfold ax cV
 rw [List.all_map]
 congr 1
theorem p9 {cs : List Int} {i j : Int} (h0 : 0 <= i) (h1 : i <= j) (h2 : j < (cs.length : Int)) : dI (cs.map V.int) (some i) (some (j + 1)) = ((List.range (j + 1 - i).toNat).map (aS cs i)).map V.int := by
 obtain ⟨a, rfl⟩ : ∃ a : Nat, i = (a : Int) := ⟨i.toNat, by omega⟩
 obtain ⟨b, eb⟩ : ∃ b : Nat, j + 1 = (b : Int) := ⟨(j + 1).toNat, by omega⟩
 rw [eb, Hr _ (by rw [List.length_map]; omega), <- List.map_drop, <- List.map_take]
 congr 1
 refine List.ext_getElem? fun k => ?_
 rw [show ((b : Int) - (a : Int)).toNat = b - a by omega]
 by_cases hk : k < b - a
 ·rw [List.getElem?_take_of_lt hk, List.getElem?_drop, List.getElem?_map, List.getElem?_range hk, List.getElem?_eq_getElem (by omega)]
  unfold aS
  simp only [Option.map_some]
  rw [show ((a : Int) + (k : Int)).toNat = a + k by omega]
  simp [List.getElem?_eq_getElem (show a + k < cs.length by omega)]
 ·rw [List.getElem?_eq_none (by rw [List.length_take, List.length_drop]; omega), List.getElem?_eq_none (by rw [List.length_map, List.length_range]; omega)]
theorem HS {cs : List Int} {i j s : Int} : ((bq (aU i j (none, some (s - 1)))).any (ax cs)) = true ↔ ∃ k, k < (j + 1 - i).toNat /\ s <= aS cs i k := by
 rw [List.any_eq_true]
 constructor
 ·rintro ⟨ps, iH, hm⟩
  obtain ⟨p, hp, o, ho, rfl⟩ := sW iH
  obtain ⟨k, hk, rfl⟩ := p8 hp
  simp only [cU, List.mem_cons, List.not_mem_nil, or_false] at ho
  subst ho
  refine ⟨k, hk, ?_⟩
  unfold ax at hm
  simp only [List.all_cons, List.all_nil, Bool.and_true] at hm
  have := (fT.mp hm).1 _ rfl
  unfold eh at this
  rw [if_neg (by decide)] at this
  unfold aS
  omega
 ·rintro ⟨k, hk, hc⟩
  refine ⟨[(("at", i + (k : Int), some (s - 1 + 1), none) : Pa)], ?_, ?_⟩
  ·unfold bq
   refine List.mem_flatMap.mpr ⟨(("at", i + (k : Int), none, some (s - 1)) : Pa), ?_, ?_⟩
   ·unfold aU
    exact List.mem_map.mpr ⟨k, List.mem_range.mpr hk, rfl⟩
   ·simp [cU]
  ·unfold ax
   simp only [List.all_cons, List.all_nil, Bool.and_true]
   refine fT.mpr ⟨fun x hx => ?_, fun x hx => (nomatch hx)⟩
   cases hx
   unfold eh
   rw [if_neg (by decide)]
   unfold aS at hc
   omega
theorem HU {cs : List Int} {i j s : Int} : ((bq (aU i j (some (s + 1), none))).any (ax cs)) = true ↔ ∃ k, k < (j + 1 - i).toNat /\ aS cs i k <= s := by
 rw [List.any_eq_true]
 constructor
 ·rintro ⟨ps, iH, hm⟩
  obtain ⟨p, hp, o, ho, rfl⟩ := sW iH
  obtain ⟨k, hk, rfl⟩ := p8 hp
  simp only [cU, List.mem_cons, List.not_mem_nil, or_false] at ho
  subst ho
  refine ⟨k, hk, ?_⟩
  unfold ax at hm
  simp only [List.all_cons, List.all_nil, Bool.and_true] at hm
  have := (fT.mp hm).2 _ rfl
  unfold eh at this
  rw [if_neg (by decide)] at this
  unfold aS
  omega
 ·rintro ⟨k, hk, hc⟩
  refine ⟨[(("at", i + (k : Int), none, some (s + 1 - 1)) : Pa)], ?_, ?_⟩
  ·unfold bq
   refine List.mem_flatMap.mpr ⟨(("at", i + (k : Int), some (s + 1), none) : Pa), ?_, ?_⟩
   ·unfold aU
    exact List.mem_map.mpr ⟨k, List.mem_range.mpr hk, rfl⟩
   ·simp [cU]
  ·unfold ax
   simp only [List.all_cons, List.all_nil, Bool.and_true]
   refine fT.mpr ⟨fun x hx => (nomatch hx), fun x hx => ?_⟩
   cases hx
   unfold eh
   rw [if_neg (by decide)]
   unfold aS at hc
   omega
theorem HV {f : Nat -> Int} {n : Nat} {s : Int} (h : 0 < n) : s <= d9 ((List.range n).map f) ↔ ∃ k, k < n /\ s <= f k := by
 have ne : (List.range n).map f ≠ [] := by simp; omega
 obtain ⟨hm, hu⟩ := kU ne
 constructor
 ·intro hs
  obtain ⟨k, hk, e⟩ := List.mem_map.mp hm
  exact ⟨k, List.mem_range.mp hk, by rw [e]; exact hs⟩
 ·rintro ⟨k, hk, hs⟩
  have := hu (f k) (List.mem_map.mpr ⟨k, List.mem_range.mpr hk, rfl⟩)
  omega
theorem sY {f : Nat -> Int} {n : Nat} {s : Int} (h : 0 < n) : fy ((List.range n).map f) <= s ↔ ∃ k, k < n /\ f k <= s := by
 have ne : (List.range n).map f ≠ [] := by simp; omega
 obtain ⟨hm, hu⟩ := zT ne
 constructor
 ·intro hs
  obtain ⟨k, hk, e⟩ := List.mem_map.mp hm
  exact ⟨k, List.mem_range.mp hk, by rw [e]; exact hs⟩
 ·rintro ⟨k, hk, hs⟩
  have := hu (f k) (List.mem_map.mpr ⟨k, List.mem_range.mpr hk, rfl⟩)
  omega
theorem AH {cs : List Int} {i j l h : Int} : ((eE i j l h).any (ax cs)) = true ↔ ∃ a b, a < b /\ b < (j + 1 - i).toNat /\ aS cs i a <= l /\ h <= aS cs i b := by
 have AI : ∀ (a b : Int), ax cs [(("at", a, none, some l) : Pa), (("at", b, some h, none) : Pa)] = true ↔ cs.getD a.toNat 0 <= l /\ h <= cs.getD b.toNat 0 := fun a b => by
  unfold ax
  simp only [List.all_cons, List.all_nil, Bool.and_true, Bool.and_eq_true, fT]
  unfold eh
  rw [if_neg (by decide), if_neg (by decide)]
  constructor
  ·rintro ⟨⟨_, h1⟩, h2, _⟩
   exact ⟨h1 _ rfl, h2 _ rfl⟩
  ·rintro ⟨h1, h2⟩
   refine ⟨⟨fun x hx => (nomatch hx), fun x hx => ?_⟩, fun x hx => ?_, fun x hx => (nomatch hx)⟩
   ·cases hx; exact h1
   ·cases hx; exact h2
 rw [List.any_eq_true]
 constructor
 ·rintro ⟨ps, iH, hm⟩
  obtain ⟨k, hk, p, hp, rfl⟩ := AE iH
  obtain ⟨m, PY, rfl⟩ := p8 hp
  have := (AI _ _).mp hm
  refine ⟨k, k + 1 + m, by omega, by omega, this.1, ?_⟩
  unfold aS
  rw [show i + ((k + 1 + m : Nat) : Int) = i + (k : Int) + 1 + (m : Int) by omega]
  exact this.2
 ·rintro ⟨a, b, sG, hb, h1, h2⟩
  refine ⟨[(("at", i + (a : Int), none, some l) : Pa), (("at", i + (a : Int) + 1 + ((b - a - 1 : Nat) : Int), some h, none) : Pa)], ?_, (AI _ _).mpr ⟨h1, ?_⟩⟩
  ·unfold eE
   refine List.mem_flatMap.mpr ⟨a, List.mem_range.mpr (by omega), List.mem_map.mpr ⟨_, ?_, rfl⟩⟩
   unfold aU
   exact List.mem_map.mpr ⟨b - a - 1, List.mem_range.mpr (by omega), rfl⟩
  ·unfold aS at h2
   rw [show i + (a : Int) + 1 + ((b - a - 1 : Nat) : Int) = i + (b : Int) by omega]
   exact h2
theorem HW {f : Nat -> Int} {n : Nat} {l h : Int} : ((List.range (n - 1)).any fun k => decide (fy (((List.range n).map f).take (k + 1)) <= l) && decide (h <= d9 (((List.range n).map f).drop (k + 1)))) = true ↔ ∃ a b, a < b /\ b < n /\ f a <= l /\ h <= f b := by
 have tk : ∀ k, k < n - 1 -> ((List.range n).map f).take (k + 1) = (List.range (k + 1)).map f := fun k hk => by
  rw [<- List.map_take, List.take_range, Nat.min_eq_left (by omega)]
 have at_ : ∀ m x, ((List.range n).map f)[m]? = some x -> m < n /\ x = f m := fun m x e => by
  rw [List.getElem?_map] at e
  by_cases hm : m < n
  ·rw [List.getElem?_range hm] at e
   cases e
   exact ⟨hm, rfl⟩
  ·rw [List.getElem?_eq_none (by rw [List.length_range]; omega)] at e
   cases e
 have len : ((List.range n).map f).length = n := by rw [List.length_map, List.length_range]
 have AJ : ∀ k, k < n - 1 -> ((List.range n).map f).drop (k + 1) ≠ [] := fun k hk z => by
  have := congrArg List.length z
  rw [List.length_drop, len] at this
  simp at this
  omega
 rw [List.any_eq_true]
 constructor
 ·rintro ⟨k, hk, hb⟩
  have hk := List.mem_range.mp hk
  rw [Bool.and_eq_true, decide_eq_true_eq, decide_eq_true_eq, tk k hk] at hb
  obtain ⟨a, ha, h1⟩ := (sY (by omega)).mp hb.1
  obtain ⟨hm, _⟩ := kU (AJ k hk)
  obtain ⟨m, hm⟩ := List.mem_iff_getElem?.mp hm
  rw [List.getElem?_drop] at hm
  obtain ⟨m1, m2⟩ := at_ _ _ hm
  exact ⟨a, k + 1 + m, by omega, m1, h1, by rw [<- m2]; exact hb.2⟩
 ·rintro ⟨a, b, sG, hb, h1, h2⟩
  have ha : a < n - 1 := by omega
  refine ⟨a, List.mem_range.mpr ha, ?_⟩
  rw [Bool.and_eq_true, decide_eq_true_eq, decide_eq_true_eq, tk a ha]
  refine ⟨(sY (by omega)).mpr ⟨a, by omega, h1⟩, ?_⟩
  have hm : f b ∈ ((List.range n).map f).drop (a + 1) := List.mem_iff_getElem?.mpr ⟨b - (a + 1), by
   rw [List.getElem?_drop, show a + 1 + (b - (a + 1)) = b by omega, List.getElem?_map, List.getElem?_range hb]
   rfl⟩
  have := (kU (AJ a ha)).2 _ hm
  omega
end Gz
namespace Gz
open PySem PySem.Spec PyProof.Rows L2
local macro_rules | `(tactic| walk_at "om") => `(tactic| ((try simp only [PySem.Addr] at *); lia))
structure AK (X : Cx) (x : Str) (scope : Scope) (cl : List (Str × Addr)) (fr : List Nat) (ys : List Str) : Prop where
 clos : closureFor scope X.env = pure cl
 one : ∀ n acc, PySem.cellsFrom n scope.names acc = (x, n) :: acc
 push : ∀ h, pushCells h scope.names = h.push { cls := .type "cell", data := .cell none }
 kind : scope.kind = .function
 names : (scope.names.all fun p => p.2 != .local || scope.names.lookup p.1 == some .local) = true
 own : scope.names.lookup x = some .cell
 kinds : ((relabel scope X.env).names.all fun p => (p.2 != .cell && p.2 != .free) || p.1 == x || (cl.lookup p.1).isSome) = true
 cls : fQ X cl
 aX : eM X scope cl fr ys
 nd : (x :: ys).Nodup
 kfr : (ys.all fun y => (relabel scope X.env).names.lookup y == some .cell) = true
section
variable {X : Cx} {pins : List (Addr × Obj)} {σ : L2.St} {H2 : Hp} {s2 : Shared} {x : Str} {px pos : Pos} {elt iter : Expr} {ifs : List Expr} {scope : Scope} {cl : List (Str × Addr)} {fr : List Nat} {ys : List Str} {tt : TT} {te : TE}
theorem AK.low (S : AK X x scope cl fr ys) (I2 : Inv X pins σ H2 s2) {y : Str} {c : Addr} (e : cl.lookup y = some c) : c < s2.heap.objs.size := by
 obtain ⟨v, o, ho, _⟩ := I2.cell y c (S.cls.get y c e)
 exact Heap.lt_size ho
end
end Gz
namespace Gz
open PySem PySem.Spec PyProof.Rows L2
def iI : L2.St -> Nat -> (V -> Prop) -> Prop
 | [], _, _ => False
 | x :: _, 0, Q => match x with | some v => Q v | none => False
 | _ :: σ, n + 1, Q => iI σ n Q
def cf (x : V) (Q : Int -> Prop) : Prop := match x with | .int i => Q i | _ => False
def jR (x : V) (Q : Bool -> Prop) : Prop := match x with | .bl i => Q i | _ => False
def mY (x : V) (Q : Addr -> Prop) : Prop := match x with | .ref i => Q i | _ => False
def sZ (xs : List V) (Q : V -> Prop) : Prop := match xs with | [x] => Q x | _ => False
def tf (xs : List V) (Q : V -> V -> Prop) : Prop := match xs with | [x, y] => Q x y | _ => False
def iJ (x : V) (Q : Bool -> Prop) : Prop := match x with | .non => Q true | _ => Q false
def iK (x : V) (Q : Bool -> Prop) : Prop := match x with | .non => Q false | _ => Q true
section
variable {v : V} {o : Option V} {σ : L2.St} {n : Nat} {Q : V -> Prop} {i : Int} {b : Bool} {a : Addr} {QI : Int -> Prop} {QB : Bool -> Prop} {QR : Addr -> Prop} {x y : V} {Q2 : V -> V -> Prop}
theorem HX : iI (some v :: σ) 0 Q = Q v := rfl
theorem HY : iI (o :: σ) (n + 1) Q = iI σ n Q := rfl
theorem HZ : cf (.int i) QI = QI i := rfl
theorem Ia : jR (.bl b) QB = QB b := rfl
theorem Ib : mY (.ref a) QR = QR a := rfl
theorem Ic : sZ [x] Q = Q x := rfl
theorem Ie : tf [x, y] Q2 = Q2 x y := rfl
theorem Ig : iJ .non QB = QB true := rfl
theorem Ih : iJ (.int i) QB = QB false := rfl
theorem Ii : iJ (.bl b) QB = QB false := rfl
theorem Ij : iJ (.ref a) QB = QB false := rfl
theorem Ik : iK .non QB = QB false := rfl
theorem Il : iK (.int i) QB = QB true := rfl
theorem Im : iK (.bl b) QB = QB true := rfl
theorem Io : iK (.ref a) QB = QB true := rfl
theorem Ip {s : Str} : iK (.str s) QB = QB true := rfl
theorem Iq {s : Str} : iJ (.str s) QB = QB false := rfl
theorem iI.ex : ∀ {σ : L2.St} {n : Nat}, iI σ n Q -> ∃ v, σ[n]? = some (some v) /\ Q v
 | [], _, h => h.elim
 | some v :: _, 0, h => ⟨v, rfl, h⟩
 | none :: _, 0, h => h.elim
 | _ :: σ, n + 1, h => iI.ex (σ := σ) (n := n) h
theorem cf.ex (h : cf x QI) : ∃ i, x = .int i /\ QI i := by cases x <;> first | exact ⟨_, rfl, h⟩ | exact h.elim
theorem jR.ex (h : jR x QB) : ∃ i, x = .bl i /\ QB i := by cases x <;> first | exact ⟨_, rfl, h⟩ | exact h.elim
theorem mY.ex (h : mY x QR) : ∃ i, x = .ref i /\ QR i := by cases x <;> first | exact ⟨_, rfl, h⟩ | exact h.elim
theorem sZ.ex {xs : List V} (h : sZ xs Q) : ∃ x, xs = [x] /\ Q x := by
 match xs, h with
 | [x], h => exact ⟨x, rfl, h⟩
theorem tf.ex {xs : List V} (h : tf xs Q2) : ∃ x y, xs = [x, y] /\ Q2 x y := by
 match xs, h with
 | [x, y], h => exact ⟨x, y, rfl, h⟩
theorem iK.ex (h : iK x QB) : QB (!decide (x = .non)) := by cases x <;> exact h
theorem iJ.ex (h : iJ x QB) : QB (decide (x = .non)) := by cases x <;> exact h
end
section
variable {X : Cx} {e a b c : Expr} {pos : Pos} {ta tb tc : TE} {op dW : CmpOp}
def Ir (t : TE) : TE := fun σ H Q => ∃ Q' : VK, (∀ v H1, Q' v H1 -> Q v H1) /\ t σ H Q'
theorem dB (h : PE X e ta) : PE X e (Ir ta) := fun pins s σ H Q I ⟨Q', k, q⟩ => aB (h pins s σ H Q' I q) fun _ _ ⟨x, H1, I1, r1, q1⟩ => ⟨x, H1, I1, r1, k _ _ q1⟩
theorem mZ {t' : TE} (h : PE X e ta) (k : ∀ σ H Q, t' σ H Q -> ta σ H Q) : PE X e t' := fun pins s σ H Q I q => h pins s σ H Q I (k σ H Q q)
theorem lj {t t' : TT} (h : PT X e t) (k : ∀ σ H Q, t' σ H Q -> t σ H Q) : PT X e t' := fun pins s σ H Q I q => h pins s σ H Q I (k σ H Q q)
theorem tj {f : Value -> Value -> Sem Value} {r r' : R2} (h : bf X f r) (k : ∀ x y H Q, r' x y H Q -> r x y H Q) : bf X f r' := fun pins s σ H x y v u Q I rx ry q => h pins s σ H x y v u Q I rx ry (k _ _ _ _ q)
def AL (i : Nat) : TE := fun σ H Q => iI σ i fun v => Q v H
theorem aa (i : Nat) {x : Str} {pos : Pos} (hN : X.N[i]? = some x := by rfl) (hv : oO X.env.scope x := by first | exact Or.inl rfl | exact Or.inr (Or.inl rfl) | exact Or.inr (Or.inr rfl)) (hd : (x == ("__debug__" : Str)) = false := by decide)
 (dS : (x == ("__classdict__" : Str)) = false := by decide) : PE X (.Name x pos) (AL i) := mZ (pv i hN hv hd dS) fun _ _ _ h => h.ex
def m3 (C : Int -> Int -> Prop) (g : Int -> Int -> V) : R2 := fun x y H Q => cf x fun i => cf y fun j => C i j /\ Q (g i j) H
def qa (g : Int -> Int -> V) : R2 := fun x y H Q => cf x fun i => cf y fun j => Q (g i j) H
def tq (g : Int -> V) : V -> Hp -> VK -> Prop := fun x H Q => cf x fun i => Q (g i) H
def tu (p : Int -> Int -> Prop) [∀ i j, Decidable (p i j)] : R2 := fun x y H Q => cf x fun i => cf y fun j => if p i j then Q (.bl true) H else Q (.bl false) H
theorem tw {f : Value -> Value -> Sem Value} {C : Int -> Int -> Prop} {g : Int -> Int -> V} (h : bf X f (rI C g)) : bf X f (m3 C g) := tj h fun x y H Q q => by
 obtain ⟨i, rfl, q1⟩ := cf.ex q
 obtain ⟨j, rfl, q5⟩ := cf.ex q1
 exact ⟨i, j, rfl, rfl, q5⟩
theorem fU {f : Value -> Value -> Sem Value} {g : Int -> Int -> V} (h : bf X f (et g)) : bf X f (qa g) := tj h fun x y H Q q => by
 obtain ⟨i, rfl, q1⟩ := cf.ex q
 obtain ⟨j, rfl, q5⟩ := cf.ex q1
 exact ⟨i, j, rfl, rfl, q5⟩
theorem tD {f : Value -> Value -> Sem Value} {p : Int -> Int -> Prop} [∀ i j, Decidable (p i j)] (h : bf X f (et fun i j => .bl (decide (p i j)))) : bf X f (tu p) := tj h fun x y H Q q => by
 obtain ⟨i, rfl, q1⟩ := cf.ex q
 obtain ⟨j, rfl, q5⟩ := cf.ex q1
 clear q q1
 refine ⟨i, j, rfl, rfl, ?_⟩
 by_cases z : p i j
 ·rw [if_pos z] at q5; show Q (.bl (decide (p i j))) H; rw [decide_eq_true z]; exact q5
 ·rw [if_neg z] at q5; show Q (.bl (decide (p i j))) H; rw [decide_eq_false z]; exact q5
theorem Iu {f : Value -> Sem Value} {g : Int -> V} (h : kH X f (rU g)) : kH X f (tq g) := fun pins s σ H x v Q I rx q => h pins s σ H x v Q I rx q.ex
theorem a9 : bf X (binaryOp .Add) (qa fun i j => .int (i + j)) := fU EL
theorem cW : bf X (binaryOp .Sub) (qa fun i j => .int (i - j)) := fU EM
theorem m4 : bf X (binaryOp .Mod) (m3 (fun _ j => 0 < j) fun i j => .int (i % j)) := tw EN
theorem iL : bf X (binaryOp .Mult) (m3 mD fun i j => .int (i * j)) := tw Ga
theorem AM : bf X (binaryOp .Mult) (m3 k6 fun i j => .int (i * j)) := tw HA
theorem jS : kH X (unaryOp .USub) (tq fun i => .int (-i)) := Iu ER
def AN (t : TE) : TT := fun σ H Q => t σ H fun x H' => jR x fun k => Q k H'
theorem gK (h : PE X e ta) (he : ∀ whole, isTrue e X.env whole = (do let v <- whole; standAt e.pos; holding [v] (truthy v)) := by intro _; rfl) : PT X e (AN ta) := lj (Ek (dB h) he) fun σ H Q q => ⟨_, fun _ _ h => h.ex, q⟩
def lp (p : Int -> Int -> Prop) [∀ i j, Decidable (p i j)] (ta tb : TE) : TT := fun σ H Q => ta σ H fun x H1 => tb σ H1 fun y H2 => cf x fun i => cf y fun j => if p i j then Q true H2 else Q false H2
theorem AO {p : Int -> Int -> Prop} [∀ i j, Decidable (p i j)] {x y : V} {H : Hp} {Q : Bool -> Hp -> Prop} (q : cf x fun i => cf y fun j => if p i j then Q true H else Q false H) : tu p x y H (fun z H' => ∃ k, z = .bl k /\ Q k H') := by
 obtain ⟨i, rfl, q1⟩ := cf.ex q
 obtain ⟨j, rfl, q5⟩ := cf.ex q1
 clear q q1
 by_cases z : p i j
 ·rw [if_pos z] at q5; exact (show _ = _ from if_pos z).mpr ⟨_, rfl, q5⟩
 ·rw [if_neg z] at q5; exact (show _ = _ from if_neg z).mpr ⟨_, rfl, q5⟩
theorem qb {p : Int -> Int -> Prop} [∀ i j, Decidable (p i j)] (ho : bf X (compareOp op) (et fun i j => .bl (decide (p i j)))) (ha : PE X a ta) (hb : PE X b tb) (hm : behindInMarks op b = false) : PT X (.Compare a [op] [b] pos) (lp p ta tb) :=
 lj (o8 (tD ho) (dB ha) (dB hb) hm) fun σ H Q q => ⟨_, fun x H1 q1 => ⟨_, fun y H2 q2 => AO q2, q1⟩, q⟩
theorem tE (ha : PE X a ta) (hb : PE X b tb) : PT X (.Compare a [.Lt] [b] pos) (lp (fun i j => i < j) ta tb) := qb mj ha hb (cZ _)
theorem AQ (ha : PE X a ta) (hb : PE X b tb) : PT X (.Compare a [.LtE] [b] pos) (lp (fun i j => i <= j) ta tb) := qb gB ha hb (cZ _)
theorem tF (ha : PE X a ta) (hb : PE X b tb) : PT X (.Compare a [.Gt] [b] pos) (lp (fun i j => j < i) ta tb) := qb yy ha hb (cZ _)
theorem tG (ha : PE X a ta) (hb : PE X b tb) : PT X (.Compare a [.GtE] [b] pos) (lp (fun i j => j <= i) ta tb) := qb q8 ha hb (cZ _)
def eqT (x y : V) (Q : Bool -> Prop) : Prop := match x with
 | .int i => (match y with | .int j => if i = j then Q true else Q false | .non => Q false | .str _ => Q false | _ => False)
 | .str i => (match y with | .str j => if i = j then Q true else Q false | .non => Q false | .int _ => Q false | _ => False)
 | .bl i => (match y with | .bl j => if i = j then Q true else Q false | .non => Q false | _ => False)
 | .non => (match y with | .non => Q true | .int _ => Q false | .bl _ => Q false | .str _ => Q false | _ => False)
 | _ => False
def neT (x y : V) (Q : Bool -> Prop) : Prop := match x with
 | .int i => (match y with | .int j => if ¬ i = j then Q true else Q false | .non => Q true | .str _ => Q true | _ => False)
 | .str i => (match y with | .str j => if ¬ i = j then Q true else Q false | .non => Q true | .int _ => Q true | _ => False)
 | .bl i => (match y with | .bl j => if ¬ i = j then Q true else Q false | .non => Q true | _ => False)
 | .non => (match y with | .non => Q false | .int _ => Q true | .bl _ => Q true | .str _ => Q true | _ => False)
 | _ => False
section
variable {i j : Int} {x y : V} {s t : Str} {b' b1 : Bool} {Q : Bool -> Prop}
theorem Iv : eqT (.int i) (.int j) Q = if i = j then Q true else Q false := rfl
theorem Iw : eqT (.str s) (.str t) Q = if s = t then Q true else Q false := rfl
theorem Iy : eqT (.bl b') (.bl b1) Q = if b' = b1 then Q true else Q false := rfl
theorem Iz : eqT .non .non Q = Q true := rfl
theorem IA : eqT .non (.int j) Q = Q false := rfl
theorem IB : eqT (.int i) .non Q = Q false := rfl
theorem IC : eqT (.int i) (.str s) Q = Q false := rfl
theorem ID : eqT .non (.str s) Q = Q false := rfl
theorem IE : neT (.int i) (.int j) Q = if ¬ i = j then Q true else Q false := rfl
theorem IF : neT (.str s) (.str t) Q = if ¬ s = t then Q true else Q false := rfl
theorem IG : neT .non .non Q = Q false := rfl
theorem IH : neT .non (.int j) Q = Q true := rfl
theorem II : neT (.int i) .non Q = Q true := rfl
theorem AR {c : Prop} [Decidable c] {Q : Bool -> Prop} (q : if c then Q true else Q false) : Q (decide c) := by
 by_cases z : c
 ·rw [if_pos z] at q; rw [decide_eq_true z]; exact q
 ·rw [if_neg z] at q; rw [decide_eq_false z]; exact q
theorem eqT.ex (h : eqT x y Q) : gY x y = true /\ Q (decide (x = y)) := by
 cases x <;> cases y <;> first
  | exact h.elim
  | exact ⟨rfl, h⟩
  | (refine ⟨rfl, ?_⟩; have := AR h; simpa using this)
theorem neT.ex (h : neT x y Q) : gY x y = true /\ Q (!decide (x = y)) := by
 cases x <;> cases y <;> first
  | exact h.elim
  | exact ⟨rfl, h⟩
  | (refine ⟨rfl, ?_⟩; have := AR h; simpa using this)
end
def AS (ta tb : TE) : TT := fun σ H Q => ta σ H fun x H1 => tb σ H1 fun y H2 => eqT x y fun k => Q k H2
def AU (ta tb : TE) : TT := fun σ H Q => ta σ H fun x H1 => tb σ H1 fun y H2 => neT x y fun k => Q k H2
theorem aW (ha : PE X a ta) (hb : PE X b tb) : PT X (.Compare a [.Eq] [b] pos) (AS ta tb) :=
 lj (o8 qZ (dB ha) (dB hb) (cZ _)) fun σ H Q q => ⟨_, fun x H1 q1 => ⟨_, fun y H2 q2 => ⟨(eqT.ex q2).1, _, rfl, (eqT.ex q2).2⟩, q1⟩, q⟩
theorem m5 (ha : PE X a ta) (hb : PE X b tb) : PT X (.Compare a [.NotEq] [b] pos) (AU ta tb) :=
 lj (o8 yx (dB ha) (dB hb) (cZ _)) fun σ H Q q => ⟨_, fun x H1 q1 => ⟨_, fun y H2 q2 => ⟨(neT.ex q2).1, _, rfl, (neT.ex q2).2⟩, q1⟩, q⟩
def AV (ta : TE) : TT := fun σ H Q => ta σ H fun x H1 => iJ x fun k => Q k H1
def IJ (ta : TE) : TT := fun σ H Q => ta σ H fun x H1 => iK x fun k => Q k H1
theorem tH {j pos'} (ha : PE X a ta) : PT X (.Compare a [.Is] [.Constant .none j pos'] pos) (AV ta) := lj (x2 (qM (dB ha))) fun σ H Q q => ⟨_, fun x H1 q1 => ⟨_, rfl, q1.ex⟩, q⟩
def AW (p q : Int -> Int -> Prop) [∀ i j, Decidable (p i j)] [∀ i j, Decidable (q i j)] (ta tb tc : TE) : TT := fun σ H Q => ta σ H fun x H1 => tb σ H1 fun y H2 => cf x fun i => cf y fun j => if p i j then (tc σ H2 fun z H3 => cf z fun k => if q j k then Q true H3 else Q false H3) else Q false H2
theorem IK {p q : Int -> Int -> Prop} [∀ i j, Decidable (p i j)] [∀ i j, Decidable (q i j)] (ho : bf X (compareOp op) (et fun i j => .bl (decide (p i j)))) (cQ : bf X (compareOp dW) (et fun i j => .bl (decide (q i j)))) (ha : PE X a ta) (hb : PE X b tb) (hc : PE X c tc)
 (hm : lastMarks [op, dW] [b, c] = false := by with_unfolding_all rfl) : PT X (.Compare a [op, dW] [b, c] pos) (AW p q ta tb tc) :=
 lj (EU (tD ho) (tD cQ) (dB ha) (dB hb) (dB hc) hm) fun σ H Q q => ⟨_, fun x H1 q1 => ⟨_, fun y H2 q2 => by
  obtain ⟨i, rfl, q3⟩ := cf.ex q2
  obtain ⟨j, rfl, q5⟩ := cf.ex q3
  clear q2 q3
  by_cases z : p i j
  ·rw [if_pos z] at q5
   exact (show _ = _ from if_pos z).mpr ⟨_, rfl, _, fun w' H4 q4 => by
    obtain ⟨k, rfl, _⟩ := cf.ex q4
    exact AO (x := .int j) q4, q5⟩
  ·rw [if_neg z] at q5
   exact (show _ = _ from if_neg z).mpr ⟨_, rfl, ⟨_, rfl, q5⟩⟩, q1⟩, q⟩
variable {rest : List Expr}
def AX (ta tb : TE) : TE := fun σ H Q => ta σ H fun x H1 => jR x fun c => if c = true then tb σ H1 Q else Q (.bl false) H1
def AY (ta tb : TE) : TE := fun σ H Q => ta σ H fun x H1 => jR x fun c => if c = true then Q (.bl true) H1 else tb σ H1 Q
def AZ (ta : TE) : TE := fun σ H Q => ta σ H fun x H1 => jR x fun c => Q (.bl (!c)) H1
theorem gL (ha : PE X a ta) (hb : PE X (.BoolOp .And (b :: rest) pos) tb) : PE X (.BoolOp .And (a :: b :: rest) pos) (AX ta tb) := mZ (El (dB ha) hb) fun σ H Q q => ⟨_, fun x H1 q1 => q1.ex, q⟩
theorem m6 (ha : PE X a ta) (hb : PE X (.BoolOp .Or (b :: rest) pos) tb) : PE X (.BoolOp .Or (a :: b :: rest) pos) (AY ta tb) := mZ (Em (dB ha) hb) fun σ H Q q => ⟨_, fun x H1 q1 => q1.ex, q⟩
theorem m7 (ha : PE X a ta) : PE X (.UnaryOp .Not a pos) (AZ ta) := mZ (Eo (dB ha)) fun σ H Q q => ⟨_, fun x H1 q1 => q1.ex, q⟩
def A0 (K : PySem.W.Frag) (ta : TE) (f : Str) : TE := fun σ H Q => ta σ H fun x H1 => mY x fun a => ∃ C dx fs, H1 a = some (.ins C dx fs) /\ bc K C /\ bg K C f /\ ∃ v, fs.lookup f = some v /\ Q v H1
theorem bj {f : Str} {K : PySem.W.Frag} (hK : X.K = K) (he : PE X e ta) (hb : attributeBase e f X.env (eval e X.env) = eval e X.env) : PE X (.Attribute e f pos) (A0 K ta f) := by
 subst hK
 exact mZ (Fd (dB he) hb) fun σ H Q q => ⟨_, fun x H1 q1 => by
  obtain ⟨a, rfl, C, dx, fs, h1, h2, h3, v, h4, q2⟩ := q1.ex
  exact ⟨a, C, dx, fs, v, rfl, h1, h2, h3, h4, q2⟩, q⟩
def A2 (K : PySem.W.Frag) (ta tv : TE) (f : Str) : TS := fun D σ H => tv σ H fun y H1 => ta σ H1 fun x H2 => mY x fun a => ∃ C dx fs, H2 a = some (.ins C dx fs) /\ bc K C /\ bg K C f /\ fs.length < 1000 /\
 D.nx σ (upd H2 a (.ins C dx (dv f y fs)))
theorem fE {o value : Expr} {f : Str} {pos' : Pos} {tv : TE} (ha : PE X o ta) (hv : PE X value tv) (hs : swapsWith value (some (.Attribute o f pos')) pos.line X.env = pure false) : PS X (.Assign [.Attribute o f pos'] value pos) (A2 X.K ta tv f) := fun pins s σ H D I h =>
 Fe (dB ha) (dB hv) hs pins s σ H D I ⟨_, fun y H1 q1 => ⟨_, fun x H2 q2 => by
  obtain ⟨a, rfl, C, dx, fs, h⟩ := q2.ex
  exact ⟨a, C, dx, fs, rfl, h⟩, q1⟩, h⟩
end
end Gz
namespace Gz
open PySem PySem.Spec PyProof.Rows L2
section
variable {X : Cx} {K : PySem.W.Frag} {a b e : Expr} {es : List Expr} {ta tb : TE} {t : TA} {pos p : Pos}
theorem ar (ha : PE X a ta) (hb : PE X b tb) (hs : rB b := by exact fun _ _ => rfl) : PE X (.Subscript a b pos) (ju (jA X.K) ta tb) := yX y9 ha hb hs
theorem eO (ha : PE X a ta) (hb : PE X b tb) (h : X.K = K := by rfl) (hs : rB b := by exact fun _ _ => rfl) : PE X (.Subscript a b pos) (ju (jA K) ta tb) := yX (Hd h) ha hb hs
end
end Gz
namespace Gz
open PySem PySem.Spec PyProof.Rows L2
structure Fn (K : PySem.W.Frag) (mg : Str -> Option Value) (x : Str) (st : Stmt) (ps : List Str) where
 a : Addr
 fd : FuncData
 F : gF K x x st a fd
 m : mg x = some (.ref a)
 b : Binds K fd ps []
structure Fm (K : PySem.W.Frag) (x q : Str) (st : Stmt) (ps : List Str) where
 a : Addr
 fd : FuncData
 F : gF K x q st a fd
 b : Binds K fd ps []
inductive FA (K : PySem.W.Frag) (x q : Str) (st : Stmt) (f : Addr) : Prop
 | mk {od an : Option Addr} {sl : Array (Option Value)} {oc kV dc pm cd ct : Value} (_ : K.lookup f = some ⟨oc, od, .func (PySem.W.fnOf x q (jD st) (ez st) (cq st) .none kV dc pm an cd ct), sl⟩) (_ : PySem.W.codeIn K cd q = true) (_ : PySem.W.keepIn K (.ref f) = true)
theorem FA.fn {K : PySem.W.Frag} {x q : Str} {st : Stmt} {f : Addr} (h : FA K x q st f) : ∃ fd, gF K x q st f fd := let ⟨l, c, k⟩ := h; ⟨_, g8 l c k⟩
section
variable {X : Cx} {e : Expr} {es : List Expr} {t : TA} {pos p : Pos}
theorem IL {CX : cF} {k n : Nat} {ps : List Str} {sp : Sp} {x : Str} {st : Stmt} (N : Fn X.K X.mg x st ps) (F : bW X.prog X.w X.K X.mg X.base CX k N.a N.fd ps sp) (hr : aR n X.A) (hx : Passes CX X E0) (ha : PA X (e :: es) t)
 (hk : k <= n := by decide) (hg : Gl X x := by rfl) (eL : (x == ("__debug__" : Str)) = false := by decide) (he : starEach (e :: es) X.env = (false, eval e X.env) :: starEach es X.env := by rfl) (cR : (backTo pos (starEach es X.env)).any (·.1) = false := by rfl) :
 PE X (.Call (.Name x p) (e :: es) [] pos) (mv sp [] E0 t) := eK F (hr.mono hk) hg N.m N.F.kp N.b .nil hx ha eL he cR
end
end Gz
namespace Gz
open PySem PySem.Spec PyProof.Rows L2
theorem IM {α : Type} {n : Nat} {p : List α -> Prop} (h : ∀ u vs, vs.length = n -> p (u :: vs)) : ∀ us : List α, us.length = n + 1 -> p us
 | u :: vs, e => h u vs (Nat.succ.inj e)
theorem IP {α : Type} {p : List α -> Prop} (h : p []) : ∀ us : List α, us.length = 0 -> p us
 | [], _ => h
structure Sc (N ps : List Str) (st : Stmt) : Prop extends kK N ps (cq st) where
 b : ∀ (x q : Str) (kV doc pm : Value) (an : Option Addr) (ba ct : Value) (us : List Value), us.length = ps.length -> bindArgs (PySem.W.fnOf x q (jD st) (ez st) (cq st) .none kV doc pm an ba ct) ⟨us, []⟩ = pure (ps.zip us)
section
variable {P : Program} {w : World} {K : PySem.W.Frag} {mg : Str -> Option Value} {base h : Heap} {x q : Str} {st : Stmt} {N ps : List Str} {k : Nat} {sp : Sp} {C : Addr}
inductive Fb (K : PySem.W.Frag) (x q : Str) (st : Stmt) (p : Addr -> Prop) : Prop
 | mk {f : Addr} {od an : Option Addr} {sl : Array (Option Value)} {oc kV dc pm cd ct : Value} (_ : p f) (_ : K.lookup f = some ⟨oc, od, .func (PySem.W.fnOf x q (jD st) (ez st) (cq st) .none kV dc pm an cd ct), sl⟩) (_ : PySem.W.codeIn K cd q = true) (_ : PySem.W.keepIn K (.ref f) = true)
def bN (K : PySem.W.Frag) (x : Str) (f : Addr) : Prop := PySem.W.nsIn K mainGlobals x = some (some (.ref f))
def aE (K : PySem.W.Frag) (C : Addr) (x : Str) (f : Addr) : Prop := PySem.W.findIn K (.ref C) x = some (some (.ref f)) /\ PySem.W.isFn K (.ref f) = true
theorem Fb.fn (b : Fb K x x st (bN K x)) (X : K.In h) (G : h.Ns mainGlobals mg) (S : Sc N ps st) : Nonempty (Fn K mg x st ps) :=
 let ⟨a, l, c, k⟩ := b; ⟨⟨_, _, g8 l c k, PySem.W.mg_of X G a, (g8 l c k).binds (S.b x x)⟩⟩
theorem Fb.fm (b : Fb K x q st (aE K C x)) (S : Sc N ps st) : ∃ F : Fm K x q st ps, aE K C x F.a :=
 let ⟨a, l, c, k⟩ := b; ⟨⟨_, _, g8 l c k, (g8 l c k).binds (S.b x q)⟩, a⟩
theorem Fn.bt {y : Str} (F : Fn K mg x st [y]) (S : Sc N [y] st) (s : Shared) (v : Value) : BindsTo s F.fd ⟨[v], []⟩ [(y, v)] := by
 obtain ⟨oc, od, kV, doc, pm, an, ba, ct, fN, e, lk, dS⟩ := F.F.ex
 rw [e]
 exact .of_eq (S.b _ _ _ _ _ _ _ _ [v] rfl)
abbrev Ok (P : Program) (w : World) {K : PySem.W.Frag} {mg : Str -> Option Value} (base : Heap) (k : Nat) {x : Str} {st : Stmt} {ps : List Str} (F : Fn K mg x st ps) (sp : Sp) : Prop := bW P w K mg base (cL P w) k F.a F.fd ps sp
abbrev Om (P : Program) (w : World) {K : PySem.W.Frag} (mg : Str -> Option Value) (base : Heap) (k : Nat) {x q : Str} {st : Stmt} {ps : List Str} (F : Fm K x q st ps) (sp : Sp) : Prop := bW P w K mg base (cL P w) k F.a F.fd ps sp
theorem b9 {F : Fn K mg x st ps} (S : Sc N ps st)
 (dX : ∀ (ba : Value) (A : Around) (outer : List Env) (s : Shared) (H : Hp) (vs : List V) (Q : VK) (E : XK), aR k (A.deeper (envOfC x (cq st) s.heap.objs.size F.a ba)) -> sp vs H Q E ->
   ∃ t, aV (de (cL P w) P w K mg base N x (cq st) F.a ba A outer s H E).ft (ez st) t /\ t { nx := fun _ H' => Q .non H', rt := Q } (start N vs) H)
 (len : ∀ vs H Q E, sp vs H Q E -> vs.length = ps.length := by intro _ _ _ _ h; cases h; subst_vars; rfl) : Ok P w base (k + 1) F sp := okN F.F S.1 len dX
theorem iM {F : Fn K mg x st ps} (S : Sc N ps st)
 (dX : ∀ (ba : Value) (A : Around) (outer : List Env) (s : Shared) (H : Hp) (vs : List V) (Q : VK) (E : XK), aR k (A.deeper (envOfC x (cq st) s.heap.objs.size F.a ba)) -> sp vs H Q E ->
   ∃ t, aV (de (cL P w) P w K mg base N x (cq st) F.a ba A outer s H E) (ez st) t /\ t { nx := fun _ H' => Q .non H', rt := Q } (start N vs) H)
 (len : ∀ vs H Q E, sp vs H Q E -> vs.length = ps.length := by intro _ _ _ _ h; cases h; subst_vars; rfl) : Ok P w base (k + 1) F sp := zB F.F S.1 len dX
theorem bZ {F : Fm K x q st ps} (S : Sc N ps st)
 (dX : ∀ (ba : Value) (A : Around) (outer : List Env) (s : Shared) (H : Hp) (vs : List V) (Q : VK) (E : XK), aR k (A.deeper (envOfC q (cq st) s.heap.objs.size F.a ba)) -> sp vs H Q E ->
   ∃ t, aV (de (cL P w) P w K mg base N q (cq st) F.a ba A outer s H E).ft (ez st) t /\ t { nx := fun _ H' => Q .non H', rt := Q } (start N vs) H)
 (len : ∀ vs H Q E, sp vs H Q E -> vs.length = ps.length := by intro _ _ _ _ h; cases h; subst_vars; rfl) : Om P w mg base (k + 1) F sp := okN F.F S.1 len dX
theorem iN {F : Fm K x q st ps} (S : Sc N ps st)
 (dX : ∀ (ba : Value) (A : Around) (outer : List Env) (s : Shared) (H : Hp) (vs : List V) (Q : VK) (E : XK), aR k (A.deeper (envOfC q (cq st) s.heap.objs.size F.a ba)) -> sp vs H Q E ->
   ∃ t, aV (de (cL P w) P w K mg base N q (cq st) F.a ba A outer s H E) (ez st) t /\ t { nx := fun _ H' => Q .non H', rt := Q } (start N vs) H)
 (len : ∀ vs H Q E, sp vs H Q E -> vs.length = ps.length := by intro _ _ _ _ h; cases h; subst_vars; rfl) : Om P w mg base (k + 1) F sp := zB F.F S.1 len dX
end
section
variable {X : Cx} {x : Str} {e : Expr} {es : List Expr} {te : TE} {t : TA} {p pos pos' : Pos}
theorem aY (i : Nat) (hN : X.N.Nodup) (he : PE X e te) (hi : X.N[i]? = some x := by rfl) (hx : Loc X.env.scope x := by first | exact Or.inl rfl | exact Or.inr rfl) (hs : swapsWith e (some (.Name x pos')) pos.line X.env = pure false := by rfl) (hf : X.fn x = true ∨ X.env.scope.names.lookup x = some .local := by first | exact .inl rfl | exact .inr rfl) :
 PS X (.Assign [.Name x pos'] e pos) (oY te (jq i)) := EB hN hi hx he hs hf
theorem iO (i : Nat) (hN : X.N.Nodup) (hi : X.N[i]? = some x := by rfl) (hx : Loc X.env.scope x := by first | exact Or.inl rfl | exact Or.inr rfl) (hf : X.fn x = true ∨ X.env.scope.names.lookup x = some .local := by first | exact .inl rfl | exact .inr rfl) : PG X (.Name x pos) (jq i) := qQ hN hi hx hf
theorem aJ {k n : Nat} {ps : List Str} {sp : Sp} {st : Stmt} {CX : cF} {N : Fn X.K X.mg x st ps} (F : bW X.prog X.w X.K X.mg X.base CX k N.a N.fd ps sp) (hr : aR n X.A) (ha : PA X (e :: es) t) (hx : Passes CX X E0 := by exact dY)
 (hk : k <= n := by decide) (hg : Gl X x := by rfl) (eL : (x == ("__debug__" : Str)) = false := by decide) (he : starEach (e :: es) X.env = (false, eval e X.env) :: starEach es X.env := by rfl) (cR : (backTo pos (starEach es X.env)).any (·.1) = false := by rfl) :
 PE X (.Call (.Name x p) (e :: es) [] pos) (mv sp [] E0 t) := IL N F hr hx ha hk hg eL he cR
end
end Gz
namespace Gz
open PySem PySem.Spec PyProof.Rows L2
theorem _root_.L2.aR.m {j k : Nat} {A : Around} (r : aR k A) (h : j <= k := by decide) : aR j A := r.mono h
theorem aG {K : PySem.W.Frag} {H : Hp} {p : Addr} {xs : List V} {i : Int} {v : V} {Q : VK} (h : H p = some (.tup xs)) (q : Q v H) (e : cG xs i = some v := by rfl) : jA K (.ref p) (.int i) H Q := aO (ay.of h) e q
theorem cO {X : Cx} {x : Str} {scope : Scope} {cl : List (Str × Addr)} (fr : List Nat) (ys : List Str) (a : closureFor scope X.env = pure cl := by rfl) (b : (scope.names.all fun p => p.2 != .cell) = true := by decide +kernel) (c : scope.kind = .function := by rfl)
 (d : (scope.names.all fun p => p.2 != .local || scope.names.lookup p.1 == some .local) = true := by decide +kernel) (e : scope.names.lookup x = some .local := by rfl) (f : ((relabel scope X.env).names.all fun p => (p.2 != .cell && p.2 != .free) || (cl.lookup p.1).isSome) = true := by rfl)
 (g : fQ X cl := by repeat' first | exact fQ.nil | refine fQ.cons rfl ?_) (h : eM X scope cl fr ys := by repeat' first | exact eM.nil | refine eM.cons rfl rfl rfl rfl ?_) (i : (x :: ys).Nodup := by decide) (j : (ys.all fun y => (relabel scope X.env).names.lookup y == some .cell) = true := by rfl) : jE X x scope cl fr ys := ⟨a, b, c, d, e, f, g, h, i, j⟩
theorem IQ {tc : TT} {t u : TS} {D : Ends} {σ : L2.St} {H : Hp} (h : ∀ B : TS, B = t -> oX tc B u D σ H) : oX tc t u D σ H := h t rfl
noncomputable abbrev aI {N ps : List Str} {st : Stmt} (_ : Sc N ps st) : List Str := ps
noncomputable abbrev Fq (K : PySem.W.Frag) (mg : Str -> Option Value) (x : Str) {N ps : List Str} {st : Stmt} (_ : Sc N ps st) := Fn K mg x st ps
abbrev A3 (K : PySem.W.Frag) (x : Str) {N ps : List Str} {st : Stmt} (_ : Sc N ps st) : Prop := Fb K x x st (bN K x)
abbrev m8 (K : PySem.W.Frag) (C : Addr) (x q : Str) {N ps : List Str} {st : Stmt} (_ : Sc N ps st) : Prop := Fb K x q st (aE K C x)
abbrev iP (K : PySem.W.Frag) (x q : Str) {N ps : List Str} {st : Stmt} (_ : Sc N ps st) (p : Addr -> Prop) : Prop := Fb K x q st p
noncomputable def A3.c {K : PySem.W.Frag} {mg : Str -> Option Value} {h : Heap} {x : Str} {st : Stmt} {N ps : List Str} {S : Sc N ps st} (b : A3 K x S) (X : K.In h) (G : h.Ns mainGlobals mg) : Fq K mg x S := Classical.choice (Fb.fn b X G S)
section
variable {X : Cx} {x : Str} {e : Expr} {es : List Expr} {t : TA} {p pos : Pos}
end
noncomputable abbrev Fy (K : PySem.W.Frag) (_ : Addr) (x q : Str) {N ps : List Str} {st : Stmt} (_ : Sc N ps st) := Fm K x q st ps
noncomputable abbrev Fv (K : PySem.W.Frag) (x q : Str) {N ps : List Str} {st : Stmt} (_ : Sc N ps st) (_ : Addr -> Prop) := Fm K x q st ps
section
variable {K : PySem.W.Frag} {C : Addr} {x q y : Str} {N ps : List Str} {st : Stmt} {S : Sc N ps st} {p : Addr -> Prop}
theorem Fb.fx (b : Fb K x q st p) (S : Sc N ps st) : ∃ F : Fm K x q st ps, p F.a :=
 let ⟨a, l, c, k⟩ := b; ⟨⟨_, _, g8 l c k, (g8 l c k).binds (S.b x q)⟩, a⟩
noncomputable def iP.c (b : iP K x q S p) : Fv K x q S p := Classical.choose (Fb.fx b S)
noncomputable def m8.c (b : m8 K C x q S) : Fy K C x q S := Classical.choose (Fb.fx b S)
theorem iP.i {b : iP K x q S p} (h : ∀ f, p f -> aE K C y f) : aE K C y (iP.c b).a := h _ (Classical.choose_spec (Fb.fx b S))
theorem m8.i {b : m8 K C x q S} : aE K C x (m8.c b).a := Classical.choose_spec (Fb.fx b S)
theorem iP.j {b : iP K x q S p} {v u : Value} (h : ∀ f, p f -> PySem.W.findCls K v u y = some (.val (.ref f))) : PySem.W.findCls K v u y = some (.val (.ref (iP.c b).a)) := h _ (Classical.choose_spec (Fb.fx b S))
end
end Gz
namespace Gz
open PySem PySem.Spec PyProof.Rows L2
structure bO (P : Program) (w : World) (K : PySem.W.Frag) (mg : Str -> Option Value) (base : Heap) (A : Around) (m : Str) (x : V) (H : Hp) (Q : VK) : Prop where
 mk ::
 ex : ∃ a C dx fs f k fd ps sp, x = .ref a /\ H a = some (.ins C dx fs) /\ bc K C /\ Meth K C m f /\ fs.lookup m = none /\ bW P w K mg base (cL P w) k f fd ps sp /\ aR k A /\ Binds K fd ps [] /\ sp [.ref a] H Q E0
theorem bO.of {P : Program} {w : World} {K : PySem.W.Frag} {mg : Str -> Option Value} {base : Heap} {A : Around} {m : Str} {H : Hp} {Q : VK} {a C dx f : Addr} {fs : List (Str × V)} {k n : Nat} {fd : FuncData} {ps : List Str} {sp : Sp} (ha : H a = some (.ins C dx fs)) (hc : bc K C) (hm : Meth K C m f) (F : bW P w K mg base (cL P w) k f fd ps sp) (hr : aR n A) (hb : Binds K fd ps []) (q : sp [.ref a] H Q E0) (hl : fs.lookup m = none := by rfl) (hk : k <= n := by decide) : bO P w K mg base A m (.ref a) H Q :=
 ⟨a, C, dx, fs, f, k, fd, ps, sp, rfl, ha, hc, hm, hl, F, hr.mono hk, hb, q⟩
theorem cD {X : Cx} {R : V -> Hp -> VK -> Prop} {m : Str} {o : Expr} {apos pos : Pos} {ta : TE} {pl : Sem Bool} (hR : ∀ x H Q, R x H Q -> bO X.prog X.w X.K X.mg X.base X.A m x H Q) (he : PE X o ta)
 (ht : eval (.Call (.Attribute o m apos) [] [] pos) X.env = (do
   let ov <- eval o X.env
   standAt apos.atName
   let (f, first) <- holding [ov] (getMethod ov m pl)
   callWith pos f first (backTo pos (starEach [] X.env)) (backToKw pos (keywordEach [] X.env))) := by rfl) :
 PE X (.Call (.Attribute o m apos) [] [] pos) (fun σ H Q => ta σ H fun x H1 => R x H1 Q) := by
 intro pins s σ H Q I h
 refine PySem.W.methodCall_KW (pl := pl) (aB (he pins s σ H _ I h) fun u s1 ⟨x, H1, I1, rx, q⟩ => ?_) ht
 obtain ⟨a, C, dx, fs, f, k, fd, ps, sp, rfl, ea, c, hm, l, F, hr, hb, q⟩ := hR _ _ _ q
 obtain rfl : u = Value.ref a := rx
 refine pd I1 ea c hm l ?_
 exact PySem.W.callWith_K0 (first := [.ref a]) I1.bQ hm.kp (kI (us := [.ref a]) (vs := [.ref a]) F hr hb .nil dY I1 (.cons rfl .nil) q)
end Gz
namespace Gz
open PySem PySem.Spec PyProof.Rows L2
section
variable {prog : Program} {w : World} {A : Around} {E : Value -> Shared -> Prop} {s : Shared} {l : Addr} {xs : Array (Int × Tok)}
theorem IS {Q : Value -> Shared -> Prop} (hh : A.handled = none) (hl : s.heap.IsTuple l (intItems xs)) (dg : 0 < xs.size)
 (h : ∀ v h' tk, (intItems xs)[argBest (fun i j => decide (numAt xs i > numAt xs j)) (xs.size - 1)]? = some v -> (∀ b o, s.heap.get? b = some o -> h'.get? b = some o) -> Q v { s with heap := h', toks := tk }) :
 wpAny (model prog w) A (call (.builtin "max") [.ref l]) Q E s := by
 have cz : l < s.heap.objs.size := by obtain ⟨_, e, _⟩ := hl; exact Heap.lt_size e
 refine call_max_walk (wpAny_pyIter_tuple hl ?_)
 refine ⟨_, _, _, _, _, _, _, rfl, Walks.tuple (A := A.in1) hh _ l (Nat.ne_of_lt cz) (intItems xs), ⟨⟨_, Heap.get?_push_size _ rfl, rfl, rfl⟩, hl.push _⟩, (fun b hb => ?_), by simpa [intItems] using dg, CmpOf.ints_gt (numAt xs) (fun _ _ => intItems_at), fun v h' tk hP hk => ?_⟩
 ·show b < (s.heap.push _).objs.size
  rw [Heap.size_push]
  rcases List.mem_cons.mp hb with rfl | hb
  ·exact Nat.lt_succ_self _
  ·rcases List.mem_cons.mp hb with rfl | hb
   ·exact Nat.lt_succ_of_lt cz
   ·cases hb
 ·refine h v h' tk (by simpa [intItems] using hP) fun b o e => hk b o (fun hm => ?_) (Heap.get?_push_of_some _ e)
  rcases List.mem_cons.mp hm with e1 | hm
  ·exact absurd (e1 ▸ Heap.lt_size e) (Nat.lt_irrefl _)
  ·cases hm
end
theorem A4 {X : Cx} (hc : X.calm = true) : da X (.builtin "max") (fun xs H Q => ∃ a ns, xs = [.ref a] /\ ay X.K H a (ns.map V.int) /\ ns ≠ [] /\ Q (.int (d9 ns)) H) := by
 intro pins s σ H xs us Q I r h
 obtain ⟨a, ns, rfl, hS, dg, q⟩ := h
 obtain ⟨u, rfl, ru⟩ := vals1 r
 cases ru
 obtain ⟨ai, rv, hp, _⟩ := I.tuple hS
 obtain ⟨xs, e1, e2⟩ := pM rv
 rw [e1] at hp
 have len : xs.size = ns.length := by rw [<- e2, List.length_map]; simp
 have iE : 0 < xs.size := by rw [len]; exact List.length_pos_iff.mpr dg
 refine IS (I.ok.hd hc) hp iE fun v h' tk hv hk => ⟨.int (d9 ns), H, I.kept hk, ?_, q⟩
 obtain ⟨t, rfl⟩ := intItems_at hv
 exact ⟨t, by rw [zW e2 iE]⟩
end Gz
namespace Gz
open PySem PySem.Spec PyProof.Rows L2
section
variable {X : Cx}
theorem A5 : ∀ {ss : List Str} {ai : List Value}, Vals (ss.map V.str) ai -> CarriedAll ai (ss.map PyData.str)
 | [], _, r => by cases r; exact .nil
 | s :: ss, _, r => by
  cases r with
  | cons r1 r2 =>
   obtain ⟨t, rfl⟩ := r1
   exact .cons (.str _ _) (A5 r2)
end
end Gz
namespace Gz
open PySem PySem.Spec PyProof.Rows L2 Builtin Builtin.Str StrLaws
noncomputable def dJ (c : Nat) : Nat -> List Nat -> List Nat
 | _, [] => []
 | i, x :: xs => if x = c then i :: dJ c (i + 1) xs else dJ c (i + 1) xs
noncomputable def ej (c : Nat) : List Nat -> List (List Nat)
 | [] => [[]]
 | x :: xs => if x = c then [] :: ej c xs else match ej c xs with
  | [] => [[x]]
  | w :: ws => (x :: w) :: ws
theorem subAt_one (s : PySem.Str) (c i : Nat) (h : i < s.cps.toList.length) : subAt s ⟨#[c]⟩ i = decide (s.cps.toList[i] = c) := by
 have hi : i < s.cps.size := by simpa using h
 have e : s.cps.extract i (i + 1) = #[s.cps[i]] := by
  apply Array.ext
  ·simp; omega
  ·intro j h1 h2
   have : j = 0 := by simp at h2; omega
   subst this
   simp
 show (s.cps.extract i (i + 1) == #[c]) = _
 rw [e]
 have ee : s.cps.toList[i] = s.cps[i] := by simp
 rw [ee]
 by_cases q : s.cps[i] = c
 ·rw [q]; simp
 ·rw [decide_eq_false q]
  have : ¬ (#[s.cps[i]] == #[c]) = true := by
   intro z
   have := eq_of_beq z
   simp at this
   exact q this
  exact Bool.eq_false_iff.mpr this
theorem IT (s : PySem.Str) (c : Nat) (l : List Nat) (hl : s.cps.toList = l) : ∀ (n i : Nat) (acc : Array Nat) (free : Nat), i + n = l.length + 1 -> free <= i -> acc.size <= i ->
 (forIn (List.range' i n) (acc, free) (occBody s ⟨#[c]⟩ l.length (l.length + 1))).run.fst.toList = acc.toList ++ dJ c i (l.drop i) := by
 intro n
 induction n with
 | zero =>
  intro i acc free hi hf ha
  rw [List.drop_eq_nil_of_le (by omega)]
  simp [dJ]
 | succ n ih =>
  intro i acc free hi hf ha
  rw [List.range'_succ, List.forIn_cons]
  by_cases h : i < l.length
  ·have hc : l.drop i = l[i] :: l.drop (i + 1) := List.drop_eq_getElem_cons h
   have hs : subAt s ⟨#[c]⟩ i = decide (l[i] = c) := by
    subst hl
    exact subAt_one s c i h
   rw [hc]
   by_cases q : l[i] = c
   ·have e : occBody s ⟨#[c]⟩ l.length (l.length + 1) i (acc, free) = pure (ForInStep.yield (acc.push i, i + 1)) := by
     unfold occBody
     rw [if_pos]
     ·rfl
     ·refine ⟨⟨⟨?_, hf⟩, ?_⟩, ?_⟩
      ·show acc.size < l.length + 1
       omega
      ·show i + 1 <= l.length
       omega
      ·rw [hs]; exact decide_eq_true q
    rw [e]
    show (Id.run (forIn (m := Id) (List.range' (i + 1) n) (acc.push i, i + 1) (occBody s ⟨#[c]⟩ l.length (l.length + 1)))).fst.toList = _
    rw [ih (i + 1) (acc.push i) (i + 1) (by omega) (Nat.le_refl _) (by simp; omega)]
    simp [dJ, q]
   ·have e : occBody s ⟨#[c]⟩ l.length (l.length + 1) i (acc, free) = pure (ForInStep.yield (acc, free)) := by
     unfold occBody
     rw [if_neg]
     rintro ⟨_, z⟩
     rw [hs] at z
     exact q (of_decide_eq_true z)
    rw [e]
    show (Id.run (forIn (m := Id) (List.range' (i + 1) n) (acc, free) (occBody s ⟨#[c]⟩ l.length (l.length + 1)))).fst.toList = _
    rw [ih (i + 1) acc free (by omega) (by omega) (by omega)]
    simp [dJ, q]
  ·have e : occBody s ⟨#[c]⟩ l.length (l.length + 1) i (acc, free) = pure (ForInStep.yield (acc, free)) := by
    unfold occBody
    rw [if_neg]
    rintro ⟨⟨_, z⟩, _⟩
    have z' : i + 1 <= l.length := z
    omega
   rw [e]
   show (Id.run (forIn (m := Id) (List.range' (i + 1) n) (acc, free) (occBody s ⟨#[c]⟩ l.length (l.length + 1)))).fst.toList = _
   rw [ih (i + 1) acc free (by omega) (by omega) (by omega), List.drop_eq_nil_of_le (by omega), List.drop_eq_nil_of_le (by omega)]
   rfl
theorem A6 (s : PySem.Str) (c : Nat) : occurrences s ⟨#[c]⟩ 0 s.length (s.length + 1) = dJ c 0 s.cps.toList := by
 rw [occ_eq]
 have hl : s.length = s.cps.toList.length := by show s.cps.size = _; simp
 rw [hl]
 rw [IT s c s.cps.toList rfl _ 0 #[] 0 (by omega) (Nat.le_refl _) (Nat.le_refl _)]
 simp
noncomputable def eQ (l : List Nat) (i j : Nat) : List Nat := (l.take j).drop i
theorem IU (c : Nat) (l : List Nat) : ∀ (r : List Nat) (a i : Nat), l.drop i = r -> a <= i -> i <= l.length ->
 ∃ w ws, ej c r = w :: ws /\ ((a :: (dJ c i r).map (· + 1)).zip (dJ c i r ++ [l.length])).map (fun p => eQ l p.1 p.2) = (eQ l a i ++ w) :: ws := by
 intro r
 induction r with
 | nil =>
  intro a i hr ha hi
  have hL : l.length <= i := List.drop_eq_nil_iff.mp hr
  have : i = l.length := by omega
  exact ⟨[], [], rfl, by simp [dJ, this]⟩
 | cons x xs ih =>
  intro a i hr ha hi
  have h : i < l.length := by
   rcases Nat.lt_or_ge i l.length with z | z
   ·exact z
   ·rw [List.drop_eq_nil_of_le z] at hr; cases hr
  have hc := List.drop_eq_getElem_cons h
  rw [hr] at hc
  obtain ⟨ex, exs⟩ := List.cons.inj hc
  by_cases q : x = c
  ·obtain ⟨w, ws, e1, e2⟩ := ih (i + 1) (i + 1) exs.symm (Nat.le_refl _) (by omega)
   refine ⟨[], w :: ws, ?_, ?_⟩
   ·show (if x = c then [] :: ej c xs else _) = _
    rw [if_pos q, e1]
   ·have eC : dJ c i (x :: xs) = i :: dJ c (i + 1) xs := by show (if x = c then _ else _) = _; rw [if_pos q]
    rw [eC]
    show eQ l a i :: ((((i + 1) :: (dJ c (i + 1) xs).map (· + 1)).zip (dJ c (i + 1) xs ++ [l.length])).map (fun p => eQ l p.1 p.2)) = _
    rw [e2]
    have z : eQ l (i + 1) (i + 1) = [] := by unfold eQ; rw [List.drop_eq_nil_iff]; simp; omega
    rw [z]
    simp
  ·obtain ⟨w, ws, e1, e2⟩ := ih a (i + 1) exs.symm (by omega) (by omega)
   refine ⟨x :: w, ws, ?_, ?_⟩
   ·show (if x = c then _ else match ej c xs with | [] => [[x]] | w :: ws => (x :: w) :: ws) = _
    rw [if_neg q, e1]
   ·have eC : dJ c i (x :: xs) = dJ c (i + 1) xs := by show (if x = c then _ else _) = _; rw [if_neg q]
    rw [eC, e2]
    have z : eQ l a (i + 1) = eQ l a i ++ [x] := by
     unfold eQ
     rw [List.take_succ, List.getElem?_eq_getElem h, <- ex, List.drop_append_of_le_length (by simp; omega)]
     rfl
    rw [z]
    simp
noncomputable def jT (l : List Nat) : PySem.Str := ⟨l.toArray⟩
theorem IV (s : PySem.Str) : jT s.cps.toList = s := by cases s; simp [jT]
theorem IW (x : PySem.Str) (c : Nat) (hc : c < 256) : Txt.split x ⟨#[c]⟩ = (ej c x.cps.toList).map jT := by
 have hp : partsBetween x (occurrences x ⟨#[c]⟩ 0 x.length (x.length + 1)) 1 = (ej c x.cps.toList).map jT := by
  rw [A6]
  obtain ⟨w, ws, e1, e2⟩ := IU c x.cps.toList x.cps.toList 0 0 rfl (Nat.le_refl _) (Nat.zero_le _)
  rw [e1]
  have z : eQ x.cps.toList 0 0 = [] := by simp [eQ]
  rw [z, List.nil_append] at e2
  rw [<- e2, List.map_map]
  unfold partsBetween
  have hl : x.length = x.cps.toList.length := by show x.cps.size = _; simp
  rw [hl]
  apply List.map_congr_left
  rintro ⟨i, j⟩ _
  show strSub x i j = jT (eQ x.cps.toList i j)
  unfold strSub jT eQ
  congr 1
  apply Array.ext'
  simp [List.drop_take]
 unfold Txt.split
 have hk : ¬ strKind x < strKind (⟨#[c]⟩ : PySem.Str) := by
  have a : strKind (⟨#[c]⟩ : PySem.Str) = 1 := by unfold Builtin.Str.strKind; simp [hc]
  have b : 1 <= strKind x := by unfold Builtin.Str.strKind; split; exact Nat.le_refl _; split <;> decide
  omega
 have one : ∀ (h : occurrences x ⟨#[c]⟩ 0 x.length (x.length + 1) = []), [x] = (ej c x.cps.toList).map jT := by
  intro h
  rw [<- hp, h]
  unfold partsBetween
  have : strSub x 0 x.length = x := by unfold strSub; cases x; simp [Str.length]
  simp [this]
 split
 ·rename_i h
  have h' : x.length < 1 := by
   rcases (Bool.or_eq_true _ _).mp h with z | z
   ·exact of_decide_eq_true z
   ·exact absurd (of_decide_eq_true z) hk
  have hn : x.cps.toList = [] := by
   have : x.cps.size < 1 := h'
   apply List.eq_nil_of_length_eq_zero
   rw [Array.length_toList]; omega
  refine one ?_
  rw [A6, hn]
  rfl
 ·split
  ·rename_i h
   exact one (List.isEmpty_iff.mp h)
  ·exact hp
noncomputable def hZ (c : Nat) : List (List Nat) -> List Nat
 | [] => []
 | [w] => w
 | w :: v :: ws => w ++ c :: hZ c (v :: ws)
theorem A7 (c : Nat) : ∀ w : List Nat, c ∉ w -> ej c w = [w]
 | [], _ => rfl
 | x :: xs, h => by
  have h1 : ¬ x = c := fun z => h (z ▸ .head _)
  unfold ej
  rw [if_neg h1, A7 c xs fun z => h (.tail _ z)]
theorem A8 (c : Nat) (r : List Nat) : ∀ w : List Nat, c ∉ w -> ej c (w ++ c :: r) = w :: ej c r
 | [], _ => by show (if c = c then _ else _) = _; rw [if_pos rfl]
 | x :: xs, h => by
  have h1 : ¬ x = c := fun z => h (z ▸ .head _)
  show (if x = c then _ else match ej c (xs ++ c :: r) with | [] => [[x]] | w :: ws => (x :: w) :: ws) = _
  rw [if_neg h1, A8 c r xs fun z => h (.tail _ z)]
theorem A9 (c : Nat) : ∀ ws : List (List Nat), ws ≠ [] -> (∀ w ∈ ws, c ∉ w) -> ej c (hZ c ws) = ws
 | [], h, _ => absurd rfl h
 | [w], _, h => A7 c w (h w (.head _))
 | w :: v :: ws, _, h => by
  show ej c (w ++ c :: hZ c (v :: ws)) = _
  rw [A8 c _ w (h w (.head _)), A9 c (v :: ws) (by simp) fun z hz => h z (.tail _ hz)]
theorem Ba (c : Nat) : ∀ (ws : List PySem.Str) (a : Array Nat), (ws.foldl (fun acc p => acc ++ (⟨#[c]⟩ : PySem.Str).cps ++ p.cps) a).toList = a.toList ++ (ws.map fun w => c :: w.cps.toList).flatten
 | [], a => by simp
 | w :: ws, a => by
  rw [List.foldl_cons, Ba c ws]
  simp
theorem Bb (c : Nat) : ∀ (w : List Nat) (ws : List (List Nat)), hZ c (w :: ws) = w ++ (ws.map fun v => c :: v).flatten
 | w, [] => by simp [hZ]
 | w, v :: ws => by
  show w ++ c :: hZ c (v :: ws) = _
  rw [Bb c v ws]
  simp
theorem Bc (c : Nat) (ws : List PySem.Str) : (Txt.join ⟨#[c]⟩ ws).cps.toList = hZ c (ws.map fun w => w.cps.toList) := by
 cases ws with
 | nil => rfl
 | cons w ws =>
  show (glued ⟨#[c]⟩ (w :: ws)).cps.toList = _
  unfold glued
  show ((ws.foldl (fun acc p => acc ++ (⟨#[c]⟩ : PySem.Str).cps ++ p.cps) w.cps)).toList = _
  rw [Ba, List.map_cons, Bb, List.map_map]
  rfl
theorem IX (c : Nat) (hc : c < 256) (ws : List PySem.Str) (h0 : ws ≠ []) (h : ∀ w ∈ ws, c ∉ w.cps.toList) : Txt.split (Txt.join ⟨#[c]⟩ ws) ⟨#[c]⟩ = ws := by
 rw [IW _ c hc, Bc, A9 c _ (by simpa using h0) (by
  intro w hw
  obtain ⟨s, hs, rfl⟩ := List.mem_map.mp hw
  exact h s hs), List.map_map]
 conv => rhs; rw [<- List.map_id ws]
 exact List.map_congr_left fun s _ => IV s
end Gz
namespace Gz
open PySem PySem.Spec PyProof.Rows L2 Builtin Builtin.Str StrLaws
section
variable {X : Cx}
theorem Be : ∀ (l : List (PySem.Str × Tok)), Vals ((l.map (·.1)).map V.str) (strValues l)
 | [] => .nil
 | (x, t) :: l => .cons ⟨t, rfl⟩ (Be l)
theorem IY : pz X "str.split" (fun x xs H Q => ∃ z y, x = .str z /\ xs = [.str y] /\ (y.length == 0) = false /\ z.length + 2 <= sizeLine /\ ∀ l, H l = none -> Q (.ref l) (upd H l (.lst ((Txt.split z y).map V.str)))) := by
 intro pins s σ H x xs v us Q I rx rv h
 obtain ⟨z, y, rfl, rfl, hy, hz, q⟩ := h
 obtain ⟨u, rfl, ru⟩ := vals1 rv
 obtain ⟨t, rfl⟩ := rx
 obtain ⟨k, rfl⟩ := ru
 have hn : (partsBetween z (occurrences z y 0 z.length (z.length + 1)) y.length).length <= sizeLine := by
  have e1 := StrLaws.occ_length_le z y 0 z.length (z.length + 1)
  rw [length_partsBetween]; omega
 have fin : ∀ (l : List (PySem.Str × Tok)) (t' : Nat), l.map (·.1) = Txt.split z y -> l.length <= sizeLine -> EP X pins σ Q (.ref s.heap.objs.size) { s with heap := s.heap.push { cls := .type "list", data := .seq (strValues l).toArray }, toks := t' } := fun l t' e hl =>
  ⟨.ref s.heap.objs.size, _, I.zh (t' := t') (e ▸ Be l) (by rw [<- e, List.length_map, List.length_map]; exact hl), rfl, q _ I.fresh⟩
 cases h1 : (decide (z.length < y.length) || decide (strKind z < strKind y))
 ·cases hf : (occurrences z y 0 z.length (z.length + 1)).isEmpty
  ·refine call_meets F.slot_str_split (typeIs_str _ _ _) F.entry_str_split (F.args_str_split_2 _ _) (meets_str_split_sep z y t k h1 hy hf (by omega) hn) ?_
   show wants _ _ _ { s with toks := _, heap := s.heap.push { cls := .type "list", data := .seq (strsFrom s.toks (partsBetween z (occurrences z y 0 z.length (z.length + 1)) y.length)).toArray } }
   rw [strsFrom_eq]
   exact fin (numbered s.toks _) _ ((numbered_texts _ _).trans ((if_neg (ne_true_of_eq_false h1)).trans (if_neg (ne_true_of_eq_false hf))).symm) (by rw [<- List.length_map (f := (·.1)), numbered_texts]; exact hn)
  ·exact call_meets F.slot_str_split (typeIs_str _ _ _) F.entry_str_split (F.args_str_split_2 _ _) (meets_str_split_not_found z y t k h1 hy hf)
    (fin [(z, t)] s.toks ((if_neg (ne_true_of_eq_false h1)).trans (if_pos hf)).symm (by show 1 <= sizeLine; decide))
 ·exact call_meets F.slot_str_split (typeIs_str _ _ _) F.entry_str_split (F.args_str_split_2 _ _) (meets_str_split_cannot_occur z y t k h1)
   (fin [(z, t)] s.toks (if_pos h1).symm (by show 1 <= sizeLine; decide))
theorem IZ : pz X "str.join" (fun x xs H Q => ∃ z a ss, x = .str z /\ xs = [.ref a] /\ ao X.K H a (ss.map V.str) /\ (ss.map (·.length)).sum + ss.length * z.length <= 16777216 /\ Q (.str (Txt.join z ss)) H) := by
 intro pins s σ H x xs v us Q I rx rv h
 obtain ⟨z, a, ss, rfl, rfl, hS, h1, q⟩ := h
 obtain ⟨u, rfl, ru⟩ := vals1 rv
 obtain ⟨t, rfl⟩ := rx
 cases ru
 obtain ⟨ai, r, p, _⟩ := I.list hS
 exact join_list p.isList (StrsAre.of_carried (A5 r)) h1 fun t' k => ⟨.str _, H, I.tok _, ⟨_, rfl⟩, q⟩
theorem Bf : pz X "str.startswith" (fun x xs H Q => ∃ z y, x = .str z /\ xs = [.str y] /\ Q (.bl (Txt.startswith z y)) H) := by
 intro pins s σ H x xs v us Q I rx rv h
 obtain ⟨z, y, rfl, rfl, q⟩ := h
 obtain ⟨u, rfl, ru⟩ := vals1 rv
 obtain ⟨t, rfl⟩ := rx
 obtain ⟨k, rfl⟩ := ru
 exact SC.startswith ⟨.bl _, H, I, rfl, q⟩
end
end Gz
namespace Gz
open PySem PySem.Spec PyProof.Rows L2 PySem.W PySem.NumText
noncomputable def bP (n : Int) : PySem.Str := toString n
noncomputable def cT (m : Nat) : List Nat := (Nat.toDigits 10 m).map Char.toNat
theorem jU (m : Nat) : AllDigits (cT m) := by
 intro c hc
 obtain ⟨ch, fj, e⟩ := List.mem_map.mp hc
 rw [<- e]
 exact digit_range (Nat.isDigit_of_mem_toDigits (by decide) (by decide) fj)
theorem Bg (m : Nat) (h : ¬ m < 10) : cT m = cT (m / 10) ++ cT (m % 10) := by
 have t : Nat.toDigits 10 (m / 10) ++ Nat.toDigits 10 (m % 10) = Nat.toDigits 10 (10 * (m / 10) + m % 10) := Nat.toDigits_append_toDigits (by decide) (by omega) (Nat.mod_lt m (by decide))
 rw [Nat.div_add_mod] at t
 unfold cT
 rw [<- t, List.map_append]
theorem qc (m : Nat) (h : m < 10) : cT m = [m + 48] := by
 unfold cT
 rw [Nat.toDigits_of_lt_base h]
 have : ∀ d : Nat, d < 10 -> (Nat.digitChar d).toNat = d + 48 := by decide
 rw [List.map_cons, this m h, List.map_nil]
theorem tI (k : Nat) : ∀ m : Nat, m < 10 ^ (k + 1) -> (cT m).length <= k + 1 := by
 induction k with
 | zero => intro m h; rw [qc m (by omega)]; exact Nat.le_refl _
 | succ k ih =>
  intro m h
  by_cases Bh : m < 10
  ·rw [qc m Bh]; show 1 <= _; omega
  ·rw [Bg m Bh, List.length_append, qc (m % 10) (Nat.mod_lt m (by decide))]
   have := ih (m / 10) (by rw [Nat.pow_succ] at h; omega)
   show _ + 1 <= _
   omega
theorem lq (m : Nat) : ∃ d r, cT m = d :: r /\ (m ≠ 0 -> d ≠ 48) := by
 induction m using Nat.strongRecOn with
 | _ m ih =>
  by_cases h : m < 10
  ·exact ⟨m + 48, [], qc m h, by omega⟩
  ·obtain ⟨d, r, e, hd⟩ := ih (m / 10) (by omega)
   refine ⟨d, r ++ cT (m % 10), ?_, fun _ => hd (by omega)⟩
   rw [Bg m h, e]
   rfl
theorem jV (m : Nat) : (bP (m : Int)).cps.toList = cT m := KIN.signs_num m
theorem m9 (m : Nat) : (bP (-((m + 1 : Nat) : Int))).cps.toList = 45 :: cT (m + 1) := by
 have e : bP (-((m + 1 : Nat) : Int)) = PySem.Str.ofString ("-" ++ Nat.repr (m + 1)) := rfl
 rw [e, signs_ofString]
 show ("-" ++ Nat.repr (m + 1)).toList.map Char.toNat = _
 rw [String.toList_append, List.map_append, Nat.toList_repr]
 rfl
theorem nc (n : Int) : (∃ m : Nat, n = m) ∨ ∃ m : Nat, n = -((m + 1 : Nat) : Int) := by
 cases n with
 | ofNat m => exact .inl ⟨m, rfl⟩
 | negSucc m => exact .inr ⟨m, rfl⟩
theorem str_len (s : PySem.Str) : s.length = s.cps.toList.length := by show s.cps.size = _; simp
theorem di {n : Int} (h : n.natAbs < 10 ^ 60) : (bP n).length <= 61 := by
 rw [str_len]
 rcases nc n with ⟨m, rfl⟩ | ⟨m, rfl⟩
 ·rw [jV]
  exact Nat.le_trans (tI 59 m (by simpa using h)) (by decide)
 ·rw [m9]
  have := tI 59 (m + 1) (by have := h; rw [Int.natAbs_neg, Int.natAbs_natCast] at this; exact this)
  show _ + 1 <= 61
  omega
theorem I0 {n : Int} (h : n.natAbs < 10 ^ 60) : PySem.intText? (bP n) = some n := by
 have hl := di h
 rcases nc n with ⟨m, rfl⟩ | ⟨m, rfl⟩
 ·obtain ⟨d, r, e, _⟩ := lq m
  have := intText_digits (x := bP (m : Int)) (by rw [jV]; exact jU m) (by rw [jV, e]; simp) (by omega)
  rw [this, jV]
  unfold cT
  rw [KIN.val_back]
 ·obtain ⟨d, r, e, _⟩ := lq (m + 1)
  have := intText_neg (x := bP (-((m + 1 : Nat) : Int))) (m9 m) (jU _) (by rw [e]; simp) (by omega)
  rw [this]
  unfold cT
  rw [KIN.val_back]
section
variable {X : Cx}
theorem I9 : da X (.type "int") (fun xs H Q => ∃ x n, xs = [.str x] /\ PySem.intText? x = some n /\ x.length <= 640 /\ Q (.int n) H) := by
 intro pins s σ H xs us Q I r h
 obtain ⟨x, n, rfl, hn, hl, q⟩ := h
 obtain ⟨u, rfl, rx⟩ := vals1 r
 obtain ⟨t, rfl⟩ := rx
 exact KIN.call_text hn hl ⟨.int n, H, I.tok _, ⟨_, rfl⟩, q⟩
end
end Gz
namespace Gz
open PySem PySem.Spec PyProof.Rows L2
noncomputable def ck (x : PySem.Str) : List V := x.cps.toList.map fun c => V.str ⟨#[c]⟩
theorem Ja {x : PySem.Str} {i c : Nat} (h : x.cps[i]? = some c) : (ck x)[i]? = some (.str ⟨#[c]⟩) := by
 unfold ck
 rw [List.getElem?_map, Array.getElem?_toList, h]
 rfl
theorem qd (x : PySem.Str) : (ck x).length = x.cps.size := by unfold ck; simp
noncomputable def lr (x : PySem.Str) : It := ⟨fun i _ => i < x.cps.size, fun i H v H' => H' = H /\ (ck x)[i]? = some v, fun i _ => x.cps.size <= i⟩
def tJ (te : TE) : TI := fun σ H R => te σ H fun v H1 => ∃ x, v = .str x /\ R (lr x) H1
theorem qe (x : PySem.Str) : strIterType x = "str_ascii_iterator" ∨ strIterType x = "str_iterator" := by
 unfold strIterType
 split
 ·exact .inl rfl
 ·exact .inr rfl
theorem Jb {P : Program} {w : World} {K : PySem.W.Frag} {tg : Expr} (x : PySem.Str) (t : Tok) (it : Addr) : Turn P w K tg (lr x) [it] it (fun i h => h.IsStrIter it (strIterType x) x t i) where
 mem := by simp
 obj := fun i h st b hb => by
  have e : b = it := by simpa using hb
  subst e
  obtain ⟨o, e, c, d⟩ := st
  exact ⟨o, e, fun v z => by rw [d] at z; cases z⟩
 keep := fun i h h' st k => let ⟨o, e, r⟩ := st; ⟨o, k it (by simp) o e, r⟩
 item := by
  intro X hP hw hK hc i pins s σ H E I hf st hg
  subst hP hw hK
  have hg : i < x.cps.size := hg
  obtain ⟨f0, f1, f2, f3, f4, f5⟩ := hf it (by simp)
  have ex : x.cps[i]? = some x.cps[i] := by simp [hg]
  have fin : ∀ h' : Heap, h'.IsStrIter it (strIterType x) x t (i + 1) -> Heap.SameBut it s.heap h' -> ∃ u, some (Value.str ⟨#[x.cps[i]]⟩ s.toks) = some u /\
   wpAny (model X.prog X.w) X.A (letOwnedTupleGo tg (.ref it) u) (fun _ s2 => ∃ Bi H', Inv X pins σ H' s2 /\ RelV Bi u /\ (lr x).yld i H Bi H' /\ s2.heap.IsStrIter it (strIterType x) x t (i + 1) /\ ∀ b ∈ [it], H' b = none) E { s with heap := h', toks := s.toks + 1 } := by
   intro h' c9 sb
   have I1 : Inv X pins σ H { s with heap := h', toks := s.toks + 1 } := I.turned (t' := s.toks + 1) (fun b o hb e => (sb.2 b hb).trans e) f0 f1 f3 f4 f5
   obtain ⟨o, e, c, d⟩ := id c9
   refine ⟨_, rfl, o3 (s := { s with heap := h', toks := s.toks + 1 }) e c d ?_ ⟨.str ⟨#[x.cps[i]]⟩, H, I1, ⟨_, rfl⟩, ⟨rfl, Ja ex⟩, c9, fun b hb => (hf b hb).1⟩⟩
   rcases qe x with z | z <;> rw [z] <;> decide
  rcases qe x with z | z
  ·have q := fin
   rw [z] at st q
   exact wpAny_pyNext_ascii_item st ex fun h' c9 sb => by rw [z]; exact q h' c9 sb
  ·have q := fin
   rw [z] at st q
   exact wpAny_pyNext_wide_item st ex fun h' c9 sb => by rw [z]; exact q h' c9 sb
 done := by
  intro X hP hw hK hc i pins s σ H E I hf st hg
  subst hP hw hK
  have hg : x.cps.size <= i := hg
  obtain ⟨f0, f1, f2, f3, f4, f5⟩ := hf it (by simp)
  have ex : x.cps[i]? = none := by simp [hg]
  rcases qe x with z | z
  ·rw [z] at st
   exact wpAny_pyNext_ascii_end (I.ok.hd hc) st ex fun h' eb => ⟨rfl, I.turned (t' := s.toks) (fun b o hb e => eb b o hb e) f0 f1 f3 f4 f5⟩
  ·rw [z] at st
   exact wpAny_pyNext_wide_end (I.ok.hd hc) st ex fun h' eb => ⟨rfl, I.turned (t' := s.toks) (fun b o hb e => eb b o hb e) f0 f1 f3 f4 f5⟩
 self := fun _ _ _ _ _ st h => by
  rcases qe x with z | z
  ·rw [z] at st; exact wpAny_pyIter_striter_ascii st h
  ·rw [z] at st; exact wpAny_pyIter_striter_wide st h
theorem Bj {X : Cx} {tg l : Expr} {tl : TE} (hl : PE X l tl) : PI X tg l (tJ tl) := by
 intro pins s σ H R I h
 refine aB (hl pins s σ H _ I h) fun v s1 ⟨y, H1, I1, r1, q1⟩ => ?_
 obtain ⟨x, e, q⟩ := q1
 subst e
 obtain ⟨t, rfl⟩ := r1
 refine wpAny_pyIter_strU ?_
 refine ⟨s1.heap.objs.size, [s1.heap.objs.size], _, _, H1, rfl, I1.kept (t' := s1.toks) fun b o e => Heap.get?_push_of_some _ e, Jb x t _, ⟨_, Heap.get?_push_size _ rfl, rfl, rfl⟩, fun b hb => ?_, q⟩
 have e : b = s1.heap.objs.size := by simpa using hb
 subst e
 exact I1.l7 (Nat.le_refl _) (I1.aC.fresh (Nat.le_refl _))
theorem Jc {x : PySem.Str} : pJ (lr x) (fun _ => True) (ck x) :=
 ⟨fun i _ _ _ e => by
  have := (List.getElem?_eq_some_iff.mp e).1
  show i < x.cps.size
  rw [<- qd]; exact this, fun _ _ _ _ _ y => ⟨y.1, fun _ => y.2⟩, fun i _ _ h => by show x.cps.size <= i; rw [<- qd]; exact h⟩
section
variable {g : TG} {tb : TS} {D : Ends} {σ : L2.St} {H : Hp} {x : PySem.Str}
theorem Jd {tl : TE} : gA (tJ tl) g tb D σ H = tl σ H (fun v H1 => ∃ x, v = .str x /\ FJ (lr x) g tb D σ H1) := rfl
theorem Bk (Pv : Nat -> L2.St -> Hp -> Prop) (h0 : Pv 0 σ H)
 (hs : ∀ i v σ H, (ck x)[i]? = some v -> Pv i σ H -> g v σ H fun σ2 H2 => tb { D with nx := Pv (i + 1), ct := Pv (i + 1), bk := D.nx } σ2 H2) (hd : ∀ σ H, Pv (ck x).length σ H -> D.nx σ H) : FJ (lr x) g tb D σ H := by
 refine ⟨fun i m σ H => m = (ck x).length - i /\ i <= (ck x).length /\ Pv i σ H, ⟨(ck x).length, by simp, Nat.zero_le _, h0⟩, ?_⟩
 rintro i m σ H ⟨rfl, hi, p⟩
 have hn := qd x
 by_cases cz : i < (ck x).length
 ·refine .inr ⟨(by show i < x.cps.size; omega), Pv (i + 1), fun σ' H' p' => ⟨(ck x).length - (i + 1), by omega, rfl, cz, p'⟩, fun v H' y => ?_⟩
  obtain ⟨e, y⟩ := y
  subst e
  exact hs i v σ _ y p
 ·have e : i = (ck x).length := by omega
  subst e
  exact .inl ⟨(by show x.cps.size <= _; omega), hd σ H p⟩
end
end Gz
namespace Gz
open PySem PySem.Spec PyProof.Rows L2 Builtin Builtin.Str
def Je : V -> Option Int -> Option Int -> Hp -> VK -> Prop := fun x lo hi H Q => ∃ z, x = .str z /\ z.length <= sizeLine /\ Q (.str (Txt.slice z lo hi)) H
theorem part_of {v : Value} {o : Option Int} (h : IsPart v o) : ∃ l : Option (Int × Tok), v = partValue l /\ l.map (·.1) = o := by
 cases h with
 | none => exact ⟨none, rfl, rfl⟩
 | int i t => exact ⟨some (i, t), rfl, rfl⟩
theorem Jf {X : Cx} : my X Je := by
 intro pins s σ H x v vl vu lo hi sl Q I rx hs pl pu h
 obtain ⟨z, rfl, hz, q⟩ := h
 obtain ⟨t, rfl⟩ := rx
 obtain ⟨l, rfl, rfl⟩ := part_of pl
 obtain ⟨u, rfl, rfl⟩ := part_of pu
 refine ⟨"str", _, F.slot_str_getitem.lookup, typeIs_str _ _ _, ?_⟩
 refine wpAny_getItem_str_slice (l := l) (u := u) (st := none) hs rfl ?_
 unfold sliceMade
 have e : slicePicked z l u none = strSliceIndices (l.map (·.1)) (u.map (·.1)) 1 z.length := rfl
 rw [e]
 unfold Txt.slice at q
 show Made.post (if ((1 : Int) == 1 && (strSliceIndices (l.map (·.1)) (u.map (·.1)) 1 z.length).length == z.length) = true then _ else _) _ s
 split
 ·rename_i c
  rw [if_pos c] at q
  exact ⟨.str z, H, I, ⟨_, rfl⟩, q⟩
 ·rename_i c
  rw [if_neg c] at q
  refine ⟨?_, .str _, H, I.tok _, ⟨_, rfl⟩, q⟩
  have := sliceIndices_le (l.map (·.1)) (u.map (·.1)) z.length
  show ((strSliceIndices (l.map (·.1)) (u.map (·.1)) 1 z.length).filterMap (z.cps[·]?)).toArray.size <= sizeLine
  rw [List.size_toArray]
  exact Nat.le_trans (List.length_filterMap_le _ _) (Nat.le_trans this hz)
end Gz
namespace Gz
open PySem PySem.Spec PyProof.Rows L2
structure tK (P : Program) (w : World) (K : PySem.W.Frag) (a : Addr) (kvs : List (Key × V)) : Prop where
 d : ∀ h : Heap, K.In h -> (a == sysModules) = false /\ ∃ vs, KV kvs vs /\ h.DictOf (iy P w) a vs
def Bl (kvs : List (Key × V)) (ty : TE) : TE := fun σ H Q => ty σ H fun y H1 => ∃ k v, y = kV k /\ cM kvs k = some v /\ Q v H1
def Bm (kvs : List (Key × V)) (neg : Bool) (ty : TE) : TE := fun σ H Q => ty σ H fun y H1 => ∃ k, y = kV k /\ Q (.bl (if neg then !(cM kvs k).isSome else (cM kvs k).isSome)) H1
section
variable {X : Cx} {x : Str} {i : Expr} {ty : TE} {p pos : Pos} {a : Addr} {kvs : List (Key × V)}
theorem Jg (hm : X.mg x = some (.ref a)) (D : tK X.prog X.w X.K a kvs) (hi : PE X i ty) (hs : AA i := by intro _ _; rfl) (hg : Gl X x := by rfl) (hd : (x == ("__debug__" : Str)) = false := by decide) : PE X (.Subscript (.Name x p) i pos) (Bl kvs ty) := by
 intro pins s σ H Q I h
 refine HJ PySem.F.slot_dict_getitem.lookup hs (aB (kF (v := .ref a) hg hm rfl hd pins s σ H (fun v H1 => v = .ref a /\ ty σ H1 fun y H2 => ∃ k v, y = kV k /\ cM kvs k = some v /\ Q v H2) I ⟨rfl, h⟩) fun u s1 ⟨y1, H1, I1, rx, e1, q1⟩ => aB (hi pins s1 σ H1 _ I1 q1) fun iv s2 ⟨y, H2, I2, ry, k, v, ey, l, q2⟩ => ?_)
 subst e1 ey
 obtain rfl : u = Value.ref a := rx
 obtain ⟨hsm, vs, rel, dd⟩ := D.d _ I2.bQ
 obtain ⟨w', hw, mz⟩ := dm.some_of (v := v) (o := valueAt vs k) (by rw [<- l]; exact rel.val k)
 exact ⟨dd.typeIs, wpAny_getItem_of (Az ry) dd.mapOf hw ⟨v, H2, I2.tok _, mz, q2⟩⟩
theorem Jh (hm : X.mg x = some (.ref a)) (D : tK X.prog X.w X.K a kvs) (hi : PE X i ty) (hg : Gl X x := by rfl) (hd : (x == ("__debug__" : Str)) = false := by decide) : PC X .NotIn i (.Name x p) (Bm kvs true ty) := by
 intro pins s σ H Q I h
 refine aB (hi pins s σ H _ I h) fun iv s1 ⟨y, H1, I1, ry, k, ey, q1⟩ => aB (kF (v := .ref a) hg hm rfl hd pins s1 σ H1 (fun v H1 => v = .ref a /\ Q (.bl (if true then !(cM kvs k).isSome else (cM kvs k).isSome)) H1) I1 ⟨rfl, q1⟩) fun u s2 ⟨y2, H2, I2, rx, e2, q2⟩ => ?_
 subst e2 ey
 obtain rfl : u = Value.ref a := rx
 obtain ⟨hsm, vs, rel, dd⟩ := D.d _ I2.bQ
 refine wpAny_notIn_of (Az ry) hsm dd.mapOf ?_
 rw [<- (rel.val k).Ay]
 exact ⟨.bl _, H2, I2.tok _, rfl, q2⟩
end
end Gz
namespace Gz
open PySem PySem.Spec PyProof.Rows L2 Builtin Builtin.Str StrLaws
theorem tL {X : Cx} {pos : Pos} {x y : Str} (h : ∃ t, X.mg x = some (.str y t)) (hg : Gl X x) (hd : (x == ("__debug__" : Str)) = false := by decide) : PE X (.Name x pos) (tC (.str y)) := by
 obtain ⟨t, ht⟩ := h
 exact kF (v := .str y) hg ht ⟨t, rfl⟩ hd
noncomputable def qf (x : PySem.Str) : Bool := x.cps.toList.all fun c => decide (48 <= c) && decide (c <= 57)
noncomputable def ng (x : PySem.Str) : Bool := decide (1 <= x.length) && decide (x.length <= 60) && qf x
noncomputable def h8 : PySem.Str := "0123456789"
theorem Ji (c : Nat) : (!(occurrences h8 ⟨#[c]⟩ 0 h8.length 1).isEmpty) = (decide (48 <= c) && decide (c <= 57)) := by
 rw [found_one]
 have e : h8.cps.toList = [48, 49, 50, 51, 52, 53, 54, 55, 56, 57] := by decide +kernel
 rw [e]
 rw [Bool.eq_iff_iff]
 simp only [decide_eq_true_eq, Bool.and_eq_true, List.mem_cons, List.not_mem_nil, or_false]
 omega
theorem Jj (x : PySem.Str) : (x.cps.toList.map fun c => !(occurrences h8 ⟨#[c]⟩ 0 h8.length 1).isEmpty).all id = qf x := by
 unfold qf
 rw [List.all_map]
 congr 1
 funext c
 exact Ji c
noncomputable def lx (x : PySem.Str) : Bool := Txt.startswith x "-"
noncomputable def cutD (x : PySem.Str) : PySem.Str := if lx x then Txt.slice x (some 1) none else x
noncomputable def jW (x : PySem.Str) : Bool := x == "0" || (ng (cutD x) && !Txt.startswith (cutD x) "0")
theorem Bn (x : PySem.Str) (c : Nat) : Txt.startswith x ⟨#[c]⟩ = decide (x.cps.toList.head? = some c) := by
 show (decide (0 + 1 <= x.length) && subAt x ⟨#[c]⟩ 0) = _
 rw [str_len]
 cases h : x.cps.toList with
 | nil => rfl
 | cons d r =>
  have h0 : 0 < x.cps.toList.length := by rw [h]; exact Nat.succ_pos _
  rw [subAt_one x c 0 h0]
  have e : x.cps.toList[0] = d := by simp only [h, List.getElem_cons_zero]
  rw [e]
  simp
theorem Jk (n : Nat) : strSliceIndices (some 1) none 1 n = (List.range (n - 1)).map (· + 1) := by
 unfold strSliceIndices sliceRange
 simp only [show ((1 : Int) > 0) = True from eq_true (by decide), if_true, show ((1 : Int) < 0) = False from eq_false (by decide), if_false]
 cases n with
 | zero => rfl
 | succ n =>
  have e1 : max (0 : Int) (min 1 ((n + 1 : Nat) : Int)) = 1 := by omega
  rw [e1]
  have e2 : (if (1 : Int) < ((n + 1 : Nat) : Int) then (((n + 1 : Nat) : Int) - 1 + 1 - 1) / 1 else 0).toNat = n := by
   split
   ·rw [Int.ediv_one]; omega
   ·omega
  rw [e2]
  apply List.map_congr_left
  intro k _
  show ((1 : Int) + 1 * (k : Int)).toNat = k + 1
  omega
theorem Bo : ∀ l : List Nat, (List.range l.length).filterMap (fun i => l[i]?) = l
 | [] => rfl
 | a :: r => by
  rw [List.length_cons, List.range_succ_eq_map, List.filterMap_cons]
  show a :: _ = _
  rw [List.filterMap_map]
  congr 1
  exact Bo r
theorem Jl (x : PySem.Str) : (Txt.slice x (some 1) none).cps.toList = x.cps.toList.drop 1 := by
 unfold Txt.slice
 rw [Jk, str_len, List.length_map, List.length_range]
 cases h : x.cps.toList with
 | nil => rw [if_pos (by simp), h]; rfl
 | cons d r =>
  rw [if_neg (by simp)]
  show (((List.range (r.length + 1 - 1)).map (· + 1)).filterMap (x.cps[·]?)).toArray.toList = r
  rw [List.filterMap_map]
  have : ((fun i => x.cps[i]?) ∘ fun y => y + 1) = fun i => r[i]? := by
   funext i
   show x.cps[i + 1]? = r[i]?
   rw [<- Array.getElem?_toList, h, List.getElem?_cons_succ]
  rw [this]
  exact Bo r
theorem Jm (m : Nat) : (cT m).all (fun c => decide (48 <= c) && decide (c <= 57)) = true := by
 rw [List.all_eq_true]
 intro c hc
 have := jU m c hc
 simp only [Bool.and_eq_true, decide_eq_true_eq]
 exact this
theorem Bp {x : PySem.Str} {m : Nat} (h : x.cps.toList = cT m) (hm : m < 10 ^ 60) : ng x = true := by
 obtain ⟨d, r, e, _⟩ := lq m
 have hl := tI 59 m hm
 unfold ng qf
 rw [str_len, h, Jm]
 have h1 : 1 <= (cT m).length := by rw [e]; exact Nat.succ_pos _
 simp [h1, hl]
theorem Jn {n : Int} (h : n.natAbs < 10 ^ 60) : jW (bP n) = true := by
 unfold jW
 by_cases h0 : n = 0
 ·subst h0; rfl
 ·rw [Bool.or_eq_true]
  refine .inr ?_
  have dash : ∀ x : PySem.Str, lx x = decide (x.cps.toList.head? = some 45) := fun x => Bn x 45
  have zero : ∀ x : PySem.Str, Txt.startswith x "0" = decide (x.cps.toList.head? = some 48) := fun x => Bn x 48
  rcases nc n with ⟨m, rfl⟩ | ⟨m, rfl⟩
  ·obtain ⟨d, r, e, hd⟩ := lq m
   have hm : m ≠ 0 := fun z => h0 (by rw [z]; rfl)
   have hL := jV m
   have nd : lx (bP (m : Int)) = false := by
    rw [dash, hL, e]
    have : d ∈ cT m := by rw [e]; exact .head _
    have := jU m d this
    apply decide_eq_false
    intro z
    injection z with z
    omega
   have ec : cutD (bP (m : Int)) = bP (m : Int) := by unfold cutD; rw [nd]; rfl
   rw [ec, Bp hL (by simpa using h), zero, hL, e]
   have := hd hm
   simp [this]
  ·obtain ⟨d, r, e, hd⟩ := lq (m + 1)
   have hL := m9 m
   have nd : lx (bP (-((m + 1 : Nat) : Int))) = true := by rw [dash, hL]; rfl
   have ec : (cutD (bP (-((m + 1 : Nat) : Int)))).cps.toList = cT (m + 1) := by
    unfold cutD
    rw [nd, if_pos rfl, Jl, hL]
    rfl
   rw [Bp ec (by rw [Int.natAbs_neg, Int.natAbs_natCast] at h; exact h), zero, ec, e]
   have := hd (by omega)
   simp [this]
end Gz
namespace Gz
open PySem PySem.Spec PyProof.Rows L2
section
variable {X : Cx} {F : Value -> Shared -> Prop} {pins pn : List (Addr × Obj)} {σ : L2.St} {H : Hp} {s : Shared} {A' : Around}
end
section
variable {X : Cx} {k : Nat} {f : Addr} {fd : FuncData} {ps : List Str} {sp : Sp} {bX : List V} {ds : List Value} {E : XK} {x : Str} {p pos apos : Pos} {e tg : Expr} {es : List Expr} {t : TA} {g : TG}
end
end Gz
namespace Gz
open PySem PySem.Spec PyProof.Rows L2
def dM (row : V -> List V) (tt : TT) : TT := fun σ H Q => match σ with
 | some v :: ρ => tt ((row v).map some ++ ρ) H Q
 | _ => False
def Jo (row : V -> List V) (te : TE) : TE := fun σ H Q => match σ with
 | some v :: ρ => te ((row v).map some ++ ρ) H Q
 | _ => False
section
variable {K : PySem.W.Frag} {ρ : L2.St} {tt : TT} {te : TE} {H : Hp} {Q : VK} {a : Addr} {xs : List V} {row : V -> List V}
end
end Gz
namespace Gz
open PySem PySem.Spec PyProof.Rows L2
end Gz
namespace Gz
open PySem PySem.Spec PyProof.Rows L2
section
variable {prog : Program} {w : World} {A : Around} {E : Value -> Shared -> Prop} {s : Shared}
end
section
variable {X : Cx} {pos : Pos}
end
end Gz
namespace Gz
open PySem PySem.Spec PyProof.Rows L2
section
variable {X : Cx} {e st : Expr} {te ts : TE} {p2 pos : Pos}
end
end Gz
namespace Gz
open PySem L2 PySem.W PySem.Spec PyProof.Rows
noncomputable def pre (f : P2 -> Int) (ps : List P2) (i : Nat) : Int := ((ps.take i).map f).sum
noncomputable def nh (ps : List P2) (i j : Nat) : Int := if i <= j then pre (·.2) ps j - pre (·.2) ps i else pre (·.1) ps j - pre (·.1) ps i
noncomputable def part (ps : List P2) (i j k : Nat) : Int := if i < j then pre (·.2) ps (min i j + k) - pre (·.2) ps i else pre (·.1) ps j - pre (·.1) ps (min i j + k)
end Gz
namespace Gz
open PySem L2
def tM (s : S2) (x : Int) : Prop := (∀ a, s.1 = some a -> a <= x) /\ ∀ b, s.2 = some b -> x <= b
def Bq (w : W2) (x : Int) : Prop := ∃ s, w = some s /\ tM s x
def eR (w : W2) : Prop := ∀ s, w = some s -> eA s.1 s.2 = false
abbrev Mk := Nat × S2
def meets (ms : List Mk) (c : Nat -> Int) : Prop := ∀ m ∈ ms, tM m.2 (c m.1)
structure Br (ps : List P2) (ms : List Mk) (tp : Nat -> Option P2) : Prop where
 val : ∀ t v k, t <= ps.length -> tp t = some (v, k) -> ∃ (i : Nat) (m : Mk) (h : Int), k = (i : Int) /\ ms[i]? = some m /\ m.2.2 = some h /\ h + nh ps m.1 t <= v
 top : ∀ m ∈ ms, ∀ h, m.2.2 = some h -> ∃ v k, tp m.1 = some (v, k) /\ v <= h
 fwd : ∀ t v k, t < ps.length -> tp t = some (v, k) -> ∃ v' k', tp (t + 1) = some (v', k') /\ v' <= v + (dh ps t).2
 bwd : ∀ t v k, t < ps.length -> tp (t + 1) = some (v, k) -> ∃ v' k', tp t = some (v', k') /\ v' <= v - (dh ps t).1
def tN (ps : List P2) (a b : Mk) : Prop := ∃ h l, a.2.2 = some h /\ b.2.1 = some l /\ h + nh ps a.1 b.1 < l
noncomputable def Bs (a b : P2) : Bool := decide (a.1 < b.1) || (decide (a.1 = b.1) && decide (a.2 < b.2))
noncomputable def fF (a b : P2) : P2 := if Bs b a = true then b else a
noncomputable def jX : Option P2 -> Option P2 -> Option P2
 | none, b => b
 | some a, none => some a
 | some a, some b => some (fF a b)
theorem tO (a b : P2) : (fF a b = a ∨ fF a b = b) /\ (fF a b).1 <= a.1 /\ (fF a b).1 <= b.1 := by
 unfold fF Bs
 split
 ·rename_i h
  simp only [Bool.or_eq_true, Bool.and_eq_true, decide_eq_true_eq] at h
  exact ⟨.inr rfl, by lia, by lia⟩
 ·rename_i h
  simp only [Bool.or_eq_true, Bool.and_eq_true, decide_eq_true_eq, not_or, not_and] at h
  exact ⟨.inl rfl, by lia, by lia⟩
theorem Jp (a b : Option P2) : jX a b = a ∨ jX a b = b := by
 rcases a with _ | a <;> rcases b with _ | b
 ·exact .inl rfl
 ·exact .inr rfl
 ·exact .inl rfl
 ·show some (fF a b) = some a ∨ some (fF a b) = some b
  rcases (tO a b).1 with h | h <;> rw [h]
  ·exact .inl rfl
  ·exact .inr rfl
def jY (a : Option P2) (v : Int) : Prop := ∃ w k, a = some (w, k) /\ w <= v
theorem Jq {a b : Option P2} {v : Int} (h : jY a v) : jY (jX a b) v := by
 obtain ⟨w, k, rfl, hw⟩ := h
 rcases b with _ | b
 ·exact ⟨w, k, rfl, hw⟩
 ·have := (tO (w, k) b).2.1
  exact ⟨(fF (w, k) b).1, (fF (w, k) b).2, rfl, by dsimp only at this; lia⟩
theorem Jr {a b : Option P2} {v : Int} (h : jY b v) : jY (jX a b) v := by
 obtain ⟨w, k, rfl, hw⟩ := h
 rcases a with _ | a
 ·exact ⟨w, k, rfl, hw⟩
 ·have := (tO a (w, k)).2.2
  exact ⟨(fF a (w, k)).1, (fF a (w, k)).2, rfl, by dsimp only at this; lia⟩
def ly (ps : List P2) (ms : List Mk) (t : Nat) (a : Option P2) : Prop := ∀ v k, a = some (v, k) -> ∃ (i : Nat) (m : Mk) (h : Int), k = (i : Int) /\ ms[i]? = some m /\ m.2.2 = some h /\ h + nh ps m.1 t <= v
theorem ly.Js {ps : List P2} {ms : List Mk} {t : Nat} {a b : Option P2} (ha : ly ps ms t a) (hb : ly ps ms t b) : ly ps ms t (jX a b) := by
 rcases Jp a b with h | h <;> rw [h]
 ·exact ha
 ·exact hb
theorem Jt (ps : List P2) (t : Nat) : nh ps t t = 0 := by unfold nh; rw [if_pos (Nat.le_refl _)]; lia
noncomputable def qg (tp : Nat -> Option P2) (i : Nat) (x : Option P2) : Nat -> Option P2 := fun t => if t = i then x else tp t
theorem tP {tp : Nat -> Option P2} {i : Nat} {x : Option P2} : qg tp i x i = x := if_pos rfl
theorem Bu {tp : Nat -> Option P2} {i t : Nat} {x : Option P2} (h : t ≠ i) : qg tp i x t = tp t := if_neg h
theorem Ju {tp : Nat -> Option P2} {i t : Nat} {b : Option P2} {v : Int} (h : jY (tp t) v) : jY (qg tp i (jX (tp i) b) t) v := by
 by_cases e : t = i
 ·subst e; rw [tP]; exact Jq h
 ·rw [Bu e]; exact h
structure T1 (ps : List P2) (ms : List Mk) (j : Nat) (tp : Nat -> Option P2) : Prop where
 val : ∀ t, t <= ps.length -> ly ps ms t (tp t)
 top : ∀ m ∈ ms.take j, ∀ h, m.2.2 = some h -> jY (tp m.1) h
theorem T1.nil {ps : List P2} {ms : List Mk} : T1 ps ms 0 fun _ => none := ⟨fun _ _ _ _ e => (nomatch e), fun _ h => by simp at h⟩
theorem T1.put {ps : List P2} {ms : List Mk} {j : Nat} {tp : Nat -> Option P2} {m : Mk} {h : Int} (T : T1 ps ms j tp) (hm : ms[j]? = some m) (hh : m.2.2 = some h) : T1 ps ms (j + 1) (qg tp m.1 (jX (tp m.1) (some (h, (j : Int))))) := by
 have hv : ly ps ms m.1 (some (h, (j : Int))) := fun v k e => by
  cases e
  exact ⟨j, m, h, rfl, hm, hh, by rw [Jt]; lia⟩
 refine ⟨fun t ht => ?_, fun q hq x e => ?_⟩
 ·by_cases e : t = m.1
  ·subst e; rw [tP]; exact (T.val _ ht).Js hv
  ·rw [Bu e]; exact T.val t ht
 ·rw [List.take_succ, hm] at hq
  rcases List.mem_append.mp hq with z | z
  ·exact Ju (T.top q z x e)
  ·obtain rfl : q = m := by simpa using z
   rw [hh] at e
   cases e
   rw [tP]
   exact Jr ⟨h, j, rfl, Int.le_refl _⟩
theorem Br.tN {ps : List P2} {ms : List Mk} {tp : Nat -> Option P2} (T : Br ps ms tp) {b : Mk} {v k l : Int} (hb : b.1 <= ps.length) (e : tp b.1 = some (v, k)) (hl : b.2.1 = some l) (hv : v < l) : ∃ (i : Nat) (a : Mk), k = (i : Int) /\ ms[i]? = some a /\ tN ps a b := by
 obtain ⟨i, m, h, e1, e2, e3, h4⟩ := T.val _ v k hb e
 exact ⟨i, m, e1, e2, h, l, e3, hl, by lia⟩
end Gz
namespace Gz
open PySem L2
end Gz
namespace Gz
open PySem PySem.Spec PyProof.Rows L2
theorem rG {us : List Value} {ns : List Int} (h : IntsAre us ns) : Vals (ns.map V.int) us := by
 induction h with
 | nil => exact .nil
 | cons n t r ih => exact .cons ⟨t, rfl⟩ ih
abbrev Jv (H : Hp) (v : V) (s : S2) : Prop := bY H v s.1 s.2
theorem cS.all : ∀ {H : Hp} {xs : List V} {ss : List S2}, cS H xs ss -> av (Jv H) xs ss
 | _, [], [], _ => trivial
 | _, _ :: _, _ :: _, h => ⟨h.1, cS.all h.2⟩
 | _, [], _ :: _, h => h.elim
 | _, _ :: _, [], h => h.elim
noncomputable def cellsFrom : En -> List Int -> List S2
 | lo, [] => [(lo, none)]
 | lo, z :: zs => (lo, some (z - 1)) :: cellsFrom (some z) zs
end Gz
namespace Gz
open PySem PySem.Spec PyProof.Rows L2
end Gz
namespace Gz
open PySem PySem.Spec PyProof.Rows L2
end Gz
namespace Gz
open PySem PySem.Spec PyProof.Rows L2
theorem map_some {α β : Type} {f : α -> Option β} : ∀ (l : List α), (l.map f).filterMap id = l.filterMap f
 | [] => rfl
 | a :: l => by
  rw [List.map_cons, List.filterMap_cons, List.filterMap_cons, map_some l]
  rfl
end Gz
namespace Gz
open PySem PySem.Spec PyProof.Rows L2
theorem jO.trans {p q r : S2} (hq : Ar q) (h : jO p q) (h' : jO q r) : jO p r := by
 obtain ⟨a, b, e1, e2, h1⟩ := h
 obtain ⟨c, d, e3, e4, h2⟩ := h'
 unfold Ar at hq
 rw [e2, e3] at hq
 have : b <= c := by simpa [eA] using hq
 exact ⟨a, d, e1, e4, by lia⟩
theorem dq {α : Type} {R : α -> α -> Prop} : ∀ {l : List α}, l.Pairwise R -> ∀ {p q : α}, p ∈ l -> q ∈ l -> p = q ∨ R p q ∨ R q p
 | [], _, _, _, h, _ => by cases h
 | x :: l, h, p, q, hp, hq => by
  have h1 := List.pairwise_cons.mp h
  rcases List.mem_cons.mp hp with e1 | i1 <;> rcases List.mem_cons.mp hq with e2 | i2
  ·exact .inl (e1.trans e2.symm)
  ·rw [e1]; exact .inr (.inl (h1.1 q i2))
  ·rw [e2]; exact .inr (.inr (h1.1 p i1))
  ·exact dq h1.2 i1 i2
end Gz
namespace Gz
open PySem PySem.Spec PyProof.Rows L2
local macro_rules | `(tactic| walk_at "om") => `(tactic| ((try simp only [PySem.Addr] at *); lia))
section
variable {prog : Program} {w : World} {A : Around} {E : Value -> Shared -> Prop} {s : Shared}
end
end Gz
namespace Gz
open PySem PySem.Spec PyProof.Rows L2
local macro_rules | `(tactic| walk_at "om") => `(tactic| ((try simp only [PySem.Addr] at *); lia))
section
variable {X : Cx} {pins : List (Addr × Obj)} {σ : L2.St} {H : Hp} {s : Shared} {a : Addr} {kvs : List (List Key × V)} {o : Obj} {u u' : HO}
end
theorem Jw {H : Hp} {a p : Addr} {u v w : HO} (e : H a = some u) (h : H p = some v) (ne : v ≠ u) : upd H a w p = some v := by rw [aQ (lX h e ne)]; exact h
section
variable {H H0 H1 : Hp} {a p : Addr} {kvs : List (List Key × V)} {o : Obj}
theorem Jx {xs : List V} (e : H a = some (.dT kvs)) (h : H p = some (.tup xs)) {u : HO} : upd H a u p = some (.tup xs) := Jw e h fun z => nomatch z
theorem bY.cY {v : V} {x y : En} (h : bY H v x y) (e : H a = some (.dT kvs)) {u : HO} : bY (upd H a u) v x y := let ⟨t, e1, h1⟩ := h; ⟨t, e1, Jx e h1⟩
theorem bL.cY {tb : Tb} (h : bL H kvs tb) (e : H a = some (.dT kvs)) {u : HO} : bL (upd H a u) kvs tb := h.imp fun _ _ _ z => z.cY e
end
theorem k8.z {H : Hp} {a b : Addr} {kvs : List (List Key × V)} {k : List Key} {o : Obj} (e : H a = some (.cY o (.dT kvs))) (eb : H b = some (.tup (k.map kV))) : k8 H a (.ref b) (cM kvs k) := .inr ⟨kvs, k, b, .inr ⟨o, e⟩, rfl, eb, rfl⟩
end Gz
namespace Gz
open PySem PySem.Spec PyProof.Rows L2
end Gz
namespace Gz
open PySem PySem.Spec PyProof.Rows L2
section
variable {X : Cx} {pos : Pos}
end
end Gz
namespace Gz
open PySem PySem.Spec PyProof.Rows L2
end Gz
namespace Gz
open PySem PySem.Spec PyProof.Rows L2
end Gz
namespace Gz
open PySem PySem.Spec PyProof.Rows L2
abbrev Cl := (En × Nat) × (En × Nat)
noncomputable def Bv (e : Int) (c : Cl) : Bool := decide (c.1.1 = some e) || decide (c.2.1 = some e)
noncomputable def wo (e : Int) (cs : List Cl) : List Cl := cs.filter fun c => !Bv e c
def jy : Nat -> List Cl -> Prop
 | 0, _ => True
 | _ + 1, [] => False
 | n + 1, c :: cs => ∀ e, Bv e c = true -> jy n (wo e (c :: cs))
abbrev Gp := En × List Mk
def tQ (ps : List P2) (g h : Gp) (cs : List Cl) : Prop := ∀ m ∈ g.2, ∀ n ∈ h.2, tN ps m n -> ∃ c ∈ cs, c.1.1 = g.1 /\ c.2.1 = h.1
theorem tQ.more {ps : List P2} {g h : Gp} {cs ds : List Cl} (x : tQ ps g h cs) : tQ ps g h (cs ++ ds) := fun m hm n hn hc => let ⟨c, h1, h2⟩ := x m hm n hn hc; ⟨c, List.mem_append_left _ h1, h2⟩
end Gz
namespace Gz
open PySem PySem.Spec PyProof.Rows L2
end Gz
namespace Gz
open PySem L2
end Gz
namespace Gz
open PySem PySem.Spec PyProof.Rows L2
end Gz
namespace Gz
open PySem
theorem slot1 {t : SetTable} {q : Nat} (hp : t.place = #[q]) (hd : t.dummies = #[]) (j : Nat) : t.slot j = if q = j then .live 0 else .empty := by
 unfold SetTable.slot SetTable.has
 rw [hp, hd]
 simp only [SetTable.below, SetTable.below.go, List.size_toArray, List.length_cons, List.length_nil]
 by_cases h : q < j
 ·have : q ≠ j := by lia
  simp [h, this]
 ·by_cases e : q = j <;> simp [h, e]
theorem Bw {t : SetTable} {q : Nat} (hp : t.place = #[q]) (hd : t.dummies = #[]) (hm : t.mask = 7) {f : Nat -> Int} {h : Int} (hf : ∀ i, (f i == h) = false) :
 ∀ (n m : Nat) (p : SetTable.Probe), p.more = 0 -> p.j = p.i -> p.dummy = none -> p.perturb < 32 ^ n -> p.i <= 7 -> ∃ j, j ≠ q /\ SetTable.probe.go t f h (n + (m + 2)) p = some (.empty j none)
 | n, m, ⟨j, mo, i, pe, du⟩, h1, h2, h3, h4, h5 => by
  dsimp only at h1 h2 h3 h4 h5
  subst h1 h3
  obtain rfl : i = j := h2.symm
  have ad : t.advance ⟨i, 0, i, pe, none⟩ = ⟨(i * 5 + 1 + pe / 32) % 8, 0, (i * 5 + 1 + pe / 32) % 8, pe / 32, none⟩ := by
   simp [SetTable.advance, SetTable.leap, hm, SetTable.runEnd]
  have le : (i * 5 + 1 + pe / 32) % 8 <= 7 := by lia
  by_cases e : q = i
  ·cases n with
   | zero =>
    have z : (i * 5 + 1 + pe / 32) % 8 ≠ q := by lia
    refine ⟨_, z, ?_⟩
    rw [show 0 + (m + 2) = (m + 1) + 1 by lia, SetTable.probe.go, slot1 hp hd, if_pos e]
    simp only [hf, Bool.false_eq_true, if_false]
    rw [ad, SetTable.probe.go, slot1 hp hd, if_neg (Ne.symm z)]
   | succ n =>
    obtain ⟨j, j1, j2⟩ := Bw hp hd hm hf n m ⟨_, 0, _, pe / 32, none⟩ rfl rfl rfl (by dsimp only; rw [Nat.pow_succ] at h4; exact Nat.div_lt_of_lt_mul (by lia)) le
    refine ⟨j, j1, ?_⟩
    rw [show n + 1 + (m + 2) = (n + (m + 2)) + 1 by lia, SetTable.probe.go, slot1 hp hd, if_pos e]
    simp only [hf, Bool.false_eq_true, if_false]
    rw [ad]; exact j2
  ·refine ⟨i, Ne.symm e, ?_⟩
   rw [show n + (m + 2) = (n + m + 1) + 1 by lia, SetTable.probe.go, slot1 hp hd, if_neg e]
structure gM (t : SetTable) (L : List (Nat × Int × Value)) : Prop where
 pl : t.place = (L.map (·.1)).toArray
 du : t.dummies = #[]
 ma : t.mask = 7
 sh : L = [] ∨ (∃ a, L = [a]) ∨ ∃ a b, L = [a, b] /\ a.1 < b.1
section
variable {t : SetTable} {L : List (Nat × Int × Value)}
theorem gM.fits (k : gM t L) : t.fits (L.map (·.2)).toArray.size = true := by
 obtain ⟨h1, h2, h3, h4⟩ := k
 rcases h4 with rfl | ⟨a, rfl⟩ | ⟨a, b, rfl, _⟩ <;> simp [SetTable.fits, SetTable.fill, h1, h2, h3]
theorem gM.zero (k : gM t L) : SetTable.below t.place 0 = 0 := by
 obtain ⟨h1, h2, h3, h4⟩ := k
 rcases h4 with rfl | ⟨a, rfl⟩ | ⟨a, b, rfl, _⟩ <;> simp [h1, SetTable.below, SetTable.below.go]
theorem gM.free (k : gM t L) (hl : L.length <= 1) (h : Int) : ∃ j, t.freeSlot h = some (j, false) /\ j ∉ L.map (·.1) := by
 obtain ⟨h1, h2, h3, h4⟩ := k
 rcases h4 with rfl | ⟨a, rfl⟩ | ⟨a, b, rfl, _⟩
 ·refine ⟨SetTable.bits h % 8, ?_, fun hx => nomatch hx⟩
  simp [SetTable.freeSlot, SetTable.probe, SetTable.turns, SetTable.probeStart, h3, SetTable.probe.go, SetTable.slot, SetTable.has, h1, h2, SetTable.below, SetTable.below.go]
 ·have bt : SetTable.bits h < 2 ^ 64 := by unfold SetTable.bits; lia
  obtain ⟨j, j1, j2⟩ := Bw (q := a.1) h1 h2 h3 (f := fun _ => h + 1) (h := h) (fun _ => by simp; lia) 13 205 (t.probeStart h) (by simp [SetTable.probeStart, h3, SetTable.runEnd]) rfl rfl (Nat.lt_of_lt_of_le bt (by decide)) (by simp only [SetTable.probeStart, h3]; lia)
  refine ⟨j, ?_, by simpa using j1⟩
  unfold SetTable.freeSlot SetTable.probe SetTable.turns
  rw [h3, j2]; rfl
 ·simp at hl
theorem gM.put (k : gM t L) (hl : L.length <= 1) {j : Nat} (hj : j ∉ L.map (·.1)) (h : Int) (x : Value) :
 ∃ t' p L', t.put j = (t', p) /\ gM t' L' /\ SetTable.insertAt (L.map (·.2)).toArray p (h, x) = (L'.map (·.2)).toArray /\ t'.led = t.led /\ t'.plain = t.plain /\ t'.fill = L.length + 1 /\ L'.Perm ((j, h, x) :: L) := by
 obtain ⟨h1, h2, h3, h4⟩ := k
 rcases h4 with rfl | ⟨a, rfl⟩ | ⟨a, b, rfl, _⟩
 ·refine ⟨_, _, [(j, h, x)], rfl, ⟨?_, ?_, h3, .inr (.inl ⟨_, rfl⟩)⟩, ?_, rfl, rfl, ?_, .refl _⟩ <;> simp [SetTable.fill, SetTable.has, SetTable.insertAt, h1, h2, SetTable.below, SetTable.below.go]
 ·have hj : j ≠ a.1 := by simpa using hj
  by_cases z : a.1 < j
  ·refine ⟨_, _, [a, (j, h, x)], rfl, ⟨?_, ?_, h3, .inr (.inr ⟨_, _, rfl, z⟩)⟩, ?_, rfl, rfl, ?_, .swap _ _ _⟩ <;> simp [SetTable.fill, SetTable.has, SetTable.insertAt, h1, h2, SetTable.below, SetTable.below.go, z]
  ·refine ⟨_, _, [(j, h, x), a], rfl, ⟨?_, ?_, h3, .inr (.inr ⟨_, _, rfl, show j < a.1 by lia⟩)⟩, ?_, rfl, rfl, ?_, .refl _⟩ <;> simp [SetTable.fill, SetTable.has, SetTable.insertAt, h1, h2, SetTable.below, SetTable.below.go, z]
 ·simp at hl
end
end Gz
namespace Gz
open PySem PySem.Spec PyProof.Rows L2
section
variable {prog : Program} {w : World} {A : Around} {E : Value -> Shared -> Prop} {s : Shared} {d I : Addr} {ep : Nat} {t : SetTable}
end
section
variable {X : Cx}
end
end Gz
namespace Gz
open PySem PySem.Spec PyProof.Rows L2
def tR (h : Heap) (a : Addr) (p : P2) : Prop := ∃ o t u n, h.get? a = some o /\ o.cls = .type "tuple" /\ o.data = .seq #[.int p.1 t, .int p.2 u] n
theorem tR.keep {h h' : Heap} {a : Addr} {p : P2} (x : tR h a p) (k : ∀ o, h.get? a = some o -> h'.get? a = some o) : tR h' a p := let ⟨o, t, u, n, e, r⟩ := x; ⟨o, t, u, n, k o e, r⟩
section
variable {prog : Program} {w : World} {A : Around} {E : Value -> Shared -> Prop} {s : Shared}
end
section
variable {X : Cx}
end
end Gz
namespace Gz
open PySem PySem.Spec PyProof.Rows L2
local macro_rules | `(tactic| walk_at "om") => `(tactic| ((try simp only [PySem.Addr] at *); lia))
section
variable {prog : Program} {w : World} {A : Around} {E : Value -> Shared -> Prop} {s : Shared}
end
end Gz
namespace Gz
open PySem PySem.Spec PyProof.Rows L2
local macro_rules | `(tactic| walk_at "om") => `(tactic| ((try simp only [PySem.Addr] at *); lia))
section
variable {prog : Program} {w : World} {A : Around} {E : Value -> Shared -> Prop} {s : Shared}
end
end Gz
namespace Gz
open PySem PySem.Spec PyProof.Rows L2
section
variable {prog : Program} {w : World} {A : Around} {E : Value -> Shared -> Prop} {s : Shared}
theorem Jy {h : Heap} {S : Addr} {o : Obj} {es es' : Array (Int × Value)} {ep : Nat} {t t' : SetTable} (g1 : h.get? S = some o) (g3 : o.data = .set es ep t) :
 (h.update S (Obj.putSet es' t')).get? S = some { o with data := .set es' (ep + 1) t' } := by
 have := Heap.get?_update_self (Obj.putSet es' t') g1 (by rw [putSet_of es' t' g3]; rfl)
 rw [putSet_of es' t' g3] at this
 exact this
theorem Jz {α β : Type} {f : α -> β} : ∀ {xs : List α} {l : List β}, l.Perm (xs.map f) -> ∃ ys : List α, l = ys.map f /\ ys.Perm xs := by
 intro xs l h
 generalize hz : xs.map f = z at h
 induction h generalizing xs with
 | nil => exact ⟨[], rfl, by cases xs with | nil => exact .nil | cons => cases hz⟩
 | @cons a l1 l2 p ih =>
  cases xs with
  | nil => cases hz
  | cons x xs =>
   obtain ⟨e1, e2⟩ := List.cons.inj hz
   obtain ⟨ys, rfl, q⟩ := ih e2
   exact ⟨x :: ys, by rw [<- e1]; rfl, q.cons x⟩
 | swap a b l =>
  cases xs with
  | nil => cases hz
  | cons x xs =>
   cases xs with
   | nil => simp at hz
   | cons y xs =>
    simp only [List.map_cons, List.cons.injEq] at hz
    obtain ⟨e1, e2, e3⟩ := hz
    exact ⟨y :: x :: xs, by simp [e1, e2, e3], .swap x y xs⟩
 | trans p q sv sA =>
  obtain ⟨ys, e, r⟩ := sA hz
  obtain ⟨zs, e', r'⟩ := sv e.symm
  exact ⟨zs, e', r'.trans r⟩
end
section
variable {prog : Program} {w : World} {A : Around} {E : Value -> Shared -> Prop} {s : Shared} {S I : Addr} {o : Obj} {ep : Nat} {t : SetTable} {L : List (Nat × Int × Value)}
end
section
variable {prog : Program} {w : World} {A : Around} {E : Value -> Shared -> Prop} {s : Shared}
noncomputable abbrev jZ (m : Int × PySem.Tok) : Int × Value := (hashInt m.1, .int m.1 m.2)
def Bx (h : Heap) (S : Addr) (M : List (Int × PySem.Tok)) (led : Bool) : Prop :=
 ∃ o ep t L, h.get? S = some o /\ o.cls = .type "set" /\ o.data = .set (L.map (·.2)).toArray ep t /\ gM t L /\ t.led = led /\ t.plain = true /\ L.map (·.2) = M.map jZ
theorem JA (prog : Program) (w : World) {M : List (Int × PySem.Tok)} : ElemsOf (intKind prog w) (M.map jZ) := fun e he => by
 obtain ⟨m, _, rfl⟩ := List.mem_map.mp he
 exact ⟨⟨m.1, by simp [intKind, Value.isInt], rfl⟩, rfl⟩
theorem add_int {S : Addr} {k : Int} {tt : PySem.Tok} {M : List (Int × PySem.Tok)} {led : Bool} {Q : Bool -> Shared -> Prop} (hS : Bx s.heap S M led) (hlen : M.length < 2)
 (h0 : k ∈ M.map (·.1) -> Q false s)
 (h1 : k ∉ M.map (·.1) -> ∀ h' M', Heap.SameBut S s.heap h' -> Bx h' S M' led -> M'.Perm ((k, tt) :: M) -> Q true { s with heap := h' }) :
 wpAny (model prog w) A (setAddHashed S (.int k tt) (hashInt k)) Q E s := by
 obtain ⟨o, ep, t, L, g1, g2, g3, tk, g4, g5, g7⟩ := hS
 have PZ : L.length = M.length := by have := congrArg List.length g7; simpa using this
 have By : ElemsOf (intKind prog w) (L.map (·.2)).toArray.toList := by rw [List.toList_toArray, g7]; exact JA prog w
 unfold setAddHashed setAddHashedIn
 refine wpAny_holding (wpAny_bind (wpAny_setState_of g1 g3 tk.fits ?_))
 dsimp only
 rw [byScan_of (knd := intKind prog w) rfl (by rw [List.size_toArray, List.length_map]; unfold scanBound; lia) By]
 simp only [if_true]
 unfold setAddByScan
 refine wpAny_bind (wpAny_bind (wpAny_rule ?_))
 refine wpAny_bind (wpAny_setScan_of (knd := intKind prog w) (k := k) (by simp [intKind, Value.isInt]) g1 g3 tk.fits By ?_)
 rw [List.toList_toArray, g7]
 by_cases kP : k ∈ M.map (·.1)
 ·obtain ⟨m, hm, hmk⟩ := List.mem_map.mp kP
  cases hf : List.findIdx? (fun e => (intKind prog w).is k e.2) (M.map jZ) with
  | none =>
   have := List.findIdx?_eq_none_iff.mp hf (jZ m) (List.mem_map.mpr ⟨m, hm, rfl⟩)
   rw [<- hmk] at this
   simp [intKind, Value.isInt] at this
  | some j =>
   dsimp only
   exact wpAny_pure (wpAny_pure (h0 kP))
 ·have hf : List.findIdx? (fun e => (intKind prog w).is k e.2) (M.map jZ) = none := by
   refine List.findIdx?_eq_none_iff.mpr fun e he => ?_
   obtain ⟨m, hm, rfl⟩ := List.mem_map.mp he
   simp only [intKind, Value.isInt]
   exact beq_eq_false_iff_ne.mpr fun z => kP (List.mem_map.mpr ⟨m, hm, z⟩)
  rw [hf]
  dsimp only
  obtain ⟨j, j0, j1⟩ := tk.free (by lia) (hashInt k)
  obtain ⟨t', p, L', p1, p2, p3, p5, p6, p7, hperm⟩ := tk.put (by lia) j1 (hashInt k) (Value.int k tt)
  have JB : layNew t (M.map jZ).toArray (hashInt k) (.int k tt) = ((L'.map (·.2)).toArray, t', false, false) := by
   rw [<- g7]
   unfold layNew
   rw [j0]
   dsimp only
   rw [p1, p3]
   have := p2.fits
   unfold SetTable.orStandIn
   rw [this]
   rfl
  rw [JB]
  dsimp only
  refine wpAny_bind ?_
  show wpAny _ _ (pure ()) _ _ _
  refine wpAny_pure ?_
  rw [p6, g5]
  simp only [if_true]
  refine wpAny_bind ?_
  rw [hashByValue_scannable 8 (show (Value.int k tt).scannable = true from rfl)]
  refine wpAny_pure ?_
  rw [show plainKind (Value.int k tt) = true from rfl]
  simp only [if_true]
  have mm : (L'.map (·.2)).toArray.size <= sizeLine := by
   have := hperm.length_eq
   simp at this ⊢
   rw [this]
   exact Nat.le_trans (show _ <= 64 by lia) (by decide)
  refine wpAny_bind (wpAny_storeSet_of g1 g3 ?_ mm)
  have gS := Jy (es' := (L'.map (·.2)).toArray) (t' := t') g1 g3
  have JC := Heap.SameBut.update s.heap S (Obj.putSet (L'.map (·.2)).toArray t')
  have JD : (L'.map (·.2)).Perm (((k, tt) :: M).map jZ) := by
   refine (hperm.map (·.2)).trans ?_
   simp only [List.map_cons, g7]
   exact .refl _
  have JE : t'.tooFull = false := by
   unfold SetTable.tooFull
   rw [p7, p2.ma]
   simp
   lia
  rw [JE]
  simp only [Bool.and_false, Bool.false_eq_true, if_false]
  obtain ⟨M', e1, e2⟩ := Jz JD
  exact wpAny_pure (wpAny_pure (h1 kP _ M' JC ⟨_, _, t', _, gS, g2, rfl, p2, p5.trans g4, p6.trans g5, e1⟩ e2))
end
section
variable {X : Cx}
end
end Gz
namespace Gz
open PySem PySem.Spec PyProof.Rows L2
end Gz
namespace Gz
open PySem PySem.Spec PyProof.Rows L2
def tS (sw gw : List W2) (tb : Tb) (m : Int) (L : List Int) (c : Nat -> Int) : Prop := (L.length : Int) <= m /\ (∀ (j : Nat) w, sw[j]? = some w -> Bq w (c (j + 1) - c j)) /\ (∀ (j : Nat) w, gw[j]? = some w -> Bq w (c j)) /\ ∀ r ∈ tb, r.1.1 ∉ L -> tM r.2 (c r.1.2.toNat)
theorem tS.of {sw gw : List W2} {tb hJ : Tb} {m : Int} {L : List Int} {c : Nat -> Int} (h : tS sw gw tb m L c) (s : ∀ r ∈ hJ, r ∈ tb) : tS sw gw hJ m L c := ⟨h.1, h.2.1, h.2.2.1, fun r hr => h.2.2.2 r (s r hr)⟩
end Gz
namespace qh
open PySem L2 Gz
local macro_rules | `(tactic| walk_at "gzd") => `(tactic| dsimp only [seval, Nat.reduceAdd, Nat.reduceSub, ↓reduceIte, qN, oX, o7, ju, yk, qL, tC, yf, yd, oY, jq, rp, pf, mn, mv, xX, xY, tB, x3, x4, x5, x9, ya, yb, yc, ye, rI, et, rU, yp, yq, Gy, GA, GB, GC, GD, Gm, Gq, Gr, Gs, Gu, Gv, ite_tt, ite_ff, L2.start, GF, GG, List.map_cons, List.map_nil, List.length_cons, List.length_nil, List.replicate, List.nil_append, List.cons_append, List.getElem?_cons_zero, List.getElem?_cons_succ, List.set_cons_zero, List.set_cons_succ, Bool.not_true, Bool.not_false, yG, yH, ze, FP, zi, GH, GI, GJ, rP, Hj, Hz, rQ, qS, qR, zC, yh, za, Ag, qU, qT, Ho, Hq, yD, yE, rl, yJ, yU, yS, yT, rC, zj, Hk, Hl, Hm, q9, GS, z6, z8, Aa, AL, HX, HY, HZ, Ia, Ib, Ic, Ie, Ig, Ih, Ii, Ij, Iq, Ik, Il, Im, Io, Ip, m3, qa, tq, tu, AN, lp, AS, AU, Iv, Iw, Iy, Iz, IA, IB, IC, ID, IE, IF, IG, IH, II, AV, IJ, AW, AX, AY, AZ, A0, A2, Ap, Aq, Au, Ey, Ex, HI, Jd, Bl, Bm, tJ, Aw, dM, Jo])
local macro_rules | `(tactic| walk_at "gzs") => `(tactic| simp only [seval, Nat.reduceAdd, Nat.reduceSub, reduceCtorEq, ↓reduceIte, ite_tt, ite_ff, List.map_cons, List.map_nil, List.length_cons, List.length_nil, List.nil_append, List.cons_append, Option.some.injEq, V.int.injEq, V.bl.injEq, V.ref.injEq, List.cons.injEq, exists_eq_left, exists_eq_left', exists_and_left, true_and, and_true, decide_eq_true_eq, Nat.zero_add, Nat.sub_self, Nat.add_one_sub_one, decide_true, decide_false, Bool.not_eq_true', decide_eq_false_iff_not, false_and, exists_false, and_assoc, not_false_eq_true, not_true_eq_false, List.append_nil, Option.join_some])
local macro_rules | `(tactic| walk_at "gzp") => `(tactic| first | (walk_at "gzd"; repeat (first | walk_at "gzs" | walk_at "gzd")) | (walk_at "gzs"; repeat (first | walk_at "gzd" | walk_at "gzs")))
local macro_rules | `(tactic| walk_at "gz") => `(tactic| try walk_at "gzp")
local macro_rules | `(tactic| walk_at "gzn") => `(tactic| try walk_at "gzp")
local macro_rules | `(tactic| walk_at "gzc") => `(tactic| (refine ⟨⟨rfl, rfl, rfl, by decide +kernel, rfl, by decide +kernel, by decide +kernel⟩, fun _ _ _ _ _ _ _ _ => ?_⟩; (repeat (refine IM fun _ => ?_)); exact IP rfl))
def top (i : Nat) : Stmt := PySem.Challenge.pw_gaze_k70_rules_read.main.body.getD i (.Pass ⟨0, 0, 0, 0⟩)
abbrev tT : Stmt := top 6
abbrev tU : Stmt := top 7
abbrev tV : Stmt := top 9
abbrev tW : Stmt := top 10
abbrev tX : Stmt := top 15
abbrev tY : Stmt := top 16
abbrev tZ : Stmt := top 17
abbrev t4 : Stmt := top 18
abbrev t5 : Stmt := top 19
abbrev t7 : Stmt := top 25
abbrev t8 : Stmt := top 26
abbrev t9 : Stmt := top 27
abbrev ua : Stmt := top 28
abbrev ue : Stmt := inClass (top 29) 0
abbrev uf : Stmt := inClass (top 29) 1
abbrev ug : Stmt := inClass (top 30) 0
abbrev uh : Stmt := inClass (top 30) 1
abbrev ui : Stmt := inClass (top 30) 2
abbrev uj : Stmt := inClass (top 31) 0
abbrev uo : Stmt := inClass (top 31) 1
abbrev uq : Stmt := inClass (top 31) 2
abbrev ur : Stmt := inClass (top 32) 0
abbrev uu : Stmt := inClass (top 32) 1
abbrev uv : Stmt := inClass (top 32) 2
abbrev uw : Stmt := inClass (top 33) 0
abbrev ux : Stmt := inClass (top 33) 1
abbrev uy : Stmt := inClass (top 33) 2
abbrev uz : Stmt := inClass (top 34) 0
abbrev uA : Stmt := inClass (top 34) 1
abbrev uB : Stmt := inClass (top 34) 2
abbrev uC : Stmt := inClass (top 35) 0
abbrev uD : Stmt := inClass (top 35) 1
abbrev uE : Stmt := inClass (top 35) 2
abbrev uF : Stmt := inClass (top 35) 3
abbrev uG : Stmt := inClass (top 36) 0
abbrev uH : Stmt := inClass (top 36) 1
abbrev uI : Stmt := inClass (top 36) 2
abbrev uJ : Stmt := inClass (top 36) 3
abbrev uK : Stmt := inClass (top 36) 4
abbrev uL : Stmt := inClass (top 37) 0
abbrev uM : Stmt := inClass (top 37) 1
abbrev uN : Stmt := inClass (top 38) 0
abbrev uO : Stmt := inClass (top 38) 1
abbrev uP : Stmt := inClass (top 38) 2
abbrev uQ : Stmt := inClass (top 39) 0
abbrev uR : Stmt := inClass (top 39) 1
abbrev uS : Stmt := inClass (top 39) 2
abbrev uT : Stmt := inClass (top 40) 0
abbrev uU : Stmt := inClass (top 40) 1
abbrev uV : Stmt := inClass (top 40) 2
abbrev uW : Stmt := inClass (top 40) 3
abbrev uX : Stmt := inClass (top 40) 4
abbrev uY : Stmt := top 44
abbrev uZ : Stmt := top 45
abbrev u4 : Stmt := top 46
abbrev u5 : Stmt := top 47
abbrev u6 : Stmt := top 48
abbrev u7 : Stmt := top 49
abbrev va : Stmt := top 51
abbrev vc : Stmt := top 52
abbrev vd : Stmt := top 53
abbrev ve : Stmt := top 54
abbrev vf : Stmt := top 55
abbrev vg : Stmt := top 56
abbrev vh : Stmt := top 57
abbrev vi : Stmt := top 58
abbrev vj : Stmt := top 59
abbrev vk : Stmt := top 60
abbrev vm : Stmt := top 61
abbrev vn : Stmt := top 62
theorem vo : Sc ["lo", "hi"] ["lo", "hi"] tT := by walk_at "gzc"
theorem vp : Sc ["one", "number"] ["one", "number"] tU := by walk_at "gzc"
theorem vq : Sc ["course", "kind", "turn"] ["course", "kind", "turn"] tV := by walk_at "gzc"
theorem vr : Sc ["course", "claim"] ["course", "claim"] tW := by walk_at "gzc"
theorem vt : Sc ["word"] ["word"] tX := by walk_at "gzc"
theorem qi : Sc ["word", "figures"] ["word"] tY := by walk_at "gzc"
theorem vv : Sc ["word"] ["word"] tZ := by walk_at "gzc"
theorem vw : Sc ["form", "word"] ["form", "word"] t4 := by walk_at "gzc"
theorem vx : Sc ["word"] ["word"] t5 := by walk_at "gzc"
theorem ni : Sc ["one", "below", "above"] ["one"] t7 := by walk_at "gzc"
theorem nj : Sc ["claim", "found", "part"] ["claim"] t8 := by walk_at "gzc"
theorem nk : Sc ["some", "others", "found", "one"] ["some", "others"] t9 := by walk_at "gzc"
theorem vy : Sc ["first", "last", "one"] ["first", "last", "one"] ua := by walk_at "gzc"
theorem vz : Sc ["self", "course"] ["self", "course"] ue := by walk_at "gzc"
theorem vA : Sc ["self"] ["self"] uf := by walk_at "gzc"
theorem vB : Sc ["self", "first", "last"] ["self", "first", "last"] ug := by walk_at "gzc"
theorem vC : Sc ["self"] ["self"] uh := by walk_at "gzc"
theorem vD : Sc ["self", "one"] ["self", "one"] ui := by walk_at "gzc"
theorem vE : Sc ["self", "first", "last", "stretch"] ["self", "first", "last", "stretch"] uj := by walk_at "gzc"
theorem vF : Sc ["self"] ["self"] uo := by walk_at "gzc"
theorem vG : Sc ["self"] ["self"] uq := by walk_at "gzc"
theorem vH : Sc ["self", "first", "last", "sill"] ["self", "first", "last", "sill"] ur := by walk_at "gzc"
theorem vI : Sc ["self"] ["self"] uu := by walk_at "gzc"
theorem vJ : Sc ["self"] ["self"] uv := by walk_at "gzc"
theorem vK : Sc ["self", "first", "last", "sill"] ["self", "first", "last", "sill"] uw := by walk_at "gzc"
theorem vL : Sc ["self"] ["self"] ux := by walk_at "gzc"
theorem vM : Sc ["self"] ["self"] uy := by walk_at "gzc"
theorem vN : Sc ["self", "first", "last", "low", "high"] ["self", "first", "last", "low", "high"] uz := by walk_at "gzc"
theorem lz : Sc ["self", "found", "turn", "lows"] ["self"] uA := by walk_at "gzc"
theorem vO : Sc ["self"] ["self"] uB := by walk_at "gzc"
theorem vP : Sc ["self", "first", "last", "stretch"] ["self", "first", "last", "stretch"] uC := by walk_at "gzc"
theorem vQ : Sc ["self"] ["self"] uD := by walk_at "gzc"
theorem vR : Sc ["self"] ["self"] uE := by walk_at "gzc"
theorem vS : Sc ["self"] ["self"] uF := by walk_at "gzc"
theorem vT : Sc ["self", "turn"] ["self", "turn"] uG := by walk_at "gzc"
theorem vU : Sc ["self"] ["self"] uH := by walk_at "gzc"
theorem vV : Sc ["self"] ["self"] uI := by walk_at "gzc"
theorem vW : Sc ["self"] ["self"] uJ := by walk_at "gzc"
theorem vX : Sc ["self"] ["self"] uK := by walk_at "gzc"
theorem vY : Sc ["self", "one", "other"] ["self", "one", "other"] uL := by walk_at "gzc"
theorem vZ : Sc ["self"] ["self"] uM := by walk_at "gzc"
theorem v3 : Sc ["self"] ["self"] uN := by walk_at "gzc"
theorem v5 : Sc ["self"] ["self"] uO := by walk_at "gzc"
theorem nq : Sc ["self", "one", "other"] ["self"] uP := by walk_at "gzc"
theorem v7 : Sc ["self"] ["self"] uQ := by walk_at "gzc"
theorem v8 : Sc ["self"] ["self"] uR := by walk_at "gzc"
theorem nr : Sc ["self", "one", "other"] ["self"] uS := by walk_at "gzc"
theorem v9 : Sc ["self", "one"] ["self", "one"] uT := by walk_at "gzc"
theorem wa : Sc ["self"] ["self"] uU := by walk_at "gzc"
theorem wb : Sc ["self"] ["self"] uV := by walk_at "gzc"
theorem wc : Sc ["self"] ["self"] uW := by walk_at "gzc"
theorem qj : Sc ["self", "one"] ["self"] uX := by walk_at "gzc"
theorem we : Sc ["words", "place", "form"] ["words", "place", "form"] uY := by walk_at "gzc"
theorem gN : Sc ["words", "place", "parts", "behind", "form", "inner"] ["words", "place"] uZ := by walk_at "gzc"
theorem wg : Sc ["lo", "hi"] ["lo", "hi"] u4 := by walk_at "gzc"
theorem wj : Sc ["word", "parts"] ["word", "parts"] u5 := by walk_at "gzc"
theorem lA : Sc ["tree", "word", "parts"] ["tree"] u6 := by walk_at "gzc"
theorem nt : Sc ["text", "words", "whole"] ["text"] u7 := by walk_at "gzc"
theorem wm : Sc ["_law_script", "_law_k", "_law_prime", "_law_many"] ["_law_script", "_law_k", "_law_prime", "_law_many"] va := by walk_at "gzc"
theorem qk : Sc ["_law_script", "_law_great"] ["_law_script"] vc := by walk_at "gzc"
theorem wq : Sc ["_law_found"] ["_law_found"] vd := by walk_at "gzc"
theorem wt : Sc ["_law_span", "_law_number"] ["_law_span", "_law_number"] ve := by walk_at "gzc"
theorem eS : Sc ["_law_script", "_law_k", "_law_sort", "_law_turns", "_law_base_here", "_law_first", "_law_last", "_law_low", "_law_more", "_law_open_end", "_law_lo", "_law_hi"] ["_law_script", "_law_k", "_law_sort", "_law_turns", "_law_base_here"] vf := by walk_at "gzc"
theorem ia : Sc ["_law_tree", "_law_course", "_law_head", "_law_gaps", "_law_seen"] ["_law_tree", "_law_course"] vg := by walk_at "gzc"
theorem ql : Sc ["_law_tree"] ["_law_tree"] vh := by walk_at "gzc"
theorem ib : Sc ["_law_tree", "_law_inside", "_law_left", "_law_right", "_law_many", "_law_ends"] ["_law_tree"] vi := by walk_at "gzc"
theorem lB : Sc ["_law_tree", "_law_some", "_law_part"] ["_law_tree"] vj := by walk_at "gzc"
theorem iQ : Sc ["_law_script", "_law_base_here", "_law_many", "_law_some", "_law_k", "_law_deed", "_law_tree"] ["_law_script", "_law_base_here", "_law_many"] vk := by walk_at "gzc"
theorem iR : Sc ["_law_tree", "_law_courses", "_law_event", "_law_pair", "_law_told", "_law_course", "_law_had"] ["_law_tree", "_law_courses"] vm := by walk_at "gzc"
theorem ic : Sc ["_law_script", "_law_base_here", "_law_grown", "_law_one", "_law_k", "_law_other"] ["_law_script"] vn := by walk_at "gzc"
noncomputable def FORMS : List (Key × V) := [(.inr "over", .str "NNN"), (.inr "under", .str "NNN"), (.inr "stay", .str "NNEE"), (.inr "rose", .str "NNNN"), (.inr "pace", .str "NNEE"), (.inr "turn", .str "N"), (.inr "both", .str "RR"), (.inr "either", .str "RR"), (.inr "not", .str "R")]
structure Bz (w : World) (K : PySem.W.Frag) (mg : Str -> Option Value) where
 a : Addr
 m : mg "FORMS" = some (.ref a)
 d : ∀ P : Program, tK P w K a FORMS
set_option genInjectivity false
set_option genSizeOf false
structure Tx (w : World) (K : PySem.W.Frag) (mg : Str -> Option Value) where
 nu : Fn K mg "is_crossed" tT (aI vo)
 nv : Fn K mg "holds" tU (aI vp)
 ny : Fn K mg "number_at" tV (aI vq)
 nA : Fn K mg "meets" tW (aI vr)
 nB : Fn K mg "is_figures" tX (aI vt)
 nC : Fn K mg "is_number" tY (aI qi)
 nD : Fn K mg "is_end" tZ (aI vv)
 nE : Fn K mg "is_formed" t4 (aI vw)
 nF : Fn K mg "end_of" t5 (aI vx)
 nG : Fn K mg "outside" t7 (aI ni)
 nH : Fn K mg "failures" t8 (aI nj)
 nI : Fn K mg "joined" t9 (aI nk)
 nJ : Fn K mg "parts_at" ua (aI vy)
 bT : Fm K "held" "Event.held" ue (aI vz)
 cc : Fm K "sizes" "Event.sizes" uf (aI vA)
 eT : Fm K "__init__" "Spanned.__init__" ug (aI vB)
 cP : Fm K "far" "Spanned.far" uh (aI vC)
 cH : Fm K "all_at" "Spanned.all_at" ui (aI vD)
 j3 : Fm K "__init__" "Stayed.__init__" uj (aI vE)
 iS : Fm K "ways" "Stayed.ways" uo (aI vF)
 iT : Fm K "breaks" "Stayed.breaks" uq (aI vG)
 j4 : Fm K "__init__" "Over.__init__" ur (aI vH)
 iU : Fm K "ways" "Over.ways" uu (aI vI)
 iV : Fm K "breaks" "Over.breaks" uv (aI vJ)
 j5 : Fm K "__init__" "Under.__init__" uw (aI vK)
 iW : Fm K "ways" "Under.ways" ux (aI vL)
 iX : Fm K "breaks" "Under.breaks" uy (aI vM)
 j6 : Fm K "__init__" "Rose.__init__" uz (aI vN)
 iY : Fm K "ways" "Rose.ways" uA (aI lz)
 iZ : Fm K "breaks" "Rose.breaks" uB (aI vO)
 j7 : Fm K "__init__" "Paced.__init__" uC (aI vP)
 ie : Fm K "all_steps" "Paced.all_steps" uD (aI vQ)
 i0 : Fm K "ways" "Paced.ways" uE (aI vR)
 i3 : Fm K "breaks" "Paced.breaks" uF (aI vS)
 j8 : Fm K "__init__" "Turned.__init__" uG (aI vT)
 i4 : Fm K "far" "Turned.far" uH (aI vU)
 ig : Fm K "both_steps" "Turned.both_steps" uI (aI vV)
 i5 : Fm K "ways" "Turned.ways" uJ (aI vW)
 i6 : Fm K "breaks" "Turned.breaks" uK (aI vX)
 gO : Fm K "__init__" "Paired.__init__" uL (aI vY)
 eU : Fm K "far" "Paired.far" uM (aI vZ)
 i7 : Fm K "ways" "Both.ways" uN (aI v3)
 i8 : Fm K "breaks" "Both.breaks" uO (aI v5)
 i9 : Fm K "sizes" "Both.sizes" uP (aI nq)
 ja : Fm K "ways" "Either.ways" uQ (aI v7)
 jb : Fm K "breaks" "Either.breaks" uR (aI v8)
 jc : Fm K "sizes" "Either.sizes" uS (aI nr)
 j9 : Fm K "__init__" "Nay.__init__" uT (aI v9)
 jd : Fm K "far" "Nay.far" uU (aI wa)
 je : Fm K "ways" "Nay.ways" uV (aI wb)
 jf : Fm K "breaks" "Nay.breaks" uW (aI wc)
 jg : Fm K "sizes" "Nay.sizes" uX (aI qj)
 jh : Fn K mg "end_at" uY (aI we)
 eV : Fn K mg "tree_at" uZ (aI gN)
 fV : Fn K mg "ends_as_stretch" u4 (aI wg)
 ji : Fn K mg "event_of_numbers" u5 (aI wj)
 cv : Fn K mg "event_of" u6 (aI lA)
 nK : Fn K mg "read" u7 (aI nt)
 nM : Fn K mg "_law_draw" va (aI wm)
 nN : Fn K mg "_law_base" vc (aI qk)
 nO : Fn K mg "_law_whole" vd (aI wq)
 nP : Fn K mg "_law_within" ve (aI wt)
 nQ : Fn K mg "_law_leaf" vf (aI eS)
 jj : Fn K mg "_law_truth" vg (aI ia)
 ka : Fn K mg "_law_farthest" vh (aI ql)
 kc : Fn K mg "_law_counts" vi (aI ib)
 kd : Fn K mg "_law_row" vj (aI lB)
 nU : Fn K mg "_law_trees" vk (aI iQ)
 nV : Fn K mg "_law_asked_of" vm (aI iR)
 ke : Fn K mg "law" vn (aI ic)
 qm : mg "all" = none
 BA : mg "any" = none
 BB : mg "bool" = none
 nW : mg "int" = none
 nX : mg "isinstance" = none
 dC : mg "len" = none
 JF : mg "list" = none
 lC : mg "max" = none
 wu : mg "min" = none
 gP : mg "range" = none
 JG : mg "str" = none
 JH : mg "tuple" = none
 qo : Addr
 P0 : mg "GazeError" = some (.ref qo)
 eo : Addr
 qp : mg "NoEvent" = some (.ref eo)
 lD : Addr
 JI : mg "TooMany" = some (.ref lD)
 lE : Addr
 nY : mg "NoRule" = some (.ref lE)
 cb : Addr
 JJ : mg "Event" = some (.ref cb)
 cn : Addr
 nZ : mg "Spanned" = some (.ref cn)
 br : Addr
 JK : mg "Stayed" = some (.ref br)
 bu : Addr
 JL : mg "Over" = some (.ref bu)
 bw : Addr
 JM : mg "Under" = some (.ref bw)
 bx : Addr
 JN : mg "Rose" = some (.ref bx)
 bo : Addr
 JO : mg "Paced" = some (.ref bo)
 bE : Addr
 JP : mg "Turned" = some (.ref bE)
 cX : Addr
 P1 : mg "Paired" = some (.ref cX)
 bB : Addr
 JQ : mg "Both" = some (.ref bB)
 bC : Addr
 JR : mg "Either" = some (.ref bC)
 bG : Addr
 JS : mg "Nay" = some (.ref bG)
 BC : bc K cb
 P4 : Meth K cb "held" bT.a
 P5 : Meth K cb "sizes" cc.a
 BD : bc K cn
 BE : bg K cn "first"
 BF : bg K cn "last"
 P6 : Meth K cn "held" bT.a
 P7 : Meth K cn "sizes" cc.a
 BG : Mk K cn eT.a
 P8 : Meth K cn "far" cP.a
 P9 : Meth K cn "all_at" cH.a
 dD : bc K br
 n0 : bg K br "first"
 lF : bg K br "last"
 n3 : bg K br "stretch"
 JT : Meth K br "held" bT.a
 JU : Meth K br "sizes" cc.a
 wx : Mk K br j3.a
 JV : Meth K br "far" cP.a
 BH : Meth K br "all_at" cH.a
 JW : Meth K br "ways" iS.a
 JX : Meth K br "breaks" iT.a
 dE : bc K bu
 n4 : bg K bu "first"
 lG : bg K bu "last"
 n5 : bg K bu "sill"
 JY : Meth K bu "held" bT.a
 JZ : Meth K bu "sizes" cc.a
 wy : Mk K bu j4.a
 J0 : Meth K bu "far" cP.a
 BI : Meth K bu "all_at" cH.a
 J1 : Meth K bu "ways" iU.a
 J5 : Meth K bu "breaks" iV.a
 dF : bc K bw
 n6 : bg K bw "first"
 lH : bg K bw "last"
 n9 : bg K bw "sill"
 J6 : Meth K bw "held" bT.a
 J9 : Meth K bw "sizes" cc.a
 wz : Mk K bw j5.a
 Ka : Meth K bw "far" cP.a
 BJ : Meth K bw "all_at" cH.a
 Kb : Meth K bw "ways" iW.a
 Kc : Meth K bw "breaks" iX.a
 cI : bc K bx
 lI : bg K bx "first"
 jk : bg K bx "last"
 oa : bg K bx "low"
 og : bg K bx "high"
 Kd : Meth K bx "held" bT.a
 Ke : Meth K bx "sizes" cc.a
 wA : Mk K bx j6.a
 Kf : Meth K bx "far" cP.a
 Qa : Meth K bx "all_at" cH.a
 Kg : Meth K bx "ways" iY.a
 Kh : Meth K bx "breaks" iZ.a
 dN : bc K bo
 qq : bg K bo "first"
 oh : bg K bo "last"
 qr : bg K bo "stretch"
 Ki : Meth K bo "held" bT.a
 Kj : Meth K bo "sizes" cc.a
 wB : Mk K bo j7.a
 Kk : Meth K bo "far" cP.a
 Qb : Meth K bo "all_at" cH.a
 Kl : Meth K bo "ways" i0.a
 Km : Meth K bo "breaks" i3.a
 BK : Meth K bo "all_steps" ie.a
 eF : bc K bE
 lJ : bg K bE "turn"
 Kn : Meth K bE "held" bT.a
 Ko : Meth K bE "sizes" cc.a
 wC : Mk K bE j8.a
 Kq : Meth K bE "far" i4.a
 Kr : Meth K bE "ways" i5.a
 Ks : Meth K bE "breaks" i6.a
 BM : Meth K bE "both_steps" ig.a
 BN : bc K cX
 BO : bg K cX "one"
 BP : bg K cX "other"
 Qc : Meth K cX "held" bT.a
 Qd : Meth K cX "sizes" cc.a
 BQ : Mk K cX gO.a
 Qe : Meth K cX "far" eU.a
 dO : bc K bB
 kf : bg K bB "one"
 kg : bg K bB "other"
 Kt : Meth K bB "held" bT.a
 Ku : Meth K bB "sizes" i9.a
 wD : Mk K bB gO.a
 Kv : Meth K bB "far" eU.a
 Kw : Meth K bB "ways" i7.a
 Kx : Meth K bB "breaks" i8.a
 dP : bc K bC
 kh : bg K bC "one"
 ki : bg K bC "other"
 Ky : Meth K bC "held" bT.a
 Kz : Meth K bC "sizes" jc.a
 wF : Mk K bC gO.a
 KA : Meth K bC "far" eU.a
 KC : Meth K bC "ways" ja.a
 KG : Meth K bC "breaks" jb.a
 eW : bc K bG
 kj : bg K bG "one"
 KH : Meth K bG "held" bT.a
 KI : Meth K bG "sizes" jg.a
 wG : Mk K bG j9.a
 KJ : Meth K bG "far" jd.a
 KL : Meth K bG "ways" je.a
 KN : Meth K bG "breaks" jf.a
 oi : As K cn "__init__" eT.a
 lK : XC K eo
 km : XC K lE
 wH : XC K lD
 KO : PySem.W.kitOne K (.ref br) (.ref cb) = some true
 KP : PySem.W.kitOne K (.ref bu) (.ref cb) = some true
 KQ : PySem.W.kitOne K (.ref bw) (.ref cb) = some true
 KR : PySem.W.kitOne K (.ref bx) (.ref cb) = some true
 KS : PySem.W.kitOne K (.ref bo) (.ref cb) = some true
 KU : PySem.W.kitOne K (.ref bE) (.ref cb) = some true
 KW : PySem.W.kitOne K (.ref bB) (.ref cb) = some true
 KY : PySem.W.kitOne K (.ref bC) (.ref cb) = some true
 KZ : PySem.W.kitOne K (.ref bG) (.ref cb) = some true
 wI : PySem.W.findIn K (.ref br) "__class__" = some (some (.builtin "object.__class__"))
 wJ : PySem.W.mroIn K br (.type "object") = some true
 wK : PySem.W.findIn K (.ref bu) "__class__" = some (some (.builtin "object.__class__"))
 wL : PySem.W.mroIn K bu (.type "object") = some true
 wM : PySem.W.findIn K (.ref bw) "__class__" = some (some (.builtin "object.__class__"))
 wN : PySem.W.mroIn K bw (.type "object") = some true
 wO : PySem.W.findIn K (.ref bx) "__class__" = some (some (.builtin "object.__class__"))
 wQ : PySem.W.mroIn K bx (.type "object") = some true
 wR : PySem.W.findIn K (.ref bo) "__class__" = some (some (.builtin "object.__class__"))
 wU : PySem.W.mroIn K bo (.type "object") = some true
 wV : PySem.W.findIn K (.ref bE) "__class__" = some (some (.builtin "object.__class__"))
 wW : PySem.W.mroIn K bE (.type "object") = some true
 wX : PySem.W.findIn K (.ref bB) "__class__" = some (some (.builtin "object.__class__"))
 wY : PySem.W.mroIn K bB (.type "object") = some true
 wZ : PySem.W.findIn K (.ref bC) "__class__" = some (some (.builtin "object.__class__"))
 w4 : PySem.W.mroIn K bC (.type "object") = some true
 w5 : PySem.W.findIn K (.ref bG) "__class__" = some (some (.builtin "object.__class__"))
 w6 : PySem.W.mroIn K bG (.type "object") = some true
 fW : PySem.W.specialIn K (.builtin "object.__class__") "__get__" = some (some (.builtin "getset_descriptor.__get__"))
 fX : PySem.W.takesIn K (.builtin "object.__class__") = some true
 BR : ∃ t, mg "LAST_TURN" = some (.int 11 t)
 K0 : ∃ t, mg "FIGURES_AT_MOST" = some (.int 60 t)
 K1 : ∃ t, mg "WORDS_AT_MOST" = some (.int 60 t)
 K2 : ∃ t, mg "SIZE_AT_MOST" = some (.int 100 t)
 BS : ∃ t, mg "OPEN_END" = some (.str "*" t)
 K3 : ∃ t, mg "FIGURES" = some (.str "0123456789" t)
 forms : Bz w K mg
set_option genInjectivity true
set_option genSizeOf true
section
seal L2.PE L2.PS L2.aV L2.PA
variable {P : Program} {w : World} {K : PySem.W.Frag} {mg : Str -> Option Value} {base : Heap}
end
section
seal L2.PE L2.PS L2.aV L2.PA
variable {P : Program} {w : World} {K : PySem.W.Frag} {mg : Str -> Option Value} {base : Heap}
inductive K4 (vs : List V) (H : Hp) (Q : VK) (aN : XK) : Prop
 | mk (a b : En) (_ : vs = [ev a, ev b]) (_ : Q (.bl (eA a b)) H)
theorem w9 (T : Tx w K mg) : Ok P w base 1 T.nu K4 := by
 refine b9 vo ?_
 rintro _ _ _ _ _ _ _ _ _ ⟨a, b, rfl, q⟩
 refine ⟨_, (aq (aw (gL (kG (oU (aa 0))) (gL (kG (oU (aa 1))) (er (eJ (fU yy) (aa 0) (aa 1) (cZ _))))))), ?_⟩
 rcases a with _ | x
 ·walk_at "gz"
  exact q
 rcases b with _ | y
 ·walk_at "gz"
  exact q
 walk_at "gz"
 exact q
inductive K5 (vs : List V) (H : Hp) (Q : VK) (aN : XK) : Prop
 | mk (v : V) (a b : En) (n : Int) (_ : vs = [v, .int n]) (_ : bY H v a b) (_ : Q (.bl (hold a b n)) H)
theorem K6 (T : Tx w K mg) : Ok P w base 2 T.nv K5 := by
 refine b9 vp ?_
 rintro _ _ _ _ _ _ _ _ hr ⟨v, a, b, n, rfl, ⟨p, rfl, hp⟩, q⟩
 refine ⟨_, (aq (aw (gL (m7 (aJ (w9 T) hr (ae (ar (aa 0) af) (ae (aa 1) ag)))) (er (m7 (aJ (w9 T) hr (ae (aa 1) (ae (ar (aa 0) af) ag)))))))), ?_⟩
 walk_at "gz"
 refine aO (ay.of hp) rfl ⟨a, some n, rfl, ?_⟩
 unfold hold at q
 walk_at "gz"
 cases hc : eA a (some n) with
 | true =>
  rw [hc] at q
  walk_at "gz"
  exact q
 | false =>
  rw [hc] at q
  walk_at "gz"
  refine aO (ay.of hp) rfl ⟨some n, b, rfl, ?_⟩
  walk_at "gz"
  exact q
noncomputable def BU : V -> V
 | .str i => .bl (!(Builtin.Str.occurrences h8 i 0 h8.length 1).isEmpty)
 | v => v
theorem K7 (x : PySem.Str) : ((ck x).filter fun _ => true).map BU = (x.cps.toList.map fun c => !(Builtin.Str.occurrences h8 ⟨#[c]⟩ 0 h8.length 1).isEmpty).map V.bl := by
 rw [List.filter_eq_self.mpr fun _ _ => rfl]
 unfold ck
 rw [List.map_map, List.map_map]
 rfl
inductive K8 (vs : List V) (H : Hp) (Q : VK) (aN : XK) : Prop
 | mk (x : PySem.Str) (_ : vs = [.str x]) (_ : x.length <= 100000) (_ : ∀ H', ah H H' -> Q (.bl (ng x)) H')
theorem K9 (T : Tx w K mg) : Ok P w base 1 T.nB K8 := by
 refine b9 vt ?_
 rintro _ _ _ _ _ _ Q _ _ ⟨x, rfl, hx, q⟩
 refine ⟨_, (aq (aw (gL (ET gB gB af (bD dt (by rfl) T.dC dw (ae (aa 0) ag)) (mW T.K0 rfl)) (er (bD (pN rfl) (by rfl) T.qm pF (ae (fw (cO [] []) rfl (Bj (aa 0)) (fun C s2 H2 ex pn => ⟨d7, (eJ ES (aa 0) (tL T.K3 rfl) (by with_unfolding_all rfl))⟩)) ag)))))), ?_⟩
 unfold ng at q
 walk_at "gzn"
 refine ⟨x.length, ⟨Nat.le_trans hx (by decide), rfl⟩, bH (fun h1 => bH (fun h2 => ?_) fun h2 => ?_) fun h1 => ?_⟩
 ·rw [decide_eq_true (show 1 <= x.length by lia), decide_eq_true (show x.length <= 60 by lia)] at q
  have hl : (ck x).length <= sizeLine := by
   rw [qd]
   have : x.cps.size <= 60 := by have : x.length = x.cps.size := rfl; lia
   exact Nat.le_trans this (by decide)
  refine ⟨x, rfl, d8 Jc hl (sk (p := fun _ => true) (f := BU) trivial (fun _ _ Q h => h) (fun v hv _ Q h => ?_) fun l hn => ?_)⟩
  ·unfold ck at hv
   obtain ⟨c, _, rfl⟩ := List.mem_map.mp hv
   walk_at "gzn"
   exact ⟨_, rfl, _, rfl, h⟩
  ·rw [List.nil_append, K7]
   exact ⟨l, rfl, _, ao.of aj, by rw [Jj]; exact q _ (ak hn)⟩
 ·rw [decide_eq_true (show 1 <= x.length by lia), decide_eq_false (show ¬ x.length <= 60 by lia)] at q
  exact q _ (ah.refl _)
 ·rw [decide_eq_false (show ¬ 1 <= x.length by lia)] at q
  exact q _ (ah.refl _)
inductive La (vs : List V) (H : Hp) (Q : VK) (aN : XK) : Prop
 | mk (x : PySem.Str) (_ : vs = [.str x]) (_ : x.length <= 100000) (_ : ∀ H', ah H H' -> Q (.bl (jW x)) H')
theorem BV (T : Tx w K mg) : Ok P w base 2 T.nC La := by
 refine b9 qi ?_
 rintro _ _ _ _ H _ _ _ hr ⟨x, rfl, hx, q⟩
 refine ⟨_, (au (aL (aW (aa 0) aH) (aq (aw jo)) aP) (au (aY 1 qi.nd (oW (gK (fu PySem.F.plainAttrs_str PySem.F.slot_str_startswith PySem.F.type_str_startswith Bf (aa 0) (ae aH ag))) (jz Jf (aa 0) (iB af) kN) (aa 0))) (aq (aw (gL (aJ (K9 T) hr (ae (aa 1) ag)) (er (m7 (fu PySem.F.plainAttrs_str PySem.F.slot_str_startswith PySem.F.type_str_startswith Bf (aa 1) (ae aH ag))))))))), ?_⟩
 have ty : ∀ (y : PySem.Str) (H : Hp), pB K "str" (.str y) H := fun _ _ => rfl
 unfold jW at q
 walk_at "gzn"
 refine bH (fun h0 => ?_) fun h0 => ⟨ty _ _, x, rfl, _, rfl, ?_⟩
 ·rw [h0] at q
  exact q _ (ah.refl _)
 ·have e0 : (x == ("0" : PySem.Str)) = false := by simpa using h0
  rw [e0, Bool.false_or] at q
  unfold cutD at q
  refine bH (fun hd => ⟨x, rfl, Nat.le_trans hx (by decide), ?_⟩) fun hd => ?_
  ·rw [show lx x = true from hd] at q
   refine ⟨_, rfl, Nat.le_trans (Txt.slice_le _ _ _) hx, fun H1 s1 => ?_⟩
   walk_at "gzn"
   refine bH (fun h1 => ⟨ty _ _, _, rfl, _, rfl, ?_⟩) fun h1 => ?_
   ·rw [if_pos rfl, h1, Bool.true_and] at q
    exact q _ s1
   ·rw [if_pos rfl, Bool.eq_false_iff.mpr h1] at q
    exact q _ s1
  ·rw [show lx x = false from Bool.eq_false_iff.mpr hd] at q
   refine ⟨_, rfl, hx, fun H1 s1 => ?_⟩
   walk_at "gzn"
   refine bH (fun h1 => ⟨ty _ _, _, rfl, _, rfl, ?_⟩) fun h1 => ?_
   ·rw [if_neg (by decide), h1, Bool.true_and] at q
    exact q _ s1
   ·rw [if_neg (by decide), Bool.eq_false_iff.mpr h1] at q
    exact q _ s1
noncomputable def qt (x : PySem.Str) : Bool := x == "*" || jW x
inductive Lb (vs : List V) (H : Hp) (Q : VK) (aN : XK) : Prop
 | mk (x : PySem.Str) (_ : vs = [.str x]) (_ : x.length <= 100000) (_ : ∀ H', ah H H' -> Q (.bl (qt x)) H')
theorem Lc (T : Tx w K mg) : Ok P w base 3 T.nD Lb := by
 refine b9 vv ?_
 rintro _ _ _ _ _ _ _ _ hr ⟨x, rfl, hx, q⟩
 refine ⟨_, (aq (aw (m6 (eJ qZ (aa 0) (tL T.BS rfl) (cZ _)) (er (aJ (BV T) hr (ae (aa 0) ag)))))), ?_⟩
 unfold qt at q
 walk_at "gzn"
 refine ⟨rfl, bH (fun h => ?_) fun h => ?_⟩
 ·injection h with h
  rw [h] at q
  exact q _ (ah.refl _)
 ·have e0 : (x == ("*" : PySem.Str)) = false := by
   rw [Bool.eq_false_iff]
   intro z
   exact h (by rw [eq_of_beq z])
  rw [e0, Bool.false_or] at q
  exact ⟨x, rfl, hx, q⟩
noncomputable def oj (f x : PySem.Str) : Bool := if f = "N" then jW x else (!(f == "E") || qt x)
inductive Ld (vs : List V) (H : Hp) (Q : VK) (aN : XK) : Prop
 | mk (f x : PySem.Str) (_ : vs = [.str f, .str x]) (_ : x.length <= 100000) (_ : ∀ H', ah H H' -> Q (.bl (oj f x)) H')
theorem Le (T : Tx w K mg) : Ok P w base 4 T.nE Ld := by
 refine b9 vw ?_
 rintro _ _ _ _ _ _ _ E hr ⟨f, x, rfl, hx, q⟩
 refine ⟨_, (au (aL (aW (aa 0) aH) (aq (aw (aJ (BV T) hr (ae (aa 1) ag)))) aP) (aq (aw (m6 (eJ yx (aa 0) aH (cZ _)) (er (aJ (Lc T) hr (ae (aa 1) ag))))))), ?_⟩
 unfold oj at q
 walk_at "gzn"
 refine bH (fun h => ?_) fun h => ⟨rfl, bH (fun h2 => ?_) fun h2 => ?_⟩
 ·rw [if_pos h] at q
  exact ⟨x, rfl, hx, q⟩
 ·have e0 : (f == ("E" : PySem.Str)) = false := by
   rw [Bool.eq_false_iff]
   intro z
   exact h2 (by rw [eq_of_beq z])
  rw [if_neg h, e0] at q
  exact q _ (ah.refl _)
 ·have h2 : V.str f = V.str "E" := Classical.not_not.mp h2
  injection h2 with h2
  rw [if_neg h, h2] at q
  exact ⟨x, rfl, hx, q⟩
noncomputable def dj : En -> PySem.Str
 | none => "*"
 | some n => bP n
theorem Lf (n : Int) : ¬ bP n = "*" := fun z => by
 have z := congrArg (fun s : PySem.Str => s.cps.toList) z
 rcases nc n with ⟨m, rfl⟩ | ⟨m, rfl⟩
 ·obtain ⟨d, r, e, _⟩ := lq m
  have hd := jU m d (by rw [e]; exact .head _)
  rw [show (bP (m : Int)).cps.toList = cT m from jV m, e] at z
  have : d = 42 := (List.cons.inj z).1
  lia
 ·rw [show (bP (-((m + 1 : Nat) : Int))).cps.toList = 45 :: cT (m + 1) from m9 m] at z
  have : (45 : Nat) = 42 := (List.cons.inj z).1
  lia
theorem Lg {n : Int} (h : n.natAbs < 10 ^ 60) : n.natAbs.log2 < 1920 := by
 by_cases h0 : n.natAbs = 0
 ·rw [h0]; decide
 ·exact (Nat.log2_lt h0).mpr (Nat.lt_trans h (by decide +kernel))
def fG : En -> Prop
 | none => True
 | some n => n.natAbs < 10 ^ 60
inductive Lh (vs : List V) (H : Hp) (Q : VK) (aN : XK) : Prop
 | mk (e : En) (_ : vs = [.str (dj e)]) (_ : fG e) (_ : Q (ev e) H)
theorem Li (T : Tx w K mg) : Ok P w base 1 T.nF Lh := by
 refine b9 vx ?_
 rintro _ _ _ _ _ _ _ _ _ ⟨e, rfl, he, q⟩
 refine ⟨_, (aq (aw (oW (aW (aa 0) (tL T.BS rfl)) dU (kL I9 (by rfl) T.nW mG (ae (aa 0) ag))))), ?_⟩
 walk_at "gzn"
 cases e with
 | none => exact q
 | some n =>
  rw [if_neg (show ¬ dj (some n) = "*" from Lf n)]
  exact ⟨_, rfl, n, I0 he, Nat.le_trans (di he) (by decide), q⟩
end
section
seal L2.PE L2.PS L2.aV L2.PA
variable {P : Program} {w : World} {K : PySem.W.Frag} {mg : Str -> Option Value} {base : Heap}
def bp (i j : Int) : Prop := 0 <= i /\ i <= j /\ j <= 11
inductive Lj (K : PySem.W.Frag) (N : Addr) (vs : List V) (H : Hp) (Q : VK) (E : XK) : Prop
 | mk (x C dx : Addr) (i j : Int) (_ : vs = [.ref x, .int i, .int j]) (_ : H x = some (.ins C dx [])) (_ : bc K C) (_ : bg K C "first") (_ : bg K C "last") (_ : (¬ bp i j -> E (.ref N) none H)) (_ : (bp i j -> Q .non (upd H x (.ins C dx [("first", .int i), ("last", .int j)]))))
theorem oo (T : Tx w K mg) : Om P w mg base 1 T.eT (Lj K T.eo) := by
 refine iN vB ?_
 rintro _ _ _ _ H _ _ E _ ⟨x, C, dx, i, j, rfl, hx, hc, n1, n2, q0, q⟩
 refine ⟨_, (au (aL (gv (HG gB gB gB af (aa 1) (aa 2) (mW T.BR rfl))) (aq (gG gH rfl T.qp T.lK rfl (ae aH ag))) aP) (au (fE (aa 0) (aa 1) rfl) (aq (fE (aa 0) (aa 2) rfl)))), ?_⟩
 walk_at "gzn"
 have no : ∀ D σ, ¬ bp i j -> ∀ y, rN T.eo E (pf (tC (.str y)) mn) D σ H := fun D σ z y => ⟨by show 1 <= sizeLine; decide, q0 z⟩
 refine bH (fun h1 => bH (fun h2 => bH (fun h3 => no _ _ (fun z => h3 z.2.2) _) fun h3 => ?_) fun h2 => no _ _ (fun z => h2 z.2.1) _) fun h1 => no _ _ (fun z => h1 z.1) _
 refine ⟨_, _, _, hx, hc, n1, (by show 0 < 1000; decide), _, _, _, aj, hc, n2, (by show 1 < 1000; decide), ?_⟩
 rw [jl]
 exact q ⟨h1, h2, by lia⟩
inductive Ll (C N : Addr) (vs : List V) (H : Hp) (Q : VK) (E : XK) : Prop
 | mk (x dx : Addr) (i j : Int) (v : V) (_ : vs = [.ref x, .int i, .int j, v]) (_ : H x = some (.ins C dx [])) (_ : (¬ bp i j -> E (.ref N) none H)) (_ : (bp i j -> Q .non (upd H x (.ins C dx [("first", .int i), ("last", .int j), ("stretch", v)]))))
theorem Lm (T : Tx w K mg) : Om P w mg base 2 T.j3 (Ll T.br T.eo) := by
 refine iN vE ?_
 rintro _ _ _ _ _ _ _ _ hr ⟨x, dx, i, j, v, rfl, hx, q0, q⟩
 refine ⟨_, (au (eH (mU rfl T.nZ T.oi (oo T) hr.m T.eT.b .nil cu (ae (aa 0) (ae (aa 1) (ae (aa 2) ag))))) (aq (fE (aa 0) (aa 3) rfl))), ?_⟩
 walk_at "gzn"
 refine ⟨x, T.br, dx, i, j, rfl, hx, T.dD, T.n0, T.lF, q0, fun hk => ?_⟩
 walk_at "gzn"
 refine ⟨_, _, _, aj, T.dD, T.n3, (by show 2 < 1000; decide), ?_⟩
 rw [jl]
 exact q hk
inductive Ln (C N : Addr) (vs : List V) (H : Hp) (Q : VK) (E : XK) : Prop
 | mk (x dx : Addr) (i j : Int) (v : V) (_ : vs = [.ref x, .int i, .int j, v]) (_ : H x = some (.ins C dx [])) (_ : (¬ bp i j -> E (.ref N) none H)) (_ : (bp i j -> Q .non (upd H x (.ins C dx [("first", .int i), ("last", .int j), ("sill", v)]))))
theorem Lo (T : Tx w K mg) : Om P w mg base 2 T.j4 (Ln T.bu T.eo) := by
 refine iN vH ?_
 rintro _ _ _ _ _ _ _ _ hr ⟨x, dx, i, j, v, rfl, hx, q0, q⟩
 refine ⟨_, (au (eH (mU rfl T.nZ T.oi (oo T) hr.m T.eT.b .nil cu (ae (aa 0) (ae (aa 1) (ae (aa 2) ag))))) (aq (fE (aa 0) (aa 3) rfl))), ?_⟩
 walk_at "gzn"
 refine ⟨x, T.bu, dx, i, j, rfl, hx, T.dE, T.n4, T.lG, q0, fun hk => ?_⟩
 walk_at "gzn"
 refine ⟨_, _, _, aj, T.dE, T.n5, (by show 2 < 1000; decide), ?_⟩
 rw [jl]
 exact q hk
inductive Lp (C N : Addr) (vs : List V) (H : Hp) (Q : VK) (E : XK) : Prop
 | mk (x dx : Addr) (i j : Int) (v : V) (_ : vs = [.ref x, .int i, .int j, v]) (_ : H x = some (.ins C dx [])) (_ : (¬ bp i j -> E (.ref N) none H)) (_ : (bp i j -> Q .non (upd H x (.ins C dx [("first", .int i), ("last", .int j), ("sill", v)]))))
theorem Lq (T : Tx w K mg) : Om P w mg base 2 T.j5 (Lp T.bw T.eo) := by
 refine iN vK ?_
 rintro _ _ _ _ _ _ _ _ hr ⟨x, dx, i, j, v, rfl, hx, q0, q⟩
 refine ⟨_, (au (eH (mU rfl T.nZ T.oi (oo T) hr.m T.eT.b .nil cu (ae (aa 0) (ae (aa 1) (ae (aa 2) ag))))) (aq (fE (aa 0) (aa 3) rfl))), ?_⟩
 walk_at "gzn"
 refine ⟨x, T.bw, dx, i, j, rfl, hx, T.dF, T.n6, T.lH, q0, fun hk => ?_⟩
 walk_at "gzn"
 refine ⟨_, _, _, aj, T.dF, T.n9, (by show 2 < 1000; decide), ?_⟩
 rw [jl]
 exact q hk
inductive Lr (C N : Addr) (vs : List V) (H : Hp) (Q : VK) (E : XK) : Prop
 | mk (x dx : Addr) (i j : Int) (v : V) (_ : vs = [.ref x, .int i, .int j, v]) (_ : H x = some (.ins C dx [])) (_ : (¬ bp i j -> E (.ref N) none H)) (_ : (bp i j -> Q .non (upd H x (.ins C dx [("first", .int i), ("last", .int j), ("stretch", v)]))))
theorem Ls (T : Tx w K mg) : Om P w mg base 2 T.j7 (Lr T.bo T.eo) := by
 refine iN vP ?_
 rintro _ _ _ _ _ _ _ _ hr ⟨x, dx, i, j, v, rfl, hx, q0, q⟩
 refine ⟨_, (au (eH (mU rfl T.nZ T.oi (oo T) hr.m T.eT.b .nil cu (ae (aa 0) (ae (aa 1) (ae (aa 2) ag))))) (aq (fE (aa 0) (aa 3) rfl))), ?_⟩
 walk_at "gzn"
 refine ⟨x, T.bo, dx, i, j, rfl, hx, T.dN, T.qq, T.oh, q0, fun hk => ?_⟩
 walk_at "gzn"
 refine ⟨_, _, _, aj, T.dN, T.qr, (by show 2 < 1000; decide), ?_⟩
 rw [jl]
 exact q hk
inductive Lu (C N : Addr) (vs : List V) (H : Hp) (Q : VK) (E : XK) : Prop
 | mk (x dx : Addr) (i j l h : Int) (_ : vs = [.ref x, .int i, .int j, .int l, .int h]) (_ : H x = some (.ins C dx [])) (_ : (¬ (bp i j /\ l < h) -> ∀ H', SameBut x H H' -> E (.ref N) none H')) (_ : (bp i j /\ l < h -> Q .non (upd H x (.ins C dx [("first", .int i), ("last", .int j), ("low", .int l), ("high", .int h)]))))
theorem Lv (T : Tx w K mg) : Om P w mg base 2 T.j6 (Lu T.bx T.eo) := by
 refine iN vN ?_
 rintro _ _ _ _ _ _ _ _ hr ⟨x, dx, i, j, l, h, rfl, hx, q0, q⟩
 refine ⟨_, (au (eH (mU rfl T.nZ T.oi (oo T) hr.m T.eT.b .nil cu (ae (aa 0) (ae (aa 1) (ae (aa 2) ag))))) (au (aL (tG (aa 3) (aa 4)) (aq (gG gH rfl T.qp T.lK rfl (ae aH ag))) aP) (au (fE (aa 0) (aa 3) rfl) (aq (fE (aa 0) (aa 4) rfl))))), ?_⟩
 walk_at "gzn"
 refine ⟨x, T.bx, dx, i, j, rfl, hx, T.cI, T.lI, T.jk, fun z => q0 (fun y => z y.1) _ fun _ _ _ e => e, fun hk => ?_⟩
 walk_at "gzn"
 refine bH (fun h1 => ⟨by decide, q0 (fun y => by lia) _ fun b o hb e => by rw [aQ hb]; exact e⟩) fun h1 => ?_
 refine ⟨_, _, _, aj, T.cI, T.oa, (by show 2 < 1000; decide), _, _, _, aj, T.cI, T.og, (by show 3 < 1000; decide), ?_⟩
 rw [jl, jl]
 exact q ⟨hk, by lia⟩
inductive Lw (C N : Addr) (vs : List V) (H : Hp) (Q : VK) (E : XK) : Prop
 | mk (x dx : Addr) (i : Int) (_ : vs = [.ref x, .int i]) (_ : H x = some (.ins C dx [])) (_ : (¬ (0 < i /\ i < 11) -> E (.ref N) none H)) (_ : (0 < i /\ i < 11 -> Q .non (upd H x (.ins C dx [("turn", .int i)]))))
theorem Lx (T : Tx w K mg) : Om P w mg base 1 T.j8 (Lw T.bE T.eo) := by
 refine iN vT ?_
 rintro _ _ _ _ H _ _ E _ ⟨x, dx, i, rfl, hx, q0, q⟩
 refine ⟨_, (au (aL (gv (IK mj mj af (aa 1) (mW T.BR rfl))) (aq (gG gH rfl T.qp T.lK rfl (ae aH ag))) aP) (aq (fE (aa 0) (aa 1) rfl))), ?_⟩
 walk_at "gzn"
 have no : ∀ D σ, ¬ (0 < i /\ i < 11) -> ∀ y, rN T.eo E (pf (tC (.str y)) mn) D σ H := fun D σ z y => ⟨by show 1 <= sizeLine; decide, q0 z⟩
 refine bH (fun h1 => bH (fun h2 => ?_) fun h2 => no _ _ (fun z => h2 z.2) _) fun h1 => no _ _ (fun z => h1 z.1) _
 exact ⟨_, _, _, hx, T.eF, T.lJ, (by show 0 < 1000; decide), q ⟨h1, h2⟩⟩
inductive Ly (K : PySem.W.Frag) (vs : List V) (H : Hp) (Q : VK) (aN : XK) : Prop
 | mk (x C dx : Addr) (fs : List (Str × V)) (j : Int) (_ : vs = [.ref x]) (_ : H x = some (.ins C dx fs)) (_ : bc K C) (_ : bg K C "last") (_ : fs.lookup ("last" : Str) = some (.int j)) (_ : Q (.int j) H)
theorem oq (T : Tx w K mg) : Om P w mg base 1 T.cP (Ly K) := by
 refine bZ vC ?_
 rintro _ _ _ _ _ _ _ _ _ ⟨x, C, dx, fs, j, rfl, hx, hc, n1, hl, q⟩
 refine ⟨_, (aq (aw (bj rfl (aa 0) rfl))), ?_⟩
 walk_at "gzn"
 exact ⟨_, _, _, hx, hc, n1, _, hl, q⟩
inductive Lz (K : PySem.W.Frag) (vs : List V) (H : Hp) (Q : VK) (aN : XK) : Prop
 | mk (x C dx : Addr) (fs : List (Str × V)) (j : Int) (_ : vs = [.ref x]) (_ : H x = some (.ins C dx fs)) (_ : bc K C) (_ : bg K C "turn") (_ : fs.lookup ("turn" : Str) = some (.int j)) (_ : Q (.int (j + 1)) H)
theorem LA (T : Tx w K mg) : Om P w mg base 1 T.i4 (Lz K) := by
 refine bZ vU ?_
 rintro _ _ _ _ _ _ _ _ _ ⟨x, C, dx, fs, j, rfl, hx, hc, n1, hl, q⟩
 refine ⟨_, (aq (aw (az a9 (bj rfl (aa 0) rfl) af))), ?_⟩
 walk_at "gzn"
 exact ⟨_, _, _, hx, hc, n1, _, hl, q⟩
end
section
seal L2.PE L2.PS L2.aV L2.PA
variable {P : Program} {w : World} {K : PySem.W.Frag} {mg : Str -> Option Value} {base : Heap}
noncomputable def BW (lo : En) : List S2 := match lo with | none => [] | some l => [(none, some (l - 1))]
noncomputable def BX (hi : En) : List S2 := match hi with | none => [] | some h => [(some (h + 1), none)]
theorem LB (lo hi : En) : cU (lo, hi) = BW lo ++ BX hi := by cases lo <;> cases hi <;> rfl
inductive LC (K : PySem.W.Frag) (vs : List V) (H : Hp) (Q : VK) (aN : XK) : Prop
 | mk (p : Addr) (s : S2) (_ : vs = [.ref p]) (_ : H p = some (.tup [ev s.1, ev s.2])) (_ : ∀ l xs H', ah H H' -> H l = none -> H' l = some (.lst xs) -> cS H' xs (cU s) -> Q (.ref l) H')
theorem LD (T : Tx w K mg) : Ok P w base 1 T.nG (LC K) := by
 refine b9 ni ?_
 rintro _ _ _ s H _ _ _ _ ⟨p, ⟨lo, hi⟩, rfl, hp, q⟩
 refine ⟨_, (au (aY 1 ni.nd (oW (tH (ar (aa 0) af)) (cA ag) (cA (ae (bh (ae dU (ae (az cW (ar (aa 0) af) af) ag))) ag)))) (au (aY 2 ni.nd (oW (tH (ar (aa 0) af)) (cA ag) (cA (ae (bh (ae (az a9 (ar (aa 0) af) af) (ae dU ag))) ag)))) (aq (aw (az gE (aa 1) (aa 2)))))), ?_⟩
 replace hp : H p = some (.tup [ev lo, ev hi]) := hp
 rw [LB] at q
 refine bb (fun σ H1 => ∃ a xs, σ = [some (.ref p), some (.ref a), none] /\ ah H H1 /\ H1 a = some (.lst xs) /\ xs.length <= 1 /\ av (fun v (s : S2) => bY H1 v s.1 s.2) xs (BW lo)) (fun N hN => ?_) ?_
 ·clear q
  rcases lo with _ | lo
  ·walk_at "gzn"
   refine aG hp ?_
   walk_at "gzn"
   exact ⟨by decide, fun a ha => hN _ _ ⟨a, [], rfl, ak ha, aj, by decide, trivial⟩⟩
  ·walk_at "gzn"
   refine aG hp ?_
   walk_at "gzn"
   refine aG hp ?_
   walk_at "gzn"
   exact ⟨bI, fun ta xb => ⟨by decide, fun a ha => hN _ _ ⟨a, [.ref ta], rfl, (ak xb).trans (ak ha), aj, Nat.le_refl _, ⟨ta, rfl, (ak ha) _ _ aj⟩, trivial⟩⟩⟩
 rintro σ H1 ⟨a, xs, rfl, s1, ha, xl, hx⟩
 refine bb (fun σ H2 => ∃ b ys, σ = [some (.ref p), some (.ref a), some (.ref b)] /\ ah H1 H2 /\ H2 b = some (.lst ys) /\ ys.length <= 1 /\ av (fun v (s : S2) => bY H2 v s.1 s.2) ys (BX hi)) (fun N hN => ?_) ?_
 ·clear q
  replace hp := s1 _ _ hp
  rcases hi with _ | hi
  ·walk_at "gzn"
   refine aG hp ?_
   walk_at "gzn"
   exact ⟨by decide, fun a ha => hN _ _ ⟨a, [], rfl, ak ha, aj, by decide, trivial⟩⟩
  ·walk_at "gzn"
   refine aG hp ?_
   walk_at "gzn"
   refine aG hp ?_
   walk_at "gzn"
   exact ⟨bI, fun ta xb => ⟨by decide, fun a ha => hN _ _ ⟨a, [.ref ta], rfl, (ak xb).trans (ak ha), aj, Nat.le_refl _, ⟨ta, rfl, (ak ha) _ _ aj⟩, trivial⟩⟩⟩
 rintro σ H2 ⟨b, ys, rfl, s2, hb, yl, hy⟩
 walk_at "gzn"
 exact ⟨_, s2 _ _ ha, _, hb, Nat.le_trans (by lia : xs.length + ys.length <= 2) (by decide), fun c hc => q c _ _ (s1.trans (s2.trans (ak hc))) ((s1.trans s2).free hc) aj (sT.mpr (av.app (hx.imp fun _ _ z => bY.same z (s2.trans (ak hc))) (hy.imp fun _ _ z => bY.same z (ak hc))))⟩
inductive LF (K : PySem.W.Frag) (vs : List V) (H : Hp) (Q : VK) (aN : XK) : Prop
 | mk (a : Addr) (xs : List V) (ps : List Pa) (_ : vs = [.ref a]) (_ : ao K H a xs) (_ : cN H xs ps) (_ : ps.length <= 100) (_ : ∀ l ys H', ah H H' -> H l = none -> H' l = some (.lst ys) -> av (bA H H') ys (bq ps) -> Q (.ref l) H')
inductive LG (H : Hp) (a l : Addr) (ps : List Pa) (i : Nat) (σ : St) (H1 : Hp) : Prop
 | mk (ys : List V) (e : Option V) (_ : σ = [some (.ref a), some (.ref l), e]) (_ : ah H H1) (_ : H1 l = some (.lst ys)) (_ : av (eB H l H1) ys (bq (ps.take i))) (_ : ys.length <= 2 * i)
theorem ot (T : Tx w K mg) : Ok P w base 2 T.nH (LF K) := by
 refine b9 nj ?_
 rintro _ _ _ s H _ Q _ hr ⟨a, xs, ps, rfl, hS, hP, hn, q⟩
 refine ⟨_, (au (aY 1 nj.nd (cA ag)) (au (iA PassesOwn.never rfl (gy (aa 0)) (iO 2 nj.nd) (aq (eH (fu PySem.F.plainAttrs_list PySem.F.slot_list_extend PySem.F.type_list_extend rE (aa 1) (ae (fw (cO [2] ["part"]) rfl (gy (aJ (LD T) hr (ae (ar (aa 2) af) ag))) (fun C s2 H2 ex pn => ⟨d7, (cA (ae (bh (ae (eO (K := K) (aa 1) af) (ae (eO (K := K) (aa 1) af) (ae (aa 0) ag)))) ag))⟩)) ag))))) (aq (aw (aa 1))))), ?_⟩
 have hl := hP.len
 walk_at "gzn"
 refine ⟨by decide, fun l ij => ?_⟩
 have s1 := ak (o := .lst []) ij
 have e1 : upd H l (.lst []) l = some (.lst []) := aj
 generalize upd H l (.lst []) = H1 at s1 e1 ⊢
 refine ⟨⟨_, s1.seq hS⟩, rM (xs := xs) (LG H a l ps) ⟨[], _, rfl, s1, e1, trivial, Nat.zero_le _⟩ ?_ ?_ ?_⟩
 ·rintro i σ H2 _ ⟨_, _, _, s2, _⟩
  exact s2.seq hS
 ·rintro i x σ H2 hx ⟨ys, e, rfl, s2, aZ, hy, hlen⟩
  obtain ⟨p, hp, tp, sp, rfl, h1, h2⟩ := hP.get hx
  have xf := s2 _ _ h1
  have LH := s2 _ _ h2
  walk_at "gzn"
  refine ⟨.inl ⟨rfl, _, ao.of aZ⟩, aG xf ?_⟩
  refine ⟨sp, p.2.2, rfl, LH, fun o os H3 s3 _ ho g6 => ?_⟩
  walk_at "gzn"
  have BY := sT.mp g6
  have Qf := BY.len
  have Qg := sV p.2.2
  refine ⟨⟨_, ao.of ho⟩, d8 jI (Nat.le_trans (by lia : os.length <= 2) (by decide)) (jM (R := fun H x (s : S2) => bY H x s.1 s.2) (R' := eB H l) (f := fun s => [((p.1, p.2.1, s) : Pa)]) (fun _ _ _ _ s' h => h.same s') (fun _ _ _ _ s' h => h.same s') BY (bs := []) trivial (fun H' s' => ao.of (s' _ _ ho)) (fun x k _ H4 s4 r Q h => ?_) (fun x k _ H4 s4 r Q h => ?_) fun H4 zs s4 hz => ?_)⟩
  ·walk_at "gzn"
   exact h
  ·obtain ⟨xo, rfl, hxo⟩ := r
   have S4 := s3.trans s4
   walk_at "gzn"
   refine aO (ay.of (S4 _ _ xf)) rfl (aO (ay.of (S4 _ _ xf)) rfl ⟨by decide, fun t ht => ⟨by decide, fun c hc => ?_⟩⟩)
   have u1 := ak (o := .tup [.str p.1, .int p.2.1, .ref xo]) ht
   have u2 := ak (o := .lst [.ref t]) hc
   have cl : c ≠ l := fun z => by rw [z, u1 _ _ (S4 _ _ aZ)] at hc; cases hc
   exact h _ _ (u1.trans u2) ⟨c, [.ref t], rfl, cl, (s2.trans (S4.trans u1)).free hc, aj, ⟨t, xo, rfl, u2 _ _ aj, (u1.trans u2) _ _ hxo⟩, trivial⟩
  ·intro b hb
   rw [List.nil_append] at hz
   have S4 := s3.trans s4
   have u := ak (o := .lst zs) hb
   have xg := hz.len
   rw [List.length_map] at xg
   have hi : i < xs.length := (List.getElem?_eq_some_iff.mp hx).1
   refine ⟨l, b, _, _, rfl, rfl, u _ _ (S4 _ _ aZ), aj, Nat.le_trans (by lia : ys.length + zs.length <= 300) (by decide), ys ++ zs, _, rfl, fv ij (s2.trans (S4.trans u)), aj, ?_, by rw [List.length_append]; lia⟩
   rw [HM hp]
   have a1 := (hy.imp fun _ _ r => (r.same (S4.trans u)).put (o := .lst (ys ++ zs)) (u _ _ (S4 _ _ aZ)))
   have a2 := (hz.imp fun _ _ r => (r.same u).put (o := .lst (ys ++ zs)) (u _ _ (S4 _ _ aZ)))
   exact a1.app a2
 ·rintro σ H2 ⟨ys, e, rfl, s2, aZ, hy, hlen⟩
  walk_at "gzn"
  rw [hl, List.take_length] at hy
  exact q l ys H2 s2 ij aZ (hy.imp fun _ _ r => r.sU)
inductive LI (K : PySem.W.Frag) (vs : List V) (H : Hp) (Q : VK) (aN : XK) : Prop
 | mk (i j : Int) (p : Addr) (s : S2) (_ : vs = [.int i, .int j, .ref p]) (_ : H p = some (.tup [ev s.1, ev s.2])) (_ : (0 <= i /\ i <= 12)) (_ : (-1 <= j /\ j <= 11)) (_ : ∀ l xs H', ah H H' -> H l = none -> H' l = some (.lst xs) -> cN H' xs (aU i j s) -> Q (.ref l) H')
theorem qu (T : Tx w K mg) : Ok P w base 1 T.nJ (LI K) := by
 refine b9 vy ?_
 rintro _ _ _ s _ _ Q _ _ ⟨i, j, p, s, rfl, hp, hi, hj, q⟩
 refine ⟨_, (aq (aw (fw (cO [2] ["one"]) rfl (l9 rfl T.gP (ae (aa 0) (ae (az a9 (aa 1) af) ag))) (fun C s2 H2 ex pn => ⟨d7, (bh (ae aH (ae (aa 0) (ae (aa 1) ag))))⟩)))), ?_⟩
 walk_at "gzn"
 refine ⟨by lia, by lia, by lia, by lia, d8 jJ (by rw [List.length_map, List.length_range]; exact Nat.le_trans (by lia : _ <= 20) (by decide)) (jM (R := fun _ x (k : Nat) => x = V.int (i + k)) (R' := fB) (f := fun (k : Nat) => (("at", i + (k : Int), s) : Pa)) (fun _ _ _ _ _ h => h) (fun _ _ _ _ s' h => h.same s') (av.gq _) (bs := []) trivial (fun _ _ => trivial) (fun x k _ H2 s2 r Q h => ?_) (fun x k _ H2 s2 r Q h => ?_) fun H2 zs s2 hz => ?_)⟩
 ·walk_at "gzn"
  exact h
 ·subst r
  walk_at "gzn"
  exact ⟨by decide, fun t ht => h _ _ (ak ht) ⟨t, p, rfl, aj, (ak ht) _ _ (s2 _ _ hp)⟩⟩
 ·intro l hl
  refine q l zs _ (s2.trans (ak hl)) (s2.free hl) aj ?_
  rw [List.nil_append] at hz
  exact hz.imp fun _ _ r => r.same (ak hl)
end
section
seal L2.PE L2.PS L2.aV L2.PA
variable {P : Program} {w : World} {K : PySem.W.Frag} {mg : Str -> Option Value} {base : Heap}
inductive LJ (K : PySem.W.Frag) (vs : List V) (H : Hp) (Q : VK) (aN : XK) : Prop
 | mk (x C dx p : Addr) (fs : List (Str × V)) (i j : Int) (s : S2) (_ : vs = [.ref x, .ref p]) (_ : H x = some (.ins C dx fs)) (_ : bc K C) (_ : bg K C "first") (_ : bg K C "last") (_ : fs.lookup ("first" : Str) = some (.int i)) (_ : fs.lookup ("last" : Str) = some (.int j)) (_ : bp i j) (_ : H p = some (.tup [ev s.1, ev s.2])) (_ : ∀ l xs H', ah H H' -> H l = none -> H' l = some (.lst xs) -> cN H' xs (aU i j s) -> Q (.ref l) H')
theorem lL (T : Tx w K mg) : Om P w mg base 2 T.cH (LJ K) := by
 refine bZ vD ?_
 rintro _ _ _ s _ _ _ _ hr ⟨x, C, dx, p, fs, i, j, s, rfl, hx, hc, n1, n2, l1, l2, hk, hp, q⟩
 refine ⟨_, (aq (aw (aJ (qu T) hr (ae (bj rfl (aa 0) rfl) (ae (bj rfl (aa 0) rfl) (ae (aa 1) ag)))))), ?_⟩
 obtain ⟨k1, k2, k3⟩ := hk
 walk_at "gzn"
 refine ⟨_, _, _, hx, hc, n1, _, l1, _, _, _, hx, hc, n2, _, l2, ?_⟩
 exact ⟨i, j, p, s, rfl, hp, by lia, by lia, q⟩
inductive LK (C : Addr) (vs : List V) (H : Hp) (Q : VK) (aN : XK) : Prop
 | mk (x dx p : Addr) (i j : Int) (s : S2) (_ : vs = [.ref x]) (_ : H x = some (.ins C dx [("first", .int i), ("last", .int j), ("stretch", .ref p)])) (_ : bp i j) (_ : H p = some (.tup [ev s.1, ev s.2])) (_ : ∀ l ys H', ah H H' -> H l = none -> H' l = some (.lst ys) -> av (bA H H') ys [aU i j s] -> Q (.ref l) H')
theorem LL (T : Tx w K mg) : Om P w mg base 3 T.iS (LK T.br) := by
 refine bZ vF ?_
 rintro _ _ _ s _ _ _ _ hr ⟨x, dx, p, i, j, s, rfl, hx, hk, hp, q⟩
 refine ⟨_, (aq (aw (cA (ae (kJ (aa 0) T.dD T.BH (lL T) hr.m T.cH.b .nil dY (ae (bj rfl (aa 0) rfl) ag)) ag)))), ?_⟩
 walk_at "gzn"
 refine ⟨_, _, hx, rfl, _, _, _, hx, T.dD, T.n3, _, rfl, ?_⟩
 exact ⟨x, T.br, dx, p, _, i, j, s, rfl, hx, T.dD, T.n0, T.lF, rfl, rfl, hk, hp, fun l xs H1 s1 fl hl hP => ⟨by decide, fun c hc => q c _ _ (s1.trans (ak hc)) (s1.free hc) aj ⟨⟨l, xs, rfl, fl, (ak hc) _ _ hl, hP.same (ak hc)⟩, trivial⟩⟩⟩
inductive LM (C : Addr) (vs : List V) (H : Hp) (Q : VK) (aN : XK) : Prop
 | mk (x dx : Addr) (i j z : Int) (_ : vs = [.ref x]) (_ : H x = some (.ins C dx [("first", .int i), ("last", .int j), ("sill", .int z)])) (_ : bp i j) (_ : ∀ l ys H', ah H H' -> H l = none -> H' l = some (.lst ys) -> av (bA H H') ys (bq (aU i j (none, some (z - 1)))) -> Q (.ref l) H')
theorem LN (T : Tx w K mg) : Om P w mg base 3 T.iU (LM T.bu) := by
 refine bZ vI ?_
 rintro _ _ _ _ _ _ _ _ hr ⟨x, dx, i, j, z, rfl, hx, hk, q⟩
 refine ⟨_, (aq (aw (aJ (ot T) hr (ae (kJ (aa 0) T.dE T.BI (lL T) hr.m T.cH.b .nil dY (ae (bh (ae dU (ae (az cW (bj rfl (aa 0) rfl) af) ag))) ag)) ag)))), ?_⟩
 walk_at "gzn"
 refine ⟨_, _, hx, rfl, _, _, _, hx, T.dE, T.n5, _, rfl, bI, fun t ht => ?_⟩
 have s0 := ak (o := .tup [.non, .int (z - 1)]) ht
 refine ⟨x, T.bu, dx, t, _, i, j, (none, some (z - 1)), rfl, s0 _ _ hx, T.dE, T.n4, T.lG, rfl, rfl, hk, aj, fun l xs H1 s1 _ hl hP => ?_⟩
 have hlen := dA i j (none, some (z - 1))
 obtain ⟨k1, k2, k3⟩ := id hk
 exact ⟨l, xs, _, rfl, ao.of hl, hP, by lia, fun c ys H2 s2 fc hc hy => q c ys H2 (s0.trans (s1.trans s2)) ((s0.trans s1).free fc) hc (hy.imp fun _ _ r => r.back (s0.trans s1))⟩
inductive LO (C : Addr) (vs : List V) (H : Hp) (Q : VK) (aN : XK) : Prop
 | mk (x dx : Addr) (i j z : Int) (_ : vs = [.ref x]) (_ : H x = some (.ins C dx [("first", .int i), ("last", .int j), ("sill", .int z)])) (_ : bp i j) (_ : ∀ l ys H', ah H H' -> H l = none -> H' l = some (.lst ys) -> av (bA H H') ys (bq (aU i j (some (z + 1), none))) -> Q (.ref l) H')
theorem LP (T : Tx w K mg) : Om P w mg base 3 T.iW (LO T.bw) := by
 refine bZ vL ?_
 rintro _ _ _ _ _ _ _ _ hr ⟨x, dx, i, j, z, rfl, hx, hk, q⟩
 refine ⟨_, (aq (aw (aJ (ot T) hr (ae (kJ (aa 0) T.dF T.BJ (lL T) hr.m T.cH.b .nil dY (ae (bh (ae (az a9 (bj rfl (aa 0) rfl) af) (ae dU ag))) ag)) ag)))), ?_⟩
 walk_at "gzn"
 refine ⟨_, _, hx, rfl, _, _, _, hx, T.dF, T.n9, _, rfl, bI, fun t ht => ?_⟩
 have s0 := ak (o := .tup [.int (z + 1), .non]) ht
 refine ⟨x, T.bw, dx, t, _, i, j, (some (z + 1), none), rfl, s0 _ _ hx, T.dF, T.n6, T.lH, rfl, rfl, hk, aj, fun l xs H1 s1 _ hl hP => ?_⟩
 have hlen := dA i j (some (z + 1), none)
 obtain ⟨k1, k2, k3⟩ := id hk
 exact ⟨l, xs, _, rfl, ao.of hl, hP, by lia, fun c ys H2 s2 fc hc hy => q c ys H2 (s0.trans (s1.trans s2)) ((s0.trans s1).free fc) hc (hy.imp fun _ _ r => r.back (s0.trans s1))⟩
inductive LQ (C : Addr) (vs : List V) (H : Hp) (Q : VK) (aN : XK) : Prop
 | mk (x dx p : Addr) (i j : Int) (s : S2) (_ : vs = [.ref x]) (_ : H x = some (.ins C dx [("first", .int i), ("last", .int j), ("stretch", .ref p)])) (_ : bp i j) (_ : H p = some (.tup [ev s.1, ev s.2])) (_ : ∀ l xs H', ah H H' -> H l = none -> H' l = some (.lst xs) -> cN H' xs (cV i j s) -> Q (.ref l) H')
theorem BZ (T : Tx w K mg) : Om P w mg base 1 T.ie (LQ T.bo) := by
 refine bZ vQ ?_
 rintro _ _ _ s _ _ Q _ _ ⟨x, dx, p, i, j, s, rfl, hx, hk, hp, q⟩
 refine ⟨_, (aq (aw (fw (cO [0] ["self"]) rfl (l9 rfl T.gP (ae (bj rfl (aa 0) rfl) (ae (bj rfl (aa 0) rfl) ag))) (fun C s2 H2 ex pn => ⟨d7, (bh (ae aH (ae (aa 0) (ae (bj (K := K) rfl (aa 1) rfl) ag))))⟩)))), ?_⟩
 obtain ⟨k1, k2, k3⟩ := hk
 walk_at "gzn"
 refine ⟨_, _, _, hx, T.dN, T.qq, _, rfl, _, _, _, hx, T.dN, T.oh, _, rfl, _, rfl, _, rfl, by lia, by lia, by lia, by lia, ?_⟩
 refine d8 jJ (by rw [List.length_map, List.length_range]; exact Nat.le_trans (by lia : _ <= 20) (by decide)) (jM (R := fun _ x (k : Nat) => x = V.int (i + k)) (R' := fB) (f := fun (k : Nat) => (("step", i + (k : Int), s) : Pa)) (fun _ _ _ _ _ h => h) (fun _ _ _ _ s' h => h.same s') (av.gq _) (bs := []) trivial (fun _ _ => trivial) (fun x k _ H2 s2 r Q h => ?_) (fun y k _ H2 s2 r Q h => ?_) fun H2 zs s2 hz => ?_)
 ·walk_at "gzn"
  exact h
 ·subst r
  walk_at "gzn"
  refine ⟨_, _, _, s2 _ _ hx, T.dN, T.qr, _, rfl, by decide, fun t ht => h _ _ (ak ht) ⟨t, p, rfl, aj, (ak ht) _ _ (s2 _ _ hp)⟩⟩
 ·intro l hl
  refine q l zs _ (s2.trans (ak hl)) (s2.free hl) aj ?_
  rw [List.nil_append] at hz
  exact hz.imp fun _ _ r => r.same (ak hl)
inductive LR (C : Addr) (vs : List V) (H : Hp) (Q : VK) (aN : XK) : Prop
 | mk (x dx p : Addr) (i j : Int) (s : S2) (_ : vs = [.ref x]) (_ : H x = some (.ins C dx [("first", .int i), ("last", .int j), ("stretch", .ref p)])) (_ : bp i j) (_ : H p = some (.tup [ev s.1, ev s.2])) (_ : ∀ l ys H', ah H H' -> H l = none -> H' l = some (.lst ys) -> av (bA H H') ys [cV i j s] -> Q (.ref l) H')
theorem LS (T : Tx w K mg) : Om P w mg base 2 T.i0 (LR T.bo) := by
 refine bZ vR ?_
 rintro _ _ _ s _ _ _ _ hr ⟨x, dx, p, i, j, s, rfl, hx, hk, hp, q⟩
 refine ⟨_, (aq (aw (cA (ae (pj (aa 0) T.dN T.BK (BZ T) hr.m T.ie.b .nil dY) ag)))), ?_⟩
 walk_at "gzn"
 refine ⟨_, _, hx, rfl, ?_⟩
 exact ⟨x, dx, p, i, j, s, rfl, hx, hk, hp, fun l xs H1 s1 fl hl hP => ⟨by decide, fun c hc => q c _ _ (s1.trans (ak hc)) (s1.free hc) aj ⟨⟨l, xs, rfl, fl, (ak hc) _ _ hl, hP.same (ak hc)⟩, trivial⟩⟩⟩
noncomputable def fY (t : Int) : List Pa := [("step", t - 1, some 1, none), ("step", t, none, some (-1))]
inductive LU (C : Addr) (vs : List V) (H : Hp) (Q : VK) (aN : XK) : Prop
 | mk (x dx : Addr) (t : Int) (_ : vs = [.ref x]) (_ : H x = some (.ins C dx [("turn", .int t)])) (_ : ∀ l xs H', ah H H' -> H l = none -> H' l = some (.lst xs) -> cN H' xs (fY t) -> Q (.ref l) H')
theorem B0 (T : Tx w K mg) : Om P w mg base 1 T.ig (LU T.bE) := by
 refine bZ vV ?_
 rintro _ _ _ _ _ _ _ _ _ ⟨x, dx, t, rfl, hx, q⟩
 refine ⟨_, (aq (aw (cA (ae (bh (ae aH (ae (az cW (bj rfl (aa 0) rfl) af) (ae (bh (ae af (ae dU ag))) ag)))) (ae (bh (ae aH (ae (bj rfl (aa 0) rfl) (ae (bh (ae dU (ae (jv jS af) ag))) ag)))) ag))))), ?_⟩
 walk_at "gzn"
 refine ⟨_, _, _, hx, T.eF, T.lJ, _, rfl, bI, fun a ha => ⟨by decide, fun b hb => ?_⟩⟩
 have sa := ak (o := .tup [.int 1, .non]) ha
 have sb := ak (o := .tup [.str "step", .int (t - 1), .ref a]) hb
 refine ⟨_, _, _, (sa.trans sb) _ _ hx, T.eF, T.lJ, _, rfl, bI, fun c hc => ⟨by decide, fun d hd => ⟨by decide, fun e he => ?_⟩⟩⟩
 have sc := ak (o := .tup [.non, .int (-1)]) hc
 have sd := ak (o := .tup [.str "step", .int t, .ref c]) hd
 have se := ak (o := .lst [.ref b, .ref d]) he
 have zd := sd.trans se
 have zc := sc.trans zd
 have zb := sb.trans zc
 exact q e _ _ (sa.trans zb) ((sa.trans (sb.trans (sc.trans sd))).free he) aj ⟨⟨b, a, rfl, zc _ _ aj, zb _ _ aj⟩, ⟨d, c, rfl, se _ _ aj, zd _ _ aj⟩, trivial⟩
inductive LV (C : Addr) (vs : List V) (H : Hp) (Q : VK) (aN : XK) : Prop
 | mk (x dx : Addr) (t : Int) (_ : vs = [.ref x]) (_ : H x = some (.ins C dx [("turn", .int t)])) (_ : ∀ l ys H', ah H H' -> H l = none -> H' l = some (.lst ys) -> av (bA H H') ys [fY t] -> Q (.ref l) H')
theorem LW (T : Tx w K mg) : Om P w mg base 2 T.i5 (LV T.bE) := by
 refine bZ vW ?_
 rintro _ _ _ _ _ _ _ _ hr ⟨x, dx, t, rfl, hx, q⟩
 refine ⟨_, (aq (aw (cA (ae (pj (aa 0) T.eF T.BM (B0 T) hr.m T.ig.b .nil dY) ag)))), ?_⟩
 walk_at "gzn"
 refine ⟨_, _, hx, rfl, ?_⟩
 exact ⟨x, dx, t, rfl, hx, fun l xs H1 s1 fl hl hP => ⟨by decide, fun c hc => q c _ _ (s1.trans (ak hc)) (s1.free hc) aj ⟨⟨l, xs, rfl, fl, (ak hc) _ _ hl, hP.same (ak hc)⟩, trivial⟩⟩⟩
noncomputable def qv (i j l h : Int) (n : Nat) : List (List Pa) := (List.range n).flatMap fun k => (aU (i + (k : Nat) + 1) j (some h, none)).map fun p => [(("at", i + (k : Nat), none, some l) : Pa), p]
theorem LX (i j l h : Int) (n : Nat) : qv i j l h (n + 1) = qv i j l h n ++ (aU (i + (n : Nat) + 1) j (some h, none)).map fun p => [(("at", i + (n : Nat), none, some l) : Pa), p] := by
 unfold qv
 rw [List.range_succ, List.flatMap_append]
 simp
inductive LY (H : Hp) (x r : Addr) (i j l h : Int) (n : Nat) (σ : St) (H1 : Hp) : Prop
 | mk (ys : List V) (e1 e2 : Option V) (_ : σ = [some (.ref x), some (.ref r), e1, e2]) (_ : ah H H1) (_ : H1 r = some (.lst ys)) (_ : av (eB H r H1) ys (qv i j l h n)) (_ : ys.length <= 12 * n)
inductive LZ (C : Addr) (vs : List V) (H : Hp) (Q : VK) (aN : XK) : Prop
 | mk (x dx : Addr) (i j l h : Int) (_ : vs = [.ref x]) (_ : H x = some (.ins C dx [("first", .int i), ("last", .int j), ("low", .int l), ("high", .int h)])) (_ : bp i j) (_ : ∀ r ys H', ah H H' -> H r = none -> H' r = some (.lst ys) -> av (bA H H') ys (eE i j l h) -> Q (.ref r) H')
theorem L0 (T : Tx w K mg) : Om P w mg base 2 T.iY (LZ T.bx) := by
 refine bZ lz ?_
 rintro _ _ _ s H _ Q _ hr ⟨x, dx, i, j, l, h, rfl, hx, hk, q⟩
 refine ⟨_, (au (aY 1 lz.nd (cA ag)) (au (iA PassesOwn.never rfl (l9 rfl T.gP (ae (bj rfl (aa 0) rfl) (ae (bj rfl (aa 0) rfl) ag))) (iO 2 lz.nd) (au (aY 3 lz.nd (cA (ae (bh (ae aH (ae (aa 2) (ae (bh (ae dU (ae (bj rfl (aa 0) rfl) ag))) ag)))) ag))) (aq (eH (fu PySem.F.plainAttrs_list PySem.F.slot_list_extend PySem.F.type_list_extend rE (aa 1) (ae (fw (cO [3] ["lows"]) rfl (gy (aJ (qu T) hr (ae (az a9 (aa 2) af) (ae (bj rfl (aa 0) rfl) (ae (bh (ae (bj rfl (aa 0) rfl) (ae dU ag))) ag))))) (fun C s2 H2 ex pn => ⟨d7, (az gE (aa 1) (cA (ae (aa 0) ag)))⟩)) ag)))))) (aq (aw (aa 1))))), ?_⟩
 obtain ⟨k1, k2, k3⟩ := id hk
 walk_at "gzn"
 refine ⟨by decide, fun r xi => ?_⟩
 have s1 := ak (o := .lst []) xi
 have e1 : upd H r (.lst []) r = some (.lst []) := aj
 generalize upd H r (.lst []) = H1 at s1 e1 ⊢
 refine ⟨_, _, _, s1 _ _ hx, T.cI, T.lI, _, rfl, _, _, _, s1 _ _ hx, T.cI, T.jk, _, rfl, _, rfl, _, rfl, by lia, by lia, by lia, by lia, ?_⟩
 refine rL (LY H x r i j l h) ⟨[], _, _, rfl, s1, e1, trivial, Nat.zero_le _⟩ ?_ ?_
 ·rintro k σ H2 Qh ⟨ys, _, _, rfl, s2, fZ, hy, hlen⟩
  walk_at "gzn"
  refine ⟨_, _, _, s2 _ _ hx, T.cI, T.oa, _, rfl, bI, fun a ha => ⟨by decide, fun b hb => ⟨by decide, fun lo qw => ?_⟩⟩⟩
  have sa := ak (o := .tup [.non, .int l]) ha
  have sb := ak (o := .tup [.str "at", .int (i + (k : Int)), .ref a]) hb
  have sl := ak (o := .lst [.ref b]) qw
  have S3 := sa.trans (sb.trans sl)
  have eb : fB (upd (upd (upd H2 a (.tup [.non, .int l])) b (.tup [.str "at", .int (i + (k : Int)), .ref a])) lo (.lst [.ref b])) (.ref b) (("at", i + (k : Int), none, some l) : Pa) := ⟨b, a, rfl, sl _ _ aj, (sb.trans sl) _ _ aj⟩
  have B1 : (upd (upd (upd H2 a (.tup [.non, .int l])) b (.tup [.str "at", .int (i + (k : Int)), .ref a])) lo (.lst [.ref b])) lo = some (.lst [.ref b]) := aj
  generalize upd (upd (upd H2 a (.tup [.non, .int l])) b (.tup [.str "at", .int (i + (k : Int)), .ref a])) lo (.lst [.ref b]) = H3 at S3 eb B1 ⊢
  walk_at "gzn"
  have ou := S3 _ _ fZ
  have ow := S3 _ _ (s2 _ _ hx)
  refine ⟨.inl ⟨rfl, _, ao.of ou⟩, _, _, _, ow, T.cI, T.jk, _, rfl, _, _, _, ow, T.cI, T.og, _, rfl, bI, fun c hc => ?_⟩
  have sc := ak (o := .tup [.int h, .non]) hc
  refine ⟨_, _, c, (some h, none), rfl, aj, by lia, by lia, fun g gs H4 s4 _ hg hG => ?_⟩
  have S4 := sc.trans s4
  have xj := hG.len
  rw [dA] at xj
  walk_at "gzn"
  refine ⟨⟨_, ao.of hg⟩, d8 jI (Nat.le_trans (by lia : gs.length <= 12) (by decide)) (jM (R := fB) (R' := eB H r) (f := fun p => [(("at", i + (k : Int), none, some l) : Pa), p]) (fun _ _ _ _ s' h => h.same s') (fun _ _ _ _ s' h => h.same s') hG (bs := []) trivial (fun H' s' => ao.of (s' _ _ hg)) (fun x k _ H5 s5 r Q h => ?_) (fun y p _ H5 s5 ry Q h => ?_) fun H5 zs s5 hz => ?_)⟩
  ·walk_at "gzn"
   exact h
  ·have S5 := S4.trans s5
   walk_at "gzn"
   refine ⟨by decide, fun d hd => ?_⟩
   have sd := ak (o := .lst [y]) hd
   refine ⟨_, sd _ _ (S5 _ _ B1), _, aj, (show 2 <= sizeLine by decide), fun m hm => ?_⟩
   have sm := ak (o := .lst ([.ref b] ++ [y])) hm
   have mr : m ≠ r := fun z => by rw [z, sd _ _ (S5 _ _ ou)] at hm; cases hm
   exact h _ _ (sd.trans sm) ⟨m, [.ref b, y], rfl, mr, (s2.trans (S3.trans (S5.trans sd))).free hm, aj, (eb.same (S5.trans (sd.trans sm))), ry.same (sd.trans sm), trivial⟩
  ·intro d hd
   rw [List.nil_append] at hz
   have u := (S4.trans s5).trans (ak (o := .lst zs) hd)
   have xg := hz.len
   rw [List.length_map, dA] at xg
   refine ⟨r, d, _, _, rfl, rfl, u _ _ ou, aj, Nat.le_trans (by lia : ys.length + zs.length <= 300) (by decide), ys ++ zs, _, _, rfl, fv xi (s2.trans (S3.trans u)), aj, ?_, by rw [List.length_append]; lia⟩
   rw [LX]
   have a1 := (hy.imp fun _ _ z => (z.same (S3.trans u)).put (o := .lst (ys ++ zs)) (u _ _ ou))
   have a2 := (hz.imp fun _ _ z => (z.same (ak (o := .lst zs) hd)).put (o := .lst (ys ++ zs)) (u _ _ ou))
   exact a1.app a2
 ·rintro σ H2 ⟨ys, _, _, rfl, s2, fZ, hy, hlen⟩
  walk_at "gzn"
  exact q r ys H2 s2 xi fZ (hy.imp fun _ _ z => z.sU)
end
section
seal L2.PE L2.PS L2.aV L2.PA
variable {P : Program} {w : World} {K : PySem.W.Frag} {mg : Str -> Option Value} {base : Heap}
inductive L1 (C : Addr) (vs : List V) (H : Hp) (Q : VK) (aN : XK) : Prop
 | mk (x dx p : Addr) (i j : Int) (s : S2) (_ : vs = [.ref x]) (_ : H x = some (.ins C dx [("first", .int i), ("last", .int j), ("stretch", .ref p)])) (_ : bp i j) (_ : H p = some (.tup [ev s.1, ev s.2])) (_ : ∀ l ys H', ah H H' -> H l = none -> H' l = some (.lst ys) -> av (bA H H') ys (bq (aU i j s)) -> Q (.ref l) H')
theorem L3 (T : Tx w K mg) : Om P w mg base 3 T.iT (L1 T.br) := by
 refine bZ vG ?_
 rintro _ _ _ s _ _ _ _ hr ⟨x, dx, p, i, j, s, rfl, hx, hk, hp, q⟩
 refine ⟨_, (aq (aw (aJ (ot T) hr (ae (kJ (aa 0) T.dD T.BH (lL T) hr.m T.cH.b .nil dY (ae (bj rfl (aa 0) rfl) ag)) ag)))), ?_⟩
 walk_at "gzn"
 refine ⟨_, _, hx, rfl, _, _, _, hx, T.dD, T.n3, _, rfl, ?_⟩
 have hlen := dA i j s
 obtain ⟨k1, k2, k3⟩ := id hk
 exact ⟨x, T.br, dx, p, _, i, j, s, rfl, hx, T.dD, T.n0, T.lF, rfl, rfl, hk, hp, fun l xs H1 s1 _ hl hP => ⟨l, xs, _, rfl, ao.of hl, hP, by lia, fun c ys H2 s2 fc hc hy => q c ys H2 (s1.trans s2) (s1.free fc) hc (hy.imp fun _ _ r => r.back s1)⟩⟩
inductive L4 (C : Addr) (vs : List V) (H : Hp) (Q : VK) (aN : XK) : Prop
 | mk (x dx : Addr) (i j z : Int) (_ : vs = [.ref x]) (_ : H x = some (.ins C dx [("first", .int i), ("last", .int j), ("sill", .int z)])) (_ : bp i j) (_ : ∀ l ys H', ah H H' -> H l = none -> H' l = some (.lst ys) -> av (bA H H') ys [aU i j (none, some (z - 1))] -> Q (.ref l) H')
theorem L5 (T : Tx w K mg) : Om P w mg base 3 T.iV (L4 T.bu) := by
 refine bZ vJ ?_
 rintro _ _ _ _ _ _ _ _ hr ⟨x, dx, i, j, z, rfl, hx, hk, q⟩
 refine ⟨_, (aq (aw (cA (ae (kJ (aa 0) T.dE T.BI (lL T) hr.m T.cH.b .nil dY (ae (bh (ae dU (ae (az cW (bj rfl (aa 0) rfl) af) ag))) ag)) ag)))), ?_⟩
 walk_at "gzn"
 refine ⟨_, _, hx, rfl, _, _, _, hx, T.dE, T.n5, _, rfl, bI, fun t ht => ?_⟩
 have s0 := ak (o := .tup [.non, .int (z - 1)]) ht
 exact ⟨x, T.bu, dx, t, _, i, j, (none, some (z - 1)), rfl, s0 _ _ hx, T.dE, T.n4, T.lG, rfl, rfl, hk, aj, fun l xs H1 s1 fl hl hP => ⟨by decide, fun c hc => q c _ _ (s0.trans (s1.trans (ak hc))) ((s0.trans s1).free hc) aj ⟨⟨l, xs, rfl, s0.free fl, (ak hc) _ _ hl, hP.same (ak hc)⟩, trivial⟩⟩⟩
inductive L6 (C : Addr) (vs : List V) (H : Hp) (Q : VK) (aN : XK) : Prop
 | mk (x dx : Addr) (i j z : Int) (_ : vs = [.ref x]) (_ : H x = some (.ins C dx [("first", .int i), ("last", .int j), ("sill", .int z)])) (_ : bp i j) (_ : ∀ l ys H', ah H H' -> H l = none -> H' l = some (.lst ys) -> av (bA H H') ys [aU i j (some (z + 1), none)] -> Q (.ref l) H')
theorem L7 (T : Tx w K mg) : Om P w mg base 3 T.iX (L6 T.bw) := by
 refine bZ vM ?_
 rintro _ _ _ _ _ _ _ _ hr ⟨x, dx, i, j, z, rfl, hx, hk, q⟩
 refine ⟨_, (aq (aw (cA (ae (kJ (aa 0) T.dF T.BJ (lL T) hr.m T.cH.b .nil dY (ae (bh (ae (az a9 (bj rfl (aa 0) rfl) af) (ae dU ag))) ag)) ag)))), ?_⟩
 walk_at "gzn"
 refine ⟨_, _, hx, rfl, _, _, _, hx, T.dF, T.n9, _, rfl, bI, fun t ht => ?_⟩
 have s0 := ak (o := .tup [.int (z + 1), .non]) ht
 exact ⟨x, T.bw, dx, t, _, i, j, (some (z + 1), none), rfl, s0 _ _ hx, T.dF, T.n6, T.lH, rfl, rfl, hk, aj, fun l xs H1 s1 fl hl hP => ⟨by decide, fun c hc => q c _ _ (s0.trans (s1.trans (ak hc))) ((s0.trans s1).free hc) aj ⟨⟨l, xs, rfl, s0.free fl, (ak hc) _ _ hl, hP.same (ak hc)⟩, trivial⟩⟩⟩
theorem B2 (i j : Int) (s : S2) : (cV i j s).length = (j - i).toNat := by
 unfold cV
 rw [List.length_map, List.length_range]
inductive L8 (C : Addr) (vs : List V) (H : Hp) (Q : VK) (aN : XK) : Prop
 | mk (x dx p : Addr) (i j : Int) (s : S2) (_ : vs = [.ref x]) (_ : H x = some (.ins C dx [("first", .int i), ("last", .int j), ("stretch", .ref p)])) (_ : bp i j) (_ : H p = some (.tup [ev s.1, ev s.2])) (_ : ∀ l ys H', ah H H' -> H l = none -> H' l = some (.lst ys) -> av (bA H H') ys (bq (cV i j s)) -> Q (.ref l) H')
theorem L9 (T : Tx w K mg) : Om P w mg base 3 T.i3 (L8 T.bo) := by
 refine bZ vS ?_
 rintro _ _ _ s _ _ _ _ hr ⟨x, dx, p, i, j, s, rfl, hx, hk, hp, q⟩
 refine ⟨_, (aq (aw (aJ (ot T) hr (ae (pj (aa 0) T.dN T.BK (BZ T) hr.m T.ie.b .nil dY) ag)))), ?_⟩
 walk_at "gzn"
 refine ⟨_, _, hx, rfl, ?_⟩
 have hlen := B2 i j s
 obtain ⟨k1, k2, k3⟩ := id hk
 exact ⟨x, dx, p, i, j, s, rfl, hx, hk, hp, fun l xs H1 s1 _ hl hP => ⟨l, xs, _, rfl, ao.of hl, hP, by lia, fun c ys H2 s2 fc hc hy => q c ys H2 (s1.trans s2) (s1.free fc) hc (hy.imp fun _ _ r => r.back s1)⟩⟩
inductive Ma (C : Addr) (vs : List V) (H : Hp) (Q : VK) (aN : XK) : Prop
 | mk (x dx : Addr) (t : Int) (_ : vs = [.ref x]) (_ : H x = some (.ins C dx [("turn", .int t)])) (_ : ∀ l ys H', ah H H' -> H l = none -> H' l = some (.lst ys) -> av (bA H H') ys (bq (fY t)) -> Q (.ref l) H')
theorem Mb (T : Tx w K mg) : Om P w mg base 3 T.i6 (Ma T.bE) := by
 refine bZ vX ?_
 rintro _ _ _ _ _ _ _ _ hr ⟨x, dx, t, rfl, hx, q⟩
 refine ⟨_, (aq (aw (aJ (ot T) hr (ae (pj (aa 0) T.eF T.BM (B0 T) hr.m T.ig.b .nil dY) ag)))), ?_⟩
 walk_at "gzn"
 refine ⟨_, _, hx, rfl, ?_⟩
 exact ⟨x, dx, t, rfl, hx, fun l xs H1 s1 _ hl hP => ⟨l, xs, _, rfl, ao.of hl, hP, (show 2 <= 100 by decide), fun c ys H2 s2 fc hc hy => q c ys H2 (s1.trans s2) (s1.free fc) hc (hy.imp fun _ _ r => r.back s1)⟩⟩
noncomputable def fH (i j l h : Int) : List (List Pa) := (List.range (j + 1 - i).toNat).map fun k => aU i (i + (k : Nat) - 1) (some (l + 1), none) ++ aU (i + (k : Nat) + 1) j (none, some (h - 1))
inductive Mc (C : Addr) (vs : List V) (H : Hp) (Q : VK) (aN : XK) : Prop
 | mk (x dx : Addr) (i j l h : Int) (_ : vs = [.ref x]) (_ : H x = some (.ins C dx [("first", .int i), ("last", .int j), ("low", .int l), ("high", .int h)])) (_ : bp i j) (_ : ∀ r ys H', ah H H' -> H r = none -> H' r = some (.lst ys) -> av (bA H H') ys (fH i j l h) -> Q (.ref r) H')
theorem Md (T : Tx w K mg) : Om P w mg base 2 T.iZ (Mc T.bx) := by
 refine bZ vO ?_
 rintro _ _ _ s H _ Q _ hr ⟨x, dx, i, j, l, h, rfl, hx, hk, q⟩
 refine ⟨_, (aq (aw (fw (cO [0] ["self"]) rfl (l9 rfl T.gP (ae (bj rfl (aa 0) rfl) (ae (az a9 (bj rfl (aa 0) rfl) af) ag))) (fun C s2 H2 ex pn => ⟨d7, (az gE (aJ (qu T) hr (ae (bj (K := K) rfl (aa 1) rfl) (ae (az cW (aa 0) af) (ae (bh (ae (az a9 (bj (K := K) rfl (aa 1) rfl) af) (ae dU ag))) ag)))) (aJ (qu T) hr (ae (az a9 (aa 0) af) (ae (bj (K := K) rfl (aa 1) rfl) (ae (bh (ae dU (ae (az cW (bj (K := K) rfl (aa 1) rfl) af) ag))) ag)))))⟩)))), ?_⟩
 obtain ⟨k1, k2, k3⟩ := id hk
 walk_at "gzn"
 refine ⟨_, _, _, hx, T.cI, T.lI, _, rfl, _, _, _, hx, T.cI, T.jk, _, rfl, _, rfl, by lia, by lia, by lia, by lia, ?_⟩
 refine d8 jJ (by rw [List.length_map, List.length_range]; exact Nat.le_trans (by lia : _ <= 20) (by decide)) (jM (R := fun _ x (k : Nat) => x = V.int (i + k)) (R' := bA H) (f := fun (k : Nat) => aU i (i + (k : Int) - 1) (some (l + 1), none) ++ aU (i + (k : Int) + 1) j (none, some (h - 1))) (fun _ _ _ _ _ h => h) (fun _ _ _ _ s' h => h.same s') (av.gq _) (bs := []) trivial (fun _ _ => trivial) (fun x k _ H2 s2 r Q h => ?_) (fun y k B3 H2 s2 r Q hq => ?_) fun H2 zs s2 hz => ?_)
 ·walk_at "gzn"
  exact h
 ·subst r
  have B3 := List.mem_range.mp B3
  walk_at "gzn"
  have fI := s2 _ _ hx
  refine ⟨_, _, _, fI, T.cI, T.lI, _, rfl, _, _, _, fI, T.cI, T.oa, _, rfl, bI, fun a ha => ?_⟩
  have sa := ak (o := .tup [.int (l + 1), .non]) ha
  refine ⟨_, _, a, (some (l + 1), none), rfl, aj, by lia, by lia, fun g gs H3 s3 _ hg hG => ?_⟩
  have ow := (sa.trans s3) _ _ fI
  walk_at "gzn"
  refine ⟨_, _, _, ow, T.cI, T.jk, _, rfl, _, _, _, ow, T.cI, T.og, _, rfl, bI, fun b hb => ?_⟩
  have sb := ak (o := .tup [.non, .int (h - 1)]) hb
  refine ⟨_, _, b, (none, some (h - 1)), rfl, aj, by lia, by lia, fun d ds H4 s4 _ hd hD => ?_⟩
  have S4 := sb.trans s4
  have l1 := hG.len
  have l2 := hD.len
  rw [dA] at l1 l2
  walk_at "gzn"
  refine ⟨gs, S4 _ _ hg, ds, hd, Nat.le_trans (by lia : gs.length + ds.length <= 40) (by decide), fun c hc => ?_⟩
  have sc := ak (o := .lst (gs ++ ds)) hc
  exact hq _ _ ((sa.trans s3).trans (S4.trans sc)) ⟨c, gs ++ ds, rfl, (s2.trans ((sa.trans s3).trans S4)).free hc, aj, av.app (cN.same hG (S4.trans sc)) (cN.same hD sc)⟩
 ·intro c hc
  refine q c zs _ (s2.trans (ak hc)) (s2.free hc) aj ?_
  rw [List.nil_append] at hz
  exact hz.imp fun _ _ r => r.same (ak hc)
end
section
seal L2.PE L2.PS L2.aV L2.PA
variable {P : Program} {w : World} {K : PySem.W.Frag} {mg : Str -> Option Value} {base : Heap}
inductive Tr where
 | stay (i j : Int) (l h : En) | over (i j s : Int) | under (i j s : Int) | rose (i j l h : Int) | pace (i j : Int) (l h : En) | turn (t : Int)
noncomputable def qx : Tr -> List V
 | .stay i j l h => [.str "stay", .int i, .int j, ev l, ev h]
 | .over i j s => [.str "over", .int i, .int j, .int s]
 | .under i j s => [.str "under", .int i, .int j, .int s]
 | .rose i j l h => [.str "rose", .int i, .int j, .int l, .int h]
 | .pace i j l h => [.str "pace", .int i, .int j, ev l, ev h]
 | .turn t => [.str "turn", .int t]
def c6 : Tr -> Prop
 | .stay i j l h => bp i j
 | .over i j s => bp i j
 | .under i j s => bp i j
 | .rose i j l h => bp i j /\ l < h
 | .pace i j l h => bp i j
 | .turn t => 0 < t /\ t < 11
noncomputable def f6 : Tr -> Int
 | .stay i j l h => j
 | .over i j s => j
 | .under i j s => j
 | .rose i j l h => j
 | .pace i j l h => j
 | .turn t => t + 1
noncomputable def cE : Tr -> List (List Pa)
 | .stay i j l h => [aU i j (l, h)]
 | .over i j s => bq (aU i j (none, some (s - 1)))
 | .under i j s => bq (aU i j (some (s + 1), none))
 | .rose i j l h => eE i j l h
 | .pace i j l h => [cV i j (l, h)]
 | .turn t => [fY t]
noncomputable def eX : Tr -> List (List Pa)
 | .stay i j l h => bq (aU i j (l, h))
 | .over i j s => [aU i j (none, some (s - 1))]
 | .under i j s => [aU i j (some (s + 1), none)]
 | .rose i j l h => fH i j l h
 | .pace i j l h => bq (cV i j (l, h))
 | .turn t => bq (fY t)
def f7 (T : Tx w K mg) (H : Hp) (x : Addr) : Tr -> Prop
 | .stay i j l h => ∃ dx p, H x = some (.ins T.br dx [("first", .int i), ("last", .int j), ("stretch", .ref p)]) /\ H p = some (.tup [ev l, ev h])
 | .over i j s => ∃ dx, H x = some (.ins T.bu dx [("first", .int i), ("last", .int j), ("sill", .int s)])
 | .under i j s => ∃ dx, H x = some (.ins T.bw dx [("first", .int i), ("last", .int j), ("sill", .int s)])
 | .rose i j l h => ∃ dx, H x = some (.ins T.bx dx [("first", .int i), ("last", .int j), ("low", .int l), ("high", .int h)])
 | .pace i j l h => ∃ dx p, H x = some (.ins T.bo dx [("first", .int i), ("last", .int j), ("stretch", .ref p)]) /\ H p = some (.tup [ev l, ev h])
 | .turn t => ∃ dx, H x = some (.ins T.bE dx [("turn", .int t)])
theorem f7.same {T : Tx w K mg} {H H' : Hp} {x : Addr} {tr : Tr} (h : f7 T H x tr) (s : ah H H') : f7 T H' x tr := by
 cases tr
 case stay => obtain ⟨dx, p, a, b⟩ := h; exact ⟨dx, p, s _ _ a, s _ _ b⟩
 case pace => obtain ⟨dx, p, a, b⟩ := h; exact ⟨dx, p, s _ _ a, s _ _ b⟩
 all_goals (obtain ⟨dx, a⟩ := h; exact ⟨dx, s _ _ a⟩)
inductive qy (T : Tx w K mg) (f : Tr -> List (List Pa)) (x : V) (H : Hp) (Q : VK) : Prop
 | mk (a : Addr) (tr : Tr) (_ : x = .ref a) (_ : f7 T H a tr) (_ : c6 tr) (_ : ∀ l ys H', ah H H' -> H l = none -> H' l = some (.lst ys) -> av (bA H H') ys (f tr) -> Q (.ref l) H')
inductive Me (T : Tx w K mg) (x : V) (H : Hp) (Q : VK) : Prop
 | mk (a : Addr) (tr : Tr) (_ : x = .ref a) (_ : f7 T H a tr) (_ : c6 tr) (_ : ∀ H', ah H H' -> Q (.int (f6 tr)) H')
theorem B4 (T : Tx w K mg) {A : Around} {n : Nat} (hr : aR n A) (hn : 3 <= n := by decide) (x : V) (H : Hp) (Q : VK) (h : qy T cE x H Q) : bO P w K mg base A "ways" x H Q := by
 obtain ⟨x, tr, rfl, he, hg, cont⟩ := h
 replace hr := hr.mono hn
 cases tr with
 | stay i j l h =>
  obtain ⟨dx, p, hx, hp⟩ := id he
  exact .of hx T.dD T.JW (LL T) hr T.iS.b ⟨x, dx, p, i, j, (l, h), rfl, hx, hg, hp, cont⟩
 | over i j s =>
  obtain ⟨dx, hx⟩ := id he
  exact .of hx T.dE T.J1 (LN T) hr T.iU.b ⟨x, dx, i, j, s, rfl, hx, hg, cont⟩
 | under i j s =>
  obtain ⟨dx, hx⟩ := id he
  exact .of hx T.dF T.Kb (LP T) hr T.iW.b ⟨x, dx, i, j, s, rfl, hx, hg, cont⟩
 | rose i j l h =>
  obtain ⟨dx, hx⟩ := id he
  exact .of hx T.cI T.Kg (L0 T) hr T.iY.b ⟨x, dx, i, j, l, h, rfl, hx, hg.1, cont⟩
 | pace i j l h =>
  obtain ⟨dx, p, hx, hp⟩ := id he
  exact .of hx T.dN T.Kl (LS T) hr T.i0.b ⟨x, dx, p, i, j, (l, h), rfl, hx, hg, hp, cont⟩
 | turn t =>
  obtain ⟨dx, hx⟩ := id he
  exact .of hx T.eF T.Kr (LW T) hr T.i5.b ⟨x, dx, t, rfl, hx, cont⟩
theorem Mf (T : Tx w K mg) {H : Hp} {x : Addr} {tr : Tr} (he : f7 T H x tr) (hg : c6 tr) (Q : VK) (cont : ∀ l ys H', ah H H' -> H l = none -> H' l = some (.lst ys) -> av (bA H H') ys (cE tr) -> Q (.ref l) H') : qy T cE (.ref x) H Q := ⟨x, tr, rfl, he, hg, cont⟩
theorem B5 (T : Tx w K mg) {A : Around} {n : Nat} (hr : aR n A) (hn : 3 <= n := by decide) (x : V) (H : Hp) (Q : VK) (h : qy T eX x H Q) : bO P w K mg base A "breaks" x H Q := by
 obtain ⟨x, tr, rfl, he, hg, cont⟩ := h
 replace hr := hr.mono hn
 cases tr with
 | stay i j l h =>
  obtain ⟨dx, p, hx, hp⟩ := id he
  exact .of hx T.dD T.JX (L3 T) hr T.iT.b ⟨x, dx, p, i, j, (l, h), rfl, hx, hg, hp, cont⟩
 | over i j s =>
  obtain ⟨dx, hx⟩ := id he
  exact .of hx T.dE T.J5 (L5 T) hr T.iV.b ⟨x, dx, i, j, s, rfl, hx, hg, cont⟩
 | under i j s =>
  obtain ⟨dx, hx⟩ := id he
  exact .of hx T.dF T.Kc (L7 T) hr T.iX.b ⟨x, dx, i, j, s, rfl, hx, hg, cont⟩
 | rose i j l h =>
  obtain ⟨dx, hx⟩ := id he
  exact .of hx T.cI T.Kh (Md T) hr T.iZ.b ⟨x, dx, i, j, l, h, rfl, hx, hg.1, cont⟩
 | pace i j l h =>
  obtain ⟨dx, p, hx, hp⟩ := id he
  exact .of hx T.dN T.Km (L9 T) hr T.i3.b ⟨x, dx, p, i, j, (l, h), rfl, hx, hg, hp, cont⟩
 | turn t =>
  obtain ⟨dx, hx⟩ := id he
  exact .of hx T.eF T.Ks (Mb T) hr T.i6.b ⟨x, dx, t, rfl, hx, cont⟩
theorem Mg (T : Tx w K mg) {H : Hp} {x : Addr} {tr : Tr} (he : f7 T H x tr) (hg : c6 tr) (Q : VK) (cont : ∀ l ys H', ah H H' -> H l = none -> H' l = some (.lst ys) -> av (bA H H') ys (eX tr) -> Q (.ref l) H') : qy T eX (.ref x) H Q := ⟨x, tr, rfl, he, hg, cont⟩
theorem Mh (T : Tx w K mg) {A : Around} {n : Nat} (hr : aR n A) (hn : 1 <= n := by decide) (x : V) (H : Hp) (Q : VK) (h : Me T x H Q) : bO P w K mg base A "far" x H Q := by
 obtain ⟨x, tr, rfl, he, hg, cont⟩ := h
 replace hr := hr.mono hn
 cases tr with
 | stay i j l h =>
  obtain ⟨dx, p, hx, hp⟩ := id he
  exact .of hx T.dD T.JV (oq T) hr T.cP.b ⟨x, T.br, dx, _, j, rfl, hx, T.dD, T.lF, rfl, cont _ (ah.refl _)⟩
 | over i j s =>
  obtain ⟨dx, hx⟩ := id he
  exact .of hx T.dE T.J0 (oq T) hr T.cP.b ⟨x, T.bu, dx, _, j, rfl, hx, T.dE, T.lG, rfl, cont _ (ah.refl _)⟩
 | under i j s =>
  obtain ⟨dx, hx⟩ := id he
  exact .of hx T.dF T.Ka (oq T) hr T.cP.b ⟨x, T.bw, dx, _, j, rfl, hx, T.dF, T.lH, rfl, cont _ (ah.refl _)⟩
 | rose i j l h =>
  obtain ⟨dx, hx⟩ := id he
  exact .of hx T.cI T.Kf (oq T) hr T.cP.b ⟨x, T.bx, dx, _, j, rfl, hx, T.cI, T.jk, rfl, cont _ (ah.refl _)⟩
 | pace i j l h =>
  obtain ⟨dx, p, hx, hp⟩ := id he
  exact .of hx T.dN T.Kk (oq T) hr T.cP.b ⟨x, T.bo, dx, _, j, rfl, hx, T.dN, T.oh, rfl, cont _ (ah.refl _)⟩
 | turn t =>
  obtain ⟨dx, hx⟩ := id he
  exact .of hx T.eF T.Kq (LA T) hr T.i4.b ⟨x, T.bE, dx, _, t, rfl, hx, T.eF, T.lJ, rfl, cont _ (ah.refl _)⟩
end
section
seal L2.PE L2.PS L2.aV L2.PA
variable {P : Program} {w : World} {K : PySem.W.Frag} {mg : Str -> Option Value} {base : Heap}
inductive Mi (T : Tx w K mg) (vs : List V) (H : Hp) (Q : VK) (aN : XK) : Prop
 | mk (x : Addr) (tr : Tr) (_ : vs = [.ref x]) (_ : f7 T H x tr) (_ : c6 tr) (_ : ∀ p H', ah H H' -> H' p = some (.tup [.int (cE tr).length, .int (eX tr).length]) -> Q (.ref p) H')
theorem lM (T : Tx w K mg) : Om P w mg base 10 T.cc (Mi T) := by
 refine bZ vA ?_
 rintro _ _ _ _ _ _ _ _ hr ⟨x, tr, rfl, he, hg, q⟩
 refine ⟨_, (aq (aw (bh (ae (bD dt (by rfl) T.dC dw (ae (cD (B4 T hr) (aa 0)) ag)) (ae (bD dt (by rfl) T.dC dw (ae (cD (B5 T hr) (aa 0)) ag)) ag))))), ?_⟩
 walk_at "gzn"
 refine Mf T he hg _ fun l ys H1 s1 _ hl hy => ?_
 walk_at "gzn"
 refine ⟨_, dZ (ao.of hl), ?_⟩
 walk_at "gzn"
 refine Mg T (he.same s1) hg _ fun m zs H2 s2 _ hm hz => ?_
 walk_at "gzn"
 refine ⟨_, dZ (ao.of hm), bI, fun p hp => q p _ (s1.trans (s2.trans (ak hp))) ?_⟩
 rw [aj, hy.len, hz.len]
inductive Mj (T : Tx w K mg) (x : V) (H : Hp) (Q : VK) : Prop
 | mk (a : Addr) (tr : Tr) (_ : x = .ref a) (_ : f7 T H a tr) (_ : c6 tr) (_ : ∀ p H', ah H H' -> H' p = some (.tup [.int (cE tr).length, .int (eX tr).length]) -> Q (.ref p) H')
theorem Ml (T : Tx w K mg) {A : Around} {n : Nat} (hr : aR n A) (hn : 10 <= n := by decide) (x : V) (H : Hp) (Q : VK) (h : Mj T x H Q) : bO P w K mg base A "sizes" x H Q := by
 obtain ⟨x, tr, rfl, he, hg, cont⟩ := h
 replace hr := hr.mono hn
 cases tr with
 | stay i j l h =>
  obtain ⟨dx, p, hx, hp⟩ := id he
  exact .of hx T.dD T.JU (lM T) hr T.cc.b ⟨x, _, rfl, he, hg, cont⟩
 | over i j s =>
  obtain ⟨dx, hx⟩ := id he
  exact .of hx T.dE T.JZ (lM T) hr T.cc.b ⟨x, _, rfl, he, hg, cont⟩
 | under i j s =>
  obtain ⟨dx, hx⟩ := id he
  exact .of hx T.dF T.J9 (lM T) hr T.cc.b ⟨x, _, rfl, he, hg, cont⟩
 | rose i j l h =>
  obtain ⟨dx, hx⟩ := id he
  exact .of hx T.cI T.Ke (lM T) hr T.cc.b ⟨x, _, rfl, he, hg, cont⟩
 | pace i j l h =>
  obtain ⟨dx, p, hx, hp⟩ := id he
  exact .of hx T.dN T.Kj (lM T) hr T.cc.b ⟨x, _, rfl, he, hg, cont⟩
 | turn t =>
  obtain ⟨dx, hx⟩ := id he
  exact .of hx T.eF T.Ko (lM T) hr T.cc.b ⟨x, _, rfl, he, hg, cont⟩
end
section
seal L2.PE L2.PS L2.aV L2.PA
variable {P : Program} {w : World} {K : PySem.W.Frag} {mg : Str -> Option Value} {base : Heap}
theorem AG (ps : List Pa) : (bq ps).length <= 2 * ps.length := by
 unfold bq
 rw [List.length_flatMap]
 have : ∀ l : List Pa, (l.map fun p => ((cU p.2.2).map fun o => [((p.1, p.2.1, o) : Pa)]).length).sum <= 2 * l.length := by
  intro l
  induction l with
  | nil => exact Nat.le_refl _
  | cons p l ih =>
   rw [List.map_cons, List.sum_cons, List.length_map, List.length_cons]
   have := sV p.2.2
   lia
 exact this ps
theorem qz {i j : Int} {s : S2} {p : Pa} (h : p ∈ aU i j s) : p.1 = "at" /\ i <= p.2.1 /\ p.2.1 <= j := by
 unfold aU at h
 obtain ⟨k, hk, rfl⟩ := List.mem_map.mp h
 have := List.mem_range.mp hk
 exact ⟨rfl, by show i <= i + (k : Int); lia, by show i + (k : Int) <= j; lia⟩
theorem xk {t : Int} {ps : List Pa} (h : ∀ p ∈ ps, p.1 = "at" /\ 0 <= p.2.1 /\ p.2.1 < t) : fD t ps := fun p hp => by
 obtain ⟨e, h1, h2⟩ := h p hp
 rw [e]
 exact (AD (show (Str.ofString "at") ≠ Str.ofString "step" by decide)).mpr ⟨rfl, h1, h2⟩
theorem Mm {i j l h t : Int} (hk : bp i j) (hj : j < t) : ∀ ps ∈ fH i j l h, ps.length <= 900 /\ fD t ps := fun ps hp => by
 obtain ⟨k0, k1, k2⟩ := hk
 unfold fH at hp
 obtain ⟨k, hk, rfl⟩ := List.mem_map.mp hp
 have := List.mem_range.mp hk
 refine ⟨by rw [List.length_append, dA, dA]; lia, xk fun p hp => ?_⟩
 rcases List.mem_append.mp hp with z | z
 ·obtain ⟨a, b, c⟩ := qz z; exact ⟨a, by lia, by lia⟩
 ·obtain ⟨a, b, c⟩ := qz z; exact ⟨a, by lia, by lia⟩
theorem Mn {i j l h t : Int} (hk : bp i j) (hj : j < t) : ∀ ps ∈ eE i j l h, ps.length <= 900 /\ fD t ps := fun ps hp => by
 obtain ⟨k0, k1, k2⟩ := hk
 unfold eE at hp
 obtain ⟨k, hk, hq⟩ := List.mem_flatMap.mp hp
 obtain ⟨p0, Mo, rfl⟩ := List.mem_map.mp hq
 have := List.mem_range.mp hk
 obtain ⟨a, b, c⟩ := qz Mo
 refine ⟨(show 2 <= 900 by decide), xk fun p hp => ?_⟩
 rcases List.mem_cons.mp hp with rfl | z
 ·exact ⟨rfl, by show 0 <= i + (k : Int); lia, by show i + (k : Int) < t; lia⟩
 ·rw [List.mem_singleton.mp z]; exact ⟨a, by lia, by lia⟩
theorem B6 {n : Nat} : ∀ {l : List Nat}, (∀ x ∈ l, x <= n) -> l.sum <= n * l.length
 | [], _ => Nat.le_refl _
 | x :: l, h => by
  have a := h x (.head _)
  have b := B6 fun y hy => h y (.tail _ hy)
  rw [List.sum_cons, List.length_cons, Nat.mul_succ]
  lia
theorem Mp {i j l h : Int} (hk : bp i j) : (eE i j l h).length <= 200 := by
 obtain ⟨k0, k1, k2⟩ := hk
 unfold eE
 rw [List.length_flatMap]
 refine Nat.le_trans (B6 (n := 11) fun x hx => ?_) ?_
 ·obtain ⟨k, hk, rfl⟩ := List.mem_map.mp hx
  rw [List.length_map, dA]
  have := List.mem_range.mp hk
  lia
 ·rw [List.length_map, List.length_range]
  lia
theorem xm {i j t : Int} {s : S2} (h : 0 <= i) (hj : j < t) : fD t (aU i j s) := xk fun p hp => by obtain ⟨a, b, c⟩ := qz hp; exact ⟨a, by lia, by lia⟩
theorem Mq {i j t : Int} {s : S2} (h : 0 <= i) (hj : j < t) : fD t (cV i j s) := fun p hp => by
 unfold cV at hp
 obtain ⟨k, hk, rfl⟩ := List.mem_map.mp hp
 have := List.mem_range.mp hk
 exact p4.mpr ⟨by lia, by lia⟩
theorem Mr {k t : Int} (h : 0 < k) (hj : k + 1 < t) : fD t (fY k) := fun p hp => by
 unfold fY at hp
 rcases List.mem_cons.mp hp with rfl | z
 ·exact p4.mpr ⟨by lia, by lia⟩
 ·rw [List.mem_singleton.mp z]
  exact p4.mpr ⟨by lia, by lia⟩
theorem oy {t : Int} {ps : List Pa} (h : fD t ps) (hl : ps.length <= 60) : (∀ qs ∈ bq ps, qs.length <= 900 /\ fD t qs) /\ (∀ qs ∈ [ps], qs.length <= 900 /\ fD t qs) /\ (bq ps).length <= 200 /\ [ps].length <= 200 := by
 refine ⟨fun qs hq => ?_, fun qs hq => ?_, ?_, (show 1 <= 200 by decide)⟩
 ·unfold bq at hq
  obtain ⟨p, hp, hq⟩ := List.mem_flatMap.mp hq
  obtain ⟨o, _, rfl⟩ := List.mem_map.mp hq
  refine ⟨(show 1 <= 900 by decide), fun z hz => ?_⟩
  rw [List.mem_singleton.mp hz]
  exact h p hp
 ·rw [List.mem_singleton.mp hq]
  exact ⟨by lia, h⟩
 ·have := AG ps
  lia
theorem xn {t : Int} {tr : Tr} (hg : c6 tr) (hj : f6 tr < t) : (∀ ps ∈ eX tr, ps.length <= 900 /\ fD t ps) /\ (∀ ps ∈ cE tr, ps.length <= 900 /\ fD t ps) /\ (eX tr).length <= 200 /\ (cE tr).length <= 200 := by
 cases tr with
 | stay i j l h =>
  obtain ⟨k0, k1, k2⟩ := id hg
  replace hj : j < t := hj
  exact oy (xm (s := (l, h)) k0 hj) (by rw [dA]; lia)
 | over i j s =>
  obtain ⟨k0, k1, k2⟩ := id hg
  replace hj : j < t := hj
  obtain ⟨a, b, c, d⟩ := oy (xm (s := (none, some (s - 1))) k0 hj) (by rw [dA]; lia)
  exact ⟨b, a, d, c⟩
 | under i j s =>
  obtain ⟨k0, k1, k2⟩ := id hg
  replace hj : j < t := hj
  obtain ⟨a, b, c, d⟩ := oy (xm (s := (some (s + 1), none)) k0 hj) (by rw [dA]; lia)
  exact ⟨b, a, d, c⟩
 | rose i j l h =>
  refine ⟨Mm hg.1 hj, Mn hg.1 hj, ?_, Mp hg.1⟩
  show (fH i j l h).length <= 200
  obtain ⟨⟨_, _, _⟩, _⟩ := hg
  unfold fH
  rw [List.length_map, List.length_range]
  lia
 | pace i j l h =>
  obtain ⟨k0, k1, k2⟩ := id hg
  replace hj : j < t := hj
  exact oy (Mq (s := (l, h)) k0 hj) (by rw [B2]; lia)
 | turn k => exact oy (Mr hg.1 hj) (show 2 <= 60 by decide)
end
section
seal L2.PE L2.PS L2.aV L2.PA
variable {P : Program} {w : World} {K : PySem.W.Frag} {mg : Str -> Option Value} {base : Heap}
inductive Rt where
 | leaf (t : Tr) | nay (a : Rt) | both (a b : Rt) | either (a b : Rt)
noncomputable def aA : Rt -> Nat
 | .leaf _ => 0
 | .nay a => aA a + 1
 | .both a b => aA a + aA b + 1
 | .either a b => aA a + aA b + 1
noncomputable def aK : Rt -> Int × Int
 | .leaf t => ((cE t).length, (eX t).length)
 | .nay a => ((aK a).2, (aK a).1)
 | .both a b => ((aK a).1 * (aK b).1, (aK a).2 + (aK b).2)
 | .either a b => ((aK a).1 + (aK b).1, (aK a).2 * (aK b).2)
def bS : Rt -> Prop
 | .leaf t => c6 t
 | .nay a => bS a
 | .both a b => bS a /\ bS b /\ (aK (.both a b)).1 <= 100 /\ (aK (.both a b)).2 <= 100
 | .either a b => bS a /\ bS b /\ (aK (.either a b)).1 <= 100 /\ (aK (.either a b)).2 <= 100
def bz (T : Tx w K mg) (H : Hp) : V -> Rt -> Prop
 | v, .leaf t => ∃ x, v = .ref x /\ f7 T H x t
 | v, .nay a => ∃ x dx c, v = .ref x /\ H x = some (.ins T.bG dx [("one", c)]) /\ bz T H c a
 | v, .both a b => ∃ x dx c d, v = .ref x /\ H x = some (.ins T.bB dx [("one", c), ("other", d)]) /\ bz T H c a /\ bz T H d b
 | v, .either a b => ∃ x dx c d, v = .ref x /\ H x = some (.ins T.bC dx [("one", c), ("other", d)]) /\ bz T H c a /\ bz T H d b
theorem bz.same {T : Tx w K mg} {H H' : Hp} (s : ah H H') : ∀ {rt : Rt} {v : V}, bz T H v rt -> bz T H' v rt
 | .leaf _, _, h => let ⟨x, e, h⟩ := h; ⟨x, e, h.same s⟩
 | .nay _, _, h => let ⟨x, dx, c, e, h, a⟩ := h; ⟨x, dx, c, e, s _ _ h, bz.same s a⟩
 | .both _ _, _, h => let ⟨x, dx, c, d, e, h, a, b⟩ := h; ⟨x, dx, c, d, e, s _ _ h, bz.same s a, bz.same s b⟩
 | .either _ _, _, h => let ⟨x, dx, c, d, e, h, a, b⟩ := h; ⟨x, dx, c, d, e, s _ _ h, bz.same s a, bz.same s b⟩
theorem eG : ∀ {rt : Rt}, bS rt -> 0 <= (aK rt).1 /\ (aK rt).1 <= 200 /\ 0 <= (aK rt).2 /\ (aK rt).2 <= 200
 | .leaf t, h => by
  obtain ⟨_, _, h1, h2⟩ := xn (t := f6 t + 1) h (Int.lt_succ _)
  exact ⟨Int.natCast_nonneg _, Int.ofNat_le.mpr h2, Int.natCast_nonneg _, Int.ofNat_le.mpr h1⟩
 | .nay a, h => let ⟨p, q, r, s⟩ := eG (rt := a) h; ⟨r, s, p, q⟩
 | .both a b, h => by
  obtain ⟨ha, hb, h1, h2⟩ := h
  obtain ⟨p1, _, p2, _⟩ := eG ha
  obtain ⟨q1, _, q2, _⟩ := eG hb
  exact ⟨Int.mul_nonneg p1 q1, by lia, Int.add_nonneg p2 q2, by lia⟩
 | .either a b, h => by
  obtain ⟨ha, hb, h1, h2⟩ := h
  obtain ⟨p1, _, p2, _⟩ := eG ha
  obtain ⟨q1, _, q2, _⟩ := eG hb
  exact ⟨Int.add_nonneg p1 q1, by lia, Int.mul_nonneg p2 q2, by lia⟩
inductive qA (T : Tx w K mg) (N : Nat) (x : V) (H : Hp) (Q : VK) : Prop
 | mk (rt : Rt) (_ : bz T H x rt) (_ : bS rt) (_ : aA rt < N) (_ : ∀ p H', ah H H' -> H' p = some (.tup [.int (aK rt).1, .int (aK rt).2]) -> Q (.ref p) H')
inductive Ms (T : Tx w K mg) (N : Nat) (vs : List V) (H : Hp) (Q : VK) (aN : XK) : Prop
 | mk (x dx : Addr) (c : V) (a : Rt) (_ : vs = [.ref x]) (_ : H x = some (.ins T.bG dx [("one", c)])) (_ : bz T H c a) (_ : bS a) (_ : aA a < N) (_ : ∀ p H', ah H H' -> H' p = some (.tup [.int (aK a).2, .int (aK a).1]) -> Q (.ref p) H')
theorem Mt (T : Tx w K mg) (N : Nat) (ih : ∀ {A : Around} {n : Nat}, aR n A -> N + 10 <= n -> ∀ x H Q, qA T N x H Q -> bO P w K mg base A "sizes" x H Q) : Om P w mg base (N + 10 + 1) T.jg (Ms T N) := by
 refine bZ qj ?_
 rintro _ _ _ _ H _ _ _ hr ⟨x, dx, c, a, rfl, hx, hc, ga, hN, q⟩
 refine ⟨_, (au (aY 1 qj.nd (cD (fun x H Q => ih hr (Nat.le_refl _) x H Q) (bj rfl (aa 0) rfl))) (aq (aw (bh (ae (ar (aa 1) af) (ae (ar (aa 1) af) ag)))))), ?_⟩
 refine bb (fun σ H1 => ∃ p, σ = [some (.ref x), some (.ref p)] /\ ah H H1 /\ H1 p = some (.tup [.int (aK a).1, .int (aK a).2])) (fun N hN => ?_) ?_
 ·walk_at "gzn"
  exact ⟨_, _, _, hx, T.eW, T.kj, _, rfl, a, hc, ga, by assumption, fun p H1 s1 hp => hN _ _ ⟨p, rfl, s1, hp⟩⟩
 rintro σ H1 ⟨p, rfl, s1, hp⟩
 walk_at "gzn"
 refine aO (ay.of hp) rfl (aO (ay.of hp) rfl ⟨bI, fun r hr => q r _ (s1.trans (ak hr)) aj⟩)
inductive Mu (T : Tx w K mg) (N : Nat) (vs : List V) (H : Hp) (Q : VK) (aN : XK) : Prop
 | mk (x dx : Addr) (c d : V) (a b : Rt) (_ : vs = [.ref x]) (_ : H x = some (.ins T.bB dx [("one", c), ("other", d)])) (_ : bz T H c a) (_ : bz T H d b) (_ : bS a) (_ : bS b) (_ : aA a < N) (_ : aA b < N) (_ : ∀ p H', ah H H' -> H' p = some (.tup [.int ((aK a).1 * (aK b).1), .int ((aK a).2 + (aK b).2)]) -> Q (.ref p) H')
theorem Mv (T : Tx w K mg) (N : Nat) (ih : ∀ {A : Around} {n : Nat}, aR n A -> N + 10 <= n -> ∀ x H Q, qA T N x H Q -> bO P w K mg base A "sizes" x H Q) : Om P w mg base (N + 10 + 1) T.i9 (Mu T N) := by
 refine bZ nq ?_
 rintro _ _ _ _ H _ _ _ hr ⟨x, dx, c, d, a, b, rfl, hx, hc, hd, ga, gb, hA, hB, q⟩
 refine ⟨_, (au (aY 1 nq.nd (cD (fun x H Q => ih hr (Nat.le_refl _) x H Q) (bj rfl (aa 0) rfl))) (au (aY 2 nq.nd (cD (fun x H Q => ih hr (Nat.le_refl _) x H Q) (bj rfl (aa 0) rfl))) (aq (aw (bh (ae (az iL (ar (aa 1) af) (ar (aa 2) af)) (ae (az a9 (ar (aa 1) af) (ar (aa 2) af)) ag))))))), ?_⟩
 obtain ⟨a1, a2, a3, a4⟩ := eG ga
 obtain ⟨b1, b2, b3, b4⟩ := eG gb
 refine bb (fun σ H1 => ∃ p1, σ = [some (.ref x), some (.ref p1), none] /\ ah H H1 /\ H1 p1 = some (.tup [.int (aK a).1, .int (aK a).2])) (fun N hN => ?_) ?_
 ·walk_at "gzn"
  exact ⟨_, _, _, hx, T.dO, T.kf, _, rfl, a, hc, ga, hA, fun p H1 s1 hp => hN _ _ ⟨p, rfl, s1, hp⟩⟩
 rintro σ H1 ⟨p1, rfl, s1, eY⟩
 refine bb (fun σ H2 => ∃ p2, σ = [some (.ref x), some (.ref p1), some (.ref p2)] /\ ah H1 H2 /\ H2 p2 = some (.tup [.int (aK b).1, .int (aK b).2])) (fun N hN => ?_) ?_
 ·walk_at "gzn"
  exact ⟨_, _, _, s1 _ _ hx, T.dO, T.kg, _, rfl, b, hd.same s1, gb, hB, fun p H2 s2 hp => hN _ _ ⟨p, rfl, s2, hp⟩⟩
 rintro σ H2 ⟨p2, rfl, s2, f9⟩
 replace eY := s2 _ _ eY
 walk_at "gzn"
 refine aG eY (aG f9 ?_)
 walk_at "gzn"
 exact ⟨g9 (by lia) (by lia), aO (ay.of eY) rfl (aO (ay.of f9) rfl ⟨bI, fun p hp => q p _ (s1.trans (s2.trans (ak hp))) aj⟩)⟩
inductive Mw (T : Tx w K mg) (N : Nat) (vs : List V) (H : Hp) (Q : VK) (aN : XK) : Prop
 | mk (x dx : Addr) (c d : V) (a b : Rt) (_ : vs = [.ref x]) (_ : H x = some (.ins T.bC dx [("one", c), ("other", d)])) (_ : bz T H c a) (_ : bz T H d b) (_ : bS a) (_ : bS b) (_ : aA a < N) (_ : aA b < N) (_ : ∀ p H', ah H H' -> H' p = some (.tup [.int ((aK a).1 + (aK b).1), .int ((aK a).2 * (aK b).2)]) -> Q (.ref p) H')
theorem Mx (T : Tx w K mg) (N : Nat) (ih : ∀ {A : Around} {n : Nat}, aR n A -> N + 10 <= n -> ∀ x H Q, qA T N x H Q -> bO P w K mg base A "sizes" x H Q) : Om P w mg base (N + 10 + 1) T.jc (Mw T N) := by
 refine bZ nr ?_
 rintro _ _ _ _ H _ _ _ hr ⟨x, dx, c, d, a, b, rfl, hx, hc, hd, ga, gb, hA, hB, q⟩
 refine ⟨_, (au (aY 1 nr.nd (cD (fun x H Q => ih hr (Nat.le_refl _) x H Q) (bj rfl (aa 0) rfl))) (au (aY 2 nr.nd (cD (fun x H Q => ih hr (Nat.le_refl _) x H Q) (bj rfl (aa 0) rfl))) (aq (aw (bh (ae (az a9 (ar (aa 1) af) (ar (aa 2) af)) (ae (az iL (ar (aa 1) af) (ar (aa 2) af)) ag))))))), ?_⟩
 obtain ⟨a1, a2, a3, a4⟩ := eG ga
 obtain ⟨b1, b2, b3, b4⟩ := eG gb
 refine bb (fun σ H1 => ∃ p1, σ = [some (.ref x), some (.ref p1), none] /\ ah H H1 /\ H1 p1 = some (.tup [.int (aK a).1, .int (aK a).2])) (fun N hN => ?_) ?_
 ·walk_at "gzn"
  exact ⟨_, _, _, hx, T.dP, T.kh, _, rfl, a, hc, ga, hA, fun p H1 s1 hp => hN _ _ ⟨p, rfl, s1, hp⟩⟩
 rintro σ H1 ⟨p1, rfl, s1, eY⟩
 refine bb (fun σ H2 => ∃ p2, σ = [some (.ref x), some (.ref p1), some (.ref p2)] /\ ah H1 H2 /\ H2 p2 = some (.tup [.int (aK b).1, .int (aK b).2])) (fun N hN => ?_) ?_
 ·walk_at "gzn"
  exact ⟨_, _, _, s1 _ _ hx, T.dP, T.ki, _, rfl, b, hd.same s1, gb, hB, fun p H2 s2 hp => hN _ _ ⟨p, rfl, s2, hp⟩⟩
 rintro σ H2 ⟨p2, rfl, s2, f9⟩
 replace eY := s2 _ _ eY
 walk_at "gzn"
 refine aG eY (aG f9 ?_)
 walk_at "gzn"
 exact aO (ay.of eY) rfl (aO (ay.of f9) rfl ⟨g9 (by lia) (by lia), bI, fun p hp => q p _ (s1.trans (s2.trans (ak hp))) aj⟩)
theorem B7 (T : Tx w K mg) : ∀ N : Nat, ∀ {A : Around} {n : Nat}, aR n A -> N + 10 <= n -> ∀ x H Q, qA T N x H Q -> bO P w K mg base A "sizes" x H Q := by
 intro N
 induction N with
 | zero =>
  rintro A n hr hn v H Q ⟨rt, _, _, h, _⟩
  exact absurd h (Nat.not_lt_zero _)
 | succ N ih =>
  rintro A n hr hn v H Q ⟨rt, hv, hg, hh, q⟩
  cases rt with
  | leaf t =>
   obtain ⟨x, rfl, he⟩ := hv
   exact Ml T hr (by lia) _ _ _ ⟨x, t, rfl, he, hg, q⟩
  | nay a =>
   obtain ⟨x, dx, c, rfl, hx, hc⟩ := hv
   exact bO.of (hk := by lia) hx T.eW T.KI (Mt T N ih) hr T.jg.b ⟨x, dx, c, a, rfl, hx, hc, hg, Nat.lt_of_succ_lt_succ hh, q⟩
  | both a b =>
   obtain ⟨x, dx, c, e, rfl, hx, hc, he⟩ := hv
   have hh : aA a + aA b + 1 < N + 1 := hh
   exact bO.of (hk := by lia) hx T.dO T.Ku (Mv T N ih) hr T.i9.b ⟨x, dx, c, e, a, b, rfl, hx, hc, he, hg.1, hg.2.1, by lia, by lia, q⟩
  | either a b =>
   obtain ⟨x, dx, c, e, rfl, hx, hc, he⟩ := hv
   have hh : aA a + aA b + 1 < N + 1 := hh
   exact bO.of (hk := by lia) hx T.dP T.Kz (Mx T N ih) hr T.jc.b ⟨x, dx, c, e, a, b, rfl, hx, hc, he, hg.1, hg.2.1, by lia, by lia, q⟩
end
section
seal L2.PE L2.PS L2.aV L2.PA
variable {P : Program} {w : World} {K : PySem.W.Frag} {mg : Str -> Option Value} {base : Heap}
noncomputable def dM : Tr -> List PySem.Str
 | .stay i j l h => ["stay", bP i, bP j, dj l, dj h]
 | .over i j s => ["over", bP i, bP j, bP s]
 | .under i j s => ["under", bP i, bP j, bP s]
 | .rose i j l h => ["rose", bP i, bP j, bP l, bP h]
 | .pace i j l h => ["pace", bP i, bP j, dj l, dj h]
 | .turn t => ["turn", bP t]
def xp : Tr -> Prop
 | .stay i j l h => fG l /\ fG h
 | .over i j s => s.natAbs < 10 ^ 60
 | .under i j s => s.natAbs < 10 ^ 60
 | .rose i j l h => l.natAbs < 10 ^ 60 /\ h.natAbs < 10 ^ 60
 | .pace i j l h => fG l /\ fG h
 | .turn _ => True
noncomputable def BL : PySem.Str := " "
theorem xq {B : Nat} : ∀ {ss : List PySem.Str}, (∀ s ∈ ss, s.length <= B) -> (ss.map fun x => x.length).sum <= ss.length * B
 | [], _ => by simp
 | s :: ss, h => by
  have h1 := h s (.head _)
  have h2 := xq (ss := ss) fun x hx => h x (.tail _ hx)
  rw [List.map_cons, List.sum_cons, List.length_cons, Nat.succ_mul]
  lia
theorem My {B n : Nat} {ss : List PySem.Str} (h : ∀ s ∈ ss, s.length <= B) (hn : ss.length <= n) (hb : n * (B + 1) <= 16777216) : (ss.map fun x => x.length).sum + ss.length * BL.length <= 16777216 := by
 have h1 := xq h
 have h2 : ss.length * (B + 1) <= n * (B + 1) := Nat.mul_le_mul_right _ hn
 have h3 : BL.length = 1 := by decide
 rw [h3]
 rw [Nat.mul_succ] at h2
 lia
theorem oz {e : En} (h : fG e) : (dj e).length <= 61 := by
 cases e with
 | none => decide
 | some n => exact di h
end
section
seal L2.PE L2.PS L2.aV L2.PA
variable {P : Program} {w : World} {K : PySem.W.Frag} {mg : Str -> Option Value} {base : Heap}
end
section
seal L2.PE L2.PS L2.aV L2.PA
variable {P : Program} {w : World} {K : PySem.W.Frag} {mg : Str -> Option Value} {base : Heap}
noncomputable def aD : Rt -> List PySem.Str
 | .leaf t => dM t
 | .nay a => "not" :: aD a
 | .both a b => "both" :: (aD a ++ aD b)
 | .either a b => "either" :: (aD a ++ aD b)
def eZ : Rt -> Prop
 | .leaf t => xp t
 | .nay a => eZ a
 | .both a b => eZ a /\ eZ b
 | .either a b => eZ a /\ eZ b
noncomputable def ik (rt : Rt) : PySem.Str := Txt.join BL (aD rt)
theorem Mz : ∀ rt : Rt, aD rt ≠ []
 | .leaf t => by cases t <;> simp [aD, dM]
 | .nay _ => by simp [aD]
 | .both _ _ => by simp [aD]
 | .either _ _ => by simp [aD]
theorem B8 (c : Nat) : ∀ ws : List (List Nat), (hZ c ws).length <= (ws.map fun w => w.length).sum + ws.length
 | [] => Nat.le_refl _
 | [w] => by show w.length <= w.length + 0 + 1; lia
 | w :: v :: ws => by
  have := B8 c (v :: ws)
  show (w ++ c :: hZ c (v :: ws)).length <= _
  rw [List.length_append, List.length_cons, List.map_cons, List.sum_cons, List.length_cons]
  lia
theorem fJ {i : Int} (h0 : 0 <= i) (h1 : i <= 11) : i.natAbs < 10 ^ 60 := Nat.lt_of_lt_of_le (show i.natAbs < 12 by lia) (by decide)
theorem ko : ∀ {rt : Rt}, bS rt -> eZ rt -> ∀ s ∈ aD rt, s.length <= 61
 | .leaf t, hg, hs => by
  cases t with
  | stay i j l h =>
   obtain ⟨k0, k1, k2⟩ := hg
   obtain ⟨a, b⟩ := hs
   intro s h
   simp only [aD, dM, List.mem_cons, List.not_mem_nil, or_false] at h
   rcases h with rfl | rfl | rfl | rfl | rfl
   ·decide
   ·exact di (fJ k0 (by lia))
   ·exact di (fJ (by lia) k2)
   ·exact oz a
   ·exact oz b
  | pace i j l h =>
   obtain ⟨k0, k1, k2⟩ := hg
   obtain ⟨a, b⟩ := hs
   intro s h
   simp only [aD, dM, List.mem_cons, List.not_mem_nil, or_false] at h
   rcases h with rfl | rfl | rfl | rfl | rfl
   ·decide
   ·exact di (fJ k0 (by lia))
   ·exact di (fJ (by lia) k2)
   ·exact oz a
   ·exact oz b
  | over i j z =>
   obtain ⟨k0, k1, k2⟩ := hg
   intro s h
   simp only [aD, dM, List.mem_cons, List.not_mem_nil, or_false] at h
   rcases h with rfl | rfl | rfl | rfl
   ·decide
   ·exact di (fJ k0 (by lia))
   ·exact di (fJ (by lia) k2)
   ·exact di hs
  | under i j z =>
   obtain ⟨k0, k1, k2⟩ := hg
   intro s h
   simp only [aD, dM, List.mem_cons, List.not_mem_nil, or_false] at h
   rcases h with rfl | rfl | rfl | rfl
   ·decide
   ·exact di (fJ k0 (by lia))
   ·exact di (fJ (by lia) k2)
   ·exact di hs
  | rose i j l z =>
   obtain ⟨⟨k0, k1, k2⟩, _⟩ := hg
   obtain ⟨a, b⟩ := hs
   intro s h
   simp only [aD, dM, List.mem_cons, List.not_mem_nil, or_false] at h
   rcases h with rfl | rfl | rfl | rfl | rfl
   ·decide
   ·exact di (fJ k0 (by lia))
   ·exact di (fJ (by lia) k2)
   ·exact di a
   ·exact di b
  | turn t =>
   obtain ⟨k0, k1⟩ := hg
   intro s h
   simp only [aD, dM, List.mem_cons, List.not_mem_nil, or_false] at h
   rcases h with rfl | rfl
   ·decide
   ·exact di (fJ (by lia) (by lia))
 | .nay a, hg, hs => fun s h => by
  rcases List.mem_cons.mp h with rfl | h
  ·decide
  ·exact ko (rt := a) hg hs s h
 | .both a b, hg, hs => fun s h => by
  rcases List.mem_cons.mp h with rfl | h
  ·decide
  ·rcases List.mem_append.mp h with h | h
   ·exact ko hg.1 hs.1 s h
   ·exact ko hg.2.1 hs.2 s h
 | .either a b, hg, hs => fun s h => by
  rcases List.mem_cons.mp h with rfl | h
  ·decide
  ·rcases List.mem_append.mp h with h | h
   ·exact ko hg.1 hs.1 s h
   ·exact ko hg.2.1 hs.2 s h
theorem text_len {rt : Rt} (hg : bS rt) (hs : eZ rt) (hn : (aD rt).length <= 60) : (ik rt).length <= 3720 := by
 unfold ik
 rw [str_len, show BL = (⟨#[32]⟩ : PySem.Str) from rfl, Bc]
 have h1 := B8 32 ((aD rt).map fun w => w.cps.toList)
 have h2 := xq (ko hg hs)
 rw [List.map_map, List.length_map] at h1
 have e : ((aD rt).map ((fun w : List Nat => w.length) ∘ fun w : PySem.Str => w.cps.toList)) = (aD rt).map fun x => x.length := List.map_congr_left fun x _ => (str_len x).symm
 rw [e] at h1
 lia
end
section
seal L2.PE L2.PS L2.aV L2.PA
variable {P : Program} {w : World} {K : PySem.W.Frag} {mg : Str -> Option Value} {base : Heap}
def lN (rt : Rt) : Prop := bS rt /\ eZ rt /\ (aD rt).length <= 60
end
section
seal L2.PE L2.PS L2.aV L2.PA
variable {P : Program} {w : World} {K : PySem.W.Frag} {mg : Str -> Option Value} {base : Heap}
inductive MA (C : Addr) (vs : List V) (H : Hp) (Q : VK) (aN : XK) : Prop
 | mk (x dx : Addr) (v : V) (_ : vs = [.ref x, v]) (_ : H x = some (.ins C dx [])) (_ : Q .non (upd H x (.ins C dx [("one", v)])))
theorem MB (T : Tx w K mg) : Om P w mg base 1 T.j9 (MA T.bG) := by
 refine bZ v9 ?_
 rintro _ _ _ _ _ _ _ _ _ ⟨x, dx, v, rfl, hx, q⟩
 refine ⟨_, (aq (fE (aa 0) (aa 1) rfl)), ?_⟩
 walk_at "gzn"
 exact ⟨_, _, _, hx, T.eW, T.kj, (by show 0 < 1000; decide), q⟩
theorem max_le {m n : Int} (h1 : m <= 100) (h2 : n <= 100) : ¬ d9 [m, n] > 100 := fun z => by
 have := (kU (ns := [m, n]) (by simp)).1
 simp only [List.mem_cons, List.not_mem_nil, or_false] at this
 lia
inductive MC (T : Tx w K mg) (vs : List V) (H : Hp) (Q : VK) (E : XK) : Prop
 | mk (H0 : Hp) (x C dx : Addr) (c d : V) (a b rt : Rt) (_ : vs = [.ref x, c, d]) (_ : H x = some (.ins C dx [])) (_ : H0 x = none) (_ : ah H0 H) (_ : ((C = T.bB /\ rt = .both a b) ∨ (C = T.bC /\ rt = .either a b))) (_ : bz T H0 c a) (_ : bz T H0 d b) (_ : bS rt) (_ : aA rt < 64) (_ : ∀ H', ah H0 H' -> H' x = some (.ins C dx [("one", c), ("other", d)]) -> Q .non H')
theorem B9 (T : Tx w K mg) : Om P w mg base 75 T.gO (MC T) := by
 refine iN vY ?_
 rintro _ _ _ _ H _ Q _ hr ⟨H0, x, C, dx, c, d, a, b, rt, rfl, hx, fx, s0, hC, h1, h2, hg, hh, q⟩
 refine ⟨_, (au (fE (aa 0) (aa 1) rfl) (au (fE (aa 0) (aa 2) rfl) (aq (aL (tF (bD (A4 rfl) (by rfl) T.lC kO (ae (cD (fun x H Q h => B7 T 64 hr (by decide) x H Q h) (aa 0)) ag)) (mW T.K2 rfl)) (aq (gG gH rfl T.JI T.wH rfl (ae aH ag))) aP)))), ?_⟩
 obtain ⟨cC, n1, n2⟩ : bc K C /\ bg K C "one" /\ bg K C "other" := by
  rcases hC with ⟨rfl, _⟩ | ⟨rfl, _⟩
  ·exact ⟨T.dO, T.kf, T.kg⟩
  ·exact ⟨T.dP, T.kh, T.ki⟩
 refine bb (fun σ H1 => σ = [some (.ref x), some c, some d] /\ ah H0 H1 /\ H1 x = some (.ins C dx [("one", c)])) (fun N hN => ?_) ?_
 ·walk_at "gzn"
  exact ⟨_, _, _, hx, cC, n1, (by show 0 < 1000; decide), hN _ _ ⟨rfl, fv fx s0, aj⟩⟩
 rintro σ H1 ⟨rfl, s1, lO⟩
 refine bb (fun σ H2 => σ = [some (.ref x), some c, some d] /\ ah H0 H2 /\ H2 x = some (.ins C dx [("one", c), ("other", d)])) (fun N hN => ?_) ?_
 ·walk_at "gzn"
  exact ⟨_, _, _, lO, cC, n2, (by show 1 < 1000; decide), hN _ _ ⟨rfl, fv fx s1, aj⟩⟩
 rintro σ H2 ⟨rfl, s2, fI⟩
 have hv : bz T H2 (.ref x) rt := by
  rcases hC with ⟨rfl, rfl⟩ | ⟨rfl, rfl⟩ <;> exact ⟨x, dx, c, d, rfl, fI, h1.same s2, h2.same s2⟩
 have hz : (aK rt).1 <= 100 /\ (aK rt).2 <= 100 := by
  rcases hC with ⟨_, rfl⟩ | ⟨_, rfl⟩ <;> exact hg.2.2
 walk_at "gzn"
 refine ⟨rt, hv, hg, hh, fun p H3 s3 hp => ?_⟩
 walk_at "gzn"
 refine ⟨[_, _], ay.of hp, by simp, ?_⟩
 rw [if_neg (max_le hz.1 hz.2)]
 exact q _ (s2.trans s3) (s3 _ _ fI)
end
section
seal L2.PE L2.PS L2.aV L2.PA
variable {P : Program} {w : World} {K : PySem.W.Frag} {mg : Str -> Option Value} {base : Heap}
def bM (H : Hp) : V -> Rt -> Prop
 | v, .leaf t => ∃ p, v = .ref p /\ H p = some (.tup (qx t))
 | v, .nay a => ∃ p x, v = .ref p /\ H p = some (.tup [.str "not", x]) /\ bM H x a
 | v, .both a b => ∃ p x y, v = .ref p /\ H p = some (.tup [.str "both", x, y]) /\ bM H x a /\ bM H y b
 | v, .either a b => ∃ p x y, v = .ref p /\ H p = some (.tup [.str "either", x, y]) /\ bM H x a /\ bM H y b
theorem bM.same {H H' : Hp} (s : ah H H') : ∀ {rt : Rt} {v : V}, bM H v rt -> bM H' v rt
 | .leaf _, _, h => let ⟨x, e, h⟩ := h; ⟨x, e, s _ _ h⟩
 | .nay _, _, h => let ⟨x, c, e, h, a⟩ := h; ⟨x, c, e, s _ _ h, bM.same s a⟩
 | .both _ _, _, h => let ⟨x, c, d, e, h, a, b⟩ := h; ⟨x, c, d, e, s _ _ h, bM.same s a, bM.same s b⟩
 | .either _ _, _, h => let ⟨x, c, d, e, h, a, b⟩ := h; ⟨x, c, d, e, s _ _ h, bM.same s a, bM.same s b⟩
noncomputable def cw : Tr -> PySem.Str
 | .stay _ _ _ _ => "stay" | .over _ _ _ => "over" | .under _ _ _ => "under" | .rose _ _ _ _ => "rose" | .pace _ _ _ _ => "pace" | .turn _ => "turn"
noncomputable def bJ : Tr -> List En
 | .stay i j l h => [some i, some j, l, h] | .over i j s => [some i, some j, some s] | .under i j s => [some i, some j, some s] | .rose i j l h => [some i, some j, some l, some h] | .pace i j l h => [some i, some j, l, h] | .turn t => [some t]
theorem MD (t : Tr) : qx t = .str (cw t) :: (bJ t).map ev := by cases t <;> rfl
theorem oA (t : Tr) : dM t = cw t :: (bJ t).map dj := by cases t <;> rfl
theorem Ca (t : Tr) : cw t ≠ "both" /\ cw t ≠ "either" /\ cw t ≠ "not" := by cases t <;> (simp only [cw]; decide)
theorem qB {x : V} {xs : List V} : cG (x :: xs) 0 = some x := iC (j := 0) rfl
theorem Cb {t : Tr} (hg : c6 t) (hs : xp t) : ∀ o ∈ bJ t, fG o := by
 have ts : ∀ {i : Int}, 0 <= i -> i <= 11 -> fG (some i) := fun h0 h1 => fJ h0 h1
 intro o ho
 cases t with
 | stay i j l h =>
  obtain ⟨k0, k1, k2⟩ := hg
  simp only [bJ, List.mem_cons, List.not_mem_nil, or_false] at ho
  rcases ho with rfl | rfl | rfl | rfl
  ·exact ts k0 (by lia)
  ·exact ts (by lia) k2
  ·exact hs.1
  ·exact hs.2
 | pace i j l h =>
  obtain ⟨k0, k1, k2⟩ := hg
  simp only [bJ, List.mem_cons, List.not_mem_nil, or_false] at ho
  rcases ho with rfl | rfl | rfl | rfl
  ·exact ts k0 (by lia)
  ·exact ts (by lia) k2
  ·exact hs.1
  ·exact hs.2
 | rose i j l h =>
  obtain ⟨⟨k0, k1, k2⟩, _⟩ := hg
  simp only [bJ, List.mem_cons, List.not_mem_nil, or_false] at ho
  rcases ho with rfl | rfl | rfl | rfl
  ·exact ts k0 (by lia)
  ·exact ts (by lia) k2
  ·exact hs.1
  ·exact hs.2
 | over i j s =>
  obtain ⟨k0, k1, k2⟩ := hg
  simp only [bJ, List.mem_cons, List.not_mem_nil, or_false] at ho
  rcases ho with rfl | rfl | rfl
  ·exact ts k0 (by lia)
  ·exact ts (by lia) k2
  ·exact hs
 | under i j s =>
  obtain ⟨k0, k1, k2⟩ := hg
  simp only [bJ, List.mem_cons, List.not_mem_nil, or_false] at ho
  rcases ho with rfl | rfl | rfl
  ·exact ts k0 (by lia)
  ·exact ts (by lia) k2
  ·exact hs
 | turn t =>
  obtain ⟨k0, k1⟩ := hg
  simp only [bJ, List.mem_cons, List.not_mem_nil, or_false] at ho
  subst ho
  exact ts (by lia) (by lia)
def c7 : Rt -> Prop
 | .leaf t => c6 t
 | .nay a => c7 a
 | .both a b => c7 a /\ c7 b
 | .either a b => c7 a /\ c7 b
theorem gf : ∀ {rt : Rt}, bS rt -> c7 rt
 | .leaf _, h => h
 | .nay a, h => gf (rt := a) h
 | .both _ _, h => ⟨gf h.1, gf h.2.1⟩
 | .either _ _, h => ⟨gf h.1, gf h.2.1⟩
inductive ME (H : Hp) (p l r : Addr) (t : Tr) (i : Nat) (σ : St) (H1 : Hp) : Prop
 | mk (e : Option V) (_ : σ = [some (.ref p), some (.ref l), e]) (_ : ah H H1) (_ : H1 r = some (.tup ((bJ t).map ev))) (_ : H1 l = some (.lst ((cw t :: ((bJ t).take i).map dj).map V.str)))
inductive xr (N : Nat) (vs : List V) (H : Hp) (Q : VK) (aN : XK) : Prop
 | mk (v : V) (rt : Rt) (_ : vs = [v]) (_ : bM H v rt) (_ : c7 rt) (_ : eZ rt) (_ : aA rt < N) (_ : (aD rt).length <= 400) (_ : ∀ l H', ah H H' -> H' l = some (.lst ((aD rt).map V.str)) -> Q (.ref l) H')
theorem MF (T : Tx w K mg) (N : Nat) (ih : Ok P w base (N + 3) T.kd (xr N)) : Ok P w base (N + 1 + 3) T.kd (xr (N + 1)) := by
 refine b9 lB ?_
 rintro _ _ _ _ H _ _ _ hr ⟨v, rt, rfl, hv, hg, hs, hh, hl, q⟩
 refine ⟨_, (au (aL (PW.pt (dq (aW (ar (aa 0) af) aH) (fK (aW (ar (aa 0) af) aH)))) (aq (aw (az gE (az gE (cA (ae (ar (aa 0) af) ag)) (aJ (hk := by lia) ih hr (ae (ar (aa 0) af) ag))) (aJ (hk := by lia) ih hr (ae (ar (aa 0) af) ag))))) aP) (au (aL (aW (ar (aa 0) af) aH) (aq (aw (az gE (cA (ae aH ag)) (aJ (hk := by lia) ih hr (ae (ar (aa 0) af) ag))))) aP) (au (aY 1 lB.nd (cA (ae (ar (aa 0) af) ag))) (au (iA PassesOwn.never rfl (EF (jz FC (aa 0) (iB af) kN)) (iO 2 lB.nd) (aq (aL (tH (aa 2)) (aq (eH (fu PySem.F.plainAttrs_list PySem.F.slot_list_append PySem.F.type_list_append mC (aa 1) (ae aH ag)))) (aq (eH (fu PySem.F.plainAttrs_list PySem.F.slot_list_append PySem.F.type_list_append mC (aa 1) (ae (kL EW (by rfl) T.JG Gi (ae (aa 2) ag)) ag))))))) (aq (aw (aa 1))))))), ?_⟩
 have oB : ∀ (m n : Nat), m <= 401 -> n <= 400 -> m + n <= sizeLine := fun m n h1 h2 => Nat.le_trans (show m + n <= 801 by lia) (by decide)
 cases rt with
 | leaf t =>
  obtain ⟨p, rfl, hp⟩ := hv
  rw [MD] at hp
  obtain ⟨e1, e2, e3⟩ := Ca t
  refine bb (fun σ H1 => σ = [some (.ref p), none, none] /\ H = H1) (fun N hN => ?_) ?_
  ·walk_at "gzn"
   refine aO (ay.of hp) (v := .str (cw t)) qB ?_
   walk_at "gzn"
   rw [if_neg (by simpa using e1)]
   refine aO (ay.of hp) (v := .str (cw t)) qB ?_
   walk_at "gzn"
   rw [if_neg (by simpa using e2)]
   exact hN _ _ ⟨rfl, rfl⟩
  rintro σ H1 ⟨rfl, rfl⟩
  refine bb (fun σ H1 => σ = [some (.ref p), none, none] /\ H = H1) (fun N hN => ?_) ?_
  ·walk_at "gzn"
   refine aO (ay.of hp) (v := .str (cw t)) qB ?_
   walk_at "gzn"
   rw [if_neg (by simpa using e3)]
   exact hN _ _ ⟨rfl, rfl⟩
  rintro σ H1 ⟨rfl, rfl⟩
  refine bb (fun σ H1 => ∃ l, σ = [some (.ref p), some (.ref l), none] /\ ah H H1 /\ H l = none /\ H1 l = some (.lst [.str (cw t)])) (fun N hN => ?_) ?_
  ·walk_at "gzn"
   exact aO (ay.of hp) (v := .str (cw t)) qB ⟨by decide, fun l fl => hN _ _ ⟨l, rfl, ak fl, fl, aj⟩⟩
  rintro σ H1 ⟨l, rfl, s1, ij, gg⟩
  have eY := s1 _ _ hp
  walk_at "gzn"
  refine ⟨p, _, rfl, ay.of eY, ?_, fun r hr => ?_⟩
  ·intro z
   have z := z.1
   simp [HT.aT] at z
  ·have e1 : dI (V.str (cw t) :: (bJ t).map ev) (some 1) none = (bJ t).map ev := Ai _ 1
   rw [e1]
   have u2 := s1.trans (ak (o := .tup ((bJ t).map ev)) hr)
   refine ⟨r, rfl, ⟨_, ay.of aj⟩, GK (xs := (bJ t).map ev) (ME H p l r t) ⟨none, rfl, u2, aj, ak hr _ _ gg⟩ (fun i σ H2 _ ⟨_, _, _, h, _⟩ => ay.of h) ?_ ?_⟩
   ·rintro i x σ H2 hx ⟨e, rfl, s2, fZ, aZ⟩
    rw [List.getElem?_map] at hx
    obtain ⟨o, ho, rfl⟩ := Option.map_eq_some_iff.mp hx
    have ei : (bJ t).take (i + 1) = (bJ t).take i ++ [o] := by rw [List.take_succ, ho]; rfl
    have so := Cb hg hs o (List.mem_of_getElem? ho)
    have al : (bJ t).length <= 4 := by cases t <;> simp [bJ]
    have ll : ((cw t :: ((bJ t).take i).map dj).map V.str).length < sizeLine := by
     rw [List.length_map, List.length_cons, List.length_map, List.length_take]
     exact Nat.lt_of_lt_of_le (show min i (bJ t).length + 1 < 6 by lia) (by decide)
    cases o with
    | none =>
     walk_at "gzn"
     refine ⟨.inl ⟨rfl, _, ao.of aZ⟩, _, aZ, ll, _, rfl, fv ij s2, ?_, ?_⟩
     ·rw [aQ (fun z => by rw [z, aZ] at fZ; cases fZ)]
      exact fZ
     ·rw [aj, ei, List.map_append, <- List.cons_append, List.map_append]
      rfl
    | some n =>
     walk_at "gzn"
     refine ⟨.inl ⟨rfl, _, ao.of aZ⟩, Lg so, _, aZ, ll, _, rfl, fv ij s2, ?_, ?_⟩
     ·rw [aQ (fun z => by rw [z, aZ] at fZ; cases fZ)]
      exact fZ
     ·rw [aj, ei, List.map_append, <- List.cons_append, List.map_append]
      rfl
   ·rintro σ H2 ⟨e, rfl, s2, fZ, aZ⟩
    rw [List.length_map, List.take_length, <- oA] at aZ
    walk_at "gzn"
    exact q l H2 s2 aZ
 | nay a =>
  obtain ⟨p, x, rfl, hp, hx⟩ := hv
  have hl : (aD a).length + 1 <= 400 := hl
  have hh : aA a + 1 < N + 1 := hh
  walk_at "gzn"
  refine aO (ay.of hp) (v := .str "not") rfl ?_
  walk_at "gzn"
  refine aO (ay.of hp) (v := .str "not") rfl ?_
  walk_at "gzn"
  refine aO (ay.of hp) (v := .str "not") rfl ?_
  walk_at "gzn"
  refine ⟨by decide, fun l1 f1 => ?_⟩
  have u1 := ak (o := .lst [.str "not"]) f1
  refine aO (ay.of (u1 _ _ hp)) (v := x) rfl ⟨x, a, rfl, hx.same u1, hg, hs, by lia, by lia, fun l2 H2 s2 h2 => ?_⟩
  walk_at "gzn"
  refine ⟨_, s2 _ _ aj, _, h2, oB _ _ (by decide) (by rw [List.length_map]; lia), fun l3 f3 => ?_⟩
  exact q l3 _ (u1.trans (s2.trans (ak f3))) (by rw [aj]; rfl)
 | both a b =>
  obtain ⟨p, x, y, rfl, hp, hx, hy⟩ := hv
  have hl : (aD a ++ aD b).length + 1 <= 400 := hl
  have hh : aA a + aA b + 1 < N + 1 := hh
  rw [List.length_append] at hl
  walk_at "gzn"
  refine aO (ay.of hp) (v := .str "both") rfl ?_
  walk_at "gzn"
  refine aO (ay.of hp) (v := .str "both") rfl ⟨by decide, fun l1 f1 => ?_⟩
  have u1 := ak (o := .lst [.str "both"]) f1
  refine aO (ay.of (u1 _ _ hp)) (v := x) rfl ⟨x, a, rfl, hx.same u1, hg.1, hs.1, by lia, by lia, fun l2 H2 s2 h2 => ?_⟩
  walk_at "gzn"
  refine ⟨_, s2 _ _ aj, _, h2, oB _ _ (by decide) (by rw [List.length_map]; lia), fun l3 f3 => ?_⟩
  have u3 := ak (o := .lst ([.str "both"] ++ (aD a).map V.str)) f3
  have s3 := u1.trans (s2.trans u3)
  refine aO (ay.of (s3 _ _ hp)) (v := y) rfl ⟨y, b, rfl, hy.same s3, hg.2, hs.2, by lia, by lia, fun l4 H4 s4 h4 => ?_⟩
  walk_at "gzn"
  refine ⟨_, s4 _ _ aj, _, h4, oB _ _ (by rw [List.length_append, List.length_map]; show 1 + _ <= 401; lia) (by rw [List.length_map]; lia), fun l5 f5 => ?_⟩
  exact q l5 _ (s3.trans (s4.trans (ak f5))) (by rw [aj, List.append_assoc, <- List.map_append]; rfl)
 | either a b =>
  obtain ⟨p, x, y, rfl, hp, hx, hy⟩ := hv
  have hl : (aD a ++ aD b).length + 1 <= 400 := hl
  have hh : aA a + aA b + 1 < N + 1 := hh
  rw [List.length_append] at hl
  walk_at "gzn"
  refine aO (ay.of hp) (v := .str "either") rfl ?_
  walk_at "gzn"
  refine aO (ay.of hp) (v := .str "either") rfl ?_
  walk_at "gzn"
  refine aO (ay.of hp) (v := .str "either") rfl ⟨by decide, fun l1 f1 => ?_⟩
  have u1 := ak (o := .lst [.str "either"]) f1
  refine aO (ay.of (u1 _ _ hp)) (v := x) rfl ⟨x, a, rfl, hx.same u1, hg.1, hs.1, by lia, by lia, fun l2 H2 s2 h2 => ?_⟩
  walk_at "gzn"
  refine ⟨_, s2 _ _ aj, _, h2, oB _ _ (by decide) (by rw [List.length_map]; lia), fun l3 f3 => ?_⟩
  have u3 := ak (o := .lst ([.str "either"] ++ (aD a).map V.str)) f3
  have s3 := u1.trans (s2.trans u3)
  refine aO (ay.of (s3 _ _ hp)) (v := y) rfl ⟨y, b, rfl, hy.same s3, hg.2, hs.2, by lia, by lia, fun l4 H4 s4 h4 => ?_⟩
  walk_at "gzn"
  refine ⟨_, s4 _ _ aj, _, h4, oB _ _ (by rw [List.length_append, List.length_map]; show 1 + _ <= 401; lia) (by rw [List.length_map]; lia), fun l5 f5 => ?_⟩
  exact q l5 _ (s3.trans (s4.trans (ak f5))) (by rw [aj, List.append_assoc, <- List.map_append]; rfl)
theorem qC (T : Tx w K mg) : ∀ N : Nat, Ok P w base (N + 3) T.kd (xr N)
 | 0 => by
  refine b9 (k := 2) lB ?_
  rintro _ _ _ _ _ _ _ _ _ ⟨_, _, rfl, _, _, _, h, _⟩
  exact absurd h (Nat.not_lt_zero _)
 | N + 1 => MF T N (qC T N)
end
section
seal L2.PE L2.PS L2.aV L2.PA
variable {P : Program} {w : World} {K : PySem.W.Frag} {mg : Str -> Option Value} {base : Heap}
theorem MG {f : PySem.Str} {e : En} (h : fG e) (hf : f = "E" ∨ (f = "N" /\ e ≠ none)) : oj f (dj e) = true := by
 have num : ∀ n : Int, n.natAbs < 10 ^ 60 -> jW (dj (some n)) = true := fun n h => Jn h
 rcases hf with rfl | ⟨rfl, hn⟩
 ·unfold oj
  rw [if_neg (by decide)]
  cases e with
  | none => rfl
  | some n =>
   unfold qt
   rw [num n h, Bool.or_true, Bool.or_true]
 ·unfold oj
  rw [if_pos rfl]
  cases e with
  | none => exact absurd rfl hn
  | some n => exact num n h
inductive MH (K : PySem.W.Frag) (vs : List V) (H : Hp) (Q : VK) (aN : XK) : Prop
 | mk (wl : Addr) (ws : List PySem.Str) (k : Nat) (f : PySem.Str) (e : En) (_ : vs = [.ref wl, .int k, .str f]) (_ : ao K H wl (ws.map V.str)) (_ : ws[k]? = some (dj e)) (_ : fG e) (_ : (f = "E" ∨ (f = "N" /\ e ≠ none))) (_ : ∀ H', ah H H' -> Q (ev e) H')
theorem MI (T : Tx w K mg) : Ok P w base 5 T.jh (MH K) := by
 refine iM we ?_
 rintro _ _ _ _ _ _ _ _ hr ⟨wl, ws, k, f, e, rfl, hw, hk, he, hf, q⟩
 refine ⟨_, (au (aL (tG (aa 1) (bD dt (by rfl) T.dC dw (ae (aa 0) ag))) (aq (gG gH rfl T.nY T.km rfl (ae aH ag))) aP) (au (aL (gv (gK (aJ (Le T) hr (ae (aa 2) (ae (ar (aa 0) (aa 1)) ag))))) (aq (gG gH rfl T.nY T.km rfl (ae aH ag))) aP) (aq (aw (aJ (Li T) hr (ae (ar (aa 0) (aa 1)) ag)))))), ?_⟩
 have kl := (List.getElem?_eq_some_iff.mp hk).1
 have el : (dj e).length <= 100000 := Nat.le_trans (oz he) (by decide)
 have kq : cG (ws.map V.str) (k : Int) = some (.str (dj e)) := iC (by rw [List.getElem?_map, hk]; rfl)
 walk_at "gzn"
 refine ⟨_, dZ hw, ?_⟩
 rw [if_neg (by rw [List.length_map]; lia)]
 refine bK hw kq ⟨f, dj e, rfl, el, fun H1 s1 => ?_⟩
 walk_at "gzn"
 rw [if_neg (by rw [MG he hf]; decide)]
 refine bK (s1.seq hw) kq ⟨e, rfl, he, q _ s1⟩
inductive MJ (vs : List V) (H : Hp) (Q : VK) (aN : XK) : Prop
 | mk (l h : En) (_ : vs = [ev l, ev h]) (_ : eA l h = false) (_ : ∀ p H', ah H H' -> H' p = some (.tup [ev l, ev h]) -> Q (.ref p) H')
theorem Cc (T : Tx w K mg) : Ok P w base 2 T.fV MJ := by
 refine iM wg ?_
 rintro _ _ _ _ _ _ _ _ hr ⟨l, h, rfl, hc, q⟩
 refine ⟨_, (au (aL (gK (aJ (w9 T) hr (ae (aa 0) (ae (aa 1) ag)))) (aq (gG gH rfl T.qp T.lK rfl (ae aH ag))) aP) (aq (aw (bh (ae (aa 0) (ae (aa 1) ag)))))), ?_⟩
 walk_at "gzn"
 refine ⟨l, h, rfl, ?_⟩
 walk_at "gzn"
 rw [hc, if_neg (by decide)]
 exact ⟨bI, fun p hp => q p _ (ak hp) aj⟩
end
section
seal L2.PE L2.PS L2.aV L2.PA
variable {P : Program} {w : World} {K : PySem.W.Frag} {mg : Str -> Option Value} {base : Heap}
def dQ (H : Hp) : V -> Rt -> Prop
 | v, .leaf t => ∃ p l, v = .ref p /\ H p = some (.tup [.str (cw t), .ref l]) /\ H l = some (.lst ((bJ t).map ev))
 | v, .nay a => ∃ p l x, v = .ref p /\ H p = some (.tup [.str "not", .ref l]) /\ H l = some (.lst [x]) /\ dQ H x a
 | v, .both a b => ∃ p l x y, v = .ref p /\ H p = some (.tup [.str "both", .ref l]) /\ H l = some (.lst [x, y]) /\ dQ H x a /\ dQ H y b
 | v, .either a b => ∃ p l x y, v = .ref p /\ H p = some (.tup [.str "either", .ref l]) /\ H l = some (.lst [x, y]) /\ dQ H x a /\ dQ H y b
theorem dQ.same {H H' : Hp} (s : ah H H') : ∀ {rt : Rt} {v : V}, dQ H v rt -> dQ H' v rt
 | .leaf _, _, h => let ⟨x, l, e, h, g⟩ := h; ⟨x, l, e, s _ _ h, s _ _ g⟩
 | .nay _, _, h => let ⟨x, l, c, e, h, g, a⟩ := h; ⟨x, l, c, e, s _ _ h, s _ _ g, dQ.same s a⟩
 | .both _ _, _, h => let ⟨x, l, c, d, e, h, g, a, b⟩ := h; ⟨x, l, c, d, e, s _ _ h, s _ _ g, dQ.same s a, dQ.same s b⟩
 | .either _ _, _, h => let ⟨x, l, c, d, e, h, g, a, b⟩ := h; ⟨x, l, c, d, e, s _ _ h, s _ _ g, dQ.same s a, dQ.same s b⟩
def cy (G H : Hp) : V -> Rt -> Prop
 | v, .leaf t => ∃ p l, v = .ref p /\ G l = none /\ H p = some (.tup [.str (cw t), .ref l]) /\ H l = some (.lst ((bJ t).map ev))
 | v, .nay a => ∃ p l x, v = .ref p /\ G l = none /\ H p = some (.tup [.str "not", .ref l]) /\ H l = some (.lst [x]) /\ cy G H x a
 | v, .both a b => ∃ p l x y, v = .ref p /\ G l = none /\ H p = some (.tup [.str "both", .ref l]) /\ H l = some (.lst [x, y]) /\ cy G H x a /\ cy G H y b
 | v, .either a b => ∃ p l x y, v = .ref p /\ G l = none /\ H p = some (.tup [.str "either", .ref l]) /\ H l = some (.lst [x, y]) /\ cy G H x a /\ cy G H y b
theorem cy.is {G H : Hp} : ∀ {rt : Rt} {v : V}, cy G H v rt -> dQ H v rt
 | .leaf _, _, h => let ⟨x, l, e, _, h, g⟩ := h; ⟨x, l, e, h, g⟩
 | .nay _, _, h => let ⟨x, l, c, e, _, h, g, a⟩ := h; ⟨x, l, c, e, h, g, cy.is a⟩
 | .both _ _, _, h => let ⟨x, l, c, d, e, _, h, g, a, b⟩ := h; ⟨x, l, c, d, e, h, g, cy.is a, cy.is b⟩
 | .either _ _, _, h => let ⟨x, l, c, d, e, _, h, g, a, b⟩ := h; ⟨x, l, c, d, e, h, g, cy.is a, cy.is b⟩
theorem cy.step {G G' H H' : Hp} (f : ∀ b, G b = none -> G' b = none) (k : ∀ b o, G b = none -> H b = some o -> H' b = some o) (t : ∀ p xs, H p = some (.tup xs) -> H' p = some (.tup xs)) : ∀ {rt : Rt} {v : V}, cy G H v rt -> cy G' H' v rt
 | .leaf _, _, h => let ⟨x, l, e, z, h, g⟩ := h; ⟨x, l, e, f _ z, t _ _ h, k _ _ z g⟩
 | .nay _, _, h => let ⟨x, l, c, e, z, h, g, a⟩ := h; ⟨x, l, c, e, f _ z, t _ _ h, k _ _ z g, cy.step f k t a⟩
 | .both _ _, _, h => let ⟨x, l, c, d, e, z, h, g, a, b⟩ := h; ⟨x, l, c, d, e, f _ z, t _ _ h, k _ _ z g, cy.step f k t a, cy.step f k t b⟩
 | .either _ _, _, h => let ⟨x, l, c, d, e, z, h, g, a, b⟩ := h; ⟨x, l, c, d, e, f _ z, t _ _ h, k _ _ z g, cy.step f k t a, cy.step f k t b⟩
noncomputable def cJ : Rt -> List Rt
 | .leaf _ => [] | .nay a => [a] | .both a b => [a, b] | .either a b => [a, b]
noncomputable def fb : Rt -> PySem.Str
 | .leaf t => cw t | .nay _ => "not" | .both _ _ => "both" | .either _ _ => "either"
noncomputable def lP : Tr -> PySem.Str
 | .stay _ _ _ _ => "NNEE" | .over _ _ _ => "NNN" | .under _ _ _ => "NNN" | .rose _ _ _ _ => "NNNN" | .pace _ _ _ _ => "NNEE" | .turn _ => "N"
noncomputable def oE : Rt -> PySem.Str
 | .leaf t => lP t | .nay _ => "R" | .both _ _ => "RR" | .either _ _ => "RR"
theorem Cd (rt : Rt) : cM FORMS (.inr (fb rt)) = some (.str (oE rt)) := by
 cases rt with
 | leaf t => cases t <;> rfl
 | _ => rfl
theorem MK (t : Tr) {i : Nat} {v : V} (h : (ck (lP t))[i]? = some v) : ∃ f e, v = .str f /\ f ≠ "R" /\ (bJ t)[i]? = some e /\ (f = "E" ∨ (f = "N" /\ e ≠ none)) := by
 have e4 : ck "NNEE" = [.str "N", .str "N", .str "E", .str "E"] := rfl
 have e3 : ck "NNN" = [.str "N", .str "N", .str "N"] := rfl
 have e5 : ck "NNNN" = [.str "N", .str "N", .str "N", .str "N"] := rfl
 have e1 : ck "N" = [.str "N"] := rfl
 have n1 : ("N" : PySem.Str) ≠ "R" := by decide
 have n2 : ("E" : PySem.Str) ≠ "R" := by decide
 cases t <;> simp only [lP, e4, e3, e5, e1] at h <;> (
  rcases i with _ | _ | _ | _ | i <;> simp only [List.getElem?_cons_zero, List.getElem?_cons_succ, List.getElem?_nil, reduceCtorEq, Option.some.injEq] at h <;> (first | (subst h; refine ⟨_, _, rfl, ?_, rfl, ?_⟩ <;> first | exact n1 | exact n2 | exact .inl rfl | exact .inr ⟨rfl, fun z => nomatch z⟩)))
theorem ML (rt : Rt) (hk : ∀ t, rt ≠ .leaf t) : ck (oE rt) = (cJ rt).map fun _ => V.str "R" := by
 cases rt with
 | leaf t => exact absurd rfl (hk t)
 | _ => rfl
theorem Ce (t : Tr) : (ck (lP t)).length = (bJ t).length := by cases t <;> rfl
theorem MM (rt : Rt) (hk : ∀ t, rt ≠ .leaf t) : aD rt = fb rt :: (cJ rt).flatMap aD := by
 cases rt with
 | leaf t => exact absurd rfl (hk t)
 | nay a => simp [aD, fb, cJ]
 | both a b => simp [aD, fb, cJ]
 | either a b => simp [aD, fb, cJ]
theorem MN (rt : Rt) : ∃ r, aD rt = fb rt :: r := by
 cases rt with
 | leaf t => exact ⟨_, oA t⟩
 | nay a => exact ⟨_, rfl⟩
 | both a b => exact ⟨_, rfl⟩
 | either a b => exact ⟨_, rfl⟩
theorem MO {rt c : Rt} {N : Nat} (hc : c ∈ cJ rt) (hg : bS rt) (hs : eZ rt) (hh : aA rt < N + 1) : bS c /\ eZ c /\ aA c < N := by
 cases rt with
 | leaf t => exact absurd hc List.not_mem_nil
 | nay a =>
  obtain rfl := List.mem_singleton.mp hc
  have hh : aA c + 1 < N + 1 := hh
  exact ⟨hg, hs, by lia⟩
 | both a b =>
  have hh : aA a + aA b + 1 < N + 1 := hh
  simp only [cJ, List.mem_cons, List.not_mem_nil, or_false] at hc
  rcases hc with rfl | rfl
  ·exact ⟨hg.1, hs.1, by lia⟩
  ·exact ⟨hg.2.1, hs.2, by lia⟩
 | either a b =>
  have hh : aA a + aA b + 1 < N + 1 := hh
  simp only [cJ, List.mem_cons, List.not_mem_nil, or_false] at hc
  rcases hc with rfl | rfl
  ·exact ⟨hg.1, hs.1, by lia⟩
  ·exact ⟨hg.2.1, hs.2, by lia⟩
theorem MP {G H : Hp} {p l : Addr} {xs : List V} {rt : Rt} (hL : ∀ t, rt ≠ .leaf t) (gl : G l = none) (hp : H p = some (.tup [.str (fb rt), .ref l])) (hl : H l = some (.lst xs)) (hA : av (cy G H) xs (cJ rt)) : cy G H (.ref p) rt := by
 cases rt with
 | leaf t => exact absurd rfl (hL t)
 | nay a =>
  match xs, hA with
  | [x], hA => exact ⟨p, l, x, rfl, gl, hp, hl, hA.1⟩
 | both a b =>
  match xs, hA with
  | [x, y], hA => exact ⟨p, l, x, y, rfl, gl, hp, hl, hA.1, hA.2.1⟩
 | either a b =>
  match xs, hA with
  | [x, y], hA => exact ⟨p, l, x, y, rfl, gl, hp, hl, hA.1, hA.2.1⟩
theorem MQ {rs : List Rt} {i : Nat} {c : Rt} (h : rs[i]? = some c) : rs.flatMap aD = (rs.take i).flatMap aD ++ (aD c ++ (rs.drop (i + 1)).flatMap aD) := by
 have hi := (List.getElem?_eq_some_iff.mp h).1
 have e : rs = rs.take i ++ (c :: rs.drop (i + 1)) := by
  have e1 : rs.drop i = c :: rs.drop (i + 1) := by
   rw [List.drop_eq_getElem_cons hi]
   congr 1
   exact (List.getElem?_eq_some_iff.mp h).2
  rw [<- e1, List.take_append_drop]
 have e2 := congrArg (fun l => List.flatMap aD l) e
 simp only [List.flatMap_append, List.flatMap_cons] at e2
 exact e2
inductive xt (K : PySem.W.Frag) (N : Nat) (vs : List V) (H : Hp) (Q : VK) (aN : XK) : Prop
 | mk (wl : Addr) (ws : List PySem.Str) (k : Nat) (rt : Rt) (rest : List PySem.Str) (_ : vs = [.ref wl, .int k]) (_ : ao K H wl (ws.map V.str)) (_ : ws.drop k = aD rt ++ rest) (_ : ws.length <= 60) (_ : bS rt) (_ : eZ rt) (_ : aA rt < N) (_ : ∀ v q H', ah H H' -> H' q = some (.tup [v, .int ((k + (aD rt).length : Nat) : Int)]) -> cy H H' v rt -> Q (.ref q) H')
inductive MR (H : Hp) (wl l : Addr) (k : Nat) (t : Tr) (i : Nat) (σ : St) (H1 : Hp) : Prop
 | mk (e : Option V) (_ : σ = [some (.ref wl), some (.int k), some (.ref l), some (.int ((k + 1 + i : Nat) : Int)), e, none]) (_ : ah H H1) (_ : H1 l = some (.lst (((bJ t).take i).map ev)))
inductive MS (H : Hp) (wl l : Addr) (k : Nat) (rs : List Rt) (i : Nat) (σ : St) (H1 : Hp) : Prop
 | mk (xs : List V) (e1 e2 : Option V) (_ : σ = [some (.ref wl), some (.int k), some (.ref l), some (.int ((k + 1 + ((rs.take i).flatMap aD).length : Nat) : Int)), e1, e2]) (_ : ah H H1) (_ : H1 l = some (.lst xs)) (_ : av (cy (upd H l (.lst [])) H1) xs (rs.take i))
theorem MT (T : Tx w K mg) (N : Nat) (ih : Ok P w base (N + 6) T.eV (xt K N)) : Ok P w base (N + 1 + 6) T.eV (xt K (N + 1)) := by
 refine iM gN ?_
 rintro _ _ _ _ H _ _ _ hr ⟨wl, ws, k, rt, rest, rfl, hw, hd, qD, hg, hs, hh, q⟩
 refine ⟨_, (au (aL (PW.pt (dq (tG (aa 1) (bD dt (by rfl) T.dC dw (ae (aa 0) ag))) (fK (x2 (Jh T.forms.m (T.forms.d _) (ar (aa 0) (aa 1))))))) (aq (gG gH rfl T.nY T.km rfl (ae aH ag))) aP) (au (aY 2 gN.nd (cA ag)) (au (aY 3 gN.nd (az a9 (aa 1) af)) (au (iA PassesOwn.leaving rfl (Bj (Jg T.forms.m (T.forms.d _) (ar (aa 0) (aa 1)))) (iO 4 gN.nd) (aq (aL (aW (aa 4) aH) (au (aY 5 gN.nd (eK ih (hr.mono (by lia)) rfl T.eV.m T.eV.F.kp T.eV.b .nil cu (ae (aa 0) (ae (aa 3) ag)))) (au (eH (fu PySem.F.plainAttrs_list PySem.F.slot_list_append PySem.F.type_list_append mC (aa 2) (ae (ar (aa 5) af) ag))) (aq (aY 3 gN.nd (ar (aa 5) af))))) (au (eH (fu PySem.F.plainAttrs_list PySem.F.slot_list_append PySem.F.type_list_append mC (aa 2) (ae (eK (MI T) (hr.mono (by lia)) rfl T.jh.m T.jh.F.kp T.jh.b .nil cu (ae (aa 0) (ae (aa 3) (ae (aa 4) ag)))) ag))) (aq (aY 3 gN.nd (az a9 (aa 3) af))))))) (aq (aw (bh (ae (bh (ae (ar (aa 0) (aa 1)) (ae (aa 2) ag))) (ae (aa 3) ag))))))))), ?_⟩
 obtain ⟨r0, e0⟩ := MN rt
 have hk : ws[k]? = some (fb rt) := by
  have z := congrArg (fun l => l[0]?) hd
  simp only [List.getElem?_drop, Nat.add_zero, e0, List.cons_append, List.getElem?_cons_zero] at z
  exact z
 have kl := (List.getElem?_eq_some_iff.mp hk).1
 have kq : cG (ws.map V.str) (k : Int) = some (.str (fb rt)) := iC (by rw [List.getElem?_map, hk]; rfl)
 refine bb (fun σ H1 => σ = [some (.ref wl), some (.int k), none, none, none, none] /\ H = H1) (fun N hN => ?_) ?_
 ·walk_at "gzn"
  refine ⟨_, dZ hw, ?_⟩
  rw [if_neg (by rw [List.length_map]; lia)]
  refine bK hw kq ⟨.inr (fb rt), rfl, ?_⟩
  rw [Cd]
  exact hN _ _ ⟨rfl, rfl⟩
 rintro σ H1 ⟨rfl, rfl⟩
 refine bb (fun σ H1 => ∃ l, σ = [some (.ref wl), some (.int k), some (.ref l), none, none, none] /\ ah H H1 /\ H l = none /\ H1 l = some (.lst [])) (fun N hN => ?_) ?_
 ·walk_at "gzn"
  exact ⟨by decide, fun l fl => hN _ _ ⟨l, rfl, ak fl, fl, aj⟩⟩
 rintro σ H1 ⟨l, rfl, s1, fl, hl⟩
 refine bb (fun σ H2 => σ = [some (.ref wl), some (.int k), some (.ref l), some (.int ((k + 1 : Nat) : Int)), none, none] /\ H1 = H2) (fun N hN => ?_) ?_
 ·walk_at "gzn"
  exact hN _ _ ⟨rfl, rfl⟩
 rintro σ H2 ⟨rfl, rfl⟩
 walk_at "gzn"
 refine bK (s1.seq hw) kq ⟨.inr (fb rt), rfl, _, Cd rt, _, rfl, ?_⟩
 by_cases hL : ∃ t, rt = .leaf t
 ·obtain ⟨t, rfl⟩ := hL
  have hd : ws.drop k = dM t ++ rest := hd
  rw [oA] at hd
  refine Bk (MR H wl l k t) ⟨none, rfl, s1, hl⟩ ?_ ?_
  ·rintro i x σ H2 hx ⟨e, rfl, s2, aZ⟩
   obtain ⟨f, o, rfl, nR, ho, hf⟩ := MK t hx
   have ei : (bJ t).take (i + 1) = (bJ t).take i ++ [o] := by rw [List.take_succ, ho]; rfl
   have il := (List.getElem?_eq_some_iff.mp ho).1
   have so := Cb hg hs o (List.mem_of_getElem? ho)
   have al : (bJ t).length <= 4 := by cases t <;> simp [bJ]
   have ll : (((bJ t).take i).map ev).length < sizeLine := by
    rw [List.length_map, List.length_take]
    exact Nat.lt_of_lt_of_le (show min i (bJ t).length < 6 by lia) (by decide)
   have wk : ws[k + 1 + i]? = some (dj o) := by
    have z := congrArg (fun l => l[i + 1]?) hd
    simp only [List.getElem?_drop, List.cons_append, List.getElem?_cons_succ] at z
    rw [show k + 1 + i = k + (i + 1) by lia, z, List.getElem?_append_left (by rw [List.length_map]; exact il), List.getElem?_map, ho]
    rfl
   walk_at "gzn"
   rw [if_neg (by simpa using nR)]
   walk_at "gzn"
   refine ⟨.inl ⟨rfl, _, ao.of aZ⟩, wl, ws, k + 1 + i, f, o, rfl, s2.seq hw, wk, so, hf, fun H3 s3 => ⟨_, s3 _ _ aZ, ll, _, rfl, fv fl (s2.trans s3), ?_⟩⟩
   rw [aj, ei, List.map_append]
   rfl
  ·rintro σ H2 ⟨e, rfl, s2, aZ⟩
   rw [show oE (.leaf t) = lP t from rfl, Ce, List.take_length] at aZ
   walk_at "gzn"
   refine bK (s2.seq hw) kq ⟨bI, fun p hp => ⟨bI, fun r hr => ?_⟩⟩
   have u2 := ak (o := .tup [.str (fb (.leaf t)), .ref l]) hp
   refine q (.ref p) r _ (s2.trans (u2.trans (ak hr))) ?_ ⟨p, l, rfl, fl, ak hr _ _ aj, (u2.trans (ak hr)) _ _ aZ⟩
   rw [aj, show aD (.leaf t) = dM t from rfl, oA, show oE (.leaf t) = lP t from rfl, Ce, List.length_cons, List.length_map, show k + 1 + (bJ t).length = k + ((bJ t).length + 1) by lia]
 ·have hL : ∀ t, rt ≠ .leaf t := fun t z => hL ⟨t, z⟩
  have rk := MM rt hL
  have fk := ML rt hL
  have kn : (cJ rt).length <= 2 := by cases rt <;> simp [cJ]
  have Gn : ∀ b, upd H l (.lst []) b = none -> b ≠ l /\ H b = none := fun b z => by
   have n : b ≠ l := fun y => by rw [y, aj] at z; cases z
   rw [aQ n] at z
   exact ⟨n, z⟩
  refine Bk (MS H wl l k (cJ rt)) ⟨[], none, none, rfl, s1, hl, trivial⟩ ?_ ?_
  ·rintro i x σ H2 hx ⟨xs, e1, e2, rfl, s2, aZ, hA⟩
   rw [fk, List.getElem?_map] at hx
   obtain ⟨c, hc, rfl⟩ := Option.map_eq_some_iff.mp hx
   have ei : (cJ rt).take (i + 1) = (cJ rt).take i ++ [c] := by rw [List.take_succ, hc]; rfl
   have dk : ws.drop (k + 1 + (((cJ rt).take i).flatMap aD).length) = aD c ++ (((cJ rt).drop (i + 1)).flatMap aD ++ rest) := by
    have z := congrArg (fun l => l.drop (1 + (((cJ rt).take i).flatMap aD).length)) hd
    simp only [List.drop_drop, rk, MQ hc] at z
    rw [show k + 1 + (((cJ rt).take i).flatMap aD).length = k + (1 + (((cJ rt).take i).flatMap aD).length) by lia, z, Nat.add_comm 1, List.cons_append, List.drop_succ_cons, List.append_assoc, List.drop_left', List.append_assoc]
    rfl
   obtain ⟨cg, cs, ch⟩ := MO (List.mem_of_getElem? hc) hg hs hh
   have xl : xs.length <= 2 := by
    have := hA.len
    rw [List.length_take] at this
    lia
   walk_at "gzn"
   refine ⟨wl, ws, _, c, _, rfl, s2.seq hw, dk, qD, cg, cs, ch, fun v p H3 s3 hp hv => ?_⟩
   walk_at "gzn"
   have qE := s3 _ _ aZ
   have pl : p ≠ l := fun z => by rw [z, qE] at hp; cases hp
   refine ⟨.inl ⟨rfl, _, ao.of qE⟩, aO (ay.of hp) rfl ⟨_, qE, Nat.lt_of_le_of_lt xl (by decide), aG (by rw [aQ pl]; exact hp) ?_⟩⟩
   refine ⟨_, _, _, by rw [ei, List.flatMap_append, List.length_append, List.flatMap_cons, List.flatMap_nil, List.append_nil, Nat.add_assoc], fv fl (s2.trans s3), aj, ?_⟩
   rw [ei]
   have A1 : av (cy (upd H l (.lst [])) (upd H3 l (.lst (xs ++ [v])))) xs ((cJ rt).take i) := hA.imp fun x c z => z.step (fun _ y => y) (fun b o y e => by rw [aQ (Gn b y).1]; exact s3 _ _ e) fun p ys e => by rw [aQ (fun z => by rw [z, aZ] at e; cases e)]; exact s3 _ _ e
   refine av.app A1 ⟨hv.step (fun b y => ?_) (fun b o y e => ?_) fun p ys e => ?_, trivial⟩
   ·have n : b ≠ l := fun z => by rw [z, aZ] at y; cases y
    rw [aQ n]
    exact s2.free y
   ·have n : b ≠ l := fun z => by rw [z, aZ] at y; cases y
    rw [aQ n]
    exact e
   ·rw [aQ (fun z => by rw [z, qE] at e; cases e)]
    exact e
  ·rintro σ H2 ⟨xs, e1, e2, rfl, s2, aZ, hA⟩
   rw [fk, List.length_map, List.take_length] at hA
   walk_at "gzn"
   refine bK (s2.seq hw) kq ⟨bI, fun p hp => ⟨bI, fun r hr => ?_⟩⟩
   have u2 := ak (o := .tup [.str (fb rt), .ref l]) hp
   have u3 := u2.trans (ak (o := .tup [.ref p, .int ((k + 1 + (((cJ rt).take (ck (oE rt)).length).flatMap aD).length : Nat) : Int)]) hr)
   refine q (.ref p) r _ (s2.trans u3) ?_ (MP hL fl (ak hr _ _ aj) (u3 _ _ aZ) (hA.imp fun x c z => z.step (fun b y => (Gn b y).2) (fun b o _ e => u3 _ _ e) fun p ys e => u3 _ _ e))
   rw [aj, fk, List.length_map, List.take_length, rk, List.length_cons, show k + 1 + ((cJ rt).flatMap aD).length = k + (((cJ rt).flatMap aD).length + 1) by lia]
theorem Cf (T : Tx w K mg) : ∀ N : Nat, Ok P w base (N + 6) T.eV (xt K N)
 | 0 => by
  refine iM (k := 5) gN ?_
  rintro _ _ _ _ _ _ _ _ _ ⟨_, _, _, _, _, rfl, _, _, _, _, _, h, _⟩
  exact absurd h (Nat.not_lt_zero _)
 | N + 1 => MT T N (Cf T N)
end
section
seal L2.PE L2.PS L2.aV L2.PA
variable {P : Program} {w : World} {K : PySem.W.Frag} {mg : Str -> Option Value} {base : Heap}
def xu : Tr -> Prop
 | .stay _ _ l h => eA l h = false
 | .pace _ _ l h => eA l h = false
 | _ => True
inductive MU (T : Tx w K mg) (vs : List V) (H : Hp) (Q : VK) (aN : XK) : Prop
 | mk (m : Addr) (t : Tr) (_ : vs = [.str (cw t), .ref m]) (_ : H m = some (.lst ((bJ t).map ev))) (_ : c6 t) (_ : xu t) (_ : ∀ x H', ah H H' -> f7 T H' x t -> Q (.ref x) H')
theorem MV (T : Tx w K mg) : Ok P w base 4 T.ji (MU T) := by
 refine iM wj ?_
 rintro _ _ _ s H _ _ _ hr ⟨m, t, rfl, hl, hg, hc, q⟩
 refine ⟨_, (au (aL (aW (aa 0) aH) (aq (aw (gZ T.wy (Lo T) hr.m rfl T.JL T.j4.b .nil cu (ae (ar (aa 1) af) (ae (ar (aa 1) af) (ae (ar (aa 1) af) ag)))))) aP) (au (aL (aW (aa 0) aH) (aq (aw (gZ T.wz (Lq T) hr.m rfl T.JM T.j5.b .nil cu (ae (ar (aa 1) af) (ae (ar (aa 1) af) (ae (ar (aa 1) af) ag)))))) aP) (au (aL (aW (aa 0) aH) (aq (aw (gZ T.wx (Lm T) hr.m rfl T.JK T.j3.b .nil cu (ae (ar (aa 1) af) (ae (ar (aa 1) af) (ae (eK (Cc T) hr.m rfl T.fV.m T.fV.F.kp T.fV.b .nil cu (ae (ar (aa 1) af) (ae (ar (aa 1) af) ag))) ag)))))) aP) (au (aL (aW (aa 0) aH) (aq (aw (gZ T.wA (Lv T) hr.m rfl T.JN T.j6.b .nil cu (ae (ar (aa 1) af) (ae (ar (aa 1) af) (ae (ar (aa 1) af) (ae (ar (aa 1) af) ag))))))) aP) (au (aL (aW (aa 0) aH) (aq (aw (gZ T.wB (Ls T) hr.m rfl T.JO T.j7.b .nil cu (ae (ar (aa 1) af) (ae (ar (aa 1) af) (ae (eK (Cc T) hr.m rfl T.fV.m T.fV.F.kp T.fV.b .nil cu (ae (ar (aa 1) af) (ae (ar (aa 1) af) ag))) ag)))))) aP) (aq (aw (gZ T.wC (Lx T) hr.m rfl T.JP T.j8.b .nil cu (ae (ar (aa 1) af) ag))))))))), ?_⟩
 cases t with
 | stay i j l h =>
  replace hl : H m = some (.lst [.int i, .int j, ev l, ev h]) := hl
  dsimp only [cw]
  walk_at "gzn"
  repeat (refine bK (ao.of hl) rfl ?_; walk_at "gzn")
  refine ⟨l, h, rfl, hc, fun y H1 sy ey => ?_⟩
  walk_at "gzn"
  intro x dx hx gh dG
  have mk := hW (C := T.br) (fs := []) hx gh dG
  refine ⟨x, dx, i, j, _, rfl, aj, fun z => absurd hg z, fun hk => ⟨rfl, ?_⟩⟩
  refine q x _ (fun b o e => ?_) ⟨dx, y, aj, by rw [aQ (fun z => by rw [<- z, ey] at hx; cases hx)]; exact mk _ _ ey⟩
  have e2 := (sy : ah H _) _ _ e
  rw [aQ (fun z => by rw [z, hx] at e2; cases e2)]
  exact mk _ _ e2
 | pace i j l h =>
  replace hl : H m = some (.lst [.int i, .int j, ev l, ev h]) := hl
  dsimp only [cw]
  walk_at "gzn"
  repeat (refine bK (ao.of hl) rfl ?_; walk_at "gzn")
  refine ⟨l, h, rfl, hc, fun y H1 sy ey => ?_⟩
  walk_at "gzn"
  intro x dx hx gh dG
  have mk := hW (C := T.bo) (fs := []) hx gh dG
  refine ⟨x, dx, i, j, _, rfl, aj, fun z => absurd hg z, fun hk => ⟨rfl, ?_⟩⟩
  refine q x _ (fun b o e => ?_) ⟨dx, y, aj, by rw [aQ (fun z => by rw [<- z, ey] at hx; cases hx)]; exact mk _ _ ey⟩
  have e2 := (sy : ah H _) _ _ e
  rw [aQ (fun z => by rw [z, hx] at e2; cases e2)]
  exact mk _ _ e2
 | over i j s =>
  replace hl : H m = some (.lst [.int i, .int j, .int s]) := hl
  dsimp only [cw]
  walk_at "gzn"
  repeat (refine bK (ao.of hl) rfl ?_; walk_at "gzn")
  intro x dx hx gh dG
  have mk := hW (C := T.bu) (fs := []) hx gh dG
  refine ⟨x, dx, i, j, _, rfl, aj, fun z => absurd hg z, fun hk => ⟨rfl, ?_⟩⟩
  refine q x _ (fun b o e => ?_) ⟨dx, aj⟩
  have e2 := (ah.refl H : ah H _) _ _ e
  rw [aQ (fun z => by rw [z, hx] at e2; cases e2)]
  exact mk _ _ e2
 | under i j s =>
  replace hl : H m = some (.lst [.int i, .int j, .int s]) := hl
  dsimp only [cw]
  walk_at "gzn"
  repeat (refine bK (ao.of hl) rfl ?_; walk_at "gzn")
  intro x dx hx gh dG
  have mk := hW (C := T.bw) (fs := []) hx gh dG
  refine ⟨x, dx, i, j, _, rfl, aj, fun z => absurd hg z, fun hk => ⟨rfl, ?_⟩⟩
  refine q x _ (fun b o e => ?_) ⟨dx, aj⟩
  have e2 := (ah.refl H : ah H _) _ _ e
  rw [aQ (fun z => by rw [z, hx] at e2; cases e2)]
  exact mk _ _ e2
 | rose i j l h =>
  replace hl : H m = some (.lst [.int i, .int j, .int l, .int h]) := hl
  dsimp only [cw]
  walk_at "gzn"
  repeat (refine bK (ao.of hl) rfl ?_; walk_at "gzn")
  intro x dx hx gh dG
  have mk := hW (C := T.bx) (fs := []) hx gh dG
  refine ⟨x, dx, i, j, l, h, rfl, aj, fun z => absurd hg z, fun hk => ⟨rfl, ?_⟩⟩
  refine q x _ (fun b o e => ?_) ⟨dx, aj⟩
  have e2 := (ah.refl H : ah H _) _ _ e
  rw [aQ (fun z => by rw [z, hx] at e2; cases e2)]
  exact mk _ _ e2
 | turn t =>
  replace hl : H m = some (.lst [.int t]) := hl
  dsimp only [cw]
  walk_at "gzn"
  repeat (refine bK (ao.of hl) rfl ?_; walk_at "gzn")
  intro x dx hx gh dG
  have mk := hW (C := T.bE) (fs := []) hx gh dG
  refine ⟨x, dx, t, rfl, aj, fun z => absurd hg z, fun hk => ⟨rfl, ?_⟩⟩
  refine q x _ (fun b o e => ?_) ⟨dx, aj⟩
  have e2 := (ah.refl H : ah H _) _ _ e
  rw [aQ (fun z => by rw [z, hx] at e2; cases e2)]
  exact mk _ _ e2
end
section
seal L2.PE L2.PS L2.aV L2.PA
variable {P : Program} {w : World} {K : PySem.W.Frag} {mg : Str -> Option Value} {base : Heap}
def fe : Rt -> Prop
 | .leaf t => xu t
 | .nay a => fe a
 | .both a b => fe a /\ fe b
 | .either a b => fe a /\ fe b
inductive xw (T : Tx w K mg) (N : Nat) (vs : List V) (H : Hp) (Q : VK) (aN : XK) : Prop
 | mk (v : V) (rt : Rt) (_ : vs = [v]) (_ : dQ H v rt) (_ : bS rt) (_ : fe rt) (_ : aA rt < N) (_ : aA rt < 64) (_ : ∀ v' H', ah H H' -> bz T H' v' rt -> Q v' H')
theorem MW (T : Tx w K mg) (N : Nat) (ih : Ok P w base (N + 77) T.cv (xw T N)) : Ok P w base (N + 1 + 77) T.cv (xw T (N + 1)) := by
 refine iM lA ?_
 rintro _ _ _ s H _ _ _ hr ⟨v, rt, rfl, hv, hg, hc, hh, h6, q⟩
 refine ⟨_, (au (aY 1 lA.nd (ar (aa 0) af)) (au (aY 2 lA.nd (ar (aa 0) af)) (au (aL (aW (aa 1) aH) (aq (aw (gZ T.wD (B9 T) (hr.mono (by lia)) rfl T.JQ T.gO.b .nil cu (ae (eK ih (hr.mono (by lia)) rfl T.cv.m T.cv.F.kp T.cv.b .nil cu (ae (ar (aa 2) af) ag)) (ae (eK ih (hr.mono (by lia)) rfl T.cv.m T.cv.F.kp T.cv.b .nil cu (ae (ar (aa 2) af) ag)) ag))))) aP) (au (aL (aW (aa 1) aH) (aq (aw (gZ T.wF (B9 T) (hr.mono (by lia)) rfl T.JR T.gO.b .nil cu (ae (eK ih (hr.mono (by lia)) rfl T.cv.m T.cv.F.kp T.cv.b .nil cu (ae (ar (aa 2) af) ag)) (ae (eK ih (hr.mono (by lia)) rfl T.cv.m T.cv.F.kp T.cv.b .nil cu (ae (ar (aa 2) af) ag)) ag))))) aP) (au (aL (aW (aa 1) aH) (aq (aw (gZ T.wG (MB T) (hr.mono (by lia)) rfl T.JS T.j9.b .nil dY (ae (eK ih (hr.mono (by lia)) rfl T.cv.m T.cv.F.kp T.cv.b .nil cu (ae (ar (aa 2) af) ag)) ag)))) aP) (aq (aw (eK (MV T) (hr.mono (by lia)) rfl T.ji.m T.ji.F.kp T.ji.b .nil cu (ae (aa 1) (ae (aa 2) ag)))))))))), ?_⟩
 cases rt with
 | leaf t =>
  obtain ⟨p, m, rfl, hp, hl⟩ := hv
  obtain ⟨e1, e2, e3⟩ := Ca t
  walk_at "gzn"
  refine aG hp ?_
  walk_at "gzn"
  refine aG hp ?_
  walk_at "gzn"
  rw [if_neg (by simpa using e1), if_neg (by simpa using e2), if_neg (by simpa using e3)]
  exact ⟨m, t, rfl, hl, hg, hc, fun x H' s' hx => q _ _ s' ⟨x, rfl, hx⟩⟩
 | nay a =>
  obtain ⟨p, m, x, rfl, hp, hl, hx⟩ := hv
  have hh : aA a + 1 < N + 1 := hh
  have h6 : aA a + 1 < 64 := h6
  walk_at "gzn"
  refine aG hp ?_
  walk_at "gzn"
  refine aG hp ?_
  walk_at "gzn"
  refine bK (ao.of hl) rfl ⟨x, a, rfl, hx, hg, hc, by lia, by lia, fun v1 H1 s1 r1 => ?_⟩
  walk_at "gzn"
  intro z dz hz oG dG
  have mk := hW (C := T.bG) (fs := []) hz oG dG
  have s2 : ah H1 (upd (upd (upd H1 dz (.own z)) z (.ins T.bG dz [])) z (.ins T.bG dz [("one", v1)])) := fv hz mk
  exact ⟨z, dz, v1, rfl, aj, rfl, q _ _ (s1.trans s2) ⟨z, dz, v1, rfl, aj, r1.same s2⟩⟩
 | both a b =>
  obtain ⟨p, m, x, y, rfl, hp, hl, hx, hy⟩ := hv
  have hh : aA a + aA b + 1 < N + 1 := hh
  have h6 : aA a + aA b + 1 < 64 := h6
  walk_at "gzn"
  refine aG hp ?_
  walk_at "gzn"
  refine aG hp ?_
  walk_at "gzn"
  refine bK (ao.of hl) rfl ⟨x, a, rfl, hx, hg.1, hc.1, by lia, by lia, fun v1 H1 s1 r1 => ?_⟩
  walk_at "gzn"
  refine bK (ao.of (s1 _ _ hl)) rfl ⟨y, b, rfl, hy.same s1, hg.2.1, hc.2, by lia, by lia, fun v2 H2 s2 r2 => ?_⟩
  walk_at "gzn"
  intro z dz hz oG dG
  have mk := hW (C := T.bB) (fs := []) hz oG dG
  exact ⟨H2, z, T.bB, dz, v1, v2, a, b, .both a b, rfl, aj, hz, mk, .inl ⟨rfl, rfl⟩, r1.same s2, r2, hg, by show aA a + aA b + 1 < 64; lia, fun H3 s3 h3 => ⟨rfl, q _ _ (s1.trans (s2.trans s3)) ⟨z, dz, v1, v2, rfl, h3, (r1.same s2).same s3, r2.same s3⟩⟩⟩
 | either a b =>
  obtain ⟨p, m, x, y, rfl, hp, hl, hx, hy⟩ := hv
  have hh : aA a + aA b + 1 < N + 1 := hh
  have h6 : aA a + aA b + 1 < 64 := h6
  walk_at "gzn"
  refine aG hp ?_
  walk_at "gzn"
  refine aG hp ?_
  walk_at "gzn"
  refine bK (ao.of hl) rfl ⟨x, a, rfl, hx, hg.1, hc.1, by lia, by lia, fun v1 H1 s1 r1 => ?_⟩
  walk_at "gzn"
  refine bK (ao.of (s1 _ _ hl)) rfl ⟨y, b, rfl, hy.same s1, hg.2.1, hc.2, by lia, by lia, fun v2 H2 s2 r2 => ?_⟩
  walk_at "gzn"
  intro z dz hz oG dG
  have mk := hW (C := T.bC) (fs := []) hz oG dG
  exact ⟨H2, z, T.bC, dz, v1, v2, a, b, .either a b, rfl, aj, hz, mk, .inr ⟨rfl, rfl⟩, r1.same s2, r2, hg, by show aA a + aA b + 1 < 64; lia, fun H3 s3 h3 => ⟨rfl, q _ _ (s1.trans (s2.trans s3)) ⟨z, dz, v1, v2, rfl, h3, (r1.same s2).same s3, r2.same s3⟩⟩⟩
theorem Cg (T : Tx w K mg) : ∀ N : Nat, Ok P w base (N + 77) T.cv (xw T N)
 | 0 => by
  refine iM (k := 76) lA ?_
  rintro _ _ _ _ _ _ _ _ _ ⟨_, _, rfl, _, _, _, h, _⟩
  exact absurd h (Nat.not_lt_zero _)
 | N + 1 => MW T N (Cg T N)
end
section
seal L2.PE L2.PS L2.aV L2.PA
variable {P : Program} {w : World} {K : PySem.W.Frag} {mg : Str -> Option Value} {base : Heap}
theorem MX (n : Int) : 32 ∉ (bP n).cps.toList := fun h => by
 rcases nc n with ⟨m, rfl⟩ | ⟨m, rfl⟩
 ·rw [jV] at h
  have := jU m _ h
  lia
 ·rw [m9] at h
  rcases List.mem_cons.mp h with h | h
  ·lia
  ·have := jU _ _ h
   lia
theorem MY (e : En) : 32 ∉ (dj e).cps.toList := by
 cases e with
 | none => decide
 | some n => exact MX n
theorem lQ : ∀ rt : Rt, ∀ s ∈ aD rt, 32 ∉ s.cps.toList
 | .leaf t => fun s h => by
  rw [show aD (.leaf t) = _ from oA t] at h
  rcases List.mem_cons.mp h with rfl | h
  ·cases t <;> (simp only [cw]; decide)
  ·obtain ⟨e, _, rfl⟩ := List.mem_map.mp h
   exact MY e
 | .nay a => fun s h => by
  rcases List.mem_cons.mp h with rfl | h
  ·decide
  ·exact lQ a s h
 | .both a b => fun s h => by
  rcases List.mem_cons.mp h with rfl | h
  ·decide
  ·rcases List.mem_append.mp h with h | h
   ·exact lQ a s h
   ·exact lQ b s h
 | .either a b => fun s h => by
  rcases List.mem_cons.mp h with rfl | h
  ·decide
  ·rcases List.mem_append.mp h with h | h
   ·exact lQ a s h
   ·exact lQ b s h
theorem ip : ∀ rt : Rt, aA rt < (aD rt).length
 | .leaf t => by cases t <;> exact Nat.succ_pos _
 | .nay a => Nat.succ_lt_succ (ip a)
 | .both a b => by
  have := ip a
  have := ip b
  show aA a + aA b + 1 < (aD a ++ aD b).length + 1
  rw [List.length_append]
  lia
 | .either a b => by
  have := ip a
  have := ip b
  show aA a + aA b + 1 < (aD a ++ aD b).length + 1
  rw [List.length_append]
  lia
theorem MZ (rt : Rt) : Txt.split (ik rt) BL = aD rt := IX 32 (by decide) _ (Mz rt) (lQ rt)
inductive M0 (T : Tx w K mg) (vs : List V) (H : Hp) (Q : VK) (aN : XK) : Prop
 | mk (rt : Rt) (_ : vs = [.str (ik rt)]) (_ : lN rt) (_ : fe rt) (_ : ∀ v H', ah H H' -> bz T H' v rt -> Q v H')
theorem M1 (T : Tx w K mg) : Ok P w base 142 T.nK (M0 T) := by
 refine iM nt ?_
 rintro _ _ _ s H _ _ _ hr ⟨rt, rfl, ⟨hg, hs, qD⟩, hc, q⟩
 refine ⟨_, (au (aY 1 nt.nd (fu PySem.F.plainAttrs_str PySem.F.slot_str_split PySem.F.type_str_split IY (aa 0) (ae aH ag))) (au (aL (tF (bD dt (by rfl) T.dC dw (ae (aa 1) ag)) (mW T.K1 rfl)) (aq (gG gH rfl T.nY T.km rfl (ae aH ag))) aP) (au (aY 2 nt.nd (eK (Cf T 64) hr.m rfl T.eV.m T.eV.F.kp T.eV.b .nil cu (ae (aa 1) (ae af ag)))) (au (aL (m5 (ar (aa 2) af) (bD dt (by rfl) T.dC dw (ae (aa 1) ag))) (aq (gG gH rfl T.nY T.km rfl (ae aH ag))) aP) (aq (aw (eK (Cg T 64) hr.m rfl T.cv.m T.cv.F.kp T.cv.b .nil cu (ae (ar (aa 2) af) ag)))))))), ?_⟩
 have hh := ip rt
 refine bb (fun σ H1 => ∃ l, σ = [some (.str (ik rt)), some (.ref l), none] /\ ah H H1 /\ H1 l = some (.lst ((aD rt).map V.str))) (fun N hN => ?_) ?_
 ·walk_at "gzn"
  refine ⟨rfl, ik rt, rfl, BL, rfl, by decide, Nat.le_trans (Nat.add_le_add_right (text_len hg hs qD) 2) (by decide), fun l fl => ?_⟩
  rw [MZ]
  exact hN _ _ ⟨l, rfl, ak fl, aj⟩
 rintro σ H1 ⟨l, rfl, s1, hl⟩
 have ll : ((aD rt).map V.str).length = (aD rt).length := List.length_map _
 refine bb (fun σ H2 => σ = [some (.str (ik rt)), some (.ref l), none] /\ H1 = H2) (fun N hN => ?_) ?_
 ·walk_at "gzn"
  refine ⟨_, dZ (ao.of hl), ?_⟩
  rw [if_neg (by rw [ll]; lia)]
  exact hN _ _ ⟨rfl, rfl⟩
 rintro σ H2 ⟨rfl, rfl⟩
 refine bb (fun σ H2 => ∃ p v, σ = [some (.str (ik rt)), some (.ref l), some (.ref p)] /\ ah H1 H2 /\ H2 p = some (.tup [v, .int (((aD rt).length : Nat) : Int)]) /\ dQ H2 v rt) (fun N hN => ?_) ?_
 ·walk_at "gzn"
  refine ⟨l, aD rt, 0, rt, [], rfl, ao.of hl, by simp, qD, hg, hs, by lia, fun v p H2 s2 hp hv => hN _ _ ⟨p, v, rfl, s2, by rw [hp, Nat.zero_add], hv.is⟩⟩
 rintro σ H2 ⟨p, v, rfl, s2, hp, hv⟩
 refine bb (fun σ H3 => σ = [some (.str (ik rt)), some (.ref l), some (.ref p)] /\ H2 = H3) (fun N hN => ?_) ?_
 ·walk_at "gzn"
  refine aG hp ?_
  walk_at "gzn"
  refine ⟨_, dZ (ao.of (s2 _ _ hl)), ?_⟩
  rw [ll]
  walk_at "gzn"
  exact hN _ _ ⟨rfl, rfl⟩
 rintro σ H3 ⟨rfl, rfl⟩
 walk_at "gzn"
 exact aO (ay.of hp) rfl ⟨v, rt, rfl, hv, hg, hc, by lia, by lia, fun v' H' s' rg => q _ _ (s1.trans (s2.trans s')) rg⟩
end
section
seal L2.PE L2.PS L2.aV L2.PA
variable {P : Program} {w : World} {K : PySem.W.Frag} {mg : Str -> Option Value} {base : Heap}
inductive M3 (K : PySem.W.Frag) (vs : List V) (H : Hp) (Q : VK) (aN : XK) : Prop
 | mk (a : Addr) (ns : List Int) (k pr m : Int) (_ : vs = [.ref a, .int k, .int pr, .int m]) (_ : ao K H a (ns.map V.int)) (_ : iF ns) (_ : (-1000000 <= k /\ k <= 1000000)) (_ : 0 < pr) (_ : 0 < m) (_ : ∀ p : Int, 0 <= p -> p < m -> Q (.int p) H)
theorem M4 {ns : List Int} (h : iF ns) {k : Int} (hk : -1000000 <= k /\ k <= 1000000) : k6 k k /\ k6 (mV ns k + k * k) 48271 := by
 have c := HE h k
 have k1 : Bt 64 k := Bt.small (by lia) (by lia)
 have k2 : Bt 128 (k * k) := k1.mul k1
 have n2 : Bt 64 48271 := Bt.small (by decide) (by decide)
 exact ⟨⟨k1.up (by decide), k1.up (by decide)⟩, (c.add (k2.up (by decide))).up (by decide), n2.up (by decide)⟩
theorem gi (T : Tx w K mg) : Ok P w base 1 T.nM (M3 K) := by
 refine b9 wm ?_
 rintro _ _ _ _ _ _ _ _ _ ⟨a, ns, k, pr, m, rfl, hS, hn, hk, hpr, hm, q⟩
 refine ⟨_, (au (aL (aW (bD dt (by rfl) T.dC dw (ae (aa 0) ag)) af) (aq (aw af)) aP) (aq (aw (az m4 (az m4 (az AM (az a9 (ar (aa 0) (az m4 (aa 1) (bD dt (by rfl) T.dC dw (ae (aa 0) ag)))) (az AM (aa 1) (aa 1))) af) (aa 2)) (aa 3))))), ?_⟩
 walk_at "gz"
 refine ⟨_, dZ hS, ?_⟩
 rw [List.length_map]
 have pm := M4 hn hk
 refine bH (fun h => ?_) fun h => ?_
 ·exact q 0 (by decide) hm
 ·have h : 0 < (ns.length : Int) := by
   have : ns.length ≠ 0 := fun z => h (by rw [z]; rfl)
   lia
  refine ⟨_, dZ hS, ?_⟩
  rw [List.length_map]
  refine ⟨h, bK hS (HF h) ?_⟩
  walk_at "gz"
  exact ⟨pm.1, pm.2, hpr, hm, q _ (Int.emod_nonneg _ (by lia)) (Int.emod_lt_of_pos _ hm)⟩
theorem lR {n : Int} (h1 : -1000000000000000000000000000000000000000000000000000000000000 < n) (h2 : n < 1000000000000000000000000000000000000000000000000000000000000) : n.natAbs < 10 ^ 60 := by
 rw [show (10 : Nat) ^ 60 = 1000000000000000000000000000000000000000000000000000000000000 by decide +kernel]
 lia
inductive M5 (K : PySem.W.Frag) (vs : List V) (H : Hp) (Q : VK) (aN : XK) : Prop
 | mk (a : Addr) (ns : List Int) (_ : vs = [.ref a]) (_ : ao K H a (ns.map V.int)) (_ : iF ns) (_ : ∀ (p : Int) (H' : Hp), ah H H' -> -999999999999999999999999999999999999999999999999999999999900 <= p -> p <= 999999999999999999999999999999999999999999999999999999999900 -> Q (.int p) H')
theorem M6 (T : Tx w K mg) : Ok P w base 2 T.nN (M5 K) := by
 refine b9 qk ?_
 rintro _ _ _ _ _ _ _ _ hr ⟨a, ns, rfl, hS, hn, q⟩
 refine ⟨_, (au (aL (aW (bD dt (by rfl) T.dC dw (ae (aa 0) ag)) af) (aq (aw af)) aP) (au (aY 1 qk.nd (az m4 (ar (aa 0) af) (az cW (az yo af af) af))) (aq (aw (ar (bh (ae af (ae (aa 1) (ae (az cW af (aa 1)) (ae (az cW (az yo af af) af) ag))))) (aJ (gi T) hr (ae (aa 0) (ae af (ae af (ae af ag)))))))))), ?_⟩
 walk_at "gzn"
 refine ⟨_, dZ hS, ?_⟩
 rw [List.length_map]
 refine bH (fun h => q _ _ (ah.refl _) (by decide) (by decide)) fun h => ?_
 have h : 0 < (ns.length : Int) := by
  have : ns.length ≠ 0 := fun z => h (by rw [z]; rfl)
  lia
 have h0 : cG (ns.map V.int) 0 = some (.int (ns.getD 0 0)) := iC (j := 0) (by rw [List.getElem?_map, List.getD_eq_getElem?_getD, List.getElem?_eq_getElem (by lia)]; rfl)
 refine bK hS h0 ?_
 walk_at "gzn"
 have e0 := Int.emod_nonneg (ns.getD 0 0) (show (999999999999999999999999999999999999999999999999999999999800 : Int) ≠ 0 by decide)
 have e1 := Int.emod_lt_of_pos (ns.getD 0 0) (show (0 : Int) < 999999999999999999999999999999999999999999999999999999999800 by decide)
 refine ⟨⟨by decide, by decide, by decide⟩, ⟨by decide, by decide, by decide⟩, by decide, fun t ht => ?_⟩
 refine ⟨a, ns, _, _, _, rfl, (ak ht).seq hS, hn, by lia, by lia, by lia, fun p p1 p2 => ?_⟩
 rcases (by lia : p = 0 ∨ p = 1 ∨ p = 2 ∨ p = 3) with rfl | rfl | rfl | rfl
 all_goals exact aO (ay.of aj) rfl (q _ _ (ak ht) (by lia) (by lia))
end
section
seal L2.PE L2.PS L2.aV L2.PA
variable {P : Program} {w : World} {K : PySem.W.Frag} {mg : Str -> Option Value} {base : Heap}
inductive M7 (K : PySem.W.Frag) (vs : List V) (H : Hp) (Q : VK) (aN : XK) : Prop
 | mk (a : Addr) (ns : List Int) (k so b : Int) (_ : vs = [.ref a, .int k, .int so, .int 12, .int b]) (_ : ao K H a (ns.map V.int)) (_ : iF ns) (_ : (0 <= k /\ k <= 1000)) (_ : -999999999999999999999999999999999999999999999999999999999900 <= b) (_ : b <= 999999999999999999999999999999999999999999999999999999999900) (_ : ∀ r tr H', ah H H' -> H' r = some (.tup (qx tr)) -> c6 tr -> xp tr -> xu tr -> Q (.ref r) H')
theorem M8 (T : Tx w K mg) : Ok P w base 2 T.nQ (M7 K) := by
 refine b9 eS ?_
 rintro _ _ _ _ H _ _ _ hr ⟨a, ns, k, so, b, rfl, hS, hn, ⟨k0, k1⟩, b0, b1, q⟩
 refine ⟨_, (au (aY 5 eS.nd (aJ (gi T) hr (ae (aa 0) (ae (aa 1) (ae af (ae (aa 3) ag)))))) (au (aY 6 eS.nd (az a9 (aa 5) (aJ (gi T) hr (ae (aa 0) (ae (az a9 (aa 1) af) (ae af (ae (az cW (aa 3) (aa 5)) ag))))))) (au (aY 7 eS.nd (az cW (aJ (gi T) hr (ae (aa 0) (ae (az a9 (aa 1) af) (ae af (ae af ag))))) af)) (au (aY 8 eS.nd (aJ (gi T) hr (ae (aa 0) (ae (az a9 (aa 1) af) (ae af (ae af ag)))))) (au (aL (aW (aa 2) af) (aq (aw (bh (ae aH (ae (aa 5) (ae (aa 6) (ae (az a9 (aa 4) (aa 7)) ag))))))) aP) (au (aL (aW (aa 2) af) (aq (aw (bh (ae aH (ae (aa 5) (ae (aa 6) (ae (az a9 (aa 4) (aa 7)) ag))))))) aP) (au (aL (aW (aa 2) af) (aq (aw (bh (ae aH (ae (aa 5) (ae (aa 6) (ae (az a9 (aa 4) (aa 7)) (ae (az a9 (az a9 (az a9 (aa 4) (aa 7)) af) (az zr (aa 8) af)) ag)))))))) aP) (au (aL (PW.pt (x8 (aW (aa 2) af) (x6 (tF (aa 3) af)))) (aq (aw (bh (ae aH (ae (az a9 af (az m4 (aa 5) (az cW (aa 3) af))) ag))))) aP) (au (aY 9 eS.nd (aJ (gi T) hr (ae (aa 0) (ae (az a9 (aa 1) af) (ae af (ae af ag)))))) (au (aY 10 eS.nd (az cW (aa 7) af)) (au (aL (aW (aa 2) af) (aq (aY 10 eS.nd (az a9 (aa 4) (aa 7)))) aP) (au (aY 11 eS.nd (az a9 (aa 10) (aa 8))) (au (aL (PW.pt (dq (aW (aa 9) af) (fK (aW (aa 9) af)))) (aq (aY 10 eS.nd dU)) aP) (au (aL (PW.pt (dq (aW (aa 9) af) (fK (aW (aa 9) af)))) (aq (aY 11 eS.nd dU)) aP) (au (aL (aW (aa 2) af) (aq (aw (bh (ae aH (ae (aa 5) (ae (aa 6) (ae (aa 10) (ae (aa 11) ag)))))))) aP) (aq (aw (bh (ae aH (ae (aa 5) (ae (aa 6) (ae (aa 10) (ae (aa 11) ag))))))))))))))))))))))), ?_⟩
 refine bb (fun σ H2 => ∃ fi : Int, σ = [some (.ref a), some (.int k), some (.int so), some (.int 12), some (.int b), some (.int fi), none, none, none, none, none, none] /\ H = H2 /\ 0 <= fi /\ fi < 12) (fun N hN => ?_) ?_
 ·walk_at "gzn"
  refine ⟨a, ns, _, _, _, rfl, hS, hn, by lia, by lia, by lia, fun p p1 p2 => ?_⟩
  exact hN _ _ ⟨_, rfl, rfl, p1, p2⟩
 rintro σ _ ⟨fi, rfl, rfl, f0, f1⟩
 refine bb (fun σ H2 => ∃ la : Int, σ = [some (.ref a), some (.int k), some (.int so), some (.int 12), some (.int b), some (.int fi), some (.int la), none, none, none, none, none] /\ H = H2 /\ fi <= la /\ la < 12) (fun N hN => ?_) ?_
 ·walk_at "gzn"
  refine ⟨a, ns, _, _, _, rfl, hS, hn, by lia, by lia, by lia, fun p p1 p2 => ?_⟩
  walk_at "gzn"
  exact hN _ _ ⟨_, rfl, rfl, by lia, by lia⟩
 rintro σ _ ⟨la, rfl, rfl, l0, l1⟩
 refine bb (fun σ H2 => ∃ lo : Int, σ = [some (.ref a), some (.int k), some (.int so), some (.int 12), some (.int b), some (.int fi), some (.int la), some (.int lo), none, none, none, none] /\ H = H2 /\ -2 <= lo /\ lo <= 6) (fun N hN => ?_) ?_
 ·walk_at "gzn"
  refine ⟨a, ns, _, _, _, rfl, hS, hn, by lia, by lia, by lia, fun p p1 p2 => ?_⟩
  walk_at "gzn"
  exact hN _ _ ⟨_, rfl, rfl, by lia, by lia⟩
 rintro σ _ ⟨lo, rfl, rfl, o0, o1⟩
 refine bb (fun σ H2 => ∃ mo : Int, σ = [some (.ref a), some (.int k), some (.int so), some (.int 12), some (.int b), some (.int fi), some (.int la), some (.int lo), some (.int mo), none, none, none] /\ H = H2 /\ 0 <= mo /\ mo <= 6) (fun N hN => ?_) ?_
 ·walk_at "gzn"
  refine ⟨a, ns, _, _, _, rfl, hS, hn, by lia, by lia, by lia, fun p p1 p2 => ?_⟩
  exact hN _ _ ⟨_, rfl, rfl, by lia, by lia⟩
 rintro σ _ ⟨mo, rfl, rfl, m0, m1⟩
 refine bb (fun σ H2 => σ = [some (.ref a), some (.int k), some (.int so), some (.int 12), some (.int b), some (.int fi), some (.int la), some (.int lo), some (.int mo), none, none, none] /\ H = H2) (fun N hN => ?_) ?_
 ·walk_at "gzn"
  exact bH (fun _ => ⟨by decide, fun r hr => q r (.over fi la _) _ (ak hr) aj ⟨f0, l0, by lia⟩ (lR (by lia) (by lia)) trivial⟩) fun _ => hN _ _ ⟨rfl, rfl⟩
 rintro σ _ ⟨rfl, rfl⟩
 refine bb (fun σ H2 => σ = [some (.ref a), some (.int k), some (.int so), some (.int 12), some (.int b), some (.int fi), some (.int la), some (.int lo), some (.int mo), none, none, none] /\ H = H2) (fun N hN => ?_) ?_
 ·walk_at "gzn"
  exact bH (fun _ => ⟨by decide, fun r hr => q r (.under fi la _) _ (ak hr) aj ⟨f0, l0, by lia⟩ (lR (by lia) (by lia)) trivial⟩) fun _ => hN _ _ ⟨rfl, rfl⟩
 rintro σ _ ⟨rfl, rfl⟩
 refine bb (fun σ H2 => σ = [some (.ref a), some (.int k), some (.int so), some (.int 12), some (.int b), some (.int fi), some (.int la), some (.int lo), some (.int mo), none, none, none] /\ H = H2) (fun N hN => ?_) ?_
 ·walk_at "gzn"
  exact bH (fun _ => ⟨pG (by decide), by decide, fun r hr => q r (.rose fi la _ _) _ (ak hr) aj ⟨⟨f0, l0, by lia⟩, by lia⟩ ⟨(lR (by lia) (by lia)), (lR (by lia) (by lia))⟩ trivial⟩) fun _ => hN _ _ ⟨rfl, rfl⟩
 rintro σ _ ⟨rfl, rfl⟩
 refine bb (fun σ H2 => σ = [some (.ref a), some (.int k), some (.int so), some (.int 12), some (.int b), some (.int fi), some (.int la), some (.int lo), some (.int mo), none, none, none] /\ H = H2) (fun N hN => ?_) ?_
 ·walk_at "gzn"
  refine bH (fun _ => ?_) fun _ => hN _ _ ⟨rfl, rfl⟩
  exact ⟨by decide, fun r hr => q r (.turn _) _ (ak hr) aj ⟨by lia, by lia⟩ trivial trivial⟩
 rintro σ _ ⟨rfl, rfl⟩
 refine bb (fun σ H2 => ∃ oe : Int, σ = [some (.ref a), some (.int k), some (.int so), some (.int 12), some (.int b), some (.int fi), some (.int la), some (.int lo), some (.int mo), some (.int oe), none, none] /\ H = H2) (fun N hN => ?_) ?_
 ·walk_at "gzn"
  refine ⟨a, ns, _, _, _, rfl, hS, hn, by lia, by lia, by lia, fun p p1 p2 => ?_⟩
  exact hN _ _ ⟨_, rfl, rfl⟩
 rintro σ _ ⟨oe, rfl, rfl⟩
 refine bb (fun σ H2 => ∃ xa : Int, σ = [some (.ref a), some (.int k), some (.int so), some (.int 12), some (.int b), some (.int fi), some (.int la), some (.int lo), some (.int mo), some (.int oe), some (.int xa), none] /\ H = H2 /\ xa = lo - 3) (fun N hN => ?_) ?_
 ·walk_at "gzn"
  exact hN _ _ ⟨_, rfl, rfl, rfl⟩
 rintro σ _ ⟨xa, rfl, rfl, ea⟩
 refine bb (fun σ H2 => ∃ xl : Int, σ = [some (.ref a), some (.int k), some (.int so), some (.int 12), some (.int b), some (.int fi), some (.int la), some (.int lo), some (.int mo), some (.int oe), some (.int xl), none] /\ H = H2 /\ -999999999999999999999999999999999999999999999999999999999900 - 5 <= xl /\ xl <= 999999999999999999999999999999999999999999999999999999999900 + 6) (fun N hN => ?_) ?_
 ·walk_at "gzn"
  exact bH (fun _ => hN _ _ ⟨_, rfl, rfl, by lia, by lia⟩) fun _ => hN _ _ ⟨_, rfl, rfl, by lia, by lia⟩
 rintro σ _ ⟨xl, rfl, rfl, x0, x1⟩
 refine bb (fun σ H2 => ∃ xh : Int, σ = [some (.ref a), some (.int k), some (.int so), some (.int 12), some (.int b), some (.int fi), some (.int la), some (.int lo), some (.int mo), some (.int oe), some (.int xl), some (.int xh)] /\ H = H2 /\ xl <= xh /\ xh <= xl + 6) (fun N hN => ?_) ?_
 ·walk_at "gzn"
  exact hN _ _ ⟨_, rfl, rfl, by lia, by lia⟩
 rintro σ _ ⟨xh, rfl, rfl, h0, h1⟩
 refine bb (fun σ H2 => ∃ x : En, σ = [some (.ref a), some (.int k), some (.int so), some (.int 12), some (.int b), some (.int fi), some (.int la), some (.int lo), some (.int mo), some (.int oe), some (ev x), some (.int xh)] /\ H = H2 /\ (x = none ∨ x = some xl)) (fun N hN => ?_) ?_
 ·walk_at "gzn"
  exact bH (fun _ => hN _ _ ⟨none, rfl, rfl, .inl rfl⟩) fun _ => bH (fun _ => hN _ _ ⟨none, rfl, rfl, .inl rfl⟩) fun _ => hN _ _ ⟨some xl, rfl, rfl, .inr rfl⟩
 rintro σ _ ⟨x, rfl, rfl, ex⟩
 refine bb (fun σ H2 => ∃ y : En, σ = [some (.ref a), some (.int k), some (.int so), some (.int 12), some (.int b), some (.int fi), some (.int la), some (.int lo), some (.int mo), some (.int oe), some (ev x), some (ev y)] /\ H = H2 /\ (y = none ∨ y = some xh)) (fun N hN => ?_) ?_
 ·walk_at "gzn"
  exact bH (fun _ => hN _ _ ⟨none, rfl, rfl, .inl rfl⟩) fun _ => bH (fun _ => hN _ _ ⟨none, rfl, rfl, .inl rfl⟩) fun _ => hN _ _ ⟨some xh, rfl, rfl, .inr rfl⟩
 rintro σ _ ⟨y, rfl, rfl, ey⟩
 have sx : fG x := by
  rcases ex with rfl | rfl
  ·trivial
  ·exact lR (by lia) (by lia)
 have sy : fG y := by
  rcases ey with rfl | rfl
  ·trivial
  ·exact lR (by lia) (by lia)
 have cr : eA x y = false := by
  rcases ex with rfl | rfl <;> rcases ey with rfl | rfl <;> first | rfl | exact decide_eq_false (by lia)
 walk_at "gzn"
 exact bH (fun _ => ⟨by decide, fun r hr => q r (.stay fi la x y) _ (ak hr) aj ⟨f0, l0, by lia⟩ ⟨sx, sy⟩ cr⟩) fun _ => ⟨by decide, fun r hr => q r (.pace fi la x y) _ (ak hr) aj ⟨f0, l0, by lia⟩ ⟨sx, sy⟩ cr⟩
end
section
seal L2.PE L2.PS L2.aV L2.PA
variable {P : Program} {w : World} {K : PySem.W.Frag} {mg : Str -> Option Value} {base : Heap}
theorem M9 : ∀ n : Nat, n <= 11 -> ((List.range n).map fun k => n - k).sum = (n + 1) * n / 2 := by decide
theorem Na {i j l h : Int} (hk : bp i j) : ((eE i j l h).length : Int) = (j - i + 1) * (j - i + 1 - 1) / 2 := by
 obtain ⟨k0, k1, k2⟩ := hk
 unfold eE
 rw [List.length_flatMap]
 have e : ((List.range (j - i).toNat).map fun k : Nat => ((aU (i + (k : Nat) + 1) j (some h, none)).map fun p => [(("at", i + (k : Nat), none, some l) : Pa), p]).length) = (List.range (j - i).toNat).map fun k => (j - i).toNat - k := by
  apply List.map_congr_left
  intro k hk
  have := List.mem_range.mp hk
  rw [List.length_map, dA]
  lia
 rw [e, M9 _ (by lia)]
 obtain ⟨n, hn⟩ : ∃ n : Nat, j - i = n := ⟨(j - i).toNat, by lia⟩
 rw [hn, Int.toNat_natCast, Int.natCast_ediv]
 congr 1
 rw [Int.natCast_mul, Int.natCast_add]
 congr 1
 lia
theorem Ci (ps : List Pa) (s : S2) (h : ∀ p ∈ ps, p.2.2 = s) : (bq ps).length = ps.length * (cU s).length := by
 unfold bq
 rw [List.length_flatMap]
 induction ps with
 | nil => simp
 | cons p ps ih =>
  rw [List.map_cons, List.sum_cons, ih fun q hq => h q (.tail _ hq), h p (.head _), List.length_map, List.length_cons, Nat.succ_mul]
  lia
noncomputable def gQ : En -> Int
 | none => 0
 | some _ => 1
theorem qF (e : En) : 0 <= gQ e /\ gQ e <= 1 := by cases e <;> simp [gQ]
theorem qG (e : En) : (if ¬ev e = V.non then (1 : Int) else 0) = gQ e := by
 cases e with
 | none => exact if_neg (fun z => z rfl)
 | some n => exact if_pos (fun z => nomatch z)
theorem Cj (l h : En) : ((cU (l, h)).length : Int) = gQ l + gQ h := by cases l <;> cases h <;> rfl
theorem xx {i j : Int} {s : S2} (hk : bp i j) : ((bq (aU i j s)).length : Int) = (j - i + 1) * (cU s).length := by
 obtain ⟨k0, k1, k2⟩ := hk
 rw [Ci _ s fun p hp => by obtain ⟨k, _, rfl⟩ := p8 hp; rfl, Int.natCast_mul, dA]
 congr 1
 lia
theorem Nb {i j : Int} {s : S2} (hk : bp i j) : ((bq (cV i j s)).length : Int) = (j - i) * (cU s).length := by
 obtain ⟨k0, k1, k2⟩ := hk
 rw [Ci _ s fun p hp => by obtain ⟨k, _, rfl⟩ := HN hp; rfl, Int.natCast_mul]
 congr 1
 unfold cV
 rw [List.length_map, List.length_range]
 lia
theorem Nc {i j l h : Int} (hk : bp i j) : ((fH i j l h).length : Int) = j - i + 1 := by
 obtain ⟨k0, k1, k2⟩ := hk
 unfold fH
 rw [List.length_map, List.length_range]
 lia
def xy : Rt -> Prop
 | .leaf t => c6 t
 | .nay a => bS a
 | .both a b => bS a /\ bS b
 | .either a b => bS a /\ bS b
theorem lS : ∀ {rt : Rt}, bS rt -> xy rt
 | .leaf _, h => h
 | .nay _, h => h
 | .both _ _, h => ⟨h.1, h.2.1⟩
 | .either _ _, h => ⟨h.1, h.2.1⟩
inductive xA (N : Nat) (vs : List V) (H : Hp) (Q : VK) (aN : XK) : Prop
 | mk (v : V) (rt : Rt) (_ : vs = [v]) (_ : bM H v rt) (_ : xy rt) (_ : aA rt < N) (_ : ∀ l H', ah H H' -> H' l = some (.tup [.int (aK rt).1, .int (aK rt).2]) -> Q (.ref l) H')
theorem Nd (T : Tx w K mg) (N : Nat) (ih : Ok P w base (N + 1) T.kc (xA N)) : Ok P w base (N + 1 + 1) T.kc (xA (N + 1)) := by
 refine b9 ib ?_
 rintro _ _ _ s H _ _ _ hr ⟨v, rt, rfl, hv, hg, hh, q⟩
 refine ⟨_, (au (aL (aW (ar (aa 0) af) aH) (aq (aw (bh (ae af (ae af ag))))) aP) (au (aL (aW (ar (aa 0) af) aH) (au (aY 1 ib.nd (aJ (hk := by lia) ih hr (ae (ar (aa 0) af) ag))) (aq (aw (bh (ae (ar (aa 1) af) (ae (ar (aa 1) af) ag)))))) aP) (au (aL (PW.pt (dq (aW (ar (aa 0) af) aH) (fK (aW (ar (aa 0) af) aH)))) (au (aY 2 ib.nd (aJ (hk := by lia) ih hr (ae (ar (aa 0) af) ag))) (au (aY 3 ib.nd (aJ (hk := by lia) ih hr (ae (ar (aa 0) af) ag))) (au (aL (aW (ar (aa 0) af) aH) (aq (aw (bh (ae (az iL (ar (aa 2) af) (ar (aa 3) af)) (ae (az a9 (ar (aa 2) af) (ar (aa 3) af)) ag))))) aP) (aq (aw (bh (ae (az a9 (ar (aa 2) af) (ar (aa 3) af)) (ae (az iL (ar (aa 2) af) (ar (aa 3) af)) ag)))))))) aP) (au (aY 4 ib.nd (az a9 (az cW (ar (aa 0) af) (ar (aa 0) af)) af)) (au (aL (aW (ar (aa 0) af) aH) (aq (aw (bh (ae (az zr (az iL (aa 4) (az cW (aa 4) af)) af) (ae (aa 4) ag))))) aP) (au (aL (PW.pt (dq (aW (ar (aa 0) af) aH) (fK (aW (ar (aa 0) af) aH)))) (aq (aw (bh (ae (aa 4) (ae af ag))))) aP) (au (aY 5 ib.nd (az a9 (kL rf (by rfl) T.nW mG (ae (kG (oU (ar (aa 0) af))) ag)) (kL rf (by rfl) T.nW mG (ae (kG (oU (ar (aa 0) af))) ag)))) (aq (aw (bh (ae af (ae (az iL (az cW (aa 4) (kL rf (by rfl) T.nW mG (ae (eJ qZ (ar (aa 0) af) aH (cZ _)) ag))) (aa 5)) ag)))))))))))), ?_⟩
 cases rt with
 | leaf t =>
  obtain ⟨p, rfl, hp⟩ := hv
  have hg : c6 t := hg
  cases t with
  | stay i j l h =>
   replace hp : H p = some (.tup [.str "stay", .int i, .int j, ev l, ev h]) := hp
   have e : aK (.leaf (.stay i j l h)) = (1, (j - i + 1) * (gQ l + gQ h)) := Prod.ext rfl (show ((bq (aU i j (l, h))).length : Int) = _ by rw [xx hg, Cj])
   have b1 := qF l
   have b2 := qF h
   obtain ⟨k0, k1, k2⟩ := id hg
   rw [e] at q
   walk_at "gzn"
   repeat (refine aG hp ?_; walk_at "gzn")
   refine .inr (aO (ay.of hp) rfl (.inr (aO (ay.of hp) rfl ⟨rfl, .inr ?_⟩)))
   walk_at "gzn"
   rw [qG l, qG h, if_neg (show ¬ V.str "stay" = V.str "pace" from fun z => by injection z with z; exact absurd z (by decide)), Int.sub_zero]
   exact ⟨g9 (by lia) (by lia), bI, fun r hr => q r _ (ak hr) aj⟩
  | pace i j l h =>
   replace hp : H p = some (.tup [.str "pace", .int i, .int j, ev l, ev h]) := hp
   have e : aK (.leaf (.pace i j l h)) = (1, (j - i + 1 - 1) * (gQ l + gQ h)) := Prod.ext rfl (show ((bq (cV i j (l, h))).length : Int) = _ by rw [Nb hg, Cj, Int.add_sub_cancel])
   have b1 := qF l
   have b2 := qF h
   obtain ⟨k0, k1, k2⟩ := id hg
   rw [e] at q
   walk_at "gzn"
   repeat (refine aG hp ?_; walk_at "gzn")
   refine .inr (aO (ay.of hp) rfl (.inr (aO (ay.of hp) rfl ⟨rfl, .inr ?_⟩)))
   walk_at "gzn"
   rw [qG l, qG h]
   exact ⟨g9 (by lia) (by lia), bI, fun r hr => q r _ (ak hr) aj⟩
  | over i j s =>
   replace hp : H p = some (.tup [.str "over", .int i, .int j, .int s]) := hp
   have e : aK (.leaf (.over i j s)) = (j - i + 1, 1) := Prod.ext (show ((bq (aU i j (none, some (s - 1)))).length : Int) = _ by rw [xx hg]; exact Int.mul_one _) rfl
   rw [e] at q
   walk_at "gzn"
   repeat (refine aG hp ?_; walk_at "gzn")
   exact ⟨bI, fun r hr => q r _ (ak hr) aj⟩
  | under i j s =>
   replace hp : H p = some (.tup [.str "under", .int i, .int j, .int s]) := hp
   have e : aK (.leaf (.under i j s)) = (j - i + 1, 1) := Prod.ext (show ((bq (aU i j (some (s + 1), none))).length : Int) = _ by rw [xx hg]; exact Int.mul_one _) rfl
   rw [e] at q
   walk_at "gzn"
   repeat (refine aG hp ?_; walk_at "gzn")
   exact ⟨bI, fun r hr => q r _ (ak hr) aj⟩
  | rose i j l h =>
   replace hp : H p = some (.tup [.str "rose", .int i, .int j, .int l, .int h]) := hp
   have e : aK (.leaf (.rose i j l h)) = ((j - i + 1) * (j - i + 1 - 1) / 2, j - i + 1) := Prod.ext (Na hg.1) (Nc hg.1)
   obtain ⟨⟨k0, k1, k2⟩, _⟩ := id hg
   rw [e] at q
   walk_at "gzn"
   repeat (refine aG hp ?_; walk_at "gzn")
   exact ⟨g9 (by lia) (by lia), pG (by decide), bI, fun r hr => q r _ (ak hr) aj⟩
  | turn t =>
   replace hp : H p = some (.tup [.str "turn", .int t]) := hp
   have e : aK (.leaf (.turn t)) = (1, 2) := rfl
   rw [e] at q
   walk_at "gzn"
   repeat (refine aG hp ?_; walk_at "gzn")
   exact ⟨bI, fun r hr => q r _ (ak hr) aj⟩
 | nay a =>
  obtain ⟨p, x, rfl, hp, hx⟩ := hv
  have hh : aA a + 1 < N + 1 := hh
  walk_at "gzn"
  repeat (refine aG hp ?_; walk_at "gzn")
  refine ⟨x, a, rfl, hx, lS hg, by lia, fun l H1 s1 hl => ?_⟩
  walk_at "gzn"
  exact aO (ay.of hl) rfl (aO (ay.of hl) rfl ⟨bI, fun r hr => q r _ (s1.trans (ak hr)) aj⟩)
 | both a b =>
  obtain ⟨p, x, y, rfl, hp, hx, hy⟩ := hv
  have hh : aA a + aA b + 1 < N + 1 := hh
  obtain ⟨a1, a2, a3, a4⟩ := eG hg.1
  obtain ⟨b1, b2, b3, b4⟩ := eG hg.2
  walk_at "gzn"
  repeat (refine aG hp ?_; walk_at "gzn")
  refine ⟨x, a, rfl, hx, lS hg.1, by lia, fun l1 H1 s1 h1 => ?_⟩
  walk_at "gzn"
  refine aO (ay.of (s1 _ _ hp)) rfl ⟨y, b, rfl, hy.same s1, lS hg.2, by lia, fun l2 H2 s2 h2 => ?_⟩
  replace h1 := s2 _ _ h1
  walk_at "gzn"
  refine aG ((s1.trans s2) _ _ hp) ?_
  walk_at "gzn"
  refine aG h1 (aG h2 ?_)
  walk_at "gzn"
  exact ⟨g9 (by lia) (by lia), aO (ay.of h1) rfl (aO (ay.of h2) rfl ⟨bI, fun r hr => q r _ (s1.trans (s2.trans (ak hr))) aj⟩)⟩
 | either a b =>
  obtain ⟨p, x, y, rfl, hp, hx, hy⟩ := hv
  have hh : aA a + aA b + 1 < N + 1 := hh
  obtain ⟨a1, a2, a3, a4⟩ := eG hg.1
  obtain ⟨b1, b2, b3, b4⟩ := eG hg.2
  walk_at "gzn"
  repeat (refine aG hp ?_; walk_at "gzn")
  refine ⟨x, a, rfl, hx, lS hg.1, by lia, fun l1 H1 s1 h1 => ?_⟩
  walk_at "gzn"
  refine aO (ay.of (s1 _ _ hp)) rfl ⟨y, b, rfl, hy.same s1, lS hg.2, by lia, fun l2 H2 s2 h2 => ?_⟩
  replace h1 := s2 _ _ h1
  walk_at "gzn"
  refine aG ((s1.trans s2) _ _ hp) ?_
  walk_at "gzn"
  refine aG h1 (aG h2 ?_)
  walk_at "gzn"
  exact aO (ay.of h1) rfl (aO (ay.of h2) rfl ⟨g9 (by lia) (by lia), bI, fun r hr => q r _ (s1.trans (s2.trans (ak hr))) aj⟩)
theorem xB (T : Tx w K mg) : ∀ N : Nat, Ok P w base (N + 1) T.kc (xA N)
 | 0 => by
  refine b9 (k := 0) ib ?_
  rintro _ _ _ _ _ _ _ _ _ ⟨_, _, rfl, _, _, h, _⟩
  exact absurd h (Nat.not_lt_zero _)
 | N + 1 => Nd T N (xB T N)
end
section
seal L2.PE L2.PS L2.aV L2.PA
variable {P : Program} {w : World} {K : PySem.W.Frag} {mg : Str -> Option Value} {base : Heap}
theorem bM.tup {H H' : Hp} (s : ∀ p xs, H p = some (.tup xs) -> H' p = some (.tup xs)) : ∀ {rt : Rt} {v : V}, bM H v rt -> bM H' v rt
 | .leaf _, _, h => let ⟨x, e, h⟩ := h; ⟨x, e, s _ _ h⟩
 | .nay _, _, h => let ⟨x, c, e, h, a⟩ := h; ⟨x, c, e, s _ _ h, bM.tup s a⟩
 | .both _ _, _, h => let ⟨x, c, d, e, h, a, b⟩ := h; ⟨x, c, d, e, s _ _ h, bM.tup s a, bM.tup s b⟩
 | .either _ _, _, h => let ⟨x, c, d, e, h, a, b⟩ := h; ⟨x, c, d, e, s _ _ h, bM.tup s a, bM.tup s b⟩
theorem Nf {R : V -> Rt -> Prop} {xs : List V} {cj : List Rt} (h : av R xs cj) (h2 : 2 <= xs.length) : ∃ ys x y ss r s, xs = ys ++ [x, y] /\ cj = ss ++ [r, s] /\ av R ys ss /\ R x r /\ R y s := by
 have hd := av.drop (xs.length - 2) h
 have ht := av.take (xs.length - 2) h
 have e1 := (List.take_append_drop (xs.length - 2) xs).symm
 have e2 := (List.take_append_drop (xs.length - 2) cj).symm
 have l2 : (xs.drop (xs.length - 2)).length = 2 := by rw [List.length_drop]; lia
 revert hd e1 e2 l2
 generalize xs.drop (xs.length - 2) = u
 generalize cj.drop (xs.length - 2) = v
 intro hd e1 e2 l2
 match u, v, hd, l2 with
 | [x, y], [r, s], hd, _ => exact ⟨_, x, y, _, r, s, e1, e2, ht, hd.1, hd.2.1⟩
theorem kr (ys : List V) (x y : V) : (((ys ++ [x, y]).length : Nat) : Int) = (ys.length : Int) + 2 := by
 rw [List.length_append]
 rfl
theorem xC (ys : List V) (x y : V) : cG (ys ++ [x, y]) (-1) = some y := by
 unfold cG fO
 rw [if_neg (by decide), if_pos (by rw [kr]; lia), kr, show (-1 + ((ys.length : Int) + 2)).toNat = ys.length + 1 by lia]
 show (ys ++ [x, y])[ys.length + 1]? = some y
 rw [List.getElem?_append_right (by lia), Nat.add_sub_cancel_left]
 rfl
theorem Ng (ys : List V) (x y : V) : cG (ys ++ [x, y]) (-2) = some x := by
 unfold cG fO
 rw [if_neg (by decide), if_pos (by rw [kr]; lia), kr, show (-2 + ((ys.length : Int) + 2)).toNat = ys.length by lia]
 show (ys ++ [x, y])[ys.length]? = some x
 rw [List.getElem?_append_right (Nat.le_refl _), Nat.sub_self]
 rfl
theorem Nh (ys : List V) (x y : V) : fO (ys ++ [x, y]).length (-1) = some (ys.length + 1) := by
 unfold fO
 rw [if_neg (by decide), if_pos (by rw [kr]; lia), kr, show (-1 + ((ys.length : Int) + 2)).toNat = ys.length + 1 by lia]
theorem Ni (ys : List V) (x y z : V) : (ys ++ [x, y]).set (ys.length + 1) z = ys ++ [x, z] := by
 rw [List.set_append_right _ _ (by lia), Nat.add_sub_cancel_left]
 rfl
theorem Nj (ys : List V) (x y : V) : dI (ys ++ [x, y]) none (some (-2)) = ys := by
 have e : HT.aT (ys ++ [x, y]).length (ys ++ [x, y]).length (some (-2)) = ys.length := by
  show (if (-2 : Int) < 0 then ((-2 : Int) + ((ys ++ [x, y]).length : Int)).toNat else min (-2 : Int).toNat (ys ++ [x, y]).length) = _
  rw [if_pos (by decide), kr]
  lia
 unfold dI
 rw [HT.rq, e, List.drop_zero, Nat.sub_zero, List.take_left']
 rfl
inductive Ck (H : Hp) (a : Addr) (b m : Int) (i : Nat) (σ : St) (H1 : Hp) : Prop
 | mk (l : Addr) (xs : List V) (cj : List Rt) (e1 e2 e3 : Option V) (_ : σ = [some (.ref a), some (.int b), some (.int m), some (.ref l), e1, e2, e3]) (_ : ah H H1) (_ : H l = none) (_ : H1 l = some (.lst xs)) (_ : av (bM H1) xs cj) (_ : (∀ rt ∈ cj, lN rt /\ fe rt)) (_ : cj.length <= i) (_ : (0 < i -> cj ≠ []))
inductive Nk (K : PySem.W.Frag) (vs : List V) (H : Hp) (Q : VK) (aN : XK) : Prop
 | mk (a : Addr) (ns : List Int) (b m : Int) (_ : vs = [.ref a, .int b, .int m]) (_ : ao K H a (ns.map V.int)) (_ : iF ns) (_ : -999999999999999999999999999999999999999999999999999999999900 <= b) (_ : b <= 999999999999999999999999999999999999999999999999999999999900) (_ : 1 <= m) (_ : m <= 44) (_ : ∀ l xs cj H', ah H H' -> H' l = some (.lst xs) -> av (bM H') xs cj -> (∀ rt ∈ cj, lN rt /\ fe rt) -> cj.length <= 44 -> cj ≠ [] -> Q (.ref l) H')
theorem Nl (T : Tx w K mg) : Ok P w base 132 T.nU (Nk K) := by
 refine b9 iQ ?_
 rintro _ _ _ _ H _ _ _ hr ⟨a, ns, b, m, rfl, hS, hn, b0, b1, m1, Qi, q⟩
 refine ⟨_, (au (aY 3 iQ.nd (cA ag)) (au (iA PassesOwn.never rfl (l8 rfl T.gP (ae (aa 2) ag)) (iO 4 iQ.nd) (au (aY 5 iQ.nd (aJ (gi T) hr (ae (aa 0) (ae (az a9 af (aa 4)) (ae af (ae af ag)))))) (aq (aL (PW.pt (dq (tE (aa 5) af) (fK (tE (bD dt (by rfl) T.dC dw (ae (aa 3) ag)) af)))) (aq (eH (fu PySem.F.plainAttrs_list PySem.F.slot_list_append PySem.F.type_list_append mC (aa 3) (ae (aJ (M8 T) hr (ae (aa 0) (ae (az a9 af (az iL af (aa 4))) (ae (aJ (gi T) hr (ae (aa 0) (ae (az a9 af (aa 4)) (ae af (ae af ag))))) (ae af (ae (aa 1) ag)))))) ag)))) (aq (aL (aW (aa 5) af) (aq (aL (tE (bD dt (by rfl) T.dC dw (ae (aJ (qC T 128) hr (ae (ar (aa 3) (jv jS af)) ag)) ag)) af) (aq (EA (bh (ae aH (ae (ar (aa 3) (jv jS af)) ag))) (Ez (aa 3) (jv jS af) set_list))) aP)) (au (aY 6 iQ.nd (bh (ae (ar (bh (ae aH (ae aH ag))) (aJ (gi T) hr (ae (aa 0) (ae (az a9 af (aa 4)) (ae af (ae af ag)))))) (ae (ar (aa 3) (jv jS af)) (ae (ar (aa 3) (jv jS af)) ag))))) (aq (aL (PW.pt (x8 (AQ (bD dt (by rfl) T.dC dw (ae (aJ (qC T 128) hr (ae (aa 6) ag)) ag)) af) (x6 (AQ (bD (A4 rfl) (by rfl) T.lC kO (ae (aJ (xB T 128) hr (ae (aa 6) ag)) ag)) af)))) (aq (aY 3 iQ.nd (az gE (jz pA (aa 3) kN (iB (jv jS af))) (cA (ae (aa 6) ag))))) aP))))))))) (aq (aw (aa 3))))), ?_⟩
 refine bb (fun σ H1 => ∃ l, σ = [some (.ref a), some (.int b), some (.int m), some (.ref l), none, none, none] /\ ah H H1 /\ H l = none /\ H1 l = some (.lst [])) (fun N hN => ?_) ?_
 ·walk_at "gzn"
  exact ⟨by decide, fun l fl => hN _ _ ⟨l, rfl, ak fl, fl, aj⟩⟩
 rintro σ H1 ⟨l, rfl, s1, fl, hl⟩
 walk_at "gzn"
 refine ⟨by lia, by lia, rL (Ck H a b m) ⟨l, [], [], _, _, _, rfl, s1, fl, hl, trivial, fun _ h => absurd h List.not_mem_nil, Nat.le_refl _, fun h => absurd h (Nat.lt_irrefl _)⟩ ?_ ?_⟩
 ·clear hl s1 fl
  rintro i σ H1 hi ⟨l, xs, cj, e1, e2, e3, rfl, s1, fl, hl, hA, aC, hlen, dg⟩
  have hx := hA.len
  refine bb (fun σ H2 => ∃ p : Int, σ = [some (.ref a), some (.int b), some (.int m), some (.ref l), some (.int (0 + (i : Int))), some (.int p), e3] /\ H1 = H2 /\ 0 <= p /\ p < 5) (fun N hN => ?_) ?_
  ·walk_at "gzn"
   exact ⟨a, ns, _, _, _, rfl, s1.seq hS, hn, by lia, by lia, by lia, fun p p1 p2 => hN _ _ ⟨p, rfl, rfl, p1, p2⟩⟩
  rintro σ _ ⟨p, rfl, rfl, p0, p5⟩
  have tp : ∀ {H2 : Hp} {o : HO}, ah H1 H2 -> ∀ p xs, H1 p = some (.tup xs) -> upd H2 l o p = some (.tup xs) := fun s2 p ys e => by
   rw [aQ (fun z => by rw [z, hl] at e; cases e)]
   exact s2 _ _ e
  refine IQ fun B hB => ?_
  have app : ∀ D : Ends, D.nx = Ck H a b m (i + 1) -> B D [some (.ref a), some (.int b), some (.int m), some (.ref l), some (.int (0 + (i : Int))), some (.int p), e3] H1 := fun D hD => by
   subst hB
   walk_at "gzn"
   rw [hD]
   refine ⟨.inl ⟨rfl, _, ao.of hl⟩, g9 (by lia) (by lia), a, ns, _, _, _, rfl, s1.seq hS, hn, by lia, by lia, by lia, fun so Qj Qk => ?_⟩
   walk_at "gzn"
   refine ⟨a, ns, _, so, b, rfl, s1.seq hS, hn, by lia, b0, b1, fun r tr H2 s2 hr gd sm cr => ?_⟩
   refine ⟨_, s2 _ _ hl, Nat.lt_of_le_of_lt (show xs.length <= 44 by lia) (by decide), l, xs ++ [.ref r], cj ++ [.leaf tr], _, _, _, rfl, fv fl (s1.trans s2), fl, aj, ?_, fun rt h => ?_, ?_, fun _ z => by simp at z⟩
   ·refine (hA.imp fun x c z => z.tup (tp s2)).snoc ⟨r, rfl, ?_⟩
    rw [aQ (fun z => by rw [z, s2 _ _ hl] at hr; cases hr)]
    exact hr
   ·rcases List.mem_append.mp h with h | h
    ·exact aC rt h
    ·obtain rfl := List.mem_singleton.mp h
     exact ⟨⟨gd, sm, by show (dM tr).length <= 60; cases tr <;> simp [dM]⟩, cr⟩
   ·rw [List.length_append]
    show cj.length + 1 <= i + 1
    lia
  clear hB
  walk_at "gzn"
  refine bH (fun h2 => app _ rfl) fun h2 => ⟨_, dZ (ao.of hl), bH (fun h3 => app _ rfl) fun h3 => ?_⟩
  clear app
  obtain ⟨ys, x, y, ss, r, t, rfl, rfl, Cm, lO, fI⟩ := Nf hA (by lia)
  have gj := aC t (by simp)
  have ku := aC r (by simp)
  have Ql := ip t
  have Qm := ip r
  have r6 := ku.1.2.2
  have t6 := gj.1.2.2
  refine bH (fun f9 => bK (ao.of hl) (xC _ _ _) ⟨y, t, rfl, fI, gf gj.1.1, gj.1.2.1, by lia, by lia, fun l2 H2 s2 h2 => ⟨_, dZ (ao.of h2), bH (fun h6 => bK (ao.of (s2 _ _ hl)) (xC _ _ _) ⟨bI, fun z hz => ⟨_, ak hz _ _ (s2 _ _ hl), _, Nh _ _ _, ?_⟩⟩) fun _ => ?_⟩⟩) fun f9 => ?_
  ·rw [Ni]
   rw [List.length_map] at h6
   have sz := s2.trans (ak (o := .tup [.str "not", y]) hz)
   have nz : z ≠ l := fun e => by rw [e, s2 _ _ hl] at hz; cases hz
   refine ⟨l, ys ++ [x, .ref z], ss ++ [r, .nay t], _, _, _, rfl, fv fl (s1.trans sz), fl, aj, ?_, fun rt h => ?_, ?_, fun _ z => by simp at z⟩
   ·refine av.app (Cm.imp fun x c z => z.tup (tp sz)) ⟨lO.tup (tp sz), ⟨z, y, rfl, ?_, fI.tup (tp sz)⟩, trivial⟩
    rw [aQ nz, aj]
   ·simp only [List.mem_append, List.mem_cons, List.not_mem_nil, or_false] at h
    rcases h with h | rfl | rfl
    ·exact aC rt (by simp [h])
    ·exact ku
    ·exact ⟨⟨gj.1.1, gj.1.2.1, by show (aD t).length + 1 <= 60; lia⟩, gj.2⟩
   ·simp only [List.length_append, List.length_cons, List.length_nil] at hlen ⊢
    lia
  ·exact ⟨l, _, _, _, _, _, rfl, s1.trans s2, fl, s2 _ _ hl, hA.imp fun x c z => z.same s2, aC, by lia, fun _ z => by simp at z⟩
  ·refine ⟨bI, fun z0 Cn => ⟨a, ns, _, _, _, rfl, (ak Cn).seq (s1.seq hS), hn, by lia, by lia, by lia, fun dr d0 d1 => ?_⟩⟩
   obtain ⟨wd, C, hw, hC⟩ : ∃ wd C, cG [V.str "both", V.str "either"] dr = some (.str wd) /\ ((wd = "both" /\ C = Rt.both r t) ∨ (wd = "either" /\ C = .either r t)) := by
    rcases (by lia : dr = 0 ∨ dr = 1) with rfl | rfl
    ·exact ⟨_, _, rfl, .inl ⟨rfl, rfl⟩⟩
    ·exact ⟨_, _, rfl, .inr ⟨rfl, rfl⟩⟩
   have fc : c7 C /\ eZ C /\ xy C /\ fe C /\ aA C = aA r + aA t + 1 /\ (aD C).length = (aD r).length + (aD t).length + 1 /\ ((aK C).1 <= 100 -> (aK C).2 <= 100 -> bS C) := by
    rcases hC with ⟨_, rfl⟩ | ⟨_, rfl⟩ <;> exact ⟨⟨gf ku.1.1, gf gj.1.1⟩, ⟨ku.1.2.1, gj.1.2.1⟩, ⟨ku.1.1, gj.1.1⟩, ⟨ku.2, gj.2⟩, rfl, by show (aD r ++ aD t).length + 1 = _; rw [List.length_append], fun z1 z2 => ⟨ku.1.1, gj.1.1, z1, z2⟩⟩
   obtain ⟨Nm, Co, kE, Nn, Qn, Qo, Np⟩ := fc
   have atC : ∀ {p : Addr} {H2 : Hp}, H2 p = some (.tup [.str wd, x, y]) -> bM H2 x r -> bM H2 y t -> bM H2 (.ref p) C := fun h1 h2 h3 => by
    rcases hC with ⟨rfl, rfl⟩ | ⟨rfl, rfl⟩ <;> exact ⟨_, x, y, rfl, h1, h2, h3⟩
   have u0 := ak (o := .tup [.str "both", .str "either"]) Cn
   refine aO (ay.of aj) hw (bK (ao.of (u0 _ _ hl)) (Ng _ _ _) (bK (ao.of (u0 _ _ hl)) (xC _ _ _) ⟨by decide, fun pt Nq => ?_⟩))
   have u1 := u0.trans (ak (o := .tup [.str wd, x, y]) Nq)
   refine ⟨.ref pt, C, rfl, atC aj (lO.same u1) (fI.same u1), Nm, Co, by lia, by lia, fun l2 H2 s2 h2 => ⟨_, dZ (ao.of h2), bH (fun h6 => ?_) fun _ => ?_⟩⟩
   ·have Cp := s2 _ _ (aj (H := upd H1 z0 (.tup [.str "both", .str "either"])) (a := pt) (o := .tup [.str wd, x, y]))
    replace u1 := u1.trans s2
    rw [List.length_map] at h6
    refine ⟨.ref pt, C, rfl, atC Cp (lO.same u1) (fI.same u1), kE, by lia, fun l3 H3 s3 h3 => ⟨l3, rfl, [_, _], ay.of h3, by simp, bH (fun h9 => ?_) fun _ => ?_⟩⟩
    ·replace u1 := u1.trans s3
     have Nr := s3 _ _ Cp
     have h7 := (kU (ns := [(aK C).1, (aK C).2]) (by simp)).2
     have g1 := h7 _ (.head _)
     have g2 := h7 _ (.tail _ (.head _))
     have Nt : lN C /\ fe C := ⟨⟨Np (by lia) (by lia), Co, by lia⟩, Nn⟩
     refine ⟨_, ao.of (u1 _ _ hl), fun p1 f1 => ⟨by decide, fun p2 f2 => ?_⟩⟩
     rw [Nj] at f2 ⊢
     refine ⟨_, ak f2 _ _ aj, _, aj, Nat.le_trans (show ys.length + 1 <= 45 by simp only [List.length_append, List.length_cons, List.length_nil] at hlen hx; lia) (by decide), fun p3 f3 => ?_⟩
     have u2 := u1.trans ((ak f1).trans ((ak f2).trans (ak (o := .lst (ys ++ [.ref pt])) f3)))
     have u3 : ah H3 _ := (ak f1).trans ((ak f2).trans (ak (o := .lst (ys ++ [.ref pt])) f3))
     refine ⟨p3, ys ++ [.ref pt], ss ++ [C], _, _, _, rfl, s1.trans u2, ?_, aj, (Cm.imp fun x c z => z.same u2).snoc (atC (u3 _ _ Nr) (lO.same u2) (fI.same u2)), fun rt h => ?_, ?_, fun _ z => by simp at z⟩
     ·exact (s1.trans (u1.trans ((ak f1).trans (ak f2)))).free f3
     ·rcases List.mem_append.mp h with h | h
      ·exact aC rt (by simp [h])
      ·obtain rfl := List.mem_singleton.mp h
       exact Nt
     ·simp only [List.length_append, List.length_cons, List.length_nil] at hlen ⊢
      lia
    ·exact ⟨l, _, _, _, _, _, rfl, s1.trans (u1.trans s3), fl, (u1.trans s3) _ _ hl, hA.imp fun x c z => z.same (u1.trans s3), aC, by lia, fun _ z => by simp at z⟩
   ·exact ⟨l, _, _, _, _, _, rfl, s1.trans (u1.trans s2), fl, (u1.trans s2) _ _ hl, hA.imp fun x c z => z.same (u1.trans s2), aC, by lia, fun _ z => by simp at z⟩
 ·rintro σ H1 ⟨l, xs, cj, e1, e2, e3, rfl, s1, fl, hl, hA, aC, hlen, dg⟩
  walk_at "gzn"
  exact q l xs cj H1 s1 hl hA aC (by lia) (dg (by lia))
end
section
seal L2.PE L2.PS L2.aV L2.PA
variable {P : Program} {w : World} {K : PySem.W.Frag} {mg : Str -> Option Value} {base : Heap}
def oH (cs : List Int) (k : Str) (t : Int) : Prop := 0 <= t /\ t < (cs.length : Int) /\ (k = "step" -> t + 1 < (cs.length : Int))
inductive Nu (K : PySem.W.Frag) (vs : List V) (H : Hp) (Q : VK) (aN : XK) : Prop
 | mk (a : Addr) (cs : List Int) (k : Str) (t : Int) (_ : vs = [.ref a, .str k, .int t]) (_ : ao K H a (cs.map V.int)) (_ : oH cs k t) (_ : Q (.int (eh cs k t)) H)
theorem Nv (T : Tx w K mg) : Ok P w base 1 T.ny (Nu K) := by
 refine b9 vq ?_
 rintro _ _ _ _ _ _ _ _ _ ⟨a, cs, k, t, rfl, hS, hk, q⟩
 refine ⟨_, (au (aL (aW (aa 1) aH) (aq (aw (az cW (ar (aa 0) (az a9 (aa 2) af)) (ar (aa 0) (aa 2))))) aP) (aq (aw (ar (aa 0) (aa 2))))), ?_⟩
 obtain ⟨h0, h1, h2⟩ := hk
 unfold eh at q
 walk_at "gz"
 try refine ⟨rfl, ?_⟩
 by_cases hk : k = "step"
 ·subst hk
  rw [if_pos rfl] at q ⊢
  refine bK hS (int_at (by lia) (h2 rfl)) (bK hS (int_at h0 h1) ?_)
  walk_at "gz"
  exact q
 ·rw [if_neg hk] at q
  rw [if_neg hk]
  exact bK hS (int_at h0 h1) q
inductive Nw (K : PySem.W.Frag) (vs : List V) (H : Hp) (Q : VK) (aN : XK) : Prop
 | mk (a b : Addr) (cs : List Int) (xs : List V) (ps : List Pa) (_ : vs = [.ref a, .ref b]) (_ : ao K H a (cs.map V.int)) (_ : ao K H b xs) (_ : cN H xs ps) (_ : ps.length <= 1000) (_ : (∀ p ∈ ps, oH cs p.1 p.2.1)) (_ : ∀ H', ah H H' -> Q (.bl (ax cs ps)) H')
theorem Nx (T : Tx w K mg) : Ok P w base 3 T.nA (Nw K) := by
 refine b9 vr ?_
 rintro _ _ _ _ H _ Q _ hr ⟨a, b, cs, xs, ps, rfl, hS, hX, hP, hn, hk, q⟩
 refine ⟨_, (aq (aw (bD (pN rfl) (by rfl) T.qm pF (ae (fw (cO [0] ["course"]) rfl (gy (aa 1)) (fun C s2 H2 ex pn => ⟨d7, (aJ (K6 T) hr (ae (eO (K := K) (aa 0) af) (ae (aJ (Nv T) hr (ae (aa 1) (ae (eO (K := K) (aa 0) af) (ae (eO (K := K) (aa 0) af) ag)))) ag)))⟩)) ag)))), ?_⟩
 have hl := hP.len
 walk_at "gz"
 refine ⟨⟨_, hX⟩, d8 jI (Nat.le_trans (by lia : xs.length <= 1000) (by decide)) (pP (R := fB H) (p := fun _ => true) (f := fun p => .bl (hold p.2.2.1 p.2.2.2 (eh cs p.1 p.2.1))) hX hP (fun x p _ r Q h => ?_) (fun x p hp _ r Q h => ?_) ?_)⟩
 ·walk_at "gz"
  exact h
 ·obtain ⟨t, u, rfl, ht, hu⟩ := r
  walk_at "gz"
  refine aG ht (aG ht (aG ht ?_))
  refine ⟨a, cs, _, _, rfl, hS, hk p hp, ?_⟩
  walk_at "gz"
  exact ⟨_, _, _, _, rfl, ⟨u, rfl, hu⟩, h⟩
 ·rw [List.nil_append, filter_tt]
  intro l aZ
  refine ⟨l, rfl, ps.map fun p => hold p.2.2.1 p.2.2.2 (eh cs p.1 p.2.1), ao.of ?_, ?_⟩
  ·rw [aj, List.map_map]; rfl
  ·rw [List.all_map]
   exact q _ (ak aZ)
end
section
seal L2.PE L2.PS L2.aV L2.PA
variable {P : Program} {w : World} {K : PySem.W.Frag} {mg : Str -> Option Value} {base : Heap}
def kx (H : Hp) (v : V) (ps : List Pa) : Prop := ∃ c xs, v = .ref c /\ H c = some (.lst xs) /\ cN H xs ps
theorem kx.same {H H' : Hp} {v : V} {ps : List Pa} (h : kx H v ps) (s : ah H H') : kx H' v ps := let ⟨c, xs, e, a, b⟩ := h; ⟨c, xs, e, s _ _ a, cN.same b s⟩
theorem bA.cm {G H : Hp} {v : V} {ps : List Pa} (h : bA G H v ps) : kx H v ps := let ⟨c, xs, e, _, a, b⟩ := h; ⟨c, xs, e, a, b⟩
noncomputable def c8 (as bs : List (List Pa)) : List (List Pa) := as.flatMap fun a => bs.map fun b => a ++ b
theorem Ny {as bs : List (List Pa)} {i : Nat} {a : List Pa} (h : as[i]? = some a) : c8 (as.take (i + 1)) bs = c8 (as.take i) bs ++ bs.map fun b => a ++ b := by
 unfold c8
 rw [List.take_succ, h, List.flatMap_append]
 simp
theorem xD (as bs : List (List Pa)) : (c8 as bs).length = as.length * bs.length := by
 unfold c8
 induction as with
 | nil => simp
 | cons a as ih => rw [List.flatMap_cons, List.length_append, List.length_map, ih, List.length_cons, Nat.add_mul, Nat.one_mul, Nat.add_comm]
inductive Nz (K : PySem.W.Frag) (vs : List V) (H : Hp) (Q : VK) (aN : XK) : Prop
 | mk (a b : Addr) (xs ys : List V) (as bs : List (List Pa)) (_ : vs = [.ref a, .ref b]) (_ : H a = some (.lst xs)) (_ : H b = some (.lst ys)) (_ : av (kx H) xs as) (_ : av (kx H) ys bs) (_ : as.length <= 200) (_ : bs.length <= 200) (_ : (∀ p ∈ as, p.length <= 900)) (_ : (∀ p ∈ bs, p.length <= 900)) (_ : ∀ l zs H', ah H H' -> H l = none -> H' l = some (.lst zs) -> av (bA H H') zs (c8 as bs) -> Q (.ref l) H')
inductive NA (H : Hp) (a b l : Addr) (as bs : List (List Pa)) (i : Nat) (σ : St) (H1 : Hp) : Prop
 | mk (zs : List V) (e : Option V) (_ : σ = [some (.ref a), some (.ref b), some (.ref l), e]) (_ : ah H H1) (_ : H1 l = some (.lst zs)) (_ : av (eB H l H1) zs (c8 (as.take i) bs))
theorem Cq (T : Tx w K mg) : Ok P w base 1 T.nI (Nz K) := by
 refine b9 nk ?_
 rintro _ _ _ s H _ Q _ _ ⟨a, b, xs, ys, as, bs, rfl, ha, hb, hA, hB, al, bl, pa, pb, q⟩
 refine ⟨_, (au (aY 2 nk.nd (cA ag)) (au (iA PassesOwn.never rfl (gy (aa 0)) (iO 3 nk.nd) (aq (eH (fu PySem.F.plainAttrs_list PySem.F.slot_list_extend PySem.F.type_list_extend rE (aa 2) (ae (fw (cO [3] ["one"]) rfl (gy (aa 1)) (fun C s2 H2 ex pn => ⟨d7, (az gE (aa 1) (aa 0))⟩)) ag))))) (aq (aw (aa 2))))), ?_⟩
 have xl := hA.len
 have yl := hB.len
 refine bb (fun σ H1 => ∃ l, σ = [some (.ref a), some (.ref b), some (.ref l), none] /\ ah H H1 /\ H l = none /\ H1 l = some (.lst [])) (fun N hN => ?_) ?_
 ·walk_at "gzn"
  exact ⟨by decide, fun l hl => hN _ _ ⟨l, rfl, ak hl, hl, aj⟩⟩
 rintro σ H1 ⟨l, rfl, s1, ij, gg⟩
 walk_at "gzn"
 refine ⟨⟨_, ao.of (s1 _ _ ha)⟩, rM (xs := xs) (NA H a b l as bs) ⟨[], _, rfl, s1, gg, trivial⟩ (fun i σ H2 _ ⟨_, _, _, s2, _, _⟩ => ao.of (s2 _ _ ha)) ?_ ?_⟩
 ·rintro i x σ H2 hx ⟨zs, e, rfl, s2, aZ, hz⟩
  obtain ⟨ca, hca, c, us, rfl, hc, hP⟩ := hA.get hx
  have il := (List.getElem?_eq_some_iff.mp hca).1
  have zl := hz.len
  rw [xD, List.length_take] at zl
  have zb : zs.length <= 200 * 200 := by rw [zl]; exact Nat.mul_le_mul (by lia) bl
  have cl := pa ca (List.mem_of_getElem? hca)
  have ul := hP.len
  walk_at "gzn"
  refine ⟨.inl ⟨rfl, _, ao.of aZ⟩, ⟨_, ao.of (s2 _ _ hb)⟩, d8 jI (Nat.le_trans (by lia : ys.length <= 200) (by decide)) (jM (R := fun H x ps => kx H x ps) (R' := eB H l) (f := fun ps => ca ++ ps) (fun _ _ _ _ s' h => h.same s') (fun _ _ _ _ s' h => h.same s') (hB.imp fun _ _ r => r.same s2) (bs := []) trivial (fun H' s' => ao.of (s' _ _ (s2 _ _ hb))) (fun x k _ H4 s4 r Q h => ?_) (fun x k hk H4 s4 r Q h => ?_) fun H4 ws s4 hw => ?_)⟩
  ·walk_at "gzn"
   exact h
  ·obtain ⟨c2, xE, rfl, r9, Cr⟩ := r
   have kl := pb k hk
   have Qp := Cr.len
   walk_at "gzn"
   refine ⟨_, (s2.trans s4) _ _ hc, _, r9, Nat.le_trans (by lia : us.length + xE.length <= 1800) (by decide), fun d hd => ?_⟩
   have ud := ak (o := .lst (us ++ xE)) hd
   have dl : d ≠ l := fun z => by rw [z, s4 _ _ aZ] at hd; cases hd
   exact h _ _ ud ⟨d, us ++ xE, rfl, dl, (s2.trans s4).free hd, aj, av.app (cN.same hP ((s2.trans s4).trans ud)) (cN.same Cr ud)⟩
  ·intro d hd
   rw [List.nil_append] at hw
   have u := s4.trans (ak (o := .lst ws) hd)
   have wl := hw.len
   rw [List.length_map] at wl
   refine ⟨l, d, _, _, rfl, rfl, u _ _ aZ, aj, Nat.le_trans (by lia : zs.length + ws.length <= 50000) (by decide), zs ++ ws, _, rfl, fv ij (s2.trans u), aj, ?_⟩
   rw [Ny hca]
   exact (hz.imp fun _ _ r => (r.same u).put (o := .lst (zs ++ ws)) (u _ _ aZ)).app (hw.imp fun _ _ r => (r.same (ak hd)).put (o := .lst (zs ++ ws)) (u _ _ aZ))
 ·rintro σ H2 ⟨zs, e, rfl, s2, aZ, hz⟩
  rw [xl, List.take_length] at hz
  walk_at "gzn"
  exact q l zs H2 s2 ij aZ (hz.imp fun _ _ r => r.sU)
noncomputable def aM : Bool -> Rt -> List (List Pa)
 | true, .leaf t => cE t
 | false, .leaf t => eX t
 | b, .nay a => aM (!b) a
 | true, .both a c => c8 (aM true a) (aM true c)
 | false, .both a c => aM false a ++ aM false c
 | true, .either a c => aM true a ++ aM true c
 | false, .either a c => c8 (aM false a) (aM false c)
theorem Cs (b : Bool) (a : Rt) : aM b (.nay a) = aM (!b) a := by cases b <;> rfl
theorem lT : ∀ rt : Rt, (aK rt).1 = ((aM true rt).length : Int) /\ (aK rt).2 = ((aM false rt).length : Int)
 | .leaf _ => ⟨rfl, rfl⟩
 | .nay a => let ⟨x, y⟩ := lT a; ⟨y, x⟩
 | .both a c => by
  obtain ⟨x, y⟩ := lT a
  obtain ⟨z, v⟩ := lT c
  refine ⟨?_, ?_⟩
  ·show (aK a).1 * (aK c).1 = ((c8 (aM true a) (aM true c)).length : Int)
   rw [xD, Int.natCast_mul, x, z]
  ·show (aK a).2 + (aK c).2 = ((aM false a ++ aM false c).length : Int)
   rw [List.length_append, Int.natCast_add, y, v]
 | .either a c => by
  obtain ⟨x, y⟩ := lT a
  obtain ⟨z, v⟩ := lT c
  refine ⟨?_, ?_⟩
  ·show (aK a).1 + (aK c).1 = ((aM true a ++ aM true c).length : Int)
   rw [List.length_append, Int.natCast_add, x, z]
  ·show (aK a).2 * (aK c).2 = ((c8 (aM false a) (aM false c)).length : Int)
   rw [xD, Int.natCast_mul, y, v]
theorem iq {rt : Rt} (hg : bS rt) (b : Bool) : (aM b rt).length <= 200 := by
 obtain ⟨_, h1, _, h2⟩ := eG hg
 obtain ⟨e1, e2⟩ := lT rt
 cases b <;> lia
noncomputable def ff : Rt -> Nat
 | .leaf _ => 1
 | .nay a => ff a
 | .both a b => ff a + ff b
 | .either a b => ff a + ff b
theorem lU : ∀ rt : Rt, 2 * ff rt <= (aD rt).length
 | .leaf t => by cases t <;> simp [ff, aD, dM]
 | .nay a => by
  have := lU a
  show 2 * ff a <= (aD a).length + 1
  lia
 | .both a b => by
  have := lU a
  have := lU b
  show 2 * (ff a + ff b) <= (aD a ++ aD b).length + 1
  rw [List.length_append]
  lia
 | .either a b => by
  have := lU a
  have := lU b
  show 2 * (ff a + ff b) <= (aD a ++ aD b).length + 1
  rw [List.length_append]
  lia
theorem oI {qs : List Pa} {ps : List Pa} (h : ps ∈ bq qs) : ps.length <= 12 := by
 obtain ⟨_, _, _, _, rfl⟩ := sW h
 show 1 <= 12
 decide
theorem NB {t : Tr} (hg : c6 t) : (∀ ps ∈ cE t, ps.length <= 12) /\ ∀ ps ∈ eX t, ps.length <= 12 := by
 have xF : ∀ {i j : Int} {s : S2}, bp i j -> ∀ ps ∈ [aU i j s], ps.length <= 12 := fun hk ps hp => by
  obtain ⟨k0, k1, k2⟩ := hk
  rw [List.mem_singleton.mp hp, dA]
  lia
 cases t with
 | stay i j l h => exact ⟨xF hg, fun ps hp => oI hp⟩
 | over i j s => exact ⟨fun ps hp => oI hp, xF hg⟩
 | under i j s => exact ⟨fun ps hp => oI hp, xF hg⟩
 | rose i j l h =>
  obtain ⟨⟨k0, k1, k2⟩, _⟩ := hg
  refine ⟨fun ps hp => ?_, fun ps hp => ?_⟩
  ·obtain ⟨_, _, _, _, rfl⟩ := AE hp
   show 2 <= 12
   decide
  ·unfold eX fH at hp
   obtain ⟨k, hk, rfl⟩ := List.mem_map.mp hp
   have := List.mem_range.mp hk
   rw [List.length_append, dA, dA]
   lia
 | pace i j l h =>
  refine ⟨fun ps hp => ?_, fun ps hp => oI hp⟩
  obtain ⟨k0, k1, k2⟩ := hg
  rw [List.mem_singleton.mp hp]
  unfold cV
  rw [List.length_map, List.length_range]
  lia
 | turn t =>
  refine ⟨fun ps hp => ?_, fun ps hp => oI hp⟩
  rw [List.mem_singleton.mp hp]
  show 2 <= 12
  decide
theorem mem_join {as bs : List (List Pa)} {ps : List Pa} (h : ps ∈ c8 as bs) : ∃ a ∈ as, ∃ b ∈ bs, ps = a ++ b := by
 unfold c8 at h
 obtain ⟨a, ha, h⟩ := List.mem_flatMap.mp h
 obtain ⟨b, hb, rfl⟩ := List.mem_map.mp h
 exact ⟨a, ha, b, hb, rfl⟩
theorem gR (R : List Pa -> Nat -> Prop) (gk : ∀ {x y : List Pa} {m n : Nat}, R x m -> R y n -> R (x ++ y) (m + n)) (fg : ∀ {x : List Pa} {m n : Nat}, m <= n -> R x m -> R x n) (gm : ∀ t, c6 t -> (∀ ps ∈ cE t, R ps 1) /\ ∀ ps ∈ eX t, R ps 1) : ∀ {rt : Rt}, c7 rt -> ∀ b, ∀ ps ∈ aM b rt, R ps (ff rt)
 | .leaf t, hg, true => (gm t hg).1
 | .leaf t, hg, false => (gm t hg).2
 | .nay a, hg, b => fun ps hp => by
  rw [Cs] at hp
  exact gR R gk fg gm (rt := a) hg (!b) ps hp
 | .both a c, hg, true => fun ps hp => by
  obtain ⟨x, hx, y, hy, rfl⟩ := mem_join hp
  exact gk (gR R gk fg gm hg.1 true x hx) (gR R gk fg gm hg.2 true y hy)
 | .both a c, hg, false => fun ps hp => by
  rcases List.mem_append.mp hp with h | h
  ·exact fg (Nat.le_add_right _ _) (gR R gk fg gm hg.1 false ps h)
  ·exact fg (Nat.le_add_left _ _) (gR R gk fg gm hg.2 false ps h)
 | .either a c, hg, false => fun ps hp => by
  obtain ⟨x, hx, y, hy, rfl⟩ := mem_join hp
  exact gk (gR R gk fg gm hg.1 false x hx) (gR R gk fg gm hg.2 false y hy)
 | .either a c, hg, true => fun ps hp => by
  rcases List.mem_append.mp hp with h | h
  ·exact fg (Nat.le_add_right _ _) (gR R gk fg gm hg.1 true ps h)
  ·exact fg (Nat.le_add_left _ _) (gR R gk fg gm hg.2 true ps h)
theorem oJ {rt : Rt} (hg : bS rt) (h6 : (aD rt).length <= 60) (b : Bool) : ∀ ps ∈ aM b rt, ps.length <= 900 := fun ps hp => by
 have h := gR (fun ps n => ps.length <= 12 * n) (fun h1 h2 => by rw [List.length_append, Nat.mul_add]; lia) (fun h1 h2 => Nat.le_trans h2 (Nat.mul_le_mul_left _ h1)) (fun t ht => NB ht) (gf hg) b ps hp
 have := lU rt
 lia
end
section
seal L2.PE L2.PS L2.aV L2.PA
variable {P : Program} {w : World} {K : PySem.W.Frag} {mg : Str -> Option Value} {base : Heap}
noncomputable abbrev ky : Bool -> Str
 | true => "ways"
 | false => "breaks"
def eR (rt : Rt) : Prop := bS rt /\ (aD rt).length <= 60
inductive kz (T : Tx w K mg) (N : Nat) (b : Bool) (x : V) (H : Hp) (Q : VK) : Prop
 | mk (rt : Rt) (_ : bz T H x rt) (_ : eR rt) (_ : aA rt < N) (_ : ∀ l ys H', ah H H' -> H l = none -> H' l = some (.lst ys) -> av (bA H H') ys (aM b rt) -> Q (.ref l) H')
inductive NC (T : Tx w K mg) (N : Nat) (vs : List V) (H : Hp) (Q : VK) (aN : XK) : Prop
 | mk (x dx : Addr) (c : V) (a : Rt) (_ : vs = [.ref x]) (_ : H x = some (.ins T.bG dx [("one", c)])) (_ : bz T H c a) (_ : eR a) (_ : aA a < N) (_ : ∀ l ys H', ah H H' -> H l = none -> H' l = some (.lst ys) -> av (bA H H') ys (aM false a) -> Q (.ref l) H')
theorem ND (T : Tx w K mg) (N : Nat) (ih : ∀ (b : Bool) {A : Around} {n : Nat}, aR n A -> N + 4 <= n -> ∀ x H Q, kz T N b x H Q -> bO P w K mg base A (ky b) x H Q) : Om P w mg base (N + 4 + 1) T.je (NC T N) := by
 refine bZ wb ?_
 rintro _ _ _ _ _ _ _ _ hr ⟨x, dx, c, a, rfl, hx, hc, ga, hN, q⟩
 refine ⟨_, (aq (aw (cD (fun x H Q => ih false hr (Nat.le_refl _) x H Q) (bj rfl (aa 0) rfl)))), ?_⟩
 walk_at "gzn"
 exact ⟨_, _, _, hx, T.eW, T.kj, _, rfl, a, hc, ga, hN, q⟩
inductive NF (T : Tx w K mg) (N : Nat) (vs : List V) (H : Hp) (Q : VK) (aN : XK) : Prop
 | mk (x dx : Addr) (c : V) (a : Rt) (_ : vs = [.ref x]) (_ : H x = some (.ins T.bG dx [("one", c)])) (_ : bz T H c a) (_ : eR a) (_ : aA a < N) (_ : ∀ l ys H', ah H H' -> H l = none -> H' l = some (.lst ys) -> av (bA H H') ys (aM true a) -> Q (.ref l) H')
theorem NG (T : Tx w K mg) (N : Nat) (ih : ∀ (b : Bool) {A : Around} {n : Nat}, aR n A -> N + 4 <= n -> ∀ x H Q, kz T N b x H Q -> bO P w K mg base A (ky b) x H Q) : Om P w mg base (N + 4 + 1) T.jf (NF T N) := by
 refine bZ wc ?_
 rintro _ _ _ _ _ _ _ _ hr ⟨x, dx, c, a, rfl, hx, hc, ga, hN, q⟩
 refine ⟨_, (aq (aw (cD (fun x H Q => ih true hr (Nat.le_refl _) x H Q) (bj rfl (aa 0) rfl)))), ?_⟩
 walk_at "gzn"
 exact ⟨_, _, _, hx, T.eW, T.kj, _, rfl, a, hc, ga, hN, q⟩
inductive NH (T : Tx w K mg) (N : Nat) (vs : List V) (H : Hp) (Q : VK) (aN : XK) : Prop
 | mk (x dx : Addr) (c d : V) (a b : Rt) (_ : vs = [.ref x]) (_ : H x = some (.ins T.bB dx [("one", c), ("other", d)])) (_ : bz T H c a) (_ : bz T H d b) (_ : eR a) (_ : eR b) (_ : aA a < N) (_ : aA b < N) (_ : ∀ l ys H', ah H H' -> H l = none -> H' l = some (.lst ys) -> av (bA H H') ys (c8 (aM true a) (aM true b)) -> Q (.ref l) H')
theorem NI (T : Tx w K mg) (N : Nat) (ih : ∀ (b : Bool) {A : Around} {n : Nat}, aR n A -> N + 4 <= n -> ∀ x H Q, kz T N b x H Q -> bO P w K mg base A (ky b) x H Q) : Om P w mg base (N + 4 + 1) T.i7 (NH T N) := by
 refine bZ v3 ?_
 rintro _ _ _ _ _ _ _ _ hr ⟨x, dx, c, d, a, b, rfl, hx, hc, hd, ga, gb, hA, hB, q⟩
 refine ⟨_, (aq (aw (aJ (hk := by lia) (Cq T) hr (ae (cD (fun x H Q => ih true hr (Nat.le_refl _) x H Q) (bj rfl (aa 0) rfl)) (ae (cD (fun x H Q => ih true hr (Nat.le_refl _) x H Q) (bj rfl (aa 0) rfl)) ag))))), ?_⟩
 walk_at "gzn"
 refine ⟨_, _, _, hx, T.dO, T.kf, _, rfl, a, hc, ga, hA, fun l1 ir H1 s1 f1 gg iu => ?_⟩
 walk_at "gzn"
 refine ⟨_, _, _, s1 _ _ hx, T.dO, T.kg, _, rfl, b, hd.same s1, gb, hB, fun l2 iw H2 s2 f2 aZ ix => ?_⟩
 exact ⟨l1, l2, ir, iw, _, _, rfl, s2 _ _ gg, aZ, iu.imp fun _ _ r => (bA.cm r).same s2, ix.imp fun _ _ r => bA.cm r, iq ga.1 _, iq gb.1 _, oJ ga.1 ga.2 _, oJ gb.1 gb.2 _, fun l zs H3 s3 fl hl hz => q l zs H3 (s1.trans (s2.trans s3)) ((s1.trans s2).free fl) hl (hz.imp fun _ _ r => r.back (s1.trans s2))⟩
inductive NJ (T : Tx w K mg) (N : Nat) (vs : List V) (H : Hp) (Q : VK) (aN : XK) : Prop
 | mk (x dx : Addr) (c d : V) (a b : Rt) (_ : vs = [.ref x]) (_ : H x = some (.ins T.bB dx [("one", c), ("other", d)])) (_ : bz T H c a) (_ : bz T H d b) (_ : eR a) (_ : eR b) (_ : aA a < N) (_ : aA b < N) (_ : ∀ l ys H', ah H H' -> H l = none -> H' l = some (.lst ys) -> av (bA H H') ys (aM false a ++ aM false b) -> Q (.ref l) H')
theorem NK (T : Tx w K mg) (N : Nat) (ih : ∀ (b : Bool) {A : Around} {n : Nat}, aR n A -> N + 4 <= n -> ∀ x H Q, kz T N b x H Q -> bO P w K mg base A (ky b) x H Q) : Om P w mg base (N + 4 + 1) T.i8 (NJ T N) := by
 refine bZ v5 ?_
 rintro _ _ _ _ _ _ _ _ hr ⟨x, dx, c, d, a, b, rfl, hx, hc, hd, ga, gb, hA, hB, q⟩
 refine ⟨_, (aq (aw (az gE (cD (fun x H Q => ih false hr (Nat.le_refl _) x H Q) (bj rfl (aa 0) rfl)) (cD (fun x H Q => ih false hr (Nat.le_refl _) x H Q) (bj rfl (aa 0) rfl))))), ?_⟩
 have la := iq ga.1 false
 have lb := iq gb.1 false
 walk_at "gzn"
 refine ⟨_, _, _, hx, T.dO, T.kf, _, rfl, a, hc, ga, hA, fun l1 ir H1 s1 f1 gg iu => ?_⟩
 walk_at "gzn"
 refine ⟨_, _, _, s1 _ _ hx, T.dO, T.kg, _, rfl, b, hd.same s1, gb, hB, fun l2 iw H2 s2 f2 aZ ix => ?_⟩
 have e1 := iu.len
 have e2 := ix.len
 refine ⟨l2, rfl, _, s2 _ _ gg, _, aZ, Nat.le_trans (by lia : ir.length + iw.length <= 400) (by decide), fun c hc => ?_⟩
 have uc := ak (o := .lst (ir ++ iw)) hc
 exact q c _ _ (s1.trans (s2.trans uc)) ((s1.trans s2).free hc) aj (av.app (iu.imp fun _ _ r => r.same (s2.trans uc)) (ix.imp fun _ _ r => (r.back s1).same uc))
inductive NL (T : Tx w K mg) (N : Nat) (vs : List V) (H : Hp) (Q : VK) (aN : XK) : Prop
 | mk (x dx : Addr) (c d : V) (a b : Rt) (_ : vs = [.ref x]) (_ : H x = some (.ins T.bC dx [("one", c), ("other", d)])) (_ : bz T H c a) (_ : bz T H d b) (_ : eR a) (_ : eR b) (_ : aA a < N) (_ : aA b < N) (_ : ∀ l ys H', ah H H' -> H l = none -> H' l = some (.lst ys) -> av (bA H H') ys (c8 (aM false a) (aM false b)) -> Q (.ref l) H')
theorem NM (T : Tx w K mg) (N : Nat) (ih : ∀ (b : Bool) {A : Around} {n : Nat}, aR n A -> N + 4 <= n -> ∀ x H Q, kz T N b x H Q -> bO P w K mg base A (ky b) x H Q) : Om P w mg base (N + 4 + 1) T.jb (NL T N) := by
 refine bZ v8 ?_
 rintro _ _ _ _ _ _ _ _ hr ⟨x, dx, c, d, a, b, rfl, hx, hc, hd, ga, gb, hA, hB, q⟩
 refine ⟨_, (aq (aw (aJ (hk := by lia) (Cq T) hr (ae (cD (fun x H Q => ih false hr (Nat.le_refl _) x H Q) (bj rfl (aa 0) rfl)) (ae (cD (fun x H Q => ih false hr (Nat.le_refl _) x H Q) (bj rfl (aa 0) rfl)) ag))))), ?_⟩
 walk_at "gzn"
 refine ⟨_, _, _, hx, T.dP, T.kh, _, rfl, a, hc, ga, hA, fun l1 ir H1 s1 f1 gg iu => ?_⟩
 walk_at "gzn"
 refine ⟨_, _, _, s1 _ _ hx, T.dP, T.ki, _, rfl, b, hd.same s1, gb, hB, fun l2 iw H2 s2 f2 aZ ix => ?_⟩
 exact ⟨l1, l2, ir, iw, _, _, rfl, s2 _ _ gg, aZ, iu.imp fun _ _ r => (bA.cm r).same s2, ix.imp fun _ _ r => bA.cm r, iq ga.1 _, iq gb.1 _, oJ ga.1 ga.2 _, oJ gb.1 gb.2 _, fun l zs H3 s3 fl hl hz => q l zs H3 (s1.trans (s2.trans s3)) ((s1.trans s2).free fl) hl (hz.imp fun _ _ r => r.back (s1.trans s2))⟩
inductive NN (T : Tx w K mg) (N : Nat) (vs : List V) (H : Hp) (Q : VK) (aN : XK) : Prop
 | mk (x dx : Addr) (c d : V) (a b : Rt) (_ : vs = [.ref x]) (_ : H x = some (.ins T.bC dx [("one", c), ("other", d)])) (_ : bz T H c a) (_ : bz T H d b) (_ : eR a) (_ : eR b) (_ : aA a < N) (_ : aA b < N) (_ : ∀ l ys H', ah H H' -> H l = none -> H' l = some (.lst ys) -> av (bA H H') ys (aM true a ++ aM true b) -> Q (.ref l) H')
theorem NO (T : Tx w K mg) (N : Nat) (ih : ∀ (b : Bool) {A : Around} {n : Nat}, aR n A -> N + 4 <= n -> ∀ x H Q, kz T N b x H Q -> bO P w K mg base A (ky b) x H Q) : Om P w mg base (N + 4 + 1) T.ja (NN T N) := by
 refine bZ v7 ?_
 rintro _ _ _ _ _ _ _ _ hr ⟨x, dx, c, d, a, b, rfl, hx, hc, hd, ga, gb, hA, hB, q⟩
 refine ⟨_, (aq (aw (az gE (cD (fun x H Q => ih true hr (Nat.le_refl _) x H Q) (bj rfl (aa 0) rfl)) (cD (fun x H Q => ih true hr (Nat.le_refl _) x H Q) (bj rfl (aa 0) rfl))))), ?_⟩
 have la := iq ga.1 true
 have lb := iq gb.1 true
 walk_at "gzn"
 refine ⟨_, _, _, hx, T.dP, T.kh, _, rfl, a, hc, ga, hA, fun l1 ir H1 s1 f1 gg iu => ?_⟩
 walk_at "gzn"
 refine ⟨_, _, _, s1 _ _ hx, T.dP, T.ki, _, rfl, b, hd.same s1, gb, hB, fun l2 iw H2 s2 f2 aZ ix => ?_⟩
 have e1 := iu.len
 have e2 := ix.len
 refine ⟨l2, rfl, _, s2 _ _ gg, _, aZ, Nat.le_trans (by lia : ir.length + iw.length <= 400) (by decide), fun c hc => ?_⟩
 have uc := ak (o := .lst (ir ++ iw)) hc
 exact q c _ _ (s1.trans (s2.trans uc)) ((s1.trans s2).free hc) aj (av.app (iu.imp fun _ _ r => r.same (s2.trans uc)) (ix.imp fun _ _ r => (r.back s1).same uc))
theorem NP (T : Tx w K mg) : ∀ N : Nat, ∀ (b : Bool) {A : Around} {n : Nat}, aR n A -> N + 4 <= n -> ∀ x H Q, kz T N b x H Q -> bO P w K mg base A (ky b) x H Q := by
 intro N
 induction N with
 | zero =>
  rintro b A n hr hn v H Q ⟨rt, _, _, h, _⟩
  exact absurd h (Nat.not_lt_zero _)
 | succ N ih =>
  rintro b A n hr hn v H Q ⟨rt, hv, ⟨hg, hl⟩, hh, q⟩
  cases rt with
  | leaf t =>
   obtain ⟨x, rfl, he⟩ := hv
   cases b with
   | true => exact B4 T hr (by lia) _ _ _ ⟨x, t, rfl, he, hg, q⟩
   | false => exact B5 T hr (by lia) _ _ _ ⟨x, t, rfl, he, hg, q⟩
  | nay a =>
   obtain ⟨x, dx, c, rfl, hx, hc⟩ := hv
   have hl : (aD a).length + 1 <= 60 := hl
   cases b with
   | true => exact bO.of (hk := by lia) hx T.eW T.KL (ND T N ih) hr T.je.b ⟨x, dx, c, a, rfl, hx, hc, ⟨hg, by lia⟩, Nat.lt_of_succ_lt_succ hh, q⟩
   | false => exact bO.of (hk := by lia) hx T.eW T.KN (NG T N ih) hr T.jf.b ⟨x, dx, c, a, rfl, hx, hc, ⟨hg, by lia⟩, Nat.lt_of_succ_lt_succ hh, q⟩
  | both a c =>
   obtain ⟨x, dx, v1, v2, rfl, hx, hc, he⟩ := hv
   have hh : aA a + aA c + 1 < N + 1 := hh
   have hl : (aD a ++ aD c).length + 1 <= 60 := hl
   rw [List.length_append] at hl
   cases b with
   | true => exact bO.of (hk := by lia) hx T.dO T.Kw (NI T N ih) hr T.i7.b ⟨x, dx, v1, v2, a, c, rfl, hx, hc, he, ⟨hg.1, by lia⟩, ⟨hg.2.1, by lia⟩, by lia, by lia, q⟩
   | false => exact bO.of (hk := by lia) hx T.dO T.Kx (NK T N ih) hr T.i8.b ⟨x, dx, v1, v2, a, c, rfl, hx, hc, he, ⟨hg.1, by lia⟩, ⟨hg.2.1, by lia⟩, by lia, by lia, q⟩
  | either a c =>
   obtain ⟨x, dx, v1, v2, rfl, hx, hc, he⟩ := hv
   have hh : aA a + aA c + 1 < N + 1 := hh
   have hl : (aD a ++ aD c).length + 1 <= 60 := hl
   rw [List.length_append] at hl
   cases b with
   | true => exact bO.of (hk := by lia) hx T.dP T.KC (NO T N ih) hr T.ja.b ⟨x, dx, v1, v2, a, c, rfl, hx, hc, he, ⟨hg.1, by lia⟩, ⟨hg.2.1, by lia⟩, by lia, by lia, q⟩
   | false => exact bO.of (hk := by lia) hx T.dP T.KG (NM T N ih) hr T.jb.b ⟨x, dx, v1, v2, a, c, rfl, hx, hc, he, ⟨hg.1, by lia⟩, ⟨hg.2.1, by lia⟩, by lia, by lia, q⟩
end
section
seal L2.PE L2.PS L2.aV L2.PA
variable {P : Program} {w : World} {K : PySem.W.Frag} {mg : Str -> Option Value} {base : Heap}
noncomputable def gn (a b : Int) : Int := if a < b then b else a
noncomputable def bU : Rt -> Int
 | .leaf t => f6 t
 | .nay a => bU a
 | .both a b => gn (bU a) (bU b)
 | .either a b => gn (bU a) (bU b)
inductive xG (T : Tx w K mg) (N : Nat) (x : V) (H : Hp) (Q : VK) : Prop
 | mk (rt : Rt) (_ : bz T H x rt) (_ : c7 rt) (_ : aA rt < N) (_ : ∀ H', ah H H' -> Q (.int (bU rt)) H')
inductive NQ (T : Tx w K mg) (N : Nat) (vs : List V) (H : Hp) (Q : VK) (aN : XK) : Prop
 | mk (x dx : Addr) (c : V) (a : Rt) (_ : vs = [.ref x]) (_ : H x = some (.ins T.bG dx [("one", c)])) (_ : bz T H c a) (_ : c7 a) (_ : aA a < N) (_ : ∀ H', ah H H' -> Q (.int (bU a)) H')
theorem NR (T : Tx w K mg) (N : Nat) (ih : ∀ {A : Around} {n : Nat}, aR n A -> N + 3 <= n -> ∀ x H Q, xG T N x H Q -> bO P w K mg base A "far" x H Q) : Om P w mg base (N + 3 + 1) T.jd (NQ T N) := by
 refine bZ wa ?_
 rintro _ _ _ _ _ _ _ _ hr ⟨x, dx, c, a, rfl, hx, hc, ga, hN, q⟩
 refine ⟨_, (aq (aw (cD (fun x H Q => ih hr (Nat.le_refl _) x H Q) (bj rfl (aa 0) rfl)))), ?_⟩
 walk_at "gzn"
 exact ⟨_, _, _, hx, T.eW, T.kj, _, rfl, a, hc, ga, hN, q⟩
inductive NS (T : Tx w K mg) (N : Nat) (vs : List V) (H : Hp) (Q : VK) (aN : XK) : Prop
 | mk (x C dx : Addr) (c d : V) (a b : Rt) (_ : vs = [.ref x]) (_ : H x = some (.ins C dx [("one", c), ("other", d)])) (_ : bc K C) (_ : bg K C "one") (_ : bg K C "other") (_ : bz T H c a) (_ : bz T H d b) (_ : c7 a) (_ : c7 b) (_ : aA a < N) (_ : aA b < N) (_ : ∀ H', ah H H' -> Q (.int (gn (bU a) (bU b))) H')
theorem Ct (T : Tx w K mg) (N : Nat) (ih : ∀ {A : Around} {n : Nat}, aR n A -> N + 3 <= n -> ∀ x H Q, xG T N x H Q -> bO P w K mg base A "far" x H Q) : Om P w mg base (N + 3 + 1) T.eU (NS T N) := by
 refine bZ vZ ?_
 rintro _ _ _ _ _ _ _ _ hr ⟨x, C, dx, c, d, a, b, rfl, hx, cC, n1, n2, hc, hd, ga, gb, hA, hB, q⟩
 refine ⟨_, (aq (aw (bD (yz rfl) (by rfl) T.lC kO (ae (cD (fun x H Q => ih hr (Nat.le_refl _) x H Q) (bj rfl (aa 0) rfl)) (ae (cD (fun x H Q => ih hr (Nat.le_refl _) x H Q) (bj rfl (aa 0) rfl)) ag))))), ?_⟩
 walk_at "gzn"
 refine ⟨_, _, _, hx, cC, n1, _, rfl, a, hc, ga, hA, fun H1 s1 => ?_⟩
 walk_at "gzn"
 refine ⟨_, _, _, s1 _ _ hx, cC, n2, _, rfl, b, hd.same s1, gb, hB, fun H2 s2 => ?_⟩
 walk_at "gzn"
 exact q _ (s1.trans s2)
theorem NT (T : Tx w K mg) : ∀ N : Nat, ∀ {A : Around} {n : Nat}, aR n A -> N + 3 <= n -> ∀ x H Q, xG T N x H Q -> bO P w K mg base A "far" x H Q := by
 intro N
 induction N with
 | zero =>
  rintro A n hr hn v H Q ⟨rt, _, _, h, _⟩
  exact absurd h (Nat.not_lt_zero _)
 | succ N ih =>
  rintro A n hr hn v H Q ⟨rt, hv, hg, hh, q⟩
  cases rt with
  | leaf t =>
   obtain ⟨x, rfl, he⟩ := hv
   exact Mh T hr (by lia) _ _ _ ⟨x, t, rfl, he, hg, q⟩
  | nay a =>
   obtain ⟨x, dx, c, rfl, hx, hc⟩ := hv
   exact bO.of (hk := by lia) hx T.eW T.KJ (NR T N ih) hr T.jd.b ⟨x, dx, c, a, rfl, hx, hc, hg, Nat.lt_of_succ_lt_succ hh, q⟩
  | both a b =>
   obtain ⟨x, dx, c, e, rfl, hx, hc, he⟩ := hv
   have hh : aA a + aA b + 1 < N + 1 := hh
   exact bO.of (hk := by lia) hx T.dO T.Kv (Ct T N ih) hr T.eU.b ⟨x, T.bB, dx, c, e, a, b, rfl, hx, T.dO, T.kf, T.kg, hc, he, hg.1, hg.2, by lia, by lia, q⟩
  | either a b =>
   obtain ⟨x, dx, c, e, rfl, hx, hc, he⟩ := hv
   have hh : aA a + aA b + 1 < N + 1 := hh
   exact bO.of (hk := by lia) hx T.dP T.KA (Ct T N ih) hr T.eU.b ⟨x, T.bC, dx, c, e, a, b, rfl, hx, T.dP, T.kh, T.ki, hc, he, hg.1, hg.2, by lia, by lia, q⟩
end
section
seal L2.PE L2.PS L2.aV L2.PA
variable {P : Program} {w : World} {K : PySem.W.Frag} {mg : Str -> Option Value} {base : Heap}
theorem NU (s : S2) (n : Int) : (cU s).any (fun o => hold o.1 o.2 n) = !hold s.1 s.2 n := by
 obtain ⟨a, b⟩ := s
 rcases a with _ | a <;> rcases b with _ | b
 ·simp [cU, hold, eA]
 all_goals (rw [Bool.eq_iff_iff]; simp [cU, hold, eA]; lia)
theorem oK (cs : List Int) (ps : List Pa) : (bq ps).any (ax cs) = !ax cs ps := by
 unfold bq
 rw [List.any_flatMap]
 induction ps with
 | nil => rfl
 | cons p ps ih =>
  rw [List.any_cons, ih, List.any_map]
  have e : ((cU p.2.2).any (ax cs ∘ fun o => [((p.1, p.2.1, o) : Pa)])) = !hold p.2.2.1 p.2.2.2 (eh cs p.1 p.2.1) := by
   rw [<- NU]
   congr 1
   funext o
   simp [ax]
  rw [e]
  simp only [ax, List.all_cons, Bool.not_and]
theorem NV {cs : List Int} {i j l h : Int} (jL : i <= j) : ((fH i j l h).any (ax cs)) = true ↔ ¬ ∃ a b, a < b /\ b < (j + 1 - i).toNat /\ aS cs i a <= l /\ h <= aS cs i b := by
 have one : ∀ k : Nat, k < (j + 1 - i).toNat -> (ax cs (aU i (i + (k : Nat) - 1) (some (l + 1), none) ++ aU (i + (k : Nat) + 1) j (none, some (h - 1))) = true ↔ (∀ a, a < k -> l < aS cs i a) /\ ∀ b, k < b -> b < (j + 1 - i).toNat -> aS cs i b < h) := fun k hk => by
  have e : ax cs (aU i (i + (k : Nat) - 1) (some (l + 1), none) ++ aU (i + (k : Nat) + 1) j (none, some (h - 1))) = (ax cs (aU i (i + (k : Nat) - 1) (some (l + 1), none)) && ax cs (aU (i + (k : Nat) + 1) j (none, some (h - 1)))) := by
   unfold ax
   rw [List.all_append]
  rw [e, Bool.and_eq_true, sX, sX, List.all_eq_true, List.all_eq_true]
  refine and_congr ⟨fun z a ha => ?_, fun z a ha => ?_⟩ ⟨fun z b hb hn => ?_, fun z b hb => ?_⟩
  ·have := (fT.mp (z a (List.mem_range.mpr (by lia)))).1 _ rfl
   lia
  ·have ha := List.mem_range.mp ha
   refine fT.mpr ⟨fun x hx => ?_, fun x hx => (nomatch hx)⟩
   cases hx
   have := z a (by lia)
   lia
  ·have := (fT.mp (z (b - k - 1) (List.mem_range.mpr (by lia)))).2 _ rfl
   unfold aS at *
   rw [show i + (k : Int) + 1 + ((b - k - 1 : Nat) : Int) = i + (b : Int) by lia] at this
   lia
  ·have hb := List.mem_range.mp hb
   refine fT.mpr ⟨fun x hx => (nomatch hx), fun x hx => ?_⟩
   cases hx
   have := z (k + 1 + b) (by lia) (by lia)
   unfold aS at *
   rw [show i + ((k + 1 + b : Nat) : Int) = i + (k : Int) + 1 + (b : Int) by lia] at this
   lia
 unfold fH
 rw [List.any_map, List.any_eq_true]
 constructor
 ·rintro ⟨k, hk, hm⟩ ⟨a, b, sG, hb, h1, h2⟩
  have hk := List.mem_range.mp hk
  obtain ⟨m1, m2⟩ := (one k hk).mp hm
  by_cases ha : a < k
  ·have := m1 a ha; lia
  ·have := m2 b (by lia) hb; lia
 ·intro rz
  by_cases hex : ∃ a, a < (j + 1 - i).toNat /\ aS cs i a <= l
  ·obtain ⟨a, ⟨ha, hl⟩, hmin⟩ : ∃ a, (a < (j + 1 - i).toNat /\ aS cs i a <= l) /\ ∀ b, b < a -> ¬ (b < (j + 1 - i).toNat /\ aS cs i b <= l) := by
    obtain ⟨a, ha⟩ := hex
    induction a using Nat.strongRecOn with
    | _ a ih =>
     by_cases h9 : ∃ b, b < a /\ (b < (j + 1 - i).toNat /\ aS cs i b <= l)
     ·obtain ⟨b, hb, z⟩ := h9
      exact ih b hb z
     ·exact ⟨a, ha, fun b hb z => h9 ⟨b, hb, z⟩⟩
   refine ⟨a, List.mem_range.mpr ha, (one a ha).mpr ⟨fun b hb => ?_, fun b hb hn => ?_⟩⟩
   ·have := hmin b hb
    by_cases hz : aS cs i b <= l
    ·exact absurd ⟨by lia, hz⟩ this
    ·lia
   ·by_cases hz : h <= aS cs i b
    ·exact absurd ⟨a, b, hb, hn, hl, hz⟩ rz
    ·lia
  ·have hn : (j + 1 - i).toNat - 1 < (j + 1 - i).toNat := by lia
   refine ⟨(j + 1 - i).toNat - 1, List.mem_range.mpr hn, (one _ hn).mpr ⟨fun b hb => ?_, fun b hb hn => by lia⟩⟩
   by_cases hz : aS cs i b <= l
   ·exact absurd ⟨b, by lia, hz⟩ hex
   ·lia
theorem NW {tr : Tr} (hg : c6 tr) (cs : List Int) : (eX tr).any (ax cs) = !(cE tr).any (ax cs) := by
 have one : ∀ ps : List Pa, ([ps].any (ax cs)) = ax cs ps := fun ps => Bool.or_false _
 cases tr with
 | over i j s =>
  show ([aU i j (none, some (s - 1))].any (ax cs)) = !((bq (aU i j (none, some (s - 1)))).any (ax cs))
  rw [one, oK, Bool.not_not]
 | under i j s =>
  show ([aU i j (some (s + 1), none)].any (ax cs)) = !((bq (aU i j (some (s + 1), none))).any (ax cs))
  rw [one, oK, Bool.not_not]
 | rose i j l h =>
  have e := NV (cs := cs) (l := l) (h := h) (hg.1 : bp i j).2.1
  have f := AH (cs := cs) (i := i) (j := j) (l := l) (h := h)
  show ((fH i j l h).any (ax cs)) = !((eE i j l h).any (ax cs))
  rw [Bool.eq_iff_iff, e, <- f]
  cases (eE i j l h).any (ax cs) <;> simp
 | turn t =>
  show ((bq (fY t)).any (ax cs)) = !([fY t].any (ax cs))
  rw [one, oK]
 | stay i j l h =>
  show ((bq (aU i j (l, h))).any (ax cs)) = !([aU i j (l, h)].any (ax cs))
  rw [one, oK]
 | pace i j l h =>
  show ((bq (cV i j (l, h))).any (ax cs)) = !([cV i j (l, h)].any (ax cs))
  rw [one, oK]
theorem NX (cs : List Int) (a b : List Pa) : ax cs (a ++ b) = (ax cs a && ax cs b) := by
 unfold ax
 rw [List.all_append]
theorem NY (cs : List Int) (a : List Pa) (bs : List (List Pa)) : (bs.map fun b => a ++ b).any (ax cs) = (ax cs a && bs.any (ax cs)) := by
 induction bs with
 | nil => simp
 | cons b bs ih =>
  rw [List.map_cons, List.any_cons, ih, List.any_cons, NX]
  cases ax cs a <;> rfl
theorem xH (cs : List Int) (as bs : List (List Pa)) : (c8 as bs).any (ax cs) = (as.any (ax cs) && bs.any (ax cs)) := by
 unfold c8
 rw [List.any_flatMap]
 induction as with
 | nil => rfl
 | cons a as ih =>
  rw [List.any_cons, List.any_cons, ih, NY]
  cases ax cs a <;> cases as.any (ax cs) <;> cases bs.any (ax cs) <;> rfl
theorem lV {cs : List Int} : ∀ {rt : Rt}, c7 rt -> (aM false rt).any (ax cs) = !(aM true rt).any (ax cs)
 | .leaf _, h => NW h cs
 | .nay a, h => by
  show (aM true a).any (ax cs) = !(aM false a).any (ax cs)
  rw [lV (rt := a) h, Bool.not_not]
 | .both a b, h => by
  show (aM false a ++ aM false b).any (ax cs) = !(c8 (aM true a) (aM true b)).any (ax cs)
  rw [List.any_append, xH, lV h.1, lV h.2, Bool.not_and]
 | .either a b, h => by
  show (c8 (aM false a) (aM false b)).any (ax cs) = !(aM true a ++ aM true b).any (ax cs)
  rw [List.any_append, xH, lV h.1, lV h.2, Bool.not_or]
theorem max_lt {a b n : Int} (h : gn a b < n) : a < n /\ b < n := by
 unfold gn at h
 split at h <;> exact ⟨by lia, by lia⟩
theorem Cu {cs : List Int} {ps : List Pa} (h : fD (cs.length : Int) ps) : ∀ p ∈ ps, oH cs p.1 p.2.1 := fun p hp => by
 have ok := h p hp
 by_cases e : p.1 = "step"
 ·rw [e] at ok ⊢
  obtain ⟨j0, j1⟩ := p4.mp ok
  exact ⟨j0, by lia, fun _ => j1⟩
 ·obtain ⟨_, j0, j1⟩ := (AD e).mp ok
  exact ⟨j0, j1, fun z => absurd z e⟩
theorem gp {cs : List Int} : ∀ {rt : Rt}, c7 rt -> bU rt < (cs.length : Int) -> ∀ b, ∀ ps ∈ aM b rt, ∀ p ∈ ps, oH cs p.1 p.2.1
 | .leaf t, hg, hf, true => fun ps hp => Cu ((xn hg hf).2.1 ps hp).2
 | .leaf t, hg, hf, false => fun ps hp => Cu ((xn hg hf).1 ps hp).2
 | .nay a, hg, hf, b => fun ps hp => by
  rw [Cs] at hp
  exact gp (rt := a) hg hf (!b) ps hp
 | .both a c, hg, hf, true => fun ps hp p h => by
  obtain ⟨x, hx, y, hy, rfl⟩ := mem_join hp
  obtain ⟨f1, f2⟩ := max_lt hf
  rcases List.mem_append.mp h with h | h
  ·exact gp hg.1 f1 true x hx p h
  ·exact gp hg.2 f2 true y hy p h
 | .both a c, hg, hf, false => fun ps hp => by
  obtain ⟨f1, f2⟩ := max_lt hf
  rcases List.mem_append.mp hp with h | h
  ·exact gp hg.1 f1 false ps h
  ·exact gp hg.2 f2 false ps h
 | .either a c, hg, hf, false => fun ps hp p h => by
  obtain ⟨x, hx, y, hy, rfl⟩ := mem_join hp
  obtain ⟨f1, f2⟩ := max_lt hf
  rcases List.mem_append.mp h with h | h
  ·exact gp hg.1 f1 false x hx p h
  ·exact gp hg.2 f2 false y hy p h
 | .either a c, hg, hf, true => fun ps hp => by
  obtain ⟨f1, f2⟩ := max_lt hf
  rcases List.mem_append.mp hp with h | h
  ·exact gp hg.1 f1 true ps h
  ·exact gp hg.2 f2 true ps h
inductive NZ (T : Tx w K mg) (vs : List V) (H : Hp) (Q : VK) (aN : XK) : Prop
 | mk (x : V) (a : Addr) (rt : Rt) (cs : List Int) (_ : vs = [x, .ref a]) (_ : bz T H x rt) (_ : eR rt) (_ : aA rt < 64) (_ : ao K H a (cs.map V.int)) (_ : bU rt < (cs.length : Int)) (_ : ∀ H', ah H H' -> Q (.bl ((aM true rt).any (ax cs))) H')
theorem Cv (T : Tx w K mg) : Om P w mg base 69 T.bT (NZ T) := by
 refine bZ vz ?_
 rintro _ _ _ s H _ Q _ hr ⟨x, a, rt, cs, rfl, hv, hw, hh, hS, hf, q⟩
 refine ⟨_, (aq (aw (bD (Ab rfl) (by rfl) T.BA zt (ae (fw (cO [1] ["course"]) rfl (gy (cD (fun x H Q h => NP T 64 true hr (by decide) x H Q h) (aa 0))) (fun C s2 H2 ex pn => ⟨d7, (aJ (Nx T) hr (ae (aa 1) (ae (aa 0) ag)))⟩)) ag)))), ?_⟩
 walk_at "gzn"
 refine ⟨rt, hv, hw, hh, fun l ys H1 s1 _ hl N0 => ?_⟩
 have hy := N0.imp fun _ _ r => r.cl
 have hlen := hy.len
 have hb := iq hw.1 true
 refine ⟨l, rfl, ⟨_, ao.of hl⟩, d8 jI (Nat.le_trans (by lia : ys.length <= 200) (by decide)) (kY (R := lh) (p := fun _ => true) (f := fun ps => .bl (ax cs ps)) (fun _ _ _ _ s h => h.same s) hy (fun H' s' => ao.of (s' _ _ hl)) (fun x ps _ H2 s2 r Q h => ?_) (fun x ps iH _ H2 s2 r Q h => ?_) fun H2 s2 => ?_)⟩
 ·walk_at "gzn"
  exact h _ (ah.refl _)
 ·obtain ⟨c, xs, rfl, hc, hP⟩ := r
  have cR := oJ hw.1 hw.2 true ps iH
  walk_at "gzn"
  exact ⟨a, c, cs, xs, ps, rfl, (s1.trans s2).seq hS, ao.of hc, hP, by lia, gp (gf hw.1) hf true ps iH, fun H3 s3 => h H3 s3⟩
 ·rw [List.nil_append, filter_tt]
  intro m hm
  refine ⟨m, rfl, (aM true rt).map (ax cs), ao.of ?_, ?_⟩
  ·rw [aj, List.map_map]; rfl
  ·rw [List.any_map]
   exact q _ (s1.trans (s2.trans (ak hm)))
end
section
seal L2.PE L2.PS L2.aV L2.PA
variable {P : Program} {w : World} {K : PySem.W.Frag} {mg : Str -> Option Value} {base : Heap}
inductive N1 (K : PySem.W.Frag) (vs : List V) (H : Hp) (Q : VK) (aN : XK) : Prop
 | mk (p : Addr) (lo hi : En) (n : Int) (_ : vs = [.ref p, .int n]) (_ : ay K H p [ev lo, ev hi]) (_ : Q (.bl (hold lo hi n)) H)
theorem Cw (T : Tx w K mg) : Ok P w base 1 T.nP (N1 K) := by
 refine b9 wt ?_
 rintro _ _ _ _ H _ Q _ _ ⟨p, lo, hi, n, rfl, hp, q⟩
 refine ⟨_, (aq (aw (gL (m6 (kG (qM (ar (aa 0) af))) (er (eJ (fU gB) (ar (aa 0) af) (aa 1) (cZ _)))) (er (m6 (kG (qM (ar (aa 0) af))) (er (eJ (fU gB) (aa 1) (ar (aa 0) af) (cZ _)))))))), ?_⟩
 rcases lo with _ | lo <;> rcases hi with _ | hi
 all_goals simp only [Ap, Aq] at hp
 all_goals
  walk_at "gzn"
  repeat' first
  | refine aO hp rfl ?_
  | (walk_at "gzp")
  | (refine bH (fun hc => ?_) fun hc => ?_)
 all_goals first
  | exact q
  | exact (congrArg (fun b => Q (V.bl b) H) (show hold _ _ n = _ by rw [Bool.eq_iff_iff, fT]; simp <;> lia)).mp q
theorem N2 {cs : List Int} {t : Int} (h : 0 < t) : (cE (.turn t)).any (ax cs) = true ↔ cs.getD (t - 1).toNat 0 < cs.getD t.toNat 0 /\ cs.getD (t + 1).toNat 0 < cs.getD t.toNat 0 := by
 rw [show (cE (.turn t)).any (ax cs) = ax cs (fY t) from Bool.or_false _]
 unfold ax fY
 simp only [List.all_cons, List.all_nil, Bool.and_true, Bool.and_eq_true, fT]
 unfold eh
 rw [if_pos rfl, if_pos rfl, show t - 1 + 1 = t by lia]
 constructor
 ·rintro ⟨⟨h1, _⟩, _, h2⟩
  have a := h1 _ rfl
  have b := h2 _ rfl
  lia
 ·rintro ⟨h1, h2⟩
  refine ⟨⟨fun x hx => ?_, fun x hx => (nomatch hx)⟩, fun x hx => (nomatch hx), fun x hx => ?_⟩
  ·cases hx; lia
  ·cases hx; lia
inductive N3 (K : PySem.W.Frag) (vs : List V) (H : Hp) (Q : VK) (aN : XK) : Prop
 | mk (p a : Addr) (tr : Tr) (cs : List Int) (_ : vs = [.ref p, .ref a]) (_ : H p = some (.tup (qx tr))) (_ : c6 tr) (_ : ao K H a (cs.map V.int)) (_ : cs.length <= 100) (_ : f6 tr < (cs.length : Int)) (_ : ∀ H', ah H H' -> Q (.bl ((cE tr).any (ax cs))) H')
theorem N4 (T : Tx w K mg) : Ok P w base 2 T.jj (N3 K) := by
 refine b9 ia ?_
 rintro _ _ _ s H _ Q _ hr ⟨p, a, tr, cs, rfl, hp, hg, hS, hn, hf, q⟩
 refine ⟨_, (au (aY 2 ia.nd (ar (aa 0) af)) (au (aL (aW (aa 2) aH) (aq (aw sJ)) aP) (au (aL (aW (aa 2) aH) (aq (aw sJ)) aP) (au (aL (aW (aa 2) aH) (aq (aw sJ)) aP) (au (aL (aW (aa 2) aH) (aq (aw (gL (eJ (fU mj) (ar (aa 1) (az cW (ar (aa 0) af) af)) (ar (aa 1) (ar (aa 0) af)) (cZ _)) (er (eJ (fU mj) (ar (aa 1) (az a9 (ar (aa 0) af) af)) (ar (aa 1) (ar (aa 0) af)) (cZ _)))))) aP) (au (aL (aW (aa 2) aH) (au (sj (i := 3) (cO [1] ["_law_course"]) rfl ia.nd rfl rfl (l9 rfl T.gP (ae (ar (aa 0) af) (ae (ar (aa 0) af) ag))) (fun C s2 H2 ex pn => ⟨d7, (az cW (eO (K := K) (aa 1) (az a9 (aa 0) af)) (eO (K := K) (aa 1) (aa 0)))⟩)) (aq (aw (bD (pN rfl) (by rfl) T.qm pF (ae (fw (cO [0] ["_law_tree"]) rfl (gy (aa 3)) (fun C s2 H2 ex pn => ⟨d7, (aJ (Cw T) hr (ae (bh (ae (eO (K := K) (aa 1) af) (ae (eO (K := K) (aa 1) af) ag))) (ae (aa 0) ag)))⟩)) ag))))) aP) (au (aY 4 ia.nd (jz pA (aa 1) (iB (ar (aa 0) af)) (iB (az a9 (ar (aa 0) af) af)))) (au (aL (aW (aa 2) aH) (aq (aw (bD (pN rfl) (by rfl) T.qm pF (ae (fw (cO [0] ["_law_tree"]) rfl (gy (aa 4)) (fun C s2 H2 ex pn => ⟨d7, (aJ (Cw T) hr (ae (bh (ae (eO (K := K) (aa 1) af) (ae (eO (K := K) (aa 1) af) ag))) (ae (aa 0) ag)))⟩)) ag)))) aP) (au (aL (aW (aa 2) aH) (aq (aw (eJ (fU q8) (bD (zX rfl) (by rfl) T.lC kO (ae (aa 4) ag)) (ar (aa 0) af) (cZ _)))) aP) (au (aL (aW (aa 2) aH) (aq (aw (eJ (fU gB) (bD (zY rfl) (by rfl) T.wu rJ (ae (aa 4) ag)) (ar (aa 0) af) (cZ _)))) aP) (aq (aw (bD (Ab rfl) (by rfl) T.BA zt (ae (fw (cO [0, 4] ["_law_tree", "_law_seen"]) rfl (l8 rfl T.gP (ae (az cW (bD dt (by rfl) T.dC dw (ae (aa 4) ag)) af) ag)) (fun C s2 H2 ex pn => ⟨d7, (gL (eJ (fU gB) (bD (HQ (K := K) rfl rfl) (by rfl) T.wu rJ (ae (jz (Ac (K := K) rfl) (aa 2) kN (iB (az a9 (aa 0) af))) ag)) (eO (K := K) (aa 1) af) (cZ _)) (er (eJ (fU q8) (bD (HP (K := K) rfl rfl) (by rfl) T.lC kO (ae (jz (Ac (K := K) rfl) (aa 2) (iB (az a9 (aa 0) af)) kN) ag)) (eO (K := K) (aa 1) af) (cZ _))))⟩)) ag)))))))))))))), ?_⟩
 cases tr with
 | turn t =>
  obtain ⟨g1, g2⟩ := (hg : 0 < t /\ t < 11)
  simp only [f6] at hf
  walk_at "gzn"
  refine aG hp ?_
  walk_at "gzn"
  refine aG hp ?_
  walk_at "gzn"
  refine bK hS (int_at (by lia) (by lia)) (aO (ay.of hp) rfl (bK hS (int_at (by lia) (by lia)) ?_))
  walk_at "gzn"
  have tm := N2 (cs := cs) g1
  refine bH (fun hc => ?_) fun hc => ?_
  ·refine aG hp ?_
   walk_at "gzn"
   refine bK hS (int_at (by lia) (by lia)) (aO (ay.of hp) rfl (bK hS (int_at (by lia) (by lia)) ?_))
   walk_at "gzn"
   have := q _ (ah.refl _)
   rw [show decide (cs.getD (t + 1).toNat 0 < cs.getD t.toNat 0) = (cE (.turn t)).any (ax cs) from by
    rw [Bool.eq_iff_iff, decide_eq_true_eq, tm]
    exact ⟨fun z => ⟨hc, z⟩, fun z => z.2⟩]
   exact this
  ·have := q _ (ah.refl _)
   rw [show (cE (.turn t)).any (ax cs) = false from Bool.eq_false_iff.mpr fun z => hc (tm.mp z).1] at this
   exact this
 | stay i j l h =>
  obtain ⟨g1, g2, g3⟩ := (hg : bp i j)
  simp only [f6] at hf
  walk_at "gzn"
  refine aG hp ?_
  walk_at "gzn"
  refine aG hp ?_
  walk_at "gzn"
  refine aG hp ?_
  walk_at "gzn"
  refine ⟨_, hS, ?_⟩
  rw [p9 g1 g2 hf]
  intro d hd
  have sd := ak (o := .lst (((List.range (j + 1 - i).toNat).map (aS cs i)).map V.int)) hd
  have ed : upd H d (.lst (((List.range (j + 1 - i).toNat).map (aS cs i)).map V.int)) d = some (.lst (((List.range (j + 1 - i).toNat).map (aS cs i)).map V.int)) := aj
  generalize upd H d (.lst (((List.range (j + 1 - i).toNat).map (aS cs i)).map V.int)) = H1 at sd ed ⊢
  refine ⟨⟨_, ao.of ed⟩, d8 jI (by rw [List.length_map, List.length_map, List.length_range]; exact Nat.le_trans (by lia : _ <= 12) (by decide)) (kY (R := fun _ x (n : Int) => x = V.int n) (p := fun _ => true) (f := fun n => .bl (hold l h n)) (fun _ _ _ _ _ h => h) (Gz.av.ints _) (fun H' s' => ao.of (s' _ _ ed)) (fun x n _ H2 s2 r Q h => ?_) (fun x n _ _ H2 s2 r Q h => ?_) fun H2 s2 => ?_)⟩
  ·walk_at "gzn"
   exact h _ (ah.refl _)
  ·subst r
   walk_at "gzn"
   refine aO (ay.of ((sd.trans s2) _ _ hp)) rfl (aO (ay.of ((sd.trans s2) _ _ hp)) rfl ⟨bI, fun t ht => ?_⟩)
   exact ⟨t, l, _, n, rfl, ay.of aj, h _ (ak ht)⟩
  ·rw [List.nil_append, filter_tt]
   intro m hm
   refine ⟨m, rfl, ((List.range (j + 1 - i).toNat).map (aS cs i)).map (hold l h), ao.of ?_, ?_⟩
   ·rw [aj]; simp only [List.map_map, Function.comp_def]
   ·rw [List.all_map, List.all_map]
    have e : (cE (.stay i j l h)).any (ax cs) = (List.range (j + 1 - i).toNat).all ((id ∘ hold l h) ∘ aS cs i) := by
     rw [show (cE (.stay i j l h)).any (ax cs) = ax cs (aU i j (l, h)) from Bool.or_false _, sX]
     rfl
    rw [<- e]
    exact q _ (sd.trans (s2.trans (ak hm)))
 | pace i j l h =>
  obtain ⟨g1, g2, g3⟩ := (hg : bp i j)
  simp only [f6] at hf
  walk_at "gzn"
  refine aG hp ?_
  walk_at "gzn"
  refine aG hp (aG hp ?_)
  walk_at "gzn"
  refine ⟨by lia, by lia, by lia, by lia, d8 jJ (by rw [List.length_map, List.length_range]; exact Nat.le_trans (by lia : _ <= 12) (by decide)) (pP (R := fun x (k : Nat) => x = V.int (i + k)) (p := fun _ => true) (f := fun k => .int (cs.getD (i + (k : Int) + 1).toNat 0 - aS cs i k)) trivial (av.gq _) (fun x k _ r Q h => ?_) (fun x k hk _ r Q h => ?_) ?_)⟩
  ·walk_at "gzn"
   exact h
  ·subst r
   have hk := List.mem_range.mp hk
   walk_at "gzn"
   refine bK hS (int_at (by lia) (by lia)) (bK hS (int_at (by lia) (by lia)) ?_)
   walk_at "gzn"
   exact h
  rw [List.nil_append, filter_tt]
  intro d hd
  rw [show ((List.range (j - i).toNat).map fun (k : Nat) => V.int (cs.getD (i + (k : Int) + 1).toNat 0 - aS cs i k)) = ((List.range (j - i).toNat).map fun (k : Nat) => cs.getD (i + (k : Int) + 1).toNat 0 - aS cs i k).map V.int by rw [List.map_map]; rfl]
  generalize eg : ((List.range (j - i).toNat).map fun (k : Nat) => cs.getD (i + (k : Int) + 1).toNat 0 - aS cs i k) = gs
  have sd := ak (o := .lst (gs.map V.int)) hd
  have ed : upd H d (.lst (gs.map V.int)) d = some (.lst (gs.map V.int)) := aj
  have xj : gs.length <= 12 := by rw [<- eg, List.length_map, List.length_range]; lia
  generalize upd H d (.lst (gs.map V.int)) = H1 at sd ed ⊢
  refine ⟨d, rfl, ⟨_, ao.of ed⟩, d8 jI (by rw [List.length_map]; exact Nat.le_trans xj (by decide)) (kY (R := fun _ x (n : Int) => x = V.int n) (p := fun _ => true) (f := fun n => .bl (hold l h n)) (fun _ _ _ _ _ h => h) (Gz.av.ints _) (fun H' s' => ao.of (s' _ _ ed)) (fun x n _ H2 s2 r Q h => ?_) (fun x n _ _ H2 s2 r Q h => ?_) fun H2 s2 => ?_)⟩
  ·walk_at "gzn"
   exact h _ (ah.refl _)
  ·subst r
   walk_at "gzn"
   refine aO (ay.of ((sd.trans s2) _ _ hp)) rfl (aO (ay.of ((sd.trans s2) _ _ hp)) rfl ⟨bI, fun t ht => ?_⟩)
   exact ⟨t, l, _, n, rfl, ay.of aj, h _ (ak ht)⟩
  ·rw [List.nil_append, filter_tt]
   intro m hm
   refine ⟨m, rfl, gs.map (hold l h), ao.of ?_, ?_⟩
   ·rw [aj]; simp only [List.map_map, Function.comp_def]
   ·have e : (cE (.pace i j l h)).any (ax cs) = (gs.map (hold l h)).all id := by
     rw [show (cE (.pace i j l h)).any (ax cs) = ax cs (cV i j (l, h)) from Bool.or_false _, HR, List.all_map, <- eg, List.all_map]
     rfl
    rw [<- e]
    exact q _ (sd.trans (s2.trans (ak hm)))
 | over i j s =>
  obtain ⟨g1, g2, g3⟩ := (hg : bp i j)
  simp only [f6] at hf
  walk_at "gzn"
  refine aG hp ?_
  walk_at "gzn"
  refine aG hp ?_
  walk_at "gzn"
  refine aG hp ?_
  walk_at "gzn"
  refine ⟨_, hS, ?_⟩
  rw [p9 g1 g2 hf]
  intro d hd
  have sd := ak (o := .lst (((List.range (j + 1 - i).toNat).map (aS cs i)).map V.int)) hd
  refine ⟨_, ao.of aj, by simp; lia, aG (sd _ _ hp) ?_⟩
  walk_at "gzn"
  have := q _ sd
  rw [show decide (s <= d9 ((List.range (j + 1 - i).toNat).map (aS cs i))) = (cE (.over i j s)).any (ax cs) from by
   rw [Bool.eq_iff_iff, decide_eq_true_eq, HV (by lia)]
   exact HS.symm]
  exact this
 | under i j s =>
  obtain ⟨g1, g2, g3⟩ := (hg : bp i j)
  simp only [f6] at hf
  walk_at "gzn"
  refine aG hp ?_
  walk_at "gzn"
  refine aG hp ?_
  walk_at "gzn"
  refine aG hp ?_
  walk_at "gzn"
  refine ⟨_, hS, ?_⟩
  rw [p9 g1 g2 hf]
  intro d hd
  have sd := ak (o := .lst (((List.range (j + 1 - i).toNat).map (aS cs i)).map V.int)) hd
  refine ⟨_, ao.of aj, by simp; lia, aG (sd _ _ hp) ?_⟩
  walk_at "gzn"
  have := q _ sd
  rw [show decide (fy ((List.range (j + 1 - i).toNat).map (aS cs i)) <= s) = (cE (.under i j s)).any (ax cs) from by
   rw [Bool.eq_iff_iff, decide_eq_true_eq, sY (by lia)]
   exact HU.symm]
  exact this
 | rose i j l h =>
  obtain ⟨g1, g2, g3⟩ := (hg.1 : bp i j)
  simp only [f6] at hf
  walk_at "gzn"
  refine aG hp ?_
  walk_at "gzn"
  refine aG hp ?_
  walk_at "gzn"
  refine aG hp ?_
  walk_at "gzn"
  refine ⟨_, hS, ?_⟩
  rw [p9 g1 g2 hf]
  intro d hd
  obtain ⟨n, N5, rh⟩ : ∃ n, (j + 1 - i).toNat = n /\ n <= 12 := ⟨_, rfl, by lia⟩
  have Cy := AH (cs := cs) (i := i) (j := j) (l := l) (h := h)
  rw [N5] at Cy ⊢
  have n1 : 1 <= n := by lia
  have sd := ak (o := .lst (((List.range n).map (aS cs i)).map V.int)) hd
  have ed : upd H d (.lst (((List.range n).map (aS cs i)).map V.int)) d = some (.lst (((List.range n).map (aS cs i)).map V.int)) := aj
  generalize upd H d (.lst (((List.range n).map (aS cs i)).map V.int)) = H1 at sd ed ⊢
  refine ⟨_, dZ (ao.of ed), ?_⟩
  rw [List.length_map, List.length_map, List.length_range]
  refine ⟨by lia, by lia, ?_⟩
  rw [show ((n : Int) - 1).toNat = n - 1 by lia]
  refine d8 jJ (by rw [List.length_map, List.length_range]; exact Nat.le_trans (by lia : _ <= 12) (by decide)) (kY (R := fun _ x (k : Nat) => x = V.int ((0 : Int) + k)) (p := fun _ => true) (f := fun k => .bl (decide (fy (((List.range n).map (aS cs i)).take (k + 1)) <= l) && decide (h <= d9 (((List.range n).map (aS cs i)).drop (k + 1))))) (fun _ _ _ _ _ h => h) (av.gq _) (fun _ _ => trivial) (fun x k _ H2 s2 r Q h => ?_) (fun x k hk _ H2 s2 r Q h => ?_) fun H2 s2 => ?_)
  ·walk_at "gzn"
   exact h _ (ah.refl _)
  ·subst r
   have hk := List.mem_range.mp hk
   have len : ((List.range n).map (aS cs i)).length = n := by rw [List.length_map, List.length_range]
   have ne1 : ((List.range n).map (aS cs i)).take (k + 1) ≠ [] := fun z => by
    have := congrArg List.length z
    rw [List.length_take, len] at this
    simp at this
    lia
   have ne2 : ((List.range n).map (aS cs i)).drop (k + 1) ≠ [] := fun z => by
    have := congrArg List.length z
    rw [List.length_drop, len] at this
    simp at this
    lia
   walk_at "gzn"
   rw [show (0 : Int) + (k : Int) + 1 = ((k + 1 : Nat) : Int) by lia]
   refine ⟨_, ao.of (s2 _ _ ed), ?_⟩
   rw [Ah, <- List.map_take]
   intro p1 eY
   have u1 := ak (o := .lst ((((List.range n).map (aS cs i)).take (k + 1)).map V.int)) eY
   refine ⟨_, ao.of aj, ne1, aO (ay.of ((sd.trans (s2.trans u1)) _ _ hp)) rfl ?_⟩
   walk_at "gzn"
   refine bH (fun hc => ?_) fun hc => ?_
   ·refine ⟨_, ao.of ((s2.trans u1) _ _ ed), ?_⟩
    rw [Ai, <- List.map_drop]
    intro p2 f9
    have u2 := ak (o := .lst ((((List.range n).map (aS cs i)).drop (k + 1)).map V.int)) f9
    refine ⟨_, ao.of aj, ne2, aO (ay.of ((sd.trans (s2.trans (u1.trans u2))) _ _ hp)) rfl ?_⟩
    walk_at "gzn"
    have := h _ (u1.trans u2)
    rw [decide_eq_true hc, Bool.true_and] at this
    exact this
   ·have := h _ u1
    rw [decide_eq_false hc, Bool.false_and] at this
    exact this
  ·rw [List.nil_append, filter_tt]
   intro m hm
   refine ⟨m, rfl, (List.range (n - 1)).map fun k => decide (fy (((List.range n).map (aS cs i)).take (k + 1)) <= l) && decide (h <= d9 (((List.range n).map (aS cs i)).drop (k + 1))), ao.of ?_, ?_⟩
   ·rw [aj]; simp only [List.map_map, Function.comp_def]
   ·rw [List.any_map]
    have e : (cE (.rose i j l h)).any (ax cs) = ((List.range (n - 1)).any fun k => decide (fy (((List.range n).map (aS cs i)).take (k + 1)) <= l) && decide (h <= d9 (((List.range n).map (aS cs i)).drop (k + 1)))) := by
     rw [Bool.eq_iff_iff, HW]
     exact Cy
    exact (congrArg (fun b => Q (V.bl b) _) e).mp (q _ (sd.trans (s2.trans (ak hm))))
theorem N6 {P : Program} {w : World} {K : PySem.W.Frag} {mg : Str -> Option Value} {base : Heap} {CX : cF} {k : Nat} {f : Addr} {fd : FuncData} {ps : List Str} {sp mq : Sp} (F : bW P w K mg base CX k f fd ps sp) (G : bW P w K mg base CX k f fd ps mq) : bW P w K mg base CX k f fd ps fun vs H Q E => sp vs H Q E ∨ mq vs H Q E :=
 ⟨fun vs H Q E h => h.elim (F.len vs H Q E) (G.len vs H Q E), fun A outer s H args us vs Q E hr he hb hv h => h.elim (F.run A outer s H args us vs Q E hr he hb hv) (G.run A outer s H args us vs Q E hr he hb hv)⟩
inductive Cz (K : PySem.W.Frag) (N : Nat) (vs : List V) (H : Hp) (Q : VK) (aN : XK) : Prop
 | mk (v : V) (a : Addr) (rt : Rt) (cs : List Int) (_ : vs = [v, .ref a]) (_ : bM H v rt) (_ : c7 rt) (_ : ao K H a (cs.map V.int)) (_ : cs.length <= 100) (_ : bU rt < (cs.length : Int)) (_ : aA rt < N) (_ : ∀ H', ah H H' -> Q (.bl ((aM true rt).any (ax cs))) H')
inductive N7 (K : PySem.W.Frag) (N : Nat) (vs : List V) (H : Hp) (Q : VK) (aN : XK) : Prop
 | mk (v : V) (a : Addr) (rt : Rt) (cs : List Int) (_ : vs = [v, .ref a]) (_ : bM H v rt) (_ : c7 rt) (_ : ao K H a (cs.map V.int)) (_ : cs.length <= 100) (_ : bU rt < (cs.length : Int)) (_ : aA rt < N) (_ : (∀ t, rt ≠ .leaf t)) (_ : ∀ H', ah H H' -> Q (.bl ((aM true rt).any (ax cs))) H')
theorem N8 (T : Tx w K mg) (N : Nat) (ih : Ok P w base (N + 2) T.jj (Cz K N)) : Ok P w base (N + 1 + 2) T.jj (N7 K (N + 1)) := by
 refine b9 ia ?_
 rintro _ _ _ _ _ _ _ _ hr ⟨v, a, rt, cs, rfl, hv, hg, hS, hn, hf, hh, hL, q⟩
 refine ⟨_, (au (aY 2 ia.nd (ar (aa 0) af)) (au (aL (aW (aa 2) aH) (aq (aw (gL (aJ (hk := by lia) ih hr (ae (ar (aa 0) af) (ae (aa 1) ag))) (er (aJ (hk := by lia) ih hr (ae (ar (aa 0) af) (ae (aa 1) ag))))))) aP) (au (aL (aW (aa 2) aH) (aq (aw (m6 (aJ (hk := by lia) ih hr (ae (ar (aa 0) af) (ae (aa 1) ag))) (er (aJ (hk := by lia) ih hr (ae (ar (aa 0) af) (ae (aa 1) ag))))))) aP) (au (aL (aW (aa 2) aH) (aq (aw (m7 (aJ (hk := by lia) ih hr (ae (ar (aa 0) af) (ae (aa 1) ag)))))) aP) Eu)))), ?_⟩
 cases rt with
 | leaf t => exact absurd rfl (hL t)
 | nay a' =>
  obtain ⟨p, x, rfl, hp, h1⟩ := hv
  have hh : aA a' + 1 < N + 1 := hh
  walk_at "gzn"
  refine aG hp ?_
  walk_at "gzn"
  refine aO (ay.of hp) rfl ⟨x, a, a', cs, rfl, h1, hg, hS, hn, hf, by lia, fun H1 s1 => ?_⟩
  have e : (aM true (.nay a')).any (ax cs) = !(aM true a').any (ax cs) := lV (rt := a') hg
  rw [e] at q
  walk_at "gzn"
  exact q _ s1
 | both a' b' =>
  obtain ⟨p, x, y, rfl, hp, h1, h2⟩ := hv
  have hh : aA a' + aA b' + 1 < N + 1 := hh
  obtain ⟨f1, f2⟩ := max_lt hf
  walk_at "gzn"
  refine aG hp ?_
  walk_at "gzn"
  refine aO (ay.of hp) rfl ⟨x, a, a', cs, rfl, h1, hg.1, hS, hn, f1, by lia, fun H1 s1 => ?_⟩
  have e : (aM true (.both a' b')).any (ax cs) = ((aM true a').any (ax cs) && (aM true b').any (ax cs)) := xH _ _ _
  rw [e] at q
  cases hb : (aM true a').any (ax cs) with
  | false =>
   rw [hb] at q
   walk_at "gzn"
   exact q _ s1
  | true =>
   rw [hb] at q
   walk_at "gzn"
   exact aO (ay.of (s1 _ _ hp)) rfl ⟨y, a, b', cs, rfl, h2.same s1, hg.2, s1.seq hS, hn, f2, by lia, fun H2 s2 => q _ (s1.trans s2)⟩
 | either a' b' =>
  obtain ⟨p, x, y, rfl, hp, h1, h2⟩ := hv
  have hh : aA a' + aA b' + 1 < N + 1 := hh
  obtain ⟨f1, f2⟩ := max_lt hf
  walk_at "gzn"
  refine aG hp ?_
  walk_at "gzn"
  refine aO (ay.of hp) rfl ⟨x, a, a', cs, rfl, h1, hg.1, hS, hn, f1, by lia, fun H1 s1 => ?_⟩
  have e : (aM true (.either a' b')).any (ax cs) = ((aM true a').any (ax cs) || (aM true b').any (ax cs)) := List.any_append
  rw [e] at q
  cases hb : (aM true a').any (ax cs) with
  | true =>
   rw [hb] at q
   walk_at "gzn"
   exact q _ s1
  | false =>
   rw [hb] at q
   walk_at "gzn"
   exact aO (ay.of (s1 _ _ hp)) rfl ⟨y, a, b', cs, rfl, h2.same s1, hg.2, s1.seq hS, hn, f2, by lia, fun H2 s2 => q _ (s1.trans s2)⟩
theorem CA (T : Tx w K mg) : ∀ N : Nat, Ok P w base (N + 2) T.jj (Cz K N)
 | 0 => by
  refine b9 (k := 1) ia ?_
  rintro _ _ _ _ _ _ _ _ _ ⟨_, _, _, _, rfl, _, _, _, _, _, h, _⟩
  exact absurd h (Nat.not_lt_zero _)
 | N + 1 => by
  refine (N6 ((N4 T).mono (by lia)) (N8 T N (CA T N))).imp fun vs H Q E h => ?_
  obtain ⟨v, a, rt, cs, rfl, hv, hg, hS, hn, hf, hh, q⟩ := h
  cases rt with
  | leaf t =>
   obtain ⟨p, rfl, hp⟩ := hv
   exact .inl ⟨p, a, t, cs, rfl, hp, hg, hS, hn, hf, q⟩
  | nay a' => exact .inr ⟨v, a, .nay a', cs, rfl, hv, hg, hS, hn, hf, hh, fun _ z => (nomatch z), q⟩
  | both a' b' => exact .inr ⟨v, a, .both a' b', cs, rfl, hv, hg, hS, hn, hf, hh, fun _ z => (nomatch z), q⟩
  | either a' b' => exact .inr ⟨v, a, .either a' b', cs, rfl, hv, hg, hS, hn, hf, hh, fun _ z => (nomatch z), q⟩
end
section
seal L2.PE L2.PS L2.aV L2.PA
variable {P : Program} {w : World} {K : PySem.W.Frag} {mg : Str -> Option Value} {base : Heap}
inductive N9 (vs : List V) (H : Hp) (Q : VK) (aN : XK) : Prop
 | mk (v : V) (_ : vs = [v]) (_ : (v = .non ∨ ∃ i, v = .int i)) (_ : Q (.bl (isWhole v)) H)
theorem xI (T : Tx w K mg) : Ok P w base 1 T.nO N9 := by
 refine b9 wq ?_
 rintro _ _ _ _ _ _ _ _ _ ⟨v, rfl, hv, q⟩
 refine ⟨_, (aq (aw (gL (bD mH (by rfl) T.nX mF (ae (aa 0) (ae (oR (v := .ty "int") rfl T.nW mG rfl) ag))) (er (m7 (bD mH (by rfl) T.nX mF (ae (aa 0) (ae (oR (v := .ty "bool") rfl T.BB zu rfl) ag)))))))), ?_⟩
 rcases hv with rfl | ⟨i, rfl⟩
 ·walk_at "gz"
  exact q
 ·walk_at "gz"
  exact q
inductive xJ (N : Nat) (vs : List V) (H : Hp) (Q : VK) (aN : XK) : Prop
 | mk (v : V) (rt : Rt) (_ : vs = [v]) (_ : bM H v rt) (_ : aA rt < N) (_ : Q (.int (bU rt)) H)
theorem Oa (T : Tx w K mg) (N : Nat) (ih : Ok P w base (N + 1) T.ka (xJ N)) : Ok P w base (N + 1 + 1) T.ka (xJ (N + 1)) := by
 refine b9 ql ?_
 rintro _ _ _ s H _ _ _ hr ⟨v, rt, rfl, hv, hh, q⟩
 refine ⟨_, (au (aL (aW (ar (aa 0) af) aH) (aq (aw (az a9 (ar (aa 0) af) af))) aP) (au (aL (aW (ar (aa 0) af) aH) (aq (aw (aJ (hk := by lia) ih hr (ae (ar (aa 0) af) ag)))) aP) (au (aL (PW.pt (dq (aW (ar (aa 0) af) aH) (fK (aW (ar (aa 0) af) aH)))) (aq (aw (bD (yz rfl) (by rfl) T.lC kO (ae (aJ (hk := by lia) ih hr (ae (ar (aa 0) af) ag)) (ae (aJ (hk := by lia) ih hr (ae (ar (aa 0) af) ag)) ag))))) aP) (aq (aw (ar (aa 0) af)))))), ?_⟩
 cases rt with
 | leaf t =>
  obtain ⟨p, rfl, hp⟩ := hv
  cases t with
  | stay i j l h =>
   replace hp : H p = some (.tup [.str "stay", .int i, .int j, ev l, ev h]) := hp
   walk_at "gzn"
   repeat (refine aG hp ?_; walk_at "gzn")
   exact q
  | pace i j l h =>
   replace hp : H p = some (.tup [.str "pace", .int i, .int j, ev l, ev h]) := hp
   walk_at "gzn"
   repeat (refine aG hp ?_; walk_at "gzn")
   exact q
  | over i j s =>
   replace hp : H p = some (.tup [.str "over", .int i, .int j, .int s]) := hp
   walk_at "gzn"
   repeat (refine aG hp ?_; walk_at "gzn")
   exact q
  | under i j s =>
   replace hp : H p = some (.tup [.str "under", .int i, .int j, .int s]) := hp
   walk_at "gzn"
   repeat (refine aG hp ?_; walk_at "gzn")
   exact q
  | rose i j l h =>
   replace hp : H p = some (.tup [.str "rose", .int i, .int j, .int l, .int h]) := hp
   walk_at "gzn"
   repeat (refine aG hp ?_; walk_at "gzn")
   exact q
  | turn t =>
   replace hp : H p = some (.tup [.str "turn", .int t]) := hp
   walk_at "gzn"
   repeat (refine aG hp ?_; walk_at "gzn")
   exact q
 | nay a =>
  obtain ⟨p, x, rfl, hp, hx⟩ := hv
  have hh : aA a + 1 < N + 1 := hh
  walk_at "gzn"
  repeat (refine aG hp ?_; walk_at "gzn")
  exact ⟨x, a, rfl, hx, by lia, q⟩
 | both a b =>
  obtain ⟨p, x, y, rfl, hp, hx, hy⟩ := hv
  have hh : aA a + aA b + 1 < N + 1 := hh
  walk_at "gzn"
  repeat (refine aG hp ?_; walk_at "gzn")
  refine ⟨x, a, rfl, hx, by lia, aO (ay.of hp) rfl ⟨y, b, rfl, hy, by lia, ?_⟩⟩
  walk_at "gzn"
  exact q
 | either a b =>
  obtain ⟨p, x, y, rfl, hp, hx, hy⟩ := hv
  have hh : aA a + aA b + 1 < N + 1 := hh
  walk_at "gzn"
  repeat (refine aG hp ?_; walk_at "gzn")
  refine ⟨x, a, rfl, hx, by lia, aO (ay.of hp) rfl ⟨y, b, rfl, hy, by lia, ?_⟩⟩
  walk_at "gzn"
  exact q
theorem CB (T : Tx w K mg) : ∀ N : Nat, Ok P w base (N + 1) T.ka (xJ N)
 | 0 => by
  refine b9 (k := 0) ql ?_
  rintro _ _ _ _ _ _ _ _ _ ⟨_, _, rfl, _, h, _⟩
  exact absurd h (Nat.not_lt_zero _)
 | N + 1 => Oa T N (CB T N)
end
section
seal L2.PE L2.PS L2.aV L2.PA
variable {P : Program} {w : World} {K : PySem.W.Frag} {mg : Str -> Option Value} {base : Heap}
theorem CC {b : Bool} {Q : Bool -> Prop} : neT (.bl b) (.bl b) Q = Q false := by cases b <;> rfl
theorem Ob {K : PySem.W.Frag} {H : Hp} {x C E : Addr} {Q : VK} (ty : bR K H (.ref x) (.ref C)) (k : PySem.W.kitOne K (.ref C) (.ref E) = some true) (q : Q (.bl true) H) : fP K (.ref x) (.ref E) H Q := ⟨_, _, ty, (fun z => nomatch z), k, q⟩
theorem Oc (T : Tx w K mg) {H : Hp} {v : V} {rt : Rt} (h : bz T H v rt) : ∃ x C dx fs, v = .ref x /\ H x = some (.ins C dx fs) /\ bc K C /\ Meth K C "held" T.bT.a /\ List.lookup ("held" : Str) fs = none /\ PySem.W.kitOne K (.ref C) (.ref T.cb) = some true /\ bR K H (.ref x) (.ref C) := by
 cases rt with
 | leaf t =>
  obtain ⟨x, rfl, h⟩ := h
  cases t with
  | stay i j l h => obtain ⟨dx, p, hx, _⟩ := h; exact ⟨x, _, _, _, rfl, hx, T.dD, T.JT, rfl, T.KO, bR.ins hx T.dD T.wI T.fW T.fX T.wJ⟩
  | pace i j l h => obtain ⟨dx, p, hx, _⟩ := h; exact ⟨x, _, _, _, rfl, hx, T.dN, T.Ki, rfl, T.KS, bR.ins hx T.dN T.wR T.fW T.fX T.wU⟩
  | over i j s => obtain ⟨dx, hx⟩ := h; exact ⟨x, _, _, _, rfl, hx, T.dE, T.JY, rfl, T.KP, bR.ins hx T.dE T.wK T.fW T.fX T.wL⟩
  | under i j s => obtain ⟨dx, hx⟩ := h; exact ⟨x, _, _, _, rfl, hx, T.dF, T.J6, rfl, T.KQ, bR.ins hx T.dF T.wM T.fW T.fX T.wN⟩
  | rose i j l h => obtain ⟨dx, hx⟩ := h; exact ⟨x, _, _, _, rfl, hx, T.cI, T.Kd, rfl, T.KR, bR.ins hx T.cI T.wO T.fW T.fX T.wQ⟩
  | turn t => obtain ⟨dx, hx⟩ := h; exact ⟨x, _, _, _, rfl, hx, T.eF, T.Kn, rfl, T.KU, bR.ins hx T.eF T.wV T.fW T.fX T.wW⟩
 | nay a => obtain ⟨x, dx, c, rfl, hx, _⟩ := h; exact ⟨x, _, _, _, rfl, hx, T.eW, T.KH, rfl, T.KZ, bR.ins hx T.eW T.w5 T.fW T.fX T.w6⟩
 | both a b => obtain ⟨x, dx, c, d, rfl, hx, _⟩ := h; exact ⟨x, _, _, _, rfl, hx, T.dO, T.Kt, rfl, T.KW, bR.ins hx T.dO T.wX T.fW T.fX T.wY⟩
 | either a b => obtain ⟨x, dx, c, d, rfl, hx, _⟩ := h; exact ⟨x, _, _, _, rfl, hx, T.dP, T.Ky, rfl, T.KY, bR.ins hx T.dP T.wZ T.fW T.fX T.w4⟩
theorem lW : ∀ {rt : Rt}, c7 rt -> 0 <= bU rt /\ bU rt <= 11
 | .leaf t, hg => by
  have hg : c6 t := hg
  cases t with
  | rose i j l h => obtain ⟨⟨a, b, c⟩, _⟩ := hg; exact ⟨by show 0 <= j; lia, c⟩
  | turn t => obtain ⟨a, b⟩ := hg; exact ⟨by show 0 <= t + 1; lia, by show t + 1 <= 11; lia⟩
  | stay i j l h => obtain ⟨a, b, c⟩ := hg; exact ⟨by show 0 <= j; lia, c⟩
  | pace i j l h => obtain ⟨a, b, c⟩ := hg; exact ⟨by show 0 <= j; lia, c⟩
  | over i j s => obtain ⟨a, b, c⟩ := hg; exact ⟨by show 0 <= j; lia, c⟩
  | under i j s => obtain ⟨a, b, c⟩ := hg; exact ⟨by show 0 <= j; lia, c⟩
 | .nay a, hg => lW (rt := a) hg
 | .both a b, hg => by
  have := lW hg.1
  have := lW hg.2
  show 0 <= gn (bU a) (bU b) /\ gn (bU a) (bU b) <= 11
  unfold gn
  split <;> lia
 | .either a b, hg => by
  have := lW hg.1
  have := lW hg.2
  show 0 <= gn (bU a) (bU b) /\ gn (bU a) (bU b) <= 11
  unfold gn
  split <;> lia
theorem CD {cs : List Int} {n : Nat} {ps : List Pa} (h : ∀ p ∈ ps, oH (cs.take n) p.1 p.2.1) : ax (cs.take n) ps = ax cs ps := by
 have gd : ∀ t : Int, 0 <= t -> t < ((cs.take n).length : Int) -> (cs.take n).getD t.toNat 0 = cs.getD t.toNat 0 := fun t h0 h1 => by
  rw [List.length_take] at h1
  rw [List.getD_eq_getElem?_getD, List.getD_eq_getElem?_getD, List.getElem?_take_of_lt (by lia)]
 unfold ax
 refine Bool.eq_iff_iff.mpr ?_
 rw [List.all_eq_true, List.all_eq_true]
 have one : ∀ p ∈ ps, eh (cs.take n) p.1 p.2.1 = eh cs p.1 p.2.1 := fun p hp => by
  obtain ⟨h0, h1, h2⟩ := h p hp
  unfold eh
  by_cases hs : p.1 = "step"
  ·rw [if_pos hs, if_pos hs, gd _ (by lia) (h2 hs), gd _ h0 h1]
  ·rw [if_neg hs, if_neg hs, gd _ h0 h1]
 exact ⟨fun z p hp => by rw [<- one p hp]; exact z p hp, fun z p hp => by rw [one p hp]; exact z p hp⟩
theorem Od {cs : List Int} {n : Nat} {rt : Rt} (hg : c7 rt) (h1 : bU rt < (n : Int)) (h2 : bU rt < (cs.length : Int)) : (aM true rt).any (ax (cs.take n)) = (aM true rt).any (ax cs) := by
 have ok := gp (cs := cs.take n) hg (by rw [List.length_take]; lia) true
 refine Bool.eq_iff_iff.mpr ?_
 rw [List.any_eq_true, List.any_eq_true]
 exact ⟨fun ⟨ps, hp, z⟩ => ⟨ps, hp, by rw [<- CD (ok ps hp)]; exact z⟩, fun ⟨ps, hp, z⟩ => ⟨ps, hp, by rw [CD (ok ps hp)]; exact z⟩⟩
def Oe (H : Hp) (v : V) (cs : List Int) : Prop := ∃ a, v = .ref a /\ H a = some (.lst (cs.map V.int)) /\ cs.length = 12
def Of (H : Hp) (v x : V) (b p : Addr) (rt : Rt) (_ : Nat) (σ : St) (H1 : Hp) : Prop := (∃ e1 e2, σ = [some v, some (.ref b), some x, some (.ref p), some (.int (bU rt)), e1, e2]) /\ ah H H1
inductive Og (vs : List V) (H : Hp) (Q : VK) (aN : XK) : Prop
 | mk (v : V) (rt : Rt) (b : Addr) (xs : List V) (CF : List (List Int)) (_ : vs = [v, .ref b]) (_ : bM H v rt) (_ : lN rt) (_ : fe rt) (_ : H b = some (.lst xs)) (_ : av (Oe H) xs CF) (_ : ∀ H', ah H H' -> Q (.bl true) H')
theorem CG (T : Tx w K mg) : Ok P w base 143 T.nV Og := by
 refine b9 iR ?_
 rintro _ _ _ _ H _ Q _ hr ⟨v, rt, b, xs, CF, rfl, hv, aC, hcr, hb, hX, q⟩
 refine ⟨_, (au (aY 2 iR.nd (aJ (M1 T) hr (ae (fu PySem.F.plainAttrs_str PySem.F.slot_str_join PySem.F.type_str_join IZ aH (ae (aJ (qC T 128) hr (ae (aa 0) ag)) ag)) ag))) (au (aL (gv (gK (bD mH (by rfl) T.nX mF (ae (aa 2) (ae (kF (v := .ref T.cb) rfl T.JJ rfl) ag))))) (aq (aw jo)) aP) (au (aY 3 iR.nd (cD (fun x H Q h => B7 T 64 hr (by decide) x H Q h) (aa 2))) (au (aL (PW.pt (dq (gv (gK (bD mH (by rfl) T.nX mF (ae (aa 3) (ae (oR (v := .ty "tuple") rfl T.JH Gk rfl) ag))))) (dq (m5 (bD dt (by rfl) T.dC dw (ae (aa 3) ag)) af) (dq (gv (gK (aJ (xI T) hr (ae (ar (aa 3) af) ag)))) (fK (gv (gK (aJ (xI T) hr (ae (ar (aa 3) af) ag))))))))) (aq (aw jo)) aP) (au (aY 4 iR.nd (cD (fun x H Q h => NT T 64 hr (by decide) x H Q h) (aa 2))) (au (aL (PW.pt (dq (o8 (Hn hr.units) (aa 3) (aJ (xB T 128) hr (ae (aa 0) ag)) (cZ _)) (dq (gv (gK (aJ (xI T) hr (ae (aa 4) ag)))) (fK (m5 (aa 4) (aJ (CB T 64) hr (ae (aa 0) ag))))))) (aq (aw jo)) aP) (au (iA PassesOwn.never rfl (gy (aa 1)) (iO 5 iR.nd) (au (aY 6 iR.nd (Av (aa 2) (Cv T) hr.m T.bT.b .nil dY (ae (kL FL (by rfl) T.JF Gj (ae (aa 5) ag)) ag))) (aq (aL (PW.pt (dq (gv (gK (bD mH (by rfl) T.nX mF (ae (aa 6) (ae (oR (v := .ty "bool") rfl T.BB zu rfl) ag))))) (dq (m5 (aa 6) (aJ (CA T 64) hr (ae (aa 0) (ae (aa 5) ag)))) (fK (m5 (Av (aa 2) (Cv T) hr.m T.bT.b .nil dY (ae (jz pA (aa 5) kN (iB (az a9 (aa 4) af))) ag)) (aa 6)))))) (aq (aw jo)) aP)))) (aq (aw jo))))))))), ?_⟩
 obtain ⟨hg, hs, h6⟩ := id aC
 have lg := gf hg
 have hh := ip rt
 have fi := lW lg
 refine bb (fun σ H1 => ∃ x, σ = [some v, some (.ref b), some x, none, none, none, none] /\ ah H H1 /\ bz T H1 x rt) (fun N hN => ?_) ?_
 ·walk_at "gzn"
  refine ⟨rfl, v, rt, rfl, hv, lg, hs, by lia, by lia, fun l2 H1 s1 h1 => ⟨BL, rfl, l2, rfl, aD rt, ao.of h1, My (ko hg hs) h6 (by decide), ?_⟩⟩
  walk_at "gzn"
  exact ⟨rt, rfl, aC, hcr, fun x H2 s2 hx => hN _ _ ⟨x, rfl, s1.trans s2, hx⟩⟩
 rintro σ H1 ⟨x, rfl, s1, hx⟩
 obtain ⟨xa, C, dx, fs, rfl, hxa, hU, hme, qw, hki, rD⟩ := Oc T hx
 refine bb (fun σ H2 => σ = [some v, some (.ref b), some (.ref xa), none, none, none, none] /\ H2 = H1) (fun N hN => ?_) ?_
 ·walk_at "gzn"
  refine Ob rD hki ?_
  walk_at "gzn"
  exact hN _ _ ⟨rfl, rfl⟩
 rintro σ H2 ⟨rfl, rfl⟩
 refine bb (fun σ H3 => ∃ p, σ = [some v, some (.ref b), some (.ref xa), some (.ref p), none, none, none] /\ ah H2 H3 /\ H3 p = some (.tup [.int (aK rt).1, .int (aK rt).2])) (fun N hN => ?_) ?_
 ·walk_at "gzn"
  exact ⟨rt, hx, hg, by lia, fun p H3 s3 hp => hN _ _ ⟨p, rfl, s3, hp⟩⟩
 rintro σ H3 ⟨p, rfl, s3, hp⟩
 refine bb (fun σ H4 => σ = [some v, some (.ref b), some (.ref xa), some (.ref p), none, none, none] /\ H4 = H3) (fun N hN => ?_) ?_
 ·walk_at "gzn"
  refine Gw hp ?_
  walk_at "gzn"
  refine ⟨_, .inr ⟨_, ay.of hp, rfl⟩, ?_⟩
  walk_at "gzn"
  refine aO (ay.of hp) rfl ⟨_, rfl, .inr ⟨_, rfl⟩, ?_⟩
  simp only [isWhole]
  walk_at "gzn"
  refine aO (ay.of hp) rfl ⟨_, rfl, .inr ⟨_, rfl⟩, ?_⟩
  simp only [isWhole]
  walk_at "gzn"
  exact hN _ _ ⟨rfl, rfl⟩
 rintro σ H4 ⟨rfl, rfl⟩
 refine bb (fun σ H5 => σ = [some v, some (.ref b), some (.ref xa), some (.ref p), some (.int (bU rt)), none, none] /\ ah H4 H5) (fun N hN => ?_) ?_
 ·walk_at "gzn"
  exact ⟨rt, hx.same s3, lg, by lia, fun H5 s5 => hN _ _ ⟨rfl, s5⟩⟩
 rintro σ H5 ⟨rfl, s5⟩
 refine bb (fun σ H6 => σ = [some v, some (.ref b), some (.ref xa), some (.ref p), some (.int (bU rt)), none, none] /\ ah H5 H6) (fun N hN => ?_) ?_
 ·walk_at "gzn"
  refine ⟨v, rt, rfl, ((hv.same s1).same s3).same s5, lS hg, by lia, fun p2 H6 s6 f9 => ?_⟩
  refine Hs (n := 1) (.tup (ay.of (s6 _ _ (s5 _ _ hp))) (sC [_, _])) (.tup (ay.of f9) (sC [_, _])) rfl (by decide) ⟨_, rfl, ?_⟩
  walk_at "gzn"
  refine ⟨_, rfl, .inr ⟨_, rfl⟩, ?_⟩
  simp only [isWhole]
  walk_at "gzn"
  refine ⟨v, rt, rfl, (((hv.same s1).same s3).same s5).same s6, by lia, ?_⟩
  walk_at "gzn"
  exact hN _ _ ⟨rfl, s6⟩
 rintro σ H6 ⟨rfl, s6⟩
 have t1 : ah H H6 := s1.trans (s3.trans (s5.trans s6))
 refine bb (fun σ H7 => (∃ e1 e2, σ = [some v, some (.ref b), some (.ref xa), some (.ref p), some (.int (bU rt)), e1, e2]) /\ ah H6 H7) (fun N hN => ?_) ?_
 ·walk_at "gzn"
  refine ⟨⟨_, ao.of (t1 _ _ hb)⟩, rM (xs := xs) (Of H6 v (.ref xa) b p rt) ⟨⟨_, _, rfl⟩, ah.refl _⟩ (fun i σ H7 _ ⟨_, s7⟩ => ao.of (s7 _ _ (t1 _ _ hb))) ?_ ?_⟩
  ·rintro i y σ H7 hy ⟨⟨e1, e2, rfl⟩, s7⟩
   obtain ⟨cs, _, a, rfl, ha, hc⟩ := hX.get hy
   have t2 := t1.trans s7
   have CH : bz T H7 (.ref xa) rt := hx.same (s3.trans (s5.trans (s6.trans s7)))
   have CI := (s3.trans (s5.trans (s6.trans s7))) _ _ hxa
   have xK := t2 _ _ ha
   walk_at "gzn"
   refine ⟨_, _, _, CI, hU, hme, qw, _, .inl (ao.of xK), fun l fl => ?_⟩
   have u := ak (o := .lst (cs.map V.int)) fl
   refine ⟨_, l, rt, cs, rfl, CH.same u, ⟨hg, h6⟩, by lia, ao.of aj, by lia, fun H8 s8 => ?_⟩
   walk_at "gzn"
   refine ⟨v, a, rt, cs, rfl, (hv.same t2).same (u.trans s8), lg, ao.of ((u.trans s8) _ _ xK), by lia, by lia, by lia, fun H9 s9 => ?_⟩
   have u9 := u.trans (s8.trans s9)
   rw [CC]
   walk_at "gzn"
   refine ⟨_, _, _, u9 _ _ CI, hU, hme, qw, _, ao.of (u9 _ _ xK), ?_⟩
   obtain ⟨n, en⟩ : ∃ n : Nat, bU rt + 1 = (n : Int) := ⟨(bU rt + 1).toNat, by lia⟩
   rw [en, Ah, <- List.map_take]
   intro k fk
   have uk := ak (o := .lst ((cs.take n).map V.int)) fk
   refine ⟨_, k, rt, cs.take n, rfl, (CH.same u9).same uk, ⟨hg, h6⟩, by lia, ao.of aj, by rw [List.length_take]; lia, fun Qq Oh => ?_⟩
   rw [Od lg (by lia) (by lia), CC]
   walk_at "gzn"
   exact ⟨⟨_, _, rfl⟩, s7.trans (u9.trans (uk.trans Oh))⟩
  ·rintro σ H7 ⟨h, s7⟩
   exact hN _ _ ⟨h, s7⟩
 rintro σ H7 ⟨⟨e1, e2, rfl⟩, s7⟩
 walk_at "gzn"
 exact q _ (t1.trans s7)
end
section
seal L2.PE L2.PS L2.aV L2.PA
variable {P : Program} {w : World} {K : PySem.W.Frag} {mg : Str -> Option Value} {base : Heap}
def Oi (H : Hp) (a l o : Addr) (b : Int) (_ : Nat) (σ : St) (H1 : Hp) : Prop := (∃ e1 e2, σ = [some (.ref a), some (.int b), some (.ref l), some (.ref o), e1, e2]) /\ ah H H1
inductive qH (K : PySem.W.Frag) (vs : List V) (H : Hp) (Q : VK) (aN : XK) : Prop
 | mk (a : Addr) (ns : List Int) (_ : vs = [.ref a]) (_ : ao K H a (ns.map V.int)) (_ : iF ns) (_ : ∀ H', Q (.bl true) H')
theorem Oj (T : Tx w K mg) : Ok P w base 144 T.ke (qH K) := by
 refine b9 ic ?_
 rintro _ _ _ _ H _ Q _ hr ⟨a, ns, rfl, hS, hn, q⟩
 refine ⟨_, (au (aY 1 ic.nd (aJ (M6 T) hr (ae (aa 0) ag))) (au (aY 2 ic.nd (aJ (Nl T) hr (ae (aa 0) (ae (aa 1) (ae (az a9 af (bD (EV rfl) (by rfl) T.wu rJ (ae (bD dt (by rfl) T.dC dw (ae (aa 0) ag)) (ae af ag)))) ag))))) (au (sj (i := 3) (cO [1, 0] ["_law_base_here", "_law_script"]) rfl ic.nd rfl rfl (l8 rfl T.gP (ae af ag)) (fun C s2 H2 ex pn => ⟨d7, (az a9 (aa 1) (aJ (gi T) hr (ae (aa 2) (ae (az a9 af (aa 0)) (ae af (ae af ag))))))⟩)) (au (iA PassesOwn.never rfl (l8 rfl T.gP (ae (bD dt (by rfl) T.dC dw (ae (aa 2) ag)) ag)) (iO 4 ic.nd) (au (sj (i := 5) (cO [1, 0, 4] ["_law_base_here", "_law_script", "_law_k"]) rfl ic.nd rfl rfl (l8 rfl T.gP (ae af ag)) (fun C s2 H2 ex pn => ⟨d7, (az a9 (aa 1) (aJ (gi T) hr (ae (aa 2) (ae (az a9 (az a9 af (az iL af (aa 3))) (aa 0)) (ae af (ae af ag))))))⟩)) (aq (aL (gv (gK (aJ (CG T) hr (ae (ar (aa 2) (aa 4)) (ae (cA (ae (aa 3) (ae (aa 5) ag))) ag))))) (aq (aw jo)) aP)))) (aq (aw (aJ (CG T) hr (ae (ar (aa 2) af) (ae (cA (ae (aa 3) ag)) ag))))))))), ?_⟩
 refine bb (fun σ H1 => ∃ b : Int, σ = [some (.ref a), some (.int b), none, none, none, none] /\ ah H H1 /\ -999999999999999999999999999999999999999999999999999999999900 <= b /\ b <= 999999999999999999999999999999999999999999999999999999999900) (fun N hN => ?_) ?_
 ·walk_at "gzn"
  exact ⟨a, ns, rfl, hS, hn, fun b H1 s1 b0 b1 => hN _ _ ⟨b, rfl, s1, b0, b1⟩⟩
 rintro σ H0 ⟨b, rfl, s0, b0, b1⟩
 refine bb (fun σ H1 => ∃ l xs cj, σ = [some (.ref a), some (.int b), some (.ref l), none, none, none] /\ ah H0 H1 /\ H1 l = some (.lst xs) /\ av (bM H1) xs cj /\ (∀ rt ∈ cj, lN rt /\ fe rt) /\ cj.length <= 44 /\ cj ≠ []) (fun N hN => ?_) ?_
 ·walk_at "gzn"
  refine ⟨_, dZ (s0.seq hS), ?_⟩
  rw [List.length_map]
  exact ⟨a, ns, b, _, rfl, s0.seq hS, hn, b0, b1, by split <;> lia, by split <;> lia, fun l xs cj H2 s2 hl hA aC CJ dg => hN _ _ ⟨l, xs, cj, rfl, s2, hl, hA, aC, CJ, dg⟩⟩
 rintro σ H1 ⟨l, xs, cj, rfl, s1, hl, hA, aC, CJ, dg⟩
 replace s1 := s0.trans s1
 have hx := hA.len
 refine bb (fun σ H2 => ∃ (o : Addr) (cs : List Int), σ = [some (.ref a), some (.int b), some (.ref l), some (.ref o), none, none] /\ ah H1 H2 /\ H2 o = some (.lst (cs.map V.int)) /\ cs.length = 12) (fun N hN => ?_) ?_
 ·walk_at "gzn"
  refine d8 jJ (by decide) (sI (P := fun _ => True) trivial (fun x _ Q h => ?_) (fun x hx Q h => ?_) fun cs pq _ => ?_)
  ·walk_at "gzn"
   exact h
  ·obtain ⟨k, hk, rfl⟩ := List.mem_map.mp hx
   have hk := List.mem_range.mp hk
   walk_at "gzn"
   refine ⟨a, ns, _, _, _, rfl, s1.seq hS, hn, by lia, by decide, by decide, fun p _ _ => ?_⟩
   walk_at "gzn"
   exact h _ trivial
  ·rw [List.nil_append]
   exact fun o fo => hN _ _ ⟨o, cs, rfl, ak fo, aj, by rw [pq]; decide⟩
 rintro σ H2 ⟨o, cs, rfl, s2, ho, hc⟩
 replace hl := s2 _ _ hl
 replace hA : av (bM H2) xs cj := hA.imp fun _ _ h => h.same s2
 have t2 := s1.trans s2
 refine bb (fun σ H3 => (∃ e1 e2, σ = [some (.ref a), some (.int b), some (.ref l), some (.ref o), e1, e2]) /\ ah H2 H3) (fun N hN => ?_) ?_
 ·walk_at "gzn"
  refine ⟨_, dZ (ao.of hl), ?_⟩
  refine ⟨by lia, by lia, rL (Oi H2 a l o b) ⟨⟨_, _, rfl⟩, ah.refl _⟩ ?_ ?_⟩
  ·rintro i σ H3 hi ⟨⟨e1, e2, rfl⟩, s3⟩
   rw [Int.toNat_natCast] at hi
   obtain ⟨x, ex⟩ : ∃ x, xs[i]? = some x := ⟨xs[i], List.getElem?_eq_getElem hi⟩
   obtain ⟨rt, hrt, hv⟩ := hA.get ex
   obtain ⟨okr, hcr⟩ := aC rt (List.mem_of_getElem? hrt)
   refine bb (fun σ H4 => ∃ (o2 : Addr) (ds : List Int), σ = [some (.ref a), some (.int b), some (.ref l), some (.ref o), some (.int (0 + (i : Int))), some (.ref o2)] /\ ah H3 H4 /\ H4 o2 = some (.lst (ds.map V.int)) /\ ds.length = 12) (fun N hN => ?_) ?_
   ·walk_at "gzn"
    refine d8 jJ (by decide) (sI (P := fun _ => True) trivial (fun x _ Q h => ?_) (fun x hx Q h => ?_) fun ds kM _ => ?_)
    ·walk_at "gzn"
     exact h
    ·obtain ⟨k, hk, rfl⟩ := List.mem_map.mp hx
     have hk := List.mem_range.mp hk
     walk_at "gzn"
     refine ⟨g9 (by lia) (by lia), a, ns, _, _, _, rfl, (t2.trans s3).seq hS, hn, by lia, by decide, by decide, fun p _ _ => ?_⟩
     walk_at "gzn"
     exact h _ trivial
    ·rw [List.nil_append]
     exact fun o2 Ol => hN _ _ ⟨o2, ds, rfl, ak Ol, aj, by rw [kM]; decide⟩
   rintro σ H4 ⟨o2, ds, rfl, s4, Oo, hd⟩
   walk_at "gzn"
   refine bK (ao.of (s4 _ _ (s3 _ _ hl))) (v := x) (by rw [Int.zero_add]; exact iC ex) ⟨bI, fun m fm => ?_⟩
   have um := ak (o := .lst [.ref o, .ref o2]) fm
   refine ⟨x, rt, m, [.ref o, .ref o2], [cs, ds], rfl, ((hv.same s3).same s4).same um, okr, hcr, aj, ⟨⟨o, rfl, um _ _ (s4 _ _ (s3 _ _ ho)), hc⟩, ⟨o2, rfl, um _ _ Oo, hd⟩, trivial⟩, fun H5 s5 => ?_⟩
   walk_at "gzn"
   exact ⟨⟨_, _, rfl⟩, s3.trans (s4.trans (um.trans s5))⟩
  ·rintro σ H3 ⟨h, s3⟩
   exact hN _ _ ⟨h, s3⟩
 rintro σ H3 ⟨⟨e1, e2, rfl⟩, s3⟩
 obtain ⟨rt, Qr, rfl⟩ := List.exists_cons_of_ne_nil dg
 obtain ⟨x, Oq, hv⟩ := hA.at (i := 0) rfl
 obtain ⟨okr, hcr⟩ := aC rt (.head _)
 walk_at "gzn"
 refine bK (ao.of (s3 _ _ hl)) (iC (j := 0) Oq) ⟨by decide, fun m fm => ?_⟩
 have um := ak (o := .lst [.ref o]) fm
 exact ⟨x, rt, m, [.ref o], [cs], rfl, (hv.same s3).same um, okr, hcr, aj, ⟨⟨o, rfl, um _ _ (s3 _ _ ho), hc⟩, trivial⟩, fun H' _ => q H'⟩
end
theorem Fb.fp {K : PySem.W.Frag} {x q : Str} {st : Stmt} {N ps : List Str} {p : Addr -> Prop} (b : Fb K x q st p) (S : Sc N ps st) : ∃ F : Fm K x q st ps, p F.a :=
 let ⟨a, l, c, k⟩ := b; ⟨⟨_, _, g8 l c k, (g8 l c k).binds (S.b x q)⟩, a⟩
inductive FO (p : Params) : Obj -> Prop
 | mk (a0 b0 a1 b1 a2 b2 a3 b3 a4 b4 a5 b5 a6 b6 a7 b7 a8 b8 : Tok) (ep : Nat) : FO p { cls := .type "dict", data := .dict #[{ hash := PyData.keyHash p "over", key := .str "over" a0, val := .str "NNN" b0 }, { hash := PyData.keyHash p "under", key := .str "under" a1, val := .str "NNN" b1 }, { hash := PyData.keyHash p "stay", key := .str "stay" a2, val := .str "NNEE" b2 }, { hash := PyData.keyHash p "rose", key := .str "rose" a3, val := .str "NNNN" b3 }, { hash := PyData.keyHash p "pace", key := .str "pace" a4, val := .str "NNEE" b4 }, { hash := PyData.keyHash p "turn", key := .str "turn" a5, val := .str "N" b5 }, { hash := PyData.keyHash p "both", key := .str "both" a6, val := .str "RR" b6 }, { hash := PyData.keyHash p "either", key := .str "either" a7, val := .str "RR" b7 }, { hash := PyData.keyHash p "not", key := .str "not" a8, val := .str "R" b8 }] ep }
theorem Ot {w : World} {K : PySem.W.Frag} {h : Heap} {mg : Str -> Option Value} {a : Value} {b : Addr} {o : Obj} (X : K.In h) (G : h.Ns mainGlobals mg) (z1 : PySem.W.nsIn K mainGlobals "FORMS" = some (some a)) (z2 : a = .ref b) (z3 : K.lookup b = some o) (z4 : FO w.params o) (z5 : (b == sysModules) = false) : Nonempty (Bz w K mg) := by
 subst z2
 refine ⟨⟨b, PySem.W.mg_of X G z1, fun P => ⟨fun h' X' => ⟨z5, ?_⟩⟩⟩⟩
 obtain ⟨a0, b0, a1, b1, a2, b2, a3, b3, a4, b4, a5, b5, a6, b6, a7, b7, a8, b8, ep⟩ := z4
 have ks : ∀ (x : Str) (t : Tok), (iy P w).is (.inr x) (.str x t) = true := fun x t => xM x t
 refine ⟨[(.inr "over", .str "NNN" b0), (.inr "under", .str "NNN" b1), (.inr "stay", .str "NNEE" b2), (.inr "rose", .str "NNNN" b3), (.inr "pace", .str "NNEE" b4), (.inr "turn", .str "N" b5), (.inr "both", .str "RR" b6), (.inr "either", .str "RR" b7), (.inr "not", .str "R" b8)], ?_, _, _, _, X' _ _ z3, ⟨rfl, rfl, rfl⟩, rfl, ?_, ?_, show (FORMS.map fun x => x.1).Nodup from by decide +kernel⟩
 ·repeat' first | exact .nil | refine .cons ⟨rfl, _, rfl⟩ ?_
 ·intro e he
  have he := Array.mem_toList_iff.mpr he
  simp only [List.mem_cons, List.not_mem_nil, or_false] at he
  rcases he with rfl | rfl | rfl | rfl | rfl | rfl | rfl | rfl | rfl
  all_goals exact ⟨.inr _, ks _ _, rfl⟩
 ·repeat' first | exact .nil | refine .cons (ks _ _) rfl ?_
section
seal L2.PE L2.PS L2.aV L2.PA
variable {P : Program} {w : World} {K : PySem.W.Frag} {mg : Str -> Option Value} {base : Heap}
end
theorem Ou {l : PySem.W.OpenLaw} {w : World} {K : PySem.W.Frag} {h : Heap} {mg : Str -> Option Value} {fa : Addr} (X : K.In h) (G : h.Ns mainGlobals mg) (Ov : mg "law" = some (.ref fa))
 {qo : Addr}
 {eo : Addr}
 {lD : Addr}
 {lE : Addr}
 {cb : Addr}
 {cn : Addr}
 {br : Addr}
 {bu : Addr}
 {bw : Addr}
 {bx : Addr}
 {bo : Addr}
 {bE : Addr}
 {cX : Addr}
 {bB : Addr}
 {bC : Addr}
 {bG : Addr}
 {Ow : Tok}
 {Ox : Tok}
 {Oy : Tok}
 {Oz : Tok}
 {OA : Tok}
 {OB : Tok}
 {aF : Value} {bF : Addr} {oF : Obj}
 (OC : PySem.W.nsIn K mainGlobals "GazeError" = some (some (.ref qo)))
 (OD : PySem.W.nsIn K mainGlobals "NoEvent" = some (some (.ref eo)))
 (OE : PySem.W.nsIn K mainGlobals "TooMany" = some (some (.ref lD)))
 (OF : PySem.W.nsIn K mainGlobals "NoRule" = some (some (.ref lE)))
 (OG : PySem.W.nsIn K mainGlobals "Event" = some (some (.ref cb)))
 (OH : PySem.W.nsIn K mainGlobals "Spanned" = some (some (.ref cn)))
 (OI : PySem.W.nsIn K mainGlobals "Stayed" = some (some (.ref br)))
 (OJ : PySem.W.nsIn K mainGlobals "Over" = some (some (.ref bu)))
 (OK : PySem.W.nsIn K mainGlobals "Under" = some (some (.ref bw)))
 (OL : PySem.W.nsIn K mainGlobals "Rose" = some (some (.ref bx)))
 (OM : PySem.W.nsIn K mainGlobals "Paced" = some (some (.ref bo)))
 (ON : PySem.W.nsIn K mainGlobals "Turned" = some (some (.ref bE)))
 (OO : PySem.W.nsIn K mainGlobals "Paired" = some (some (.ref cX)))
 (OP : PySem.W.nsIn K mainGlobals "Both" = some (some (.ref bB)))
 (OQ : PySem.W.nsIn K mainGlobals "Either" = some (some (.ref bC)))
 (OR : PySem.W.nsIn K mainGlobals "Nay" = some (some (.ref bG)))
 (nu : Fb K "is_crossed" "is_crossed" tT (bN K "is_crossed"))
 (nv : Fb K "holds" "holds" tU (bN K "holds"))
 (ny : Fb K "number_at" "number_at" tV (bN K "number_at"))
 (nA : Fb K "meets" "meets" tW (bN K "meets"))
 (nB : Fb K "is_figures" "is_figures" tX (bN K "is_figures"))
 (nC : Fb K "is_number" "is_number" tY (bN K "is_number"))
 (nD : Fb K "is_end" "is_end" tZ (bN K "is_end"))
 (nE : Fb K "is_formed" "is_formed" t4 (bN K "is_formed"))
 (nF : Fb K "end_of" "end_of" t5 (bN K "end_of"))
 (nG : Fb K "outside" "outside" t7 (bN K "outside"))
 (nH : Fb K "failures" "failures" t8 (bN K "failures"))
 (nI : Fb K "joined" "joined" t9 (bN K "joined"))
 (nJ : Fb K "parts_at" "parts_at" ua (bN K "parts_at"))
 (bT : Fb K "held" "Event.held" ue fun f => aE K cb "held" f /\ aE K cn "held" f /\ aE K br "held" f /\ aE K bu "held" f /\ aE K bw "held" f /\ aE K bx "held" f /\ aE K bo "held" f /\ aE K bE "held" f /\ aE K cX "held" f /\ aE K bB "held" f /\ aE K bC "held" f /\ aE K bG "held" f)
 (cc : Fb K "sizes" "Event.sizes" uf fun f => aE K cb "sizes" f /\ aE K cn "sizes" f /\ aE K br "sizes" f /\ aE K bu "sizes" f /\ aE K bw "sizes" f /\ aE K bx "sizes" f /\ aE K bo "sizes" f /\ aE K bE "sizes" f /\ aE K cX "sizes" f)
 (eT : Fb K "__init__" "Spanned.__init__" ug fun f => aE K cn "__init__" f /\ PySem.W.findCls K (.ref cn) (.type "type") "__init__" = some (.val (.ref f)))
 (cP : Fb K "far" "Spanned.far" uh fun f => aE K cn "far" f /\ aE K br "far" f /\ aE K bu "far" f /\ aE K bw "far" f /\ aE K bx "far" f /\ aE K bo "far" f)
 (cH : Fb K "all_at" "Spanned.all_at" ui fun f => aE K cn "all_at" f /\ aE K br "all_at" f /\ aE K bu "all_at" f /\ aE K bw "all_at" f /\ aE K bx "all_at" f /\ aE K bo "all_at" f)
 (j3 : Fb K "__init__" "Stayed.__init__" uj (aE K br "__init__"))
 (iS : Fb K "ways" "Stayed.ways" uo (aE K br "ways"))
 (iT : Fb K "breaks" "Stayed.breaks" uq (aE K br "breaks"))
 (j4 : Fb K "__init__" "Over.__init__" ur (aE K bu "__init__"))
 (iU : Fb K "ways" "Over.ways" uu (aE K bu "ways"))
 (iV : Fb K "breaks" "Over.breaks" uv (aE K bu "breaks"))
 (j5 : Fb K "__init__" "Under.__init__" uw (aE K bw "__init__"))
 (iW : Fb K "ways" "Under.ways" ux (aE K bw "ways"))
 (iX : Fb K "breaks" "Under.breaks" uy (aE K bw "breaks"))
 (j6 : Fb K "__init__" "Rose.__init__" uz (aE K bx "__init__"))
 (iY : Fb K "ways" "Rose.ways" uA (aE K bx "ways"))
 (iZ : Fb K "breaks" "Rose.breaks" uB (aE K bx "breaks"))
 (j7 : Fb K "__init__" "Paced.__init__" uC (aE K bo "__init__"))
 (ie : Fb K "all_steps" "Paced.all_steps" uD (aE K bo "all_steps"))
 (i0 : Fb K "ways" "Paced.ways" uE (aE K bo "ways"))
 (i3 : Fb K "breaks" "Paced.breaks" uF (aE K bo "breaks"))
 (j8 : Fb K "__init__" "Turned.__init__" uG (aE K bE "__init__"))
 (i4 : Fb K "far" "Turned.far" uH (aE K bE "far"))
 (ig : Fb K "both_steps" "Turned.both_steps" uI (aE K bE "both_steps"))
 (i5 : Fb K "ways" "Turned.ways" uJ (aE K bE "ways"))
 (i6 : Fb K "breaks" "Turned.breaks" uK (aE K bE "breaks"))
 (gO : Fb K "__init__" "Paired.__init__" uL fun f => aE K cX "__init__" f /\ aE K bB "__init__" f /\ aE K bC "__init__" f)
 (eU : Fb K "far" "Paired.far" uM fun f => aE K cX "far" f /\ aE K bB "far" f /\ aE K bC "far" f)
 (i7 : Fb K "ways" "Both.ways" uN (aE K bB "ways"))
 (i8 : Fb K "breaks" "Both.breaks" uO (aE K bB "breaks"))
 (i9 : Fb K "sizes" "Both.sizes" uP (aE K bB "sizes"))
 (ja : Fb K "ways" "Either.ways" uQ (aE K bC "ways"))
 (jb : Fb K "breaks" "Either.breaks" uR (aE K bC "breaks"))
 (jc : Fb K "sizes" "Either.sizes" uS (aE K bC "sizes"))
 (j9 : Fb K "__init__" "Nay.__init__" uT (aE K bG "__init__"))
 (jd : Fb K "far" "Nay.far" uU (aE K bG "far"))
 (je : Fb K "ways" "Nay.ways" uV (aE K bG "ways"))
 (jf : Fb K "breaks" "Nay.breaks" uW (aE K bG "breaks"))
 (jg : Fb K "sizes" "Nay.sizes" uX (aE K bG "sizes"))
 (jh : Fb K "end_at" "end_at" uY (bN K "end_at"))
 (eV : Fb K "tree_at" "tree_at" uZ (bN K "tree_at"))
 (fV : Fb K "ends_as_stretch" "ends_as_stretch" u4 (bN K "ends_as_stretch"))
 (ji : Fb K "event_of_numbers" "event_of_numbers" u5 (bN K "event_of_numbers"))
 (cv : Fb K "event_of" "event_of" u6 (bN K "event_of"))
 (nK : Fb K "read" "read" u7 (bN K "read"))
 (nM : Fb K "_law_draw" "_law_draw" va (bN K "_law_draw"))
 (nN : Fb K "_law_base" "_law_base" vc (bN K "_law_base"))
 (nO : Fb K "_law_whole" "_law_whole" vd (bN K "_law_whole"))
 (nP : Fb K "_law_within" "_law_within" ve (bN K "_law_within"))
 (nQ : Fb K "_law_leaf" "_law_leaf" vf (bN K "_law_leaf"))
 (jj : Fb K "_law_truth" "_law_truth" vg (bN K "_law_truth"))
 (ka : Fb K "_law_farthest" "_law_farthest" vh (bN K "_law_farthest"))
 (kc : Fb K "_law_counts" "_law_counts" vi (bN K "_law_counts"))
 (kd : Fb K "_law_row" "_law_row" vj (bN K "_law_row"))
 (nU : Fb K "_law_trees" "_law_trees" vk (bN K "_law_trees"))
 (nV : Fb K "_law_asked_of" "_law_asked_of" vm (bN K "_law_asked_of"))
 (ke : Fb K "law" "law" vn (bN K "law"))
 (OS : PySem.W.nsIn K mainGlobals "all" = some none)
 (OT : PySem.W.nsIn K mainGlobals "any" = some none)
 (OU : PySem.W.nsIn K mainGlobals "bool" = some none)
 (OV : PySem.W.nsIn K mainGlobals "int" = some none)
 (OW : PySem.W.nsIn K mainGlobals "isinstance" = some none)
 (OX : PySem.W.nsIn K mainGlobals "len" = some none)
 (OY : PySem.W.nsIn K mainGlobals "list" = some none)
 (OZ : PySem.W.nsIn K mainGlobals "max" = some none)
 (O0 : PySem.W.nsIn K mainGlobals "min" = some none)
 (O1 : PySem.W.nsIn K mainGlobals "range" = some none)
 (O2 : PySem.W.nsIn K mainGlobals "str" = some none)
 (O3 : PySem.W.nsIn K mainGlobals "tuple" = some none)
 (BC : bc K cb)
 (BD : bc K cn)
 (BE : PySem.W.findIn K (.ref cn) "first" = some none)
 (BF : PySem.W.findIn K (.ref cn) "last" = some none)
 (BG : PySem.W.makesIn K cn = true) (O4 : PySem.W.keepIn K (.ref cn) = true)
 (dD : bc K br)
 (n0 : PySem.W.findIn K (.ref br) "first" = some none)
 (lF : PySem.W.findIn K (.ref br) "last" = some none)
 (n3 : PySem.W.findIn K (.ref br) "stretch" = some none)
 (wx : PySem.W.makesIn K br = true) (O5 : PySem.W.keepIn K (.ref br) = true)
 (dE : bc K bu)
 (n4 : PySem.W.findIn K (.ref bu) "first" = some none)
 (lG : PySem.W.findIn K (.ref bu) "last" = some none)
 (n5 : PySem.W.findIn K (.ref bu) "sill" = some none)
 (wy : PySem.W.makesIn K bu = true) (O6 : PySem.W.keepIn K (.ref bu) = true)
 (dF : bc K bw)
 (n6 : PySem.W.findIn K (.ref bw) "first" = some none)
 (lH : PySem.W.findIn K (.ref bw) "last" = some none)
 (n9 : PySem.W.findIn K (.ref bw) "sill" = some none)
 (wz : PySem.W.makesIn K bw = true) (O7 : PySem.W.keepIn K (.ref bw) = true)
 (cI : bc K bx)
 (lI : PySem.W.findIn K (.ref bx) "first" = some none)
 (jk : PySem.W.findIn K (.ref bx) "last" = some none)
 (oa : PySem.W.findIn K (.ref bx) "low" = some none)
 (og : PySem.W.findIn K (.ref bx) "high" = some none)
 (wA : PySem.W.makesIn K bx = true) (O8 : PySem.W.keepIn K (.ref bx) = true)
 (dN : bc K bo)
 (qq : PySem.W.findIn K (.ref bo) "first" = some none)
 (oh : PySem.W.findIn K (.ref bo) "last" = some none)
 (qr : PySem.W.findIn K (.ref bo) "stretch" = some none)
 (wB : PySem.W.makesIn K bo = true) (O9 : PySem.W.keepIn K (.ref bo) = true)
 (eF : bc K bE)
 (lJ : PySem.W.findIn K (.ref bE) "turn" = some none)
 (wC : PySem.W.makesIn K bE = true) (Pb : PySem.W.keepIn K (.ref bE) = true)
 (BN : bc K cX)
 (BO : PySem.W.findIn K (.ref cX) "one" = some none)
 (BP : PySem.W.findIn K (.ref cX) "other" = some none)
 (BQ : PySem.W.makesIn K cX = true) (Pc : PySem.W.keepIn K (.ref cX) = true)
 (dO : bc K bB)
 (kf : PySem.W.findIn K (.ref bB) "one" = some none)
 (kg : PySem.W.findIn K (.ref bB) "other" = some none)
 (wD : PySem.W.makesIn K bB = true) (Pd : PySem.W.keepIn K (.ref bB) = true)
 (dP : bc K bC)
 (kh : PySem.W.findIn K (.ref bC) "one" = some none)
 (ki : PySem.W.findIn K (.ref bC) "other" = some none)
 (wF : PySem.W.makesIn K bC = true) (Pe : PySem.W.keepIn K (.ref bC) = true)
 (eW : bc K bG)
 (kj : PySem.W.findIn K (.ref bG) "one" = some none)
 (wG : PySem.W.makesIn K bG = true) (Pf : PySem.W.keepIn K (.ref bG) = true)
 (Pg : PySem.W.specialIn K (.ref cn) "__getattribute__" = some (some (.builtin "type.__getattribute__"))) (Ph : PySem.W.readsIn K cn (.type "type") = true)
 (lK : XC K eo)
 (km : XC K lE)
 (wH : XC K lD)
 (Pj : PySem.W.kitOne K (.ref br) (.ref cb) = some true)
 (Pk : PySem.W.kitOne K (.ref bu) (.ref cb) = some true)
 (Pl : PySem.W.kitOne K (.ref bw) (.ref cb) = some true)
 (Pm : PySem.W.kitOne K (.ref bx) (.ref cb) = some true)
 (Pn : PySem.W.kitOne K (.ref bo) (.ref cb) = some true)
 (Po : PySem.W.kitOne K (.ref bE) (.ref cb) = some true)
 (Pp : PySem.W.kitOne K (.ref bB) (.ref cb) = some true)
 (Pq : PySem.W.kitOne K (.ref bC) (.ref cb) = some true)
 (Pr : PySem.W.kitOne K (.ref bG) (.ref cb) = some true)
 (wI : PySem.W.findIn K (.ref br) "__class__" = some (some (.builtin "object.__class__")))
 (wJ : PySem.W.mroIn K br (.type "object") = some true)
 (wK : PySem.W.findIn K (.ref bu) "__class__" = some (some (.builtin "object.__class__")))
 (wL : PySem.W.mroIn K bu (.type "object") = some true)
 (wM : PySem.W.findIn K (.ref bw) "__class__" = some (some (.builtin "object.__class__")))
 (wN : PySem.W.mroIn K bw (.type "object") = some true)
 (wO : PySem.W.findIn K (.ref bx) "__class__" = some (some (.builtin "object.__class__")))
 (wQ : PySem.W.mroIn K bx (.type "object") = some true)
 (wR : PySem.W.findIn K (.ref bo) "__class__" = some (some (.builtin "object.__class__")))
 (wU : PySem.W.mroIn K bo (.type "object") = some true)
 (wV : PySem.W.findIn K (.ref bE) "__class__" = some (some (.builtin "object.__class__")))
 (wW : PySem.W.mroIn K bE (.type "object") = some true)
 (wX : PySem.W.findIn K (.ref bB) "__class__" = some (some (.builtin "object.__class__")))
 (wY : PySem.W.mroIn K bB (.type "object") = some true)
 (wZ : PySem.W.findIn K (.ref bC) "__class__" = some (some (.builtin "object.__class__")))
 (w4 : PySem.W.mroIn K bC (.type "object") = some true)
 (w5 : PySem.W.findIn K (.ref bG) "__class__" = some (some (.builtin "object.__class__")))
 (w6 : PySem.W.mroIn K bG (.type "object") = some true)
 (fW : PySem.W.specialIn K (.builtin "object.__class__") "__get__" = some (some (.builtin "getset_descriptor.__get__")))
 (fX : PySem.W.takesIn K (.builtin "object.__class__") = some true)
 (Pt : PySem.W.nsIn K mainGlobals "LAST_TURN" = some (some (.int 11 Ow)))
 (Pu : PySem.W.nsIn K mainGlobals "FIGURES_AT_MOST" = some (some (.int 60 Ox)))
 (Pw : PySem.W.nsIn K mainGlobals "WORDS_AT_MOST" = some (some (.int 60 Oy)))
 (Px : PySem.W.nsIn K mainGlobals "SIZE_AT_MOST" = some (some (.int 100 Oz)))
 (Py : PySem.W.nsIn K mainGlobals "OPEN_END" = some (some (.str "*" OA)))
 (Pz : PySem.W.nsIn K mainGlobals "FIGURES" = some (some (.str "0123456789" OB)))
 (PB : PySem.W.nsIn K mainGlobals "FORMS" = some (some aF))
 (PD : aF = .ref bF)
 (PF : K.lookup bF = some oF)
 (PH : FO w.params oF)
 (PJ : (bF == sysModules) = false)
 : ∃ fd : FuncData, (∀ (s : Shared) (v : Value), BindsTo s fd ⟨[v], []⟩ [("_law_script", v)]) /\ ∀ base : Heap, K.In base -> base.Ns mainGlobals mg -> bW l.prog w K mg base (cL l.prog w) 144 fa fd ["_law_script"] (qH K) := by
 obtain ⟨nu⟩ := nu.fn X G vo
 obtain ⟨nv⟩ := nv.fn X G vp
 obtain ⟨ny⟩ := ny.fn X G vq
 obtain ⟨nA⟩ := nA.fn X G vr
 obtain ⟨nB⟩ := nB.fn X G vt
 obtain ⟨nC⟩ := nC.fn X G qi
 obtain ⟨nD⟩ := nD.fn X G vv
 obtain ⟨nE⟩ := nE.fn X G vw
 obtain ⟨nF⟩ := nF.fn X G vx
 obtain ⟨nG⟩ := nG.fn X G ni
 obtain ⟨nH⟩ := nH.fn X G nj
 obtain ⟨nI⟩ := nI.fn X G nk
 obtain ⟨nJ⟩ := nJ.fn X G vy
 obtain ⟨bT, CK, CL, CM, CN, CO, CP, CQ, CS, CT, CU, CV, CW⟩ := Fb.fp bT vz
 obtain ⟨cc, CY, CZ, C0, C1, C2, C3, C4, C5, C6⟩ := Fb.fp cc vA
 obtain ⟨eT, C7, PK⟩ := Fb.fp eT vB
 obtain ⟨cP, C8, C9, Dc, Dd, De, Df⟩ := Fb.fp cP vC
 obtain ⟨cH, Dg, Dh, Di, Dj, Dk, Dl⟩ := Fb.fp cH vD
 obtain ⟨j3, Dm⟩ := j3.fm vE
 obtain ⟨iS, Dp⟩ := iS.fm vF
 obtain ⟨iT, Dq⟩ := iT.fm vG
 obtain ⟨j4, Dr⟩ := j4.fm vH
 obtain ⟨iU, Ds⟩ := iU.fm vI
 obtain ⟨iV, Dt⟩ := iV.fm vJ
 obtain ⟨j5, Du⟩ := j5.fm vK
 obtain ⟨iW, Dv⟩ := iW.fm vL
 obtain ⟨iX, Dw⟩ := iX.fm vM
 obtain ⟨j6, Dx⟩ := j6.fm vN
 obtain ⟨iY, Dy⟩ := iY.fm lz
 obtain ⟨iZ, Dz⟩ := iZ.fm vO
 obtain ⟨j7, DA⟩ := j7.fm vP
 obtain ⟨ie, DB⟩ := ie.fm vQ
 obtain ⟨i0, DC⟩ := i0.fm vR
 obtain ⟨i3, DD⟩ := i3.fm vS
 obtain ⟨j8, DE⟩ := j8.fm vT
 obtain ⟨i4, DF⟩ := i4.fm vU
 obtain ⟨ig, DG⟩ := ig.fm vV
 obtain ⟨i5, DH⟩ := i5.fm vW
 obtain ⟨i6, DI⟩ := i6.fm vX
 obtain ⟨gO, DJ, DK, DL⟩ := Fb.fp gO vY
 obtain ⟨eU, DM, DN, DO⟩ := Fb.fp eU vZ
 obtain ⟨i7, DP⟩ := i7.fm v3
 obtain ⟨i8, DQ⟩ := i8.fm v5
 obtain ⟨i9, DR⟩ := i9.fm nq
 obtain ⟨ja, DS⟩ := ja.fm v7
 obtain ⟨jb, DT⟩ := jb.fm v8
 obtain ⟨jc, DU⟩ := jc.fm nr
 obtain ⟨j9, DV⟩ := j9.fm v9
 obtain ⟨jd, DW⟩ := jd.fm wa
 obtain ⟨je, DX⟩ := je.fm wb
 obtain ⟨jf, DY⟩ := jf.fm wc
 obtain ⟨jg, DZ⟩ := jg.fm qj
 obtain ⟨jh⟩ := jh.fn X G we
 obtain ⟨eV⟩ := eV.fn X G gN
 obtain ⟨fV⟩ := fV.fn X G wg
 obtain ⟨ji⟩ := ji.fn X G wj
 obtain ⟨cv⟩ := cv.fn X G lA
 obtain ⟨nK⟩ := nK.fn X G nt
 obtain ⟨nM⟩ := nM.fn X G wm
 obtain ⟨nN⟩ := nN.fn X G qk
 obtain ⟨nO⟩ := nO.fn X G wq
 obtain ⟨nP⟩ := nP.fn X G wt
 obtain ⟨nQ⟩ := nQ.fn X G eS
 obtain ⟨jj⟩ := jj.fn X G ia
 obtain ⟨ka⟩ := ka.fn X G ql
 obtain ⟨kc⟩ := kc.fn X G ib
 obtain ⟨kd⟩ := kd.fn X G lB
 obtain ⟨nU⟩ := nU.fn X G iQ
 obtain ⟨nV⟩ := nV.fn X G iR
 obtain ⟨ke⟩ := ke.fn X G ic
 obtain ⟨hforms⟩ := Ot X G PB PD PF PH PJ
 cases Ov.symm.trans ke.m
 exact ⟨_, ke.bt ic, fun _ _ _ => Oj (⟨nu, nv, ny, nA, nB, nC, nD, nE, nF, nG, nH, nI, nJ, bT, cc, eT, cP, cH, j3, iS, iT, j4, iU, iV, j5, iW, iX, j6, iY, iZ, j7, ie, i0, i3, j8, i4, ig, i5, i6, gO, eU, i7, i8, i9, ja, jb, jc, j9, jd, je, jf, jg, jh, eV, fV, ji, cv, nK, nM, nN, nO, nP, nQ, jj, ka, kc, kd, nU, nV, ke, PySem.W.mg_none_of X G OS, PySem.W.mg_none_of X G OT, PySem.W.mg_none_of X G OU, PySem.W.mg_none_of X G OV, PySem.W.mg_none_of X G OW, PySem.W.mg_none_of X G OX, PySem.W.mg_none_of X G OY, PySem.W.mg_none_of X G OZ, PySem.W.mg_none_of X G O0, PySem.W.mg_none_of X G O1, PySem.W.mg_none_of X G O2, PySem.W.mg_none_of X G O3, qo, PySem.W.mg_of X G OC, eo, PySem.W.mg_of X G OD, lD, PySem.W.mg_of X G OE, lE, PySem.W.mg_of X G OF, cb, PySem.W.mg_of X G OG, cn, PySem.W.mg_of X G OH, br, PySem.W.mg_of X G OI, bu, PySem.W.mg_of X G OJ, bw, PySem.W.mg_of X G OK, bx, PySem.W.mg_of X G OL, bo, PySem.W.mg_of X G OM, bE, PySem.W.mg_of X G ON, cX, PySem.W.mg_of X G OO, bB, PySem.W.mg_of X G OP, bC, PySem.W.mg_of X G OQ, bG, PySem.W.mg_of X G OR, BC, ⟨CK.1, CK.2, bT.F.kp⟩, ⟨CY.1, CY.2, cc.F.kp⟩, BD, BE, BF, ⟨CL.1, CL.2, bT.F.kp⟩, ⟨CZ.1, CZ.2, cc.F.kp⟩, ⟨BG, C7.1, C7.2, O4⟩, ⟨C8.1, C8.2, cP.F.kp⟩, ⟨Dg.1, Dg.2, cH.F.kp⟩, dD, n0, lF, n3, ⟨CM.1, CM.2, bT.F.kp⟩, ⟨C0.1, C0.2, cc.F.kp⟩, ⟨wx, Dm.1, Dm.2, O5⟩, ⟨C9.1, C9.2, cP.F.kp⟩, ⟨Dh.1, Dh.2, cH.F.kp⟩, ⟨Dp.1, Dp.2, iS.F.kp⟩, ⟨Dq.1, Dq.2, iT.F.kp⟩, dE, n4, lG, n5, ⟨CN.1, CN.2, bT.F.kp⟩, ⟨C1.1, C1.2, cc.F.kp⟩, ⟨wy, Dr.1, Dr.2, O6⟩, ⟨Dc.1, Dc.2, cP.F.kp⟩, ⟨Di.1, Di.2, cH.F.kp⟩, ⟨Ds.1, Ds.2, iU.F.kp⟩, ⟨Dt.1, Dt.2, iV.F.kp⟩, dF, n6, lH, n9, ⟨CO.1, CO.2, bT.F.kp⟩, ⟨C2.1, C2.2, cc.F.kp⟩, ⟨wz, Du.1, Du.2, O7⟩, ⟨Dd.1, Dd.2, cP.F.kp⟩, ⟨Dj.1, Dj.2, cH.F.kp⟩, ⟨Dv.1, Dv.2, iW.F.kp⟩, ⟨Dw.1, Dw.2, iX.F.kp⟩, cI, lI, jk, oa, og, ⟨CP.1, CP.2, bT.F.kp⟩, ⟨C3.1, C3.2, cc.F.kp⟩, ⟨wA, Dx.1, Dx.2, O8⟩, ⟨De.1, De.2, cP.F.kp⟩, ⟨Dk.1, Dk.2, cH.F.kp⟩, ⟨Dy.1, Dy.2, iY.F.kp⟩, ⟨Dz.1, Dz.2, iZ.F.kp⟩, dN, qq, oh, qr, ⟨CQ.1, CQ.2, bT.F.kp⟩, ⟨C4.1, C4.2, cc.F.kp⟩, ⟨wB, DA.1, DA.2, O9⟩, ⟨Df.1, Df.2, cP.F.kp⟩, ⟨Dl.1, Dl.2, cH.F.kp⟩, ⟨DC.1, DC.2, i0.F.kp⟩, ⟨DD.1, DD.2, i3.F.kp⟩, ⟨DB.1, DB.2, ie.F.kp⟩, eF, lJ, ⟨CS.1, CS.2, bT.F.kp⟩, ⟨C5.1, C5.2, cc.F.kp⟩, ⟨wC, DE.1, DE.2, Pb⟩, ⟨DF.1, DF.2, i4.F.kp⟩, ⟨DH.1, DH.2, i5.F.kp⟩, ⟨DI.1, DI.2, i6.F.kp⟩, ⟨DG.1, DG.2, ig.F.kp⟩, BN, BO, BP, ⟨CT.1, CT.2, bT.F.kp⟩, ⟨C6.1, C6.2, cc.F.kp⟩, ⟨BQ, DJ.1, DJ.2, Pc⟩, ⟨DM.1, DM.2, eU.F.kp⟩, dO, kf, kg, ⟨CU.1, CU.2, bT.F.kp⟩, ⟨DR.1, DR.2, i9.F.kp⟩, ⟨wD, DK.1, DK.2, Pd⟩, ⟨DN.1, DN.2, eU.F.kp⟩, ⟨DP.1, DP.2, i7.F.kp⟩, ⟨DQ.1, DQ.2, i8.F.kp⟩, dP, kh, ki, ⟨CV.1, CV.2, bT.F.kp⟩, ⟨DU.1, DU.2, jc.F.kp⟩, ⟨wF, DL.1, DL.2, Pe⟩, ⟨DO.1, DO.2, eU.F.kp⟩, ⟨DS.1, DS.2, ja.F.kp⟩, ⟨DT.1, DT.2, jb.F.kp⟩, eW, kj, ⟨CW.1, CW.2, bT.F.kp⟩, ⟨DZ.1, DZ.2, jg.F.kp⟩, ⟨wG, DV.1, DV.2, Pf⟩, ⟨DW.1, DW.2, jd.F.kp⟩, ⟨DX.1, DX.2, je.F.kp⟩, ⟨DY.1, DY.2, jf.F.kp⟩, ⟨Pg, Ph, PK, eT.F.kp⟩, lK, km, wH, Pj, Pk, Pl, Pm, Pn, Po, Pp, Pq, Pr, wI, wJ, wK, wL, wM, wN, wO, wQ, wR, wU, wV, wW, wX, wY, wZ, w4, w5, w6, fW, fX, ⟨_, PySem.W.mg_of X G Pt⟩, ⟨_, PySem.W.mg_of X G Pu⟩, ⟨_, PySem.W.mg_of X G Pw⟩, ⟨_, PySem.W.mg_of X G Px⟩, ⟨_, PySem.W.mg_of X G Py⟩, ⟨_, PySem.W.mg_of X G Pz⟩, hforms⟩ : Tx w K mg)⟩
theorem walk {l : PySem.W.OpenLaw} {q : Program} {loose : List Str} {XP : (Str -> Option Value) -> Heap -> Prop} {YP : World -> Heap -> Prop} {d : DefRec} {K : Params -> PySem.W.Frag} (hn : l.most = some 63) (PL : d.params.defaults = [])
 (hY : ∀ (w : World) (h : Heap), YP w h -> (K w.params).In h)
 (F : ∀ (w : World) (mg : Str -> Option Value) (fa : Addr) (h : Heap), (K w.params).In h -> h.Ns mainGlobals mg -> mg d.name = some (.ref fa) ->
   ∃ fd : FuncData, (∀ (s : Shared) (u : Value), BindsTo s fd ⟨[u], []⟩ [("_law_script", u)]) /\ ∀ base : Heap, (K w.params).In base -> base.Ns mainGlobals mg -> bW l.prog w (K w.params) mg base (cL l.prog w) 144 fa fd ["_law_script"] (qH (K w.params))) :
 PySem.W.WalkO q loose XP YP l.row.toRowW d [] (fun f vs => PySem.call f vs) :=
 Gz.HC (k := 144) (x := "_law_script") (CX := fun w => cL l.prog w) (sp := fun w => qH (K w.params)) hn PL ⟨rfl, by decide, by decide⟩ hY F (fun _ _ a ns hl hS => ⟨a, ns, rfl, hS, hl, fun _ => rfl⟩) fun _ _ _ _ _ z => Gx z
end qh
local macro_rules | `(tactic| walk_at "gzin") => `(tactic| first | (show _ = _; k_is) | (refine' And.intro ?y7 ?y8; (case y7 => walk_at "gzin"); (case y8 => walk_at "gzin")))
local macro_rules | `(tactic| walk_at "gzfb") => `(tactic| (refine' Gz.Fb.mk ?y1 ?y2 ?y3 ?y4; (case y1 => first | (show _ = _; k_is) | (refine' ⟨?y5, ?y6⟩; (case y5 => k_is); (case y6 => k_is))); (case y2 => k_is); (case y3 => k_is); (case y4 => k_is)))
local macro_rules | `(tactic| walk_at "gzfi") => `(tactic| (refine' Gz.Fb.mk ?y1 ?y2 ?y3 ?y4; (case y1 => walk_at "gzin"); (case y2 => k_is); (case y3 => k_is); (case y4 => k_is)))
local macro_rules | `(tactic| walk_at "gzcl") => `(tactic| (refine' L2.bc.mk ?_ ?_ ?_ ?_ <;> k_is))
local macro_rules | `(tactic| walk_at "gzxc") => `(tactic| (refine' Gz.XC.mk ?y1 ?y2 ?y3 ?y4 ?y5 ?y6; (case y1 => k_exc); (case y2 => k_is); (case y3 => k_is); (case y4 => k_is); (case y5 => k_is); (case y6 => k_is)))
namespace PySem.W.Fast
theorem tw9288297364793515780:True:=⟨⟩
theorem tw528178701262786925:True:=⟨⟩
theorem tw17721838910079763488:True:=⟨⟩
theorem tw331136542251451242:True:=⟨⟩
theorem tw7774550621469605617:True:=⟨⟩
theorem tw11376149328268562776:True:=⟨⟩
theorem tw9600744950797382139:True:=⟨⟩
theorem tw15179450576322291082:True:=⟨⟩
theorem tw3563327278743913507:True:=⟨⟩
theorem tw3691840099597170073:True:=⟨⟩
theorem tw10100716407813186535:True:=⟨⟩
theorem tw7110884986835453468:True:=⟨⟩
theorem tw12424061327716479319:True:=⟨⟩
theorem tw2791272967515740760:True:=⟨⟩
theorem tw4174780692122406755:True:=⟨⟩
theorem tw3051024284124318537:True:=⟨⟩
theorem tw14479177504643329203:True:=⟨⟩
theorem tw11126959147170296609:True:=⟨⟩
theorem tw10459573408491358808:True:=⟨⟩
theorem tw16556640681783827359:True:=⟨⟩
theorem tw16481647490284928153:True:=⟨⟩
theorem tw6970713065356109964:True:=⟨⟩
theorem tw15511819859974815429:True:=⟨⟩
theorem tw4251264582578260325:True:=⟨⟩
theorem tw15339204645598701986:True:=⟨⟩
theorem tw15078777282590259126:True:=⟨⟩
theorem tw17768504140887002375:True:=⟨⟩
theorem tw16126912529330018934:True:=⟨⟩
theorem tw14228062171519428216:True:=⟨⟩
theorem tw9638492649034869004:True:=⟨⟩
theorem tw12799473924713218244:True:=⟨⟩
theorem tw6883787008262209038:True:=⟨⟩
theorem tw7169857167183899951:True:=⟨⟩
theorem tw14931408819851506448:True:=⟨⟩
theorem tw12575245602489707127:True:=⟨⟩
theorem tw6421979302251879950:True:=⟨⟩
theorem tw10647598127224352970:True:=⟨⟩
theorem tw16219430498664762074:True:=⟨⟩
theorem tw7561519777447567552:True:=⟨⟩
theorem tw11427942314807757530:True:=⟨⟩
theorem tw8633622158534520194:True:=⟨⟩
theorem tw13688571365254515369:True:=⟨⟩
theorem tw667898427183044027:True:=⟨⟩
theorem tw17306129476712693140:True:=⟨⟩
theorem tw1979288060406473300:True:=⟨⟩
theorem tw6521188241207781865:True:=⟨⟩
theorem tw15589878099719083029:True:=⟨⟩
theorem tw15716794116696725973:True:=⟨⟩
theorem tw16816781054192316902:True:=⟨⟩
theorem tw3773507204527786489:True:=⟨⟩
theorem tw4708321257087719942:True:=⟨⟩
theorem tw2497282009373419969:True:=⟨⟩
theorem tw10505356922877871568:True:=⟨⟩
theorem tw3530630687739582402:True:=⟨⟩
theorem tw9965678068888004875:True:=⟨⟩
theorem tw8189164381054205184:True:=⟨⟩
theorem tw16237502094635243046:True:=⟨⟩
theorem tw16615450942822104714:True:=⟨⟩
theorem tw11926249308383672653:True:=⟨⟩
theorem tw5479531163668939930:True:=⟨⟩
end PySem.W.Fast
open PySem PySem.W PyProof.Rows
set_option maxRecDepth 100000 in
set_option maxHeartbeats 0 in
theorem PySem.Challenge.cw_gaze_k70_rules_read_holds : PySem.Challenge.rw_gaze_k70_rules_read.Holds := by
 w_on; o_law; k_head; (case hw => w_witness2)
 k_fill
 refine qh.walk (l := PySem.Challenge.rw_gaze_k70_rules_read) rfl rfl (fun w h Y => PySem.W.kIn_of Y) ?F
 case F =>
  intro w mg fa h KX G PM
  refine' qh.Ou KX G PM ?_ ?_ ?_ ?_ ?_ ?_ ?_ ?_ ?_ ?_ ?_ ?_ ?_ ?_ ?_ ?_ ?_ ?_ ?_ ?_ ?_ ?_ ?_ ?_ ?_ ?_ ?_ ?_ ?_ ?_ ?_ ?_ ?_ ?_ ?_ ?_ ?_ ?_ ?_ ?_ ?_ ?_ ?_ ?_ ?_ ?_ ?_ ?_ ?_ ?_ ?_ ?_ ?_ ?_ ?_ ?_ ?_ ?_ ?_ ?_ ?_ ?_ ?_ ?_ ?_ ?_ ?_ ?_ ?_ ?_ ?_ ?_ ?_ ?_ ?_ ?_ ?_ ?_ ?_ ?_ ?_ ?_ ?_ ?_ ?_ ?_ ?_ ?_ ?_ ?_ ?_ ?_ ?_ ?_ ?_ ?_ ?_ ?_ ?_ ?_ ?_ ?_ ?_ ?_ ?_ ?_ ?_ ?_ ?_ ?_ ?_ ?_ ?_ ?_ ?_ ?_ ?_ ?_ ?_ ?_ ?_ ?_ ?_ ?_ ?_ ?_ ?_ ?_ ?_ ?_ ?_ ?_ ?_ ?_ ?_ ?_ ?_ ?_ ?_ ?_ ?_ ?_ ?_ ?_ ?_ ?_ ?_ ?_ ?_ ?_ ?_ ?_ ?_ ?_ ?_ ?_ ?_ ?_ ?_ ?_ ?_ ?_ ?_ ?_ ?_ ?_ ?_ ?_ ?_ ?_ ?_ ?_ ?_ ?_ ?_ ?_ ?_ ?_ ?_ ?_ ?_ ?_ ?_ ?_ ?_ ?_ ?_ ?_ ?_ ?_ ?_ ?_ ?_ ?_ ?_ ?_ ?_ ?_ ?_ ?_ ?_ ?_ ?_
  rotate_left 25
  iterate 16 k_is
  iterate 13 walk_at "gzfb"
  iterate 5 walk_at "gzfi"
  iterate 21 walk_at "gzfb"
  iterate 2 walk_at "gzfi"
  iterate 29 walk_at "gzfb"
  iterate 12 k_is
  iterate 2 walk_at "gzcl"
  iterate 4 k_is
  walk_at "gzcl"
  iterate 5 k_is
  walk_at "gzcl"
  iterate 5 k_is
  walk_at "gzcl"
  iterate 5 k_is
  walk_at "gzcl"
  iterate 6 k_is
  walk_at "gzcl"
  iterate 5 k_is
  walk_at "gzcl"
  iterate 3 k_is
  walk_at "gzcl"
  iterate 4 k_is
  walk_at "gzcl"
  iterate 4 k_is
  walk_at "gzcl"
  iterate 4 k_is
  walk_at "gzcl"
  iterate 5 k_is
  iterate 3 walk_at "gzxc"
  iterate 9 kit_is
  iterate 27 k_is
  rfl
  k_is
  exact qh.FO.mk ..
  rfl
#print axioms PySem.Challenge.cw_gaze_k70_rules_read_holds
