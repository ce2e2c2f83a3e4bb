import PyProof.Rows.All
import Wide.All
import OpenK.AllK
import Wide.FinOn
import Lean
import PyProof.EqAt
import PyProof.EqKinds
import PyProof.TupleCall
import KE.KSortAsk
import KE.KSortTup
import KE.KRevIter
import KE.LcSums
import KE.KDictSum
import KE.KDictList
import PyProof.AttrMissHeap
import PySem.Challenge.RW_gaze_k71_rules_shown
set_option Elab.async false
set_option linter.all false
set_option maxRecDepth 100000
set_option maxHeartbeats 4000000
set_option exponentiation.threshold 2000
namespace L2
open PySem PySem.Spec PyProof.Rows
abbrev Key := Sum Int Str
noncomputable def jH : Key -> Value -> Bool
 | .inl k, v => Value.isInt k v
 | .inr x, v => Value.isStrOf x v
noncomputable def BZ (w : World) : Key -> Int
 | .inl k => hashInt k
 | .inr x => hashStr w x
theorem fT : ∀ {k : Key} {v : Value}, jH k v = true -> (∃ i t, k = Sum.inl i /\ v = Value.int i t) ∨ (∃ x t, k = Sum.inr x /\ v = Value.str x t)
 | .inl i, v, h => by
  obtain ⟨t, e⟩ := Value.isInt_shape (k := i) (v := v) h
  exact .inl ⟨i, t, rfl, e⟩
 | .inr x, v, h => by
  obtain ⟨t, e⟩ := Value.isStrOf_shape (x := x) (v := v) h
  exact .inr ⟨x, t, rfl, e⟩
theorem B0 (i : Int) (t : Tok) : jH (.inl i) (.int i t) = true := by simp [jH, Value.isInt]
theorem vo (x : Str) (t : Tok) : jH (.inr x) (.str x t) = true := by simp [jH, Value.isStrOf]
theorem B1 (a b : Int) : decide ((Sum.inl a : Key) = Sum.inl b) = (a == b) := by
 by_cases e : a = b
 ·subst e; simp
 ·have h : ¬ (Sum.inl a : Key) = Sum.inl b := fun q => e (Sum.inl.inj q)
  rw [decide_eq_false h]
  exact (beq_eq_false_iff_ne.mpr e).symm
theorem B2 (a b : Str) : decide ((Sum.inr a : Key) = Sum.inr b) = decide (a = b) := by
 by_cases e : a = b
 ·subst e; simp
 ·have h : ¬ (Sum.inr a : Key) = Sum.inr b := fun q => e (Sum.inr.inj q)
  rw [decide_eq_false h, decide_eq_false e]
theorem B3 (a : Int) (b : Str) : decide ((Sum.inl a : Key) = Sum.inr b) = false := decide_eq_false (fun q => nomatch q)
theorem B4 (a : Str) (b : Int) : decide ((Sum.inr a : Key) = Sum.inl b) = false := decide_eq_false (fun q => nomatch q)
noncomputable def gy (prog : Program) (w : World) : PySem.KeyKind prog w Key where
 is := jH
 hash := BZ w
 inj := fun v a b ha hb => by
  rcases fT ha with ⟨i, t, rfl, rfl⟩ | ⟨x, t, rfl, rfl⟩
  ·rcases fT hb with ⟨j, u, rfl, e⟩ | ⟨y, u, rfl, e⟩
   ·injection e with e1 _; rw [e1]
   ·exact nomatch e
  ·rcases fT hb with ⟨j, u, rfl, e⟩ | ⟨y, u, rfl, e⟩
   ·exact nomatch e
   ·injection e with e1 _; rw [e1]
 byValue := fun k v h => by
  rcases fT h with ⟨i, t, rfl, rfl⟩ | ⟨x, t, rfl, rfl⟩ <;> rfl
 pyHash := fun hv h => by
  rcases fT hv with ⟨i, t, rfl, rfl⟩ | ⟨x, t, rfl, rfl⟩
  ·exact wpAny_pyHash_int h
  ·exact wpAny_pyHash_str h
 eqBool := fun hu hv h => by
  rcases fT hu with ⟨i, t, rfl, rfl⟩ | ⟨x, t, rfl, rfl⟩
  ·rcases fT hv with ⟨j, u, rfl, rfl⟩ | ⟨y, u, rfl, rfl⟩
   ·rw [B1] at h; exact wpAny_eqBool_int h
   ·rw [B3] at h; exact SeqAt.EqAt.int_str i t y u _ _ _ _ h
  ·rcases fT hv with ⟨j, u, rfl, rfl⟩ | ⟨y, u, rfl, rfl⟩
   ·rw [B4] at h; exact SeqAt.EqAt.str_int x t j u _ _ _ _ h
   ·rw [B2] at h; exact wpAny_eqBool_str h
 «strs» := fun k x t v h => by
  rcases fT h with ⟨i, u, rfl, e⟩ | ⟨y, u, rfl, e⟩
  ·exact nomatch e
  ·injection e with e1 _
   subst e1
   cases v <;> rfl
theorem B5 (prog : Program) (w : World) (i : Int) (t : Tok) : (gy prog w).is (.inl i) (.int i t) = true := B0 i t
theorem B6 (prog : Program) (w : World) (x : Str) (t : Tok) : (gy prog w).is (.inr x) (.str x t) = true := vo x t
end L2
namespace L2
open PySem PySem.Spec PyProof.Rows
inductive V where
 | non | bl (b : Bool) | int (i : Int) | str (x : Str) | byt (b : Array UInt8) | flt (b : UInt64) | ref (a : Addr) | ty (n : String)
 deriving DecidableEq
def RelV : V -> Value -> Prop
 | .non, u => u = Value.none
 | .bl b, u => u = Value.bool b
 | .int i, u => ∃ t, u = Value.int i t
 | .str x, u => ∃ t, u = Value.str x t
 | .byt b, u => ∃ t, u = Value.bytes b t
 | .flt b, u => ∃ t, u = Value.float b t
 | .ref a, u => u = Value.ref a
 | .ty n, u => u = Value.type n
abbrev Vals : List V -> List Value -> Prop := Paired RelV
theorem Vals.length {xs : List V} {us : List Value} (r : Vals xs us) : xs.length = us.length := Paired.length r
theorem Vals.get : ∀ {xs : List V} {us : List Value} {i : Nat} {x : V}, Vals xs us -> xs[i]? = some x -> ∃ u, us[i]? = some u /\ RelV x u
 | _, _, _, _, .nil, e => by simp at e
 | _, _, 0, _, .cons r _, e => by simp at e; subst e; exact ⟨_, rfl, r⟩
 | _, _, i + 1, x, .cons _ t, e => by
  obtain ⟨u, h1, h2⟩ := Vals.get (i := i) (x := x) t (by simpa using e)
  exact ⟨u, by simpa using h1, h2⟩
theorem Vals.set {x : V} {u : Value} (r : RelV x u) : ∀ {xs : List V} {us : List Value} (i : Nat), Vals xs us -> Vals (xs.set i x) (us.set i u)
 | _, _, _, .nil => .nil
 | _, _, 0, .cons _ t => .cons r t
 | _, _, i + 1, .cons q t => .cons q (Vals.set r i t)
theorem Vals.append : ∀ {xs ys : List V} {us ws : List Value}, Vals xs us -> Vals ys ws -> Vals (xs ++ ys) (us ++ ws)
 | _, _, _, _, .nil, s => s
 | _, _, _, _, .cons r t, s => .cons r (Vals.append t s)
theorem Vals.take : ∀ {xs : List V} {us : List Value} (n : Nat), Vals xs us -> Vals (xs.take n) (us.take n)
 | _, _, 0, _ => .nil
 | _, _, _ + 1, .nil => .nil
 | _, _, n + 1, .cons r t => .cons r (Vals.take n t)
theorem Vals.drop : ∀ {xs : List V} {us : List Value} (n : Nat), Vals xs us -> Vals (xs.drop n) (us.drop n)
 | _, _, 0, r => r
 | _, _, _ + 1, .nil => .nil
 | _, _, n + 1, .cons _ t => Vals.drop n t
def c7 : Option V -> Option Value -> Prop
 | some v, some u => RelV v u
 | none, none => True
 | _, _ => False
def KV {κ : Type} : List (κ × V) -> List (κ × Value) -> Prop := Paired fun (p : κ × V) (q : κ × Value) => p.1 = q.1 /\ RelV p.2 q.2
noncomputable def kV : Key -> V
 | .inl i => .int i
 | .inr x => .str x
inductive HO where
 | lst (xs : List V)
 | tup (xs : List V)
 | dK (kvs : List (Key × V)) | dT (kvs : List (List Key × V))
 | set (S : Int -> Bool) (n : Nat)
 | ins (C dx : Addr) (fs : List (Str × V))
 | own (x : Addr)
 | xd (fs : List (Str × V))
 | met (f x : Addr)
 | gA (lo hi : Int)
 | cP (o : Obj) (u : HO)
 | tbl (ps : Array Value)
 | ext (φ : Heap -> Prop)
abbrev Hp := Addr -> Option HO
noncomputable def upd (H : Hp) (a : Addr) (o : HO) : Hp := fun b => if b = a then some o else H b
theorem ah {H : Hp} {a : Addr} {o : HO} : upd H a o a = some o := by unfold upd; rw [if_pos rfl]
theorem aG {H : Hp} {a b : Addr} {o : HO} (h : b ≠ a) : upd H a o b = H b := by unfold upd; rw [if_neg h]
theorem iI {H : Hp} {a : Addr} {o u : HO} : upd (upd H a o) a u = upd H a u := by
 funext b; unfold upd; split <;> rfl
theorem kZ {H : Hp} {a b : Addr} {o u : HO} (h : H a = some o) (h' : H b = some u) (d : o ≠ u) : a ≠ b := by
 intro e; subst e; rw [h] at h'; exact d (Option.some.inj h')
theorem gB {H : Hp} {a b : Addr} {o : HO} (h : H a = some o) (h' : H b = none) : a ≠ b := by
 intro e; subst e; rw [h] at h'; cases h'
section
variable (P : Program) (w : World)
def cw (H : Hp) (h : Heap) (a : Addr) : HO -> Prop
 | .lst xs => xs.length <= sizeLine /\ ∃ (aj : List Value) (n : Nat), Vals xs aj /\ h.get? a = some { cls := .type "list", data := .seq aj.toArray n }
 | .tup xs => xs.length <= sizeLine /\ ∃ aj : List Value, Vals xs aj /\ IsTup h a aj.toArray
 | .dK kvs => kvs.length <= sizeLine /\ (a == sysModules) = false /\ ∃ vs, KV kvs vs /\ h.DictOf (gy P w) a vs
 | .dT kvs => kvs.length <= sizeLine /\ (a == sysModules) = false /\ ∃ xs : List (List Key × Addr × Value),
  Paired (fun (p : List Key × V) (q : List Key × Addr × Value) => p.1 = q.1 /\ H q.2.1 = some (.tup (p.1.map kV)) /\ RelV p.2 q.2.2) kvs xs /\
  ∃ o es ep, h.get? a = some o /\ o.ExactDict /\ o.data = .dict es ep /\ es.toList = xs.map (entryOfKey (tupleKind (gy P w))) /\ (xs.map (·.1)).Nodup
 | .set S n => h.SetOf (intKind P w) a S n
 | .ins C dx fs => H dx = some (.own a) /\ fs.length <= 1000 /\ dx ≠ a /\ h.get? a = some (PySem.W.instObj C dx) /\
  ∃ mA, h.Ns1 dx mA /\ (∀ f, c7 (fs.lookup f) (mA f)) /\ PySem.Within mA (fs.map (·.1))
 | .own _ => ∃ o, h.get? a = some o
 | .xd fs => ∃ mA, h.Ns1 a mA /\ ∀ f, c7 (fs.lookup f) (mA f)
 | .gA lo hi => ∃ t u v, h.get? a = some { cls := .type "range", data := .fields #[.int lo t, .int hi u, .int 1 v] }
 | .cP o u => h.get? a = some o /\ cw H h a u
 | .tbl ps => h.get? a = some { cls := .none, data := .fields ps }
 | .met f x => h.get? a = some (PySem.W.methodObj (.ref f) (.ref x))
 | .ext φ => φ h /\ (∃ o, h.get? a = some o) /\ ∀ h1 h2 : Heap, φ h1 -> (∀ o, h1.get? a = some o -> h2.get? a = some o) -> φ h2
def b9 (H : Hp) (h : Heap) : Prop := ∀ a o, H a = some o -> cw P w H h a o
end
section
variable {P : Program} {w : World} {H H' : Hp} {h h' : Heap} {a : Addr} {o : HO}
theorem cw.lt (x : cw P w H h a o) : a < h.objs.size := by
 cases o with
 | lst xs => obtain ⟨_, _, _, _, e⟩ := x; exact Heap.lt_size e
 | tup xs => obtain ⟨_, _, _, p⟩ := x; exact p.lt
 | dK kvs => obtain ⟨_, _, _, _, o, _, _, e, _⟩ := x; exact Heap.lt_size e
 | dT kvs => obtain ⟨_, _, _, _, o, _, _, e, _⟩ := x; exact Heap.lt_size e
 | set S n => obtain ⟨o, _, _, _, e, _⟩ := x; exact Heap.lt_size e
 | ins C dx fs => obtain ⟨_, _, _, e, _⟩ := x; exact Heap.lt_size e
 | own y => obtain ⟨_, e⟩ := x; exact Heap.lt_size e
 | xd fs => obtain ⟨_, ⟨_, _, _, e, _⟩, _⟩ := x; exact Heap.lt_size e
 | gA lo hi => obtain ⟨_, _, _, e⟩ := x; exact Heap.lt_size e
 | cP ob u => obtain ⟨e, _⟩ := x; exact Heap.lt_size e
 | tbl ps => exact Heap.lt_size (show h.get? a = some _ from x)
 | met f y => exact Heap.lt_size (show h.get? a = some _ from x)
 | ext φ => obtain ⟨_, ⟨_, e⟩, _⟩ := x; exact Heap.lt_size e
theorem Paired.vp {α β : Type} {F G : α -> β -> Prop} : ∀ {l₁ : List α} {l₂ : List β}, Paired F l₁ l₂ -> (∀ a b, F a b -> G a b) -> Paired G l₁ l₂
 | _, _, .nil, _ => .nil
 | _, _, .cons r t, f => .cons (f _ _ r) (Paired.vp t f)
theorem cw.stay (x : cw P w H h a o) (k : ∀ b u, (b = a ∨ H b = some (.own a)) -> h.get? b = some u -> h'.get? b = some u)
 (ho : ∀ b, H b = some (.own a) -> H' b = some (.own a)) (ht : ∀ b xs, H b = some (.tup xs) -> H' b = some (.tup xs)) : cw P w H' h' a o := by
 induction o with
 | lst xs => obtain ⟨z, aj, n, r, e⟩ := x; exact ⟨z, aj, n, r, k _ _ (.inl rfl) e⟩
 | tup xs => obtain ⟨z, aj, r, ob, e, c⟩ := x; exact ⟨z, aj, r, ob, k _ _ (.inl rfl) e, c⟩
 | dK kvs => obtain ⟨z, y, vs, r, ob, es, ep, e, c⟩ := x; exact ⟨z, y, vs, r, ob, es, ep, k _ _ (.inl rfl) e, c⟩
 | dT kvs =>
  obtain ⟨z, y, xs, r, ob, es, ep, e, c⟩ := x
  exact ⟨z, y, xs, Paired.vp r fun p q z => ⟨z.1, ht _ _ z.2.1, z.2.2⟩, ob, es, ep, k _ _ (.inl rfl) e, c⟩
 | set S n => obtain ⟨ob, es, ep, t, e, c⟩ := x; exact ⟨ob, es, ep, t, k _ _ (.inl rfl) e, c⟩
 | ins C dx fs =>
  obtain ⟨d, z, ne, e, mA, ⟨od, es, ep, e2, c⟩, r⟩ := x
  exact ⟨ho _ d, z, ne, k _ _ (.inl rfl) e, mA, ⟨od, es, ep, k _ _ (.inr d) e2, c⟩, r⟩
 | own y => obtain ⟨ob, e⟩ := x; exact ⟨ob, k _ _ (.inl rfl) e⟩
 | xd fs => obtain ⟨mA, ⟨od, es, ep, e, c⟩, r⟩ := x; exact ⟨mA, ⟨od, es, ep, k _ _ (.inl rfl) e, c⟩, r⟩
 | gA lo hi => obtain ⟨t, u, v, e⟩ := x; exact ⟨t, u, v, k _ _ (.inl rfl) e⟩
 | cP ob u ih => obtain ⟨e, q⟩ := x; exact ⟨k _ _ (.inl rfl) e, ih q⟩
 | tbl ps =>
  have e : h.get? a = some { cls := .none, data := .fields ps } := x
  show h'.get? a = some { cls := .none, data := .fields ps }
  exact k a _ (.inl rfl) e
 | met f y =>
  have e : h.get? a = some (PySem.W.methodObj (.ref f) (.ref y)) := x
  show h'.get? a = some (PySem.W.methodObj (.ref f) (.ref y))
  exact k a _ (.inl rfl) e
 | ext φ => obtain ⟨p, ⟨o, e⟩, st⟩ := x; exact ⟨st _ _ p fun o q => k _ _ (.inl rfl) q, ⟨o, k _ _ (.inl rfl) e⟩, st⟩
theorem b9.lt (x : b9 P w H h) (e : H a = some o) : a < h.objs.size := (x a o e).lt
theorem b9.fresh (x : b9 P w H h) (e : h.objs.size <= a) : H a = none := by
 cases q : H a with
 | none => rfl
 | some u => exact absurd (Nat.lt_of_lt_of_le (x.lt q) e) (Nat.lt_irrefl _)
theorem b9.kept (x : b9 P w H h) (k : ∀ b u, h.get? b = some u -> h'.get? b = some u) : b9 P w H h' := fun a o e =>
 (x a o e).stay (fun b u _ q => k b u q) (fun _ q => q) fun _ _ q => q
theorem b9.laid (x : b9 P w H h) (k : ∀ b u, h.get? b = some u -> h'.get? b = some u) (hp : h.objs.size <= a) (new : cw P w (upd H a o) h' a o) : b9 P w (upd H a o) h' := fun b u e => by
 have hn := x.fresh hp
 by_cases hb : b = a
 ·subst hb; rw [ah] at e; cases e; exact new
 ·rw [aG hb] at e
  exact (x b u e).stay (fun c v _ q => k c v q) (fun c q => by rw [aG (gB q hn)]; exact q) fun c xs q => by rw [aG (gB q hn)]; exact q
end
def Rd (H : Hp) (a : Addr) (u : HO) : Prop := H a = some u ∨ ∃ o, H a = some (.cP o u)
theorem Rd.of {H : Hp} {a : Addr} {u : HO} (h : H a = some u) : Rd H a u := .inl h
theorem Rd.ok {P : Program} {w : World} {H : Hp} {h : Heap} {a : Addr} {u : HO} (r : Rd H a u) (x : b9 P w H h) : cw P w H h a u := by
 rcases r with r | ⟨o, r⟩
 ·exact x a u r
 ·obtain ⟨_, q⟩ := x a _ r
  exact q
def ni : Option HO -> Prop
 | some (.lst _) => True
 | some (.dK _) => True
 | some (.dT _) => True
 | some (.set _ _) => True
 | some (.ins _ _ _) => True
 | some (.ext _) => True
 | _ => False
section
variable {P : Program} {w : World} {H : Hp} {h h' : Heap} {x e : Addr} {o' : HO}
theorem b9.write (ok : b9 P w H h) (mu : ni (H x)) (he : e = x ∨ H e = some (.own x)) (k : ∀ b u, b ≠ e -> h.get? b = some u -> h'.get? b = some u) (jI : ∃ u, h'.get? e = some u)
 (new : cw P w (upd H x o') h' x o') : b9 P w (upd H x o') h' := fun b u q => by
 have vq : ∀ c y, H c = some (.own y) -> c ≠ x := fun c y r z => by subst z; rw [r] at mu; exact mu
 have B7 : ∀ c xs, H c = some (.tup xs) -> c ≠ x := fun c xs r z => by subst z; rw [r] at mu; exact mu
 by_cases hb : b = x
 ·subst hb; rw [ah] at q; cases q; exact new
 ·rw [aG hb] at q
  by_cases hbe : b = e
  ·have q' : H b = some (.own x) := by
    rcases he with z | z
    ·exact absurd (hbe.trans z) hb
    ·rw [hbe]; exact z
   rw [q] at q'; cases q'
   obtain ⟨v, hv⟩ := jI
   exact ⟨v, by rw [hbe]; exact hv⟩
  ·refine (ok b u q).stay (fun c v hc r => k c v ?_ r) (fun c r => by rw [aG (vq c b r)]; exact r) fun c xs r => by rw [aG (B7 c xs r)]; exact r
   rcases hc with rfl | hc
   ·exact hbe
   ·rintro rfl
    rcases he with z | z
    ·exact vq c b hc z
    ·rw [hc] at z; cases z; exact hb rfl
end
structure Un (fs ex : List Addr) (H H' : Hp) (h h' : Heap) : Prop where
 keep : ∀ b o, h.get? b = some o -> H b = none -> b ∉ fs -> b ∉ ex -> h'.get? b = some o
 slot : ∀ b o, h.get? b = some o -> H b = none -> b ∈ fs -> b ∉ ex -> ∃ sl, h'.get? b = some { o with slots := sl }
 free : ∀ b o, h.get? b = some o -> H b = none -> b ∉ ex -> H' b = none
 there : ∀ b o, h.get? b = some o -> b ∉ ex -> ∃ o', h'.get? b = some o'
 c8 : ∀ b xs, H b = some (.tup xs) -> H' b = some (.tup xs)
 di : ∀ b o u, H b = some (.cP o u) -> H' b = some (.cP o u)
 dB : ∀ b ps, H b = some (.tbl ps) -> ∃ more, H' b = some (.tbl (ps ++ more))
section
variable {fs B8 ex MQ : List Addr} {H H1 H2 : Hp} {h h1 h2 h' : Heap} {a x e : Addr} {o : HO}
theorem Un.any (u : Un fs ex H H1 h h1) {b : Addr} {ob : Obj} (q : h.get? b = some ob) (n : H b = none) (hx : b ∉ ex) : ∃ sl, h1.get? b = some { ob with slots := sl } := by
 by_cases hb : b ∈ fs
 ·exact u.slot b ob q n hb hx
 ·exact ⟨ob.slots, u.keep b ob q n hb hx⟩
theorem Un.trans (a : Un fs ex H H1 h h1) (b : Un fs ex H1 H2 h1 h2) : Un fs ex H H2 h h2 where
 keep := fun c ob q n hc hx => b.keep c ob (a.keep c ob q n hc hx) (a.free c ob q n hx) hc hx
 slot := fun c ob q n hc hx => by
  obtain ⟨sl, e1⟩ := a.slot c ob q n hc hx
  obtain ⟨fU, e2⟩ := b.slot c _ e1 (a.free c ob q n hx) hc hx
  exact ⟨fU, e2⟩
 free := fun c ob q n hx => by
  obtain ⟨o', e1⟩ := a.there c ob q hx
  exact b.free c o' e1 (a.free c ob q n hx) hx
 there := fun c ob q hx => by
  obtain ⟨o', e1⟩ := a.there c ob q hx
  exact b.there c o' e1 hx
 c8 := fun c xs q => b.c8 c xs (a.c8 c xs q)
 di := fun c ob xs q => b.di c ob xs (a.di c ob xs q)
 dB := fun c ps q => by
  obtain ⟨m1, e1⟩ := a.dB c ps q
  obtain ⟨m2, e2⟩ := b.dB c _ e1
  exact ⟨m1 ++ m2, by rw [e2, Array.append_assoc]⟩
theorem Un.kept (k : ∀ b u, h.get? b = some u -> h'.get? b = some u) : Un fs ex H H h h' :=
 ⟨fun b ob q _ _ _ => k b ob q, fun b ob q _ _ _ => ⟨ob.slots, k b ob q⟩, fun _ _ _ n _ => n, fun b ob q _ => ⟨ob, k b ob q⟩, fun _ _ q => q, fun _ _ _ q => q, fun _ ps q => ⟨#[], by rw [q]; simp⟩⟩
theorem Un.refl : Un fs ex H H h h := Un.kept fun _ _ q => q
theorem Un.laid (k : ∀ b u, h.get? b = some u -> h'.get? b = some u) (hp : h.objs.size <= a) (hn : H a = none) : Un fs ex H (upd H a o) h h' where
 keep := fun b u q _ _ _ => k b u q
 slot := fun b u q _ _ _ => ⟨u.slots, k b u q⟩
 free := fun b u q n _ => by rw [aG (Nat.ne_of_lt (Nat.lt_of_lt_of_le (Heap.lt_size q) hp))]; exact n
 there := fun b u q _ => ⟨u, k b u q⟩
 c8 := fun b xs q => by rw [aG (gB q hn)]; exact q
 di := fun b u xs q => by rw [aG (gB q hn)]; exact q
 dB := fun b ps q => ⟨#[], by rw [aG (gB q hn), q]; simp⟩
theorem Un.write (mu : ni (H x)) (he : e = x ∨ H e = some (.own x)) (k : ∀ b u, b ≠ e -> h.get? b = some u -> h'.get? b = some u) (jI : ∃ u, h'.get? e = some u) : Un fs ex H (upd H x o) h h' := by
 have hx : ∀ b, H b = none -> b ≠ x := fun b n z => by subst z; rw [n] at mu; exact mu
 have hb : ∀ b, H b = none -> b ≠ e := fun b n z => by
  subst z
  rcases he with r | r
  ·exact hx b n r
  ·rw [n] at r; cases r
 have hm : ∀ b u, H b = some u -> ¬ ni (some u) -> b ≠ x := fun b u q nm z => by subst z; rw [q] at mu; exact nm mu
 refine ⟨fun b u q n _ _ => k b u (hb b n) q, fun b u q n _ _ => ⟨u.slots, k b u (hb b n) q⟩, fun b u q n _ => by rw [aG (hx b n)]; exact n, fun b u q _ => ?_,
  fun b xs q => by rw [aG (hm b _ q fun z => z)]; exact q, fun b u xs q => by rw [aG (hm b _ q fun z => z)]; exact q, fun b ps q => ⟨#[], by rw [aG (hm b _ q fun z => z), q]; simp⟩⟩
 by_cases hbe : b = e
 ·subst hbe; exact jI
 ·exact ⟨u, k b u hbe q⟩
end
noncomputable def nj (h : Heap) (H : Hp) : List Addr := (List.range h.objs.size).filter fun a => (H a).isSome
noncomputable def fV (h : Heap) (H : Hp) : Heap := PySem.W.hideAll h (nj h H)
theorem B9 (h : Heap) (H : Hp) : (fV h H).objs.size = h.objs.size := PySem.W.hideAll_size _ _
theorem Ca {h : Heap} {H : Hp} {b : Addr} {o : Obj} (e : h.get? b = some o) (n : H b = none) : (fV h H).get? b = some o :=
 PySem.W.hideAll_get _ e fun hm => by
  have q : (H b).isSome = true := (List.mem_filter.mp hm).2
  rw [n] at q; simp at q
theorem Cb {h : Heap} {H : Hp} {b : Addr} {o : Obj} (e : (fV h H).get? b = some o) : h.get? b = some o /\ H b = none := by
 have e' : h.get? b = some o := PySem.W.of_hideAll (nj h H) e
 refine ⟨e', ?_⟩
 cases q : H b with
 | none => rfl
 | some x =>
  have hm : b ∈ nj h H := List.mem_filter.mpr ⟨List.mem_range.mpr (Heap.lt_size e'), by simp [q]⟩
  have z : (fV h H).get? b = none := PySem.W.hideAll_none (nj h H) hm
  rw [z] at e; cases e
noncomputable def Cc (g h : Heap) (L : Addr) : List (Addr × Obj) := (List.range h.objs.size).filterMap fun a => if a = L ∨ (g.get? a).isSome = true then none else (h.get? a).map fun o => (a, o)
noncomputable def rest (g h : Heap) (L d : Addr) : List (Addr × Obj) := (Cc g h L).filter fun p => decide (p.1 ≠ d)
end L2
namespace L2
open PySem PySem.Spec PyProof.Rows
structure Mod (K : PySem.W.Frag) (mg : Str -> Option Value) (base : Heap) : Prop where
 kin : K.In base
 glob : base.Ns mainGlobals mg
 blt : ∃ mb, base.Ns builtinsNs mb /\ ∀ x : Str, x ≠ "__name__" -> mb x = bootBuiltins x
 nolimit : base.NoLimit
structure Cx where
 prog : Program
 w : World
 K : PySem.W.Frag
 mg : Str -> Option Value
 base : Heap
 A : Around
 N : List Str
 s₀ : Shared
 H₀ : Hp
 env : Env
 outer : List Env
 stack : List Env
 ex : List Addr
 fn : Str -> Bool
 calm : Bool
 pn : List (Addr × Obj)
 xe : Value -> Shared -> Prop
noncomputable def aN (l : List Env) : List Addr := l.filterMap (·.frame)
noncomputable abbrev Cx.fs (X : Cx) : List Addr := aN X.outer
def nk (sc : Scope) (x : Str) : Prop := sc.names.lookup x = some .local ∨ sc.names.lookup x = some .cell ∨ sc.names.lookup x = some .free
def Loc (sc : Scope) (x : Str) : Prop := sc.names.lookup x = some .local ∨ sc.names.lookup x = some .cell
def Look (env : Env) (h : Heap) (m : Str -> Option Value) (x : Str) (u : Value) : Prop :=
 (env.kindOf x = some .local /\ m x = some u) ∨ ((env.kindOf x = some .cell ∨ env.kindOf x = some .free) /\ ∃ c, env.cells.lookup x = some c /\ h.IsCell c (some u))
structure Cx.Ok (X : Cx) : Prop where
 mod : Mod X.K X.mg X.base
 kind : X.env.scope.kind = .function
 glob : X.env.globals = mainGlobals
 blt : X.env.builtins = builtinsNs
 above : X.s₀.heap.objs.size <= X.env.locals
 inj : ∀ x y c, X.env.cells.lookup x = some c -> X.env.cells.lookup y = some c -> x = y
 has : ∀ x, (X.env.kindOf x = some .cell ∨ X.env.kindOf x = some .free) -> ∃ c, X.env.cells.lookup x = some c
 cab : ∀ x c, X.fn x = true -> X.env.cells.lookup x = some c -> X.s₀.heap.objs.size <= c
 hd : X.calm = true -> X.A.handled = none
 frames : X.A.frames = some X.stack
 stk : X.stack = X.outer ∨ (X.stack = X.env :: X.outer /\ X.env.frame = some X.env.locals)
 exf : ∀ b ∈ X.ex, b ≠ X.env.locals /\ ∀ x c, X.env.cells.lookup x = some c -> c ≠ b
 bs : ∀ b o, X.base.get? b = some o -> X.s₀.heap.get? b = some o /\ X.H₀ b = none
 bsz : X.base.objs.size <= X.s₀.heap.objs.size
 noex : ∀ b o, X.base.get? b = some o -> b ∉ X.ex
 exfs : ∀ b ∈ X.ex, b ∉ X.fs
 er : X.s₀.heap.FunFrames X.base X.outer
 frf : ∀ b ∈ X.fs, X.H₀ b = none
structure Inv (X : Cx) (pins : List (Addr × Obj)) (σ : List (Option V)) (H : Hp) (s : Shared) : Prop where
 ok : X.Ok
 os : s.os = X.s₀.os
 bare : AllBare s.gens
 base : Un X.fs X.ex X.H₀ H X.s₀.heap s.heap
 loc : ∃ m, s.heap.Ns X.env.locals m /\ ∀ (i : Nat) (x : Str) (v : V), X.N[i]? = some x -> σ[i]? = some (some v) -> nk X.env.scope x -> ∃ u, RelV v u /\ Look X.env s.heap m x u
 cell : ∀ x c, X.env.cells.lookup x = some c -> ∃ v, s.heap.IsCell c v
 free : H X.env.locals = none
 fz : ∀ x c, X.env.cells.lookup x = some c -> H c = none
 pin : ∀ p ∈ X.pn ++ pins, s.heap.get? p.1 = some p.2 /\ H p.1 = none /\ p.1 ≠ X.env.locals /\ p.1 ∉ X.fs /\ ∀ v, p.2.data ≠ .cell v
 av : b9 X.prog X.w H s.heap
 len : σ.length = X.N.length
section
variable {X : Cx} {pins : List (Addr × Obj)} {σ : List (Option V)} {H H' : Hp} {s : Shared} {h' : Heap}
theorem Cx.Ok.fW (ok : X.Ok) {b : Addr} {o : Obj} (e : X.base.get? b = some o) : b ∉ X.fs := fun hb => by
 have := (ok.er.mem hb).1
 rw [e] at this; cases this
theorem Inv.bs (I : Inv X pins σ H s) : ∀ b o, X.base.get? b = some o -> s.heap.get? b = some o /\ H b = none := fun b o e =>
 ⟨I.base.keep b o (I.ok.bs b o e).1 (I.ok.bs b o e).2 (I.ok.fW e) (I.ok.noex b o e), I.base.free b o (I.ok.bs b o e).1 (I.ok.bs b o e).2 (I.ok.noex b o e)⟩
theorem Inv.bk (I : Inv X pins σ H s) : ∀ b o, X.base.get? b = some o -> s.heap.get? b = some o := fun b o e => (I.bs b o e).1
theorem Inv.mod (I : Inv X pins σ H s) : Mod X.K X.mg X.base := I.ok.mod
theorem Inv.bG (I : Inv X pins σ H s) : X.K.In s.heap := I.ok.mod.kin.keeps I.bk
theorem Inv.fr (I : Inv X pins σ H s) : ∃ m, Fr X.base X.env.locals s.heap m :=
 let ⟨m, hn, _⟩ := I.loc
 ⟨m, hn, I.bk, Nat.le_trans I.ok.bsz I.ok.above⟩
theorem Inv.lt (I : Inv X pins σ H s) : X.env.locals < s.heap.objs.size := let ⟨_, hn, _⟩ := I.loc; hn.lt
theorem Inv.sz (I : Inv X pins σ H s) : X.s₀.heap.objs.size <= s.heap.objs.size := Nat.le_trans I.ok.above (Nat.le_of_lt I.lt)
theorem Inv.vt (I : Inv X pins σ H s) {a : Addr} (h : s.heap.objs.size <= a) : a ∉ X.fs := fun hb => by
 obtain ⟨_, o, ho, _⟩ := I.ok.er.mem hb
 exact absurd (Nat.lt_of_lt_of_le (Heap.lt_size ho) (Nat.le_trans I.sz h)) (Nat.lt_irrefl _)
theorem Inv.iJ (I : Inv X pins σ H s) : ∀ x c, X.env.cells.lookup x = some c -> c ≠ X.env.locals := fun x c e z => by
 obtain ⟨v, o, ho, hd⟩ := I.cell x c e
 obtain ⟨m, ⟨o', es, ep, cH, pJ, _⟩, _⟩ := I.loc
 rw [z, cH] at ho; cases ho; rw [pJ] at hd; cases hd
theorem Inv.er (I : Inv X pins σ H s) : s.heap.FunFrames X.base X.outer := by
 have all : ∀ (l : List Env), (∀ b ∈ aN l, b ∈ X.fs) -> X.s₀.heap.FunFrames X.base l -> s.heap.FunFrames X.base l := by
  intro l
  induction l with
  | nil => intro _ _; trivial
  | cons env r ih =>
   intro hs hl
   obtain ⟨hk, ⟨L, o, hf, hn, ho, hd⟩, hr⟩ := hl
   have hL : L ∈ X.fs := hs L (by unfold aN; rw [List.filterMap_cons, hf]; exact List.mem_cons_self)
   obtain ⟨sl, e⟩ := I.base.slot L o ho (I.ok.frf L hL) hL fun z => I.ok.exfs L z hL
   exact ⟨hk, ⟨L, _, hf, hn, e, hd⟩, ih (fun b hb => hs b (by unfold aN; rw [List.filterMap_cons, hf]; exact List.mem_cons_of_mem _ hb)) hr⟩
 exact all X.outer (fun _ hb => hb) I.ok.er
theorem Inv.stack (I : Inv X pins σ H s) : s.heap.FunFrames X.base X.stack := by
 rcases I.ok.stk with e | ⟨e, hf⟩
 ·rw [e]; exact I.er
 ·rw [e]
  obtain ⟨m, hn, _⟩ := I.loc
  refine .cons (by rw [I.ok.kind]; decide) hf hn ?_ I.er
  exact Heap.get?_none_of_le (Nat.le_trans I.ok.bsz I.ok.above)
theorem Inv.jJ (I : Inv X pins σ H s) : ∀ b ∈ aN X.stack, b ∈ X.env.locals :: X.fs := fun b hb => by
 rcases I.ok.stk with e | ⟨e, hf⟩
 ·rw [e] at hb; exact List.mem_cons_of_mem _ hb
 ·rw [e] at hb
  unfold aN at hb
  rw [List.filterMap_cons, hf] at hb
  exact hb
theorem Inv.nq (I : Inv X pins σ H s) : ∀ b ∈ aN X.stack, H b = none := fun b hb => by
 rcases List.mem_cons.mp (I.jJ b hb) with e | hb
 ·rw [e]; exact I.free
 ·obtain ⟨_, o, ho, _⟩ := I.ok.er.mem hb
  exact I.base.free b o ho (I.ok.frf b hb) fun z => I.ok.exfs b z hb
theorem Inv.step {g' : Array GenState} {t' : Nat} {d' : Drawn} {ch : List Addr} (I : Inv X pins σ H s)
 (et : ∀ b ∈ ch, (b ∈ X.ex ∨ X.s₀.heap.objs.size <= b) /\ b ≠ X.env.locals /\ (∀ x c, X.env.cells.lookup x = some c -> c ≠ b) /\ ∀ p ∈ X.pn ++ pins, p.1 ≠ b)
 (keep : ∀ b o, b ≠ X.env.locals -> b ∉ X.fs -> b ∉ ch -> s.heap.get? b = some o -> H b = none -> h'.get? b = some o)
 (slot : ∀ b o, b ≠ X.env.locals -> b ∈ X.fs -> b ∉ ch -> s.heap.get? b = some o -> H b = none -> ∃ sl, h'.get? b = some { o with slots := sl }) (free : ∀ b o, b ∉ ch -> s.heap.get? b = some o -> H b = none -> H' b = none)
 (there : ∀ b o, b ∉ ch -> s.heap.get? b = some o -> ∃ o', h'.get? b = some o')
 (c8 : ∀ b xs, H b = some (.tup xs) -> H' b = some (.tup xs)) (di : ∀ b o u, H b = some (.cP o u) -> H' b = some (.cP o u)) (dB : ∀ b ps, H b = some (.tbl ps) -> ∃ more, H' b = some (.tbl (ps ++ more)))
 (ns : ∀ m, s.heap.Ns X.env.locals m -> h'.Ns X.env.locals m) (av : b9 X.prog X.w H' h') (hg : AllBare g') :
 Inv X pins σ H' { s with heap := h', gens := g', drawn := d', toks := t' } := by
 have jK : ∀ b o, X.s₀.heap.get? b = some o -> b ≠ X.env.locals := fun b o e => Nat.ne_of_lt (Nat.lt_of_lt_of_le (Heap.lt_size e) I.ok.above)
 have jL : ∀ b o, X.s₀.heap.get? b = some o -> b ∉ X.ex -> b ∉ ch := fun b o e hx hb => by
  rcases (et b hb).1 with z | z
  ·exact hx z
  ·exact absurd (Nat.lt_of_lt_of_le (Heap.lt_size e) z) (Nat.lt_irrefl _)
 have cellK : ∀ x c, X.env.cells.lookup x = some c -> ∀ v, s.heap.IsCell c v -> h'.IsCell c v := fun x c e v ⟨o, ho, hd⟩ => by
  have gC : c ∉ ch := fun z => (et c z).2.2.1 x c e rfl
  by_cases hc : c ∈ X.fs
  ·obtain ⟨sl, q⟩ := slot c o (I.iJ x c e) hc gC ho (I.fz x c e)
   exact ⟨_, q, hd⟩
  ·exact ⟨o, keep c o (I.iJ x c e) hc gC ho (I.fz x c e), hd⟩
 refine ⟨I.ok, I.os, hg, ⟨fun b o e n hb hx => ?_, fun b o e n hb hx => ?_, fun b o e n hx => ?_, fun b o e hx => ?_, fun b xs e => c8 b xs (I.base.c8 b xs e), fun b o xs e => di b o xs (I.base.di b o xs e), fun b ps e => ?_⟩, ?_, fun x c e => ?_, ?_, fun x c e => ?_, fun p hp => ?_, av, I.len⟩
 ·exact keep b o (jK b o e) hb (jL b o e hx) (I.base.keep b o e n hb hx) (I.base.free b o e n hx)
 ·obtain ⟨sl, e1⟩ := I.base.slot b o e n hb hx
  obtain ⟨fU, e2⟩ := slot b _ (jK b o e) hb (jL b o e hx) e1 (I.base.free b o e n hx)
  exact ⟨fU, e2⟩
 ·obtain ⟨o', e1⟩ := I.base.there b o e hx
  exact free b o' (jL b o e hx) e1 (I.base.free b o e n hx)
 ·obtain ⟨o', e1⟩ := I.base.there b o e hx
  exact there b o' (jL b o e hx) e1
 ·obtain ⟨m1, e1⟩ := I.base.dB b ps e
  obtain ⟨m2, e2⟩ := dB b _ e1
  exact ⟨m1 ++ m2, by rw [e2, Array.append_assoc]⟩
 ·obtain ⟨m, hn, hl⟩ := I.loc
  refine ⟨m, ns m hn, fun i x v e1 e2 e3 => ?_⟩
  obtain ⟨u, r, l⟩ := hl i x v e1 e2 e3
  refine ⟨u, r, ?_⟩
  rcases l with l | ⟨k, c, e, z⟩
  ·exact .inl l
  ·exact .inr ⟨k, c, e, cellK x c e _ z⟩
 ·obtain ⟨v, z⟩ := I.cell x c e
  exact ⟨v, cellK x c e v z⟩
 ·obtain ⟨m, ⟨o, _, _, ho, _⟩, _⟩ := I.loc
  exact free _ o (fun z => (et _ z).2.1 rfl) ho I.free
 ·obtain ⟨v, o, ho, hd⟩ := I.cell x c e
  exact free c o (fun z => (et c z).2.2.1 x c e rfl) ho (I.fz x c e)
 ·obtain ⟨e, n, ne, nf, d⟩ := I.pin p hp
  have gC : p.1 ∉ ch := fun z => (et p.1 z).2.2.2 p hp rfl
  exact ⟨keep p.1 p.2 ne nf gC e n, free p.1 p.2 gC e n, ne, nf, d⟩
theorem Inv.un {t' : Nat} (I : Inv X pins σ H s) (u : Un X.fs [] H H' s.heap h') (av : b9 X.prog X.w H' h') : Inv X pins σ H' { s with heap := h', toks := t' } := by
 obtain ⟨m, ⟨o, es, ep, ho, r⟩, _⟩ := id I.loc
 obtain ⟨sl, hL⟩ := u.any ho I.free (by simp)
 exact I.step (g' := s.gens) (d' := s.drawn) (ch := []) (fun _ z => nomatch z) (fun b o _ hb _ e n => u.keep b o e n hb (by simp)) (fun b o _ hb _ e n => u.slot b o e n hb (by simp)) (fun b o _ e n => u.free b o e n (by simp)) (fun b o _ e => u.there b o e (by simp)) u.c8 u.di u.dB (fun m' hm => by
  obtain ⟨o', es', pK, cH, r'⟩ := hm
  rw [ho] at cH; cases cH
  exact ⟨_, es', pK, hL, r'⟩) av I.bare
theorem Inv.call {g' : Array GenState} {t' : Nat} {d' : Drawn} {ch : List Addr} (I : Inv X pins σ H s) (u : Un (aN X.stack) ch H H' s.heap h') (av : b9 X.prog X.w H' h') (hg : AllBare g')
 (et : ∀ b ∈ ch, (b ∈ X.ex ∨ X.s₀.heap.objs.size <= b) /\ b ≠ X.env.locals /\ (∀ x c, X.env.cells.lookup x = some c -> c ≠ b) /\ ∀ p ∈ X.pn ++ pins, p.1 ≠ b) :
 Inv X pins σ H' { s with heap := h', gens := g', drawn := d', toks := t' } := by
 obtain ⟨m, ⟨o, es, ep, ho, r⟩, _⟩ := id I.loc
 obtain ⟨sl, hL⟩ := u.any ho I.free fun z => (et _ z).2.1 rfl
 exact I.step (ch := ch) et (fun b o hL hb hc e n => u.keep b o e n (fun z => (List.mem_cons.mp (I.jJ b z)).elim hL hb) hc) (fun b o _ _ hc e n => u.any e n hc) (fun b o hc e n => u.free b o e n hc) (fun b o hc e => u.there b o e hc) u.c8 u.di u.dB (fun m' hm => by
  obtain ⟨o', es', pK, cH, r'⟩ := hm
  rw [ho] at cH; cases cH
  exact ⟨_, es', pK, hL, r'⟩) av hg
theorem Inv.turned {t' : Nat} {it : Addr} (I : Inv X pins σ H s) (k : ∀ b o, b ≠ it -> s.heap.get? b = some o -> h'.get? b = some o) (hn : H it = none) (hL : it ≠ X.env.locals)
 (h1 : it ∈ X.ex ∨ X.s₀.heap.objs.size <= it) (h2 : ∀ x c, X.env.cells.lookup x = some c -> c ≠ it) (h3 : ∀ p ∈ X.pn ++ pins, p.1 ≠ it) : Inv X pins σ H { s with heap := h', toks := t' } := by
 have vv : ∀ b u, H b = some u -> b ≠ it := fun b u e z => by rw [z, hn] at e; cases e
 refine I.step (g' := s.gens) (d' := s.drawn) (ch := [it]) (fun b hb => ?_) (fun b o _ _ hc e _ => k b o (fun z => hc (by simp [z])) e) (fun b o _ _ hc e _ => ⟨o.slots, k b o (fun z => hc (by simp [z])) e⟩) (fun _ _ _ _ n => n)
  (fun b o hc e => ⟨o, k b o (fun z => hc (by simp [z])) e⟩) (fun _ _ e => e) (fun _ _ _ e => e) (fun b ps e => ⟨#[], by rw [e]; simp⟩) (fun m hm => ?_) (fun b u e => ?_) I.bare
 ·have e : b = it := by simpa using hb
  subst e
  exact ⟨h1, hL, h2, h3⟩
 ·obtain ⟨o, es, ep, ho, r⟩ := hm
  exact ⟨o, es, ep, k _ o (Ne.symm hL) ho, r⟩
 ·refine (I.av b u e).stay (fun c v hc q => k c v ?_ q) (fun _ q => q) fun _ _ q => q
  rcases hc with z | z
  ·rw [z]; exact vv b u e
  ·exact vv c _ z
theorem Inv.tok (I : Inv X pins σ H s) (t : Nat) : Inv X pins σ H { s with toks := t } := I.un (h' := s.heap) (t' := t) Un.refl I.av
theorem Inv.kept {t' : Nat} (I : Inv X pins σ H s) (k : ∀ b u, s.heap.get? b = some u -> h'.get? b = some u) : Inv X pins σ H { s with heap := h', toks := t' } := I.un (Un.kept k) (I.av.kept k)
theorem Inv.laid {a : Addr} {o : HO} {t' : Nat} (I : Inv X pins σ H s) (k : ∀ b u, s.heap.get? b = some u -> h'.get? b = some u) (hp : s.heap.objs.size <= a) (new : cw X.prog X.w (upd H a o) h' a o) :
 Inv X pins σ (upd H a o) { s with heap := h', toks := t' } := I.un (Un.laid k hp (I.av.fresh hp)) (I.av.laid k hp new)
theorem Inv.write {x e : Addr} {o : HO} {t' : Nat} (I : Inv X pins σ H s) (mu : ni (H x)) (he : e = x ∨ H e = some (.own x)) (k : ∀ b u, b ≠ e -> s.heap.get? b = some u -> h'.get? b = some u) (jI : ∃ u, h'.get? e = some u)
 (new : cw X.prog X.w (upd H x o) h' x o) : Inv X pins σ (upd H x o) { s with heap := h', toks := t' } := I.un (Un.write mu he k jI) (I.av.write mu he k jI new)
theorem Inv.k4 {vw : List (Addr × Obj)} (I : Inv X pins σ H s) (h : ∀ p ∈ vw, s.heap.get? p.1 = some p.2 /\ H p.1 = none /\ p.1 ≠ X.env.locals /\ p.1 ∉ X.fs /\ ∀ v, p.2.data ≠ .cell v) : Inv X vw σ H s :=
 ⟨I.ok, I.os, I.bare, I.base, I.loc, I.cell, I.free, I.fz, fun p hp => (List.mem_append.mp hp).elim (fun z => I.pin p (List.mem_append_left _ z)) (h p), I.av, I.len⟩
theorem vx {N : List Str} (hN : N.Nodup) {i j : Nat} {x : Str} (a : N[i]? = some x) (b : N[j]? = some x) : i = j := by
 obtain ⟨h1, e1⟩ := List.getElem?_eq_some_iff.mp a
 obtain ⟨h2, e2⟩ := List.getElem?_eq_some_iff.mp b
 exact (List.getElem_inj hN).mp (e1.trans e2.symm)
theorem Cd {M : Model} {A : Around} {E : Value -> Shared -> Prop} {i : Nat} {x : Str} {v : V} {u : Value} {Q : Unit -> Shared -> Prop} (I : Inv X pins σ H s) (hN : X.N.Nodup) (hi : X.N[i]? = some x) (hx : Loc X.env.scope x) (r : RelV v u)
 (h : ∀ s', Inv X pins (σ.set i (some v)) H s' -> (∃ a, Heap.SameBut a s.heap s'.heap /\ (a = X.env.locals ∨ X.env.cells.lookup x = some a)) -> Q () s') (hf : X.fn x = true ∨ X.env.scope.names.lookup x = some .local := by first | exact .inl rfl | exact .inr rfl | assumption) : wpAny M A (storeName X.env x u) Q E s := by
 obtain ⟨m, hn, hl⟩ := id I.loc
 have Ce : (X.env.scope.kind == .class || (X.env.scope.kind == .module && X.env.locals != X.env.globals)) = false := by rw [I.ok.kind]; rfl
 have vy : i < σ.length := by rw [I.len]; exact (List.getElem?_eq_some_iff.mp hi).1
 have iJ := I.iJ
 have tracked : ∀ {a : Addr} {h' : Heap}, (∃ o, s.heap.get? a = some o /\ H a = none) -> Heap.SameBut a s.heap h' -> b9 X.prog X.w H h' := fun {a h'} ha hs b ob e => by
  obtain ⟨_, _, hfree⟩ := ha
  refine (I.av b ob e).stay (fun c w' hc q => (hs.2 c ?_).trans q) (fun _ q => q) fun _ _ q => q
  rintro rfl
  rcases hc with rfl | hc
  ·rw [hfree] at e; cases e
  ·rw [hfree] at hc; cases hc
 rcases hx with hk | hk
 ·refine wpAny_storeName_local hk hn (fun h' Cf hs => ?_) Ce
  obtain ⟨oL, _, _, Cg, _⟩ := id hn
  refine h _ ⟨I.ok, I.os, I.bare, ⟨fun b o e n hb hx => ?_, fun b o e n hb hx => ?_, I.base.free, fun b o e hx => ?_, I.base.c8, I.base.di, I.base.dB⟩, ⟨_, Cf, fun j y v' e1 e2 e3 => ?_⟩, fun y c e => ?_, I.free, I.fz, fun p hp => ?_, tracked ⟨oL, Cg, I.free⟩ hs, by simpa using I.len⟩ ⟨_, hs, .inl rfl⟩
  ·exact (hs.2 b (Nat.ne_of_lt (Nat.lt_of_lt_of_le (Heap.lt_size e) I.ok.above))).trans (I.base.keep b o e n hb hx)
  ·obtain ⟨sl, e1⟩ := I.base.slot b o e n hb hx
   exact ⟨sl, (hs.2 b (Nat.ne_of_lt (Nat.lt_of_lt_of_le (Heap.lt_size e) I.ok.above))).trans e1⟩
  ·obtain ⟨o', e1⟩ := I.base.there b o e hx
   exact ⟨o', (hs.2 b (Nat.ne_of_lt (Nat.lt_of_lt_of_le (Heap.lt_size e) I.ok.above))).trans e1⟩
  ·by_cases hj : j = i
   ·subst hj
    rw [hi] at e1; cases e1
    rw [List.getElem?_set_self vy] at e2
    cases e2
    exact ⟨u, r, .inl ⟨hk, by simp⟩⟩
   ·rw [List.getElem?_set_ne (Ne.symm hj)] at e2
    obtain ⟨u', r', q⟩ := hl j y v' e1 e2 e3
    refine ⟨u', r', ?_⟩
    rcases q with ⟨k, e⟩ | ⟨k, c, e, z⟩
    ·refine .inl ⟨k, ?_⟩
     have : y ≠ x := fun e => hj (vx hN e1 (e ▸ hi))
     simp [this, e]
    ·exact .inr ⟨k, c, e, z.sameBut hs (iJ y c e)⟩
  ·obtain ⟨w', z⟩ := I.cell y c e
   exact ⟨w', z.sameBut hs (iJ y c e)⟩
  ·obtain ⟨e, n, ne, nf, d⟩ := I.pin p hp
   exact ⟨(hs.2 p.1 ne).trans e, n, ne, nf, d⟩
 ·have pL : X.fn x = true := by
   rcases hf with z | z
   ·exact z
   ·rw [z] at hk; cases hk
  obtain ⟨c, hc⟩ := I.ok.has x (.inl hk)
  obtain ⟨w', z⟩ := I.cell x c hc
  refine wpAny_storeName_cell I.ok.kind hk hc z (fun h' iK hs => ?_)
  obtain ⟨oc, hoc, hocd⟩ := id z
  refine h { s with heap := h' } ⟨I.ok, I.os, I.bare, ⟨fun b o e n hb hx => ?_, fun b o e n hb hx => ?_, I.base.free, fun b o e hx => ?_, I.base.c8, I.base.di, I.base.dB⟩, ⟨m, hn.sameBut hs (Ne.symm (iJ x c hc)), fun j y v' e1 e2 e3 => ?_⟩, fun y c' e => ?_, I.free, I.fz, fun p hp => ?_, tracked ⟨oc, hoc, I.fz x c hc⟩ hs, by simpa using I.len⟩ ⟨c, hs, .inr hc⟩
  ·exact (hs.2 b (Nat.ne_of_lt (Nat.lt_of_lt_of_le (Heap.lt_size e) (I.ok.cab x c pL hc)))).trans (I.base.keep b o e n hb hx)
  ·obtain ⟨sl, e1⟩ := I.base.slot b o e n hb hx
   exact ⟨sl, (hs.2 b (Nat.ne_of_lt (Nat.lt_of_lt_of_le (Heap.lt_size e) (I.ok.cab x c pL hc)))).trans e1⟩
  ·obtain ⟨o', e1⟩ := I.base.there b o e hx
   exact ⟨o', (hs.2 b (Nat.ne_of_lt (Nat.lt_of_lt_of_le (Heap.lt_size e) (I.ok.cab x c pL hc)))).trans e1⟩
  ·by_cases hj : j = i
   ·subst hj
    rw [hi] at e1; cases e1
    rw [List.getElem?_set_self vy] at e2
    cases e2
    exact ⟨u, r, .inr ⟨.inl hk, c, hc, iK⟩⟩
   ·rw [List.getElem?_set_ne (Ne.symm hj)] at e2
    obtain ⟨u', r', q⟩ := hl j y v' e1 e2 e3
    refine ⟨u', r', ?_⟩
    rcases q with q | ⟨k, c', e, z'⟩
    ·exact .inl q
    ·refine .inr ⟨k, c', e, z'.sameBut hs ?_⟩
     rintro rfl
     exact hj (vx hN e1 (I.ok.inj _ _ _ e hc ▸ hi))
  ·by_cases hcc : c' = c
   ·subst hcc; exact ⟨_, iK⟩
   ·obtain ⟨w2, z2⟩ := I.cell y c' e
    exact ⟨w2, z2.sameBut hs hcc⟩
  ·obtain ⟨e, n, ne, nf, d⟩ := I.pin p hp
   refine ⟨(hs.2 p.1 ?_).trans e, n, ne, nf, d⟩
   intro q
   rw [q, hoc] at e
   have q' : oc = p.2 := Option.some.inj e
   exact d w' (by rw [<- q']; exact hocd)
theorem vz {M : Model} {A : Around} {E : Value -> Shared -> Prop} {i : Nat} {x : Str} {v : V} {u : Value} {Q : Unit -> Shared -> Prop} (I : Inv X pins σ H s) (hN : X.N.Nodup) (hi : X.N[i]? = some x) (hx : Loc X.env.scope x) (r : RelV v u)
 (h : ∀ s', Inv X pins (σ.set i (some v)) H s' -> Q () s') (hf : X.fn x = true ∨ X.env.scope.names.lookup x = some .local := by first | exact .inl rfl | exact .inr rfl | assumption) : wpAny M A (storeName X.env x u) Q E s :=
 Cd I hN hi hx r (fun s' I' _ => h s' I') hf
theorem Inv.Ci {s' : Shared} {ch : List Addr} (I : Inv X pins σ H s) (ho : s'.os = s.os) (u : Un (aN X.stack) ch H H' s.heap s'.heap) (av : b9 X.prog X.w H' s'.heap) (hg : AllBare s'.gens)
 (et : ∀ b ∈ ch, (b ∈ X.ex ∨ X.s₀.heap.objs.size <= b) /\ b ≠ X.env.locals /\ (∀ x c, X.env.cells.lookup x = some c -> c ≠ b) /\ ∀ p ∈ X.pn ++ pins, p.1 ≠ b) : Inv X pins σ H' s' := by
 obtain ⟨h', g', d', t', o'⟩ := s'
 have e : o' = s.os := ho
 subst e
 exact I.call (g' := g') (t' := t') (d' := d') u av hg et
end
abbrev XK := Value -> Option Addr -> Hp -> Prop
abbrev St := List (Option V)
abbrev VK := V -> Hp -> Prop
abbrev TE := St -> Hp -> VK -> Prop
abbrev TT := St -> Hp -> (Bool -> Hp -> Prop) -> Prop
abbrev TA := St -> Hp -> (List V -> Hp -> Prop) -> Prop
structure Ends where
 nx : St -> Hp -> Prop
 rt : VK
 bk : St -> Hp -> Prop := fun _ _ => False
 ct : St -> Hp -> Prop := fun _ _ => False
abbrev TS := Ends -> St -> Hp -> Prop
def EP (X : Cx) (pins : List (Addr × Obj)) (σ : St) (Q : VK) (u : Value) (s' : Shared) : Prop := ∃ v H', Inv X pins σ H' s' /\ RelV v u /\ Q v H'
def TP (X : Cx) (pins : List (Addr × Obj)) (σ : St) (Q : Bool -> Hp -> Prop) (b : Bool) (s' : Shared) : Prop := ∃ H', Inv X pins σ H' s' /\ Q b H'
def AP (X : Cx) (pins : List (Addr × Obj)) (σ : St) (Q : List V -> Hp -> Prop) (us : List Value) (s' : Shared) : Prop := ∃ vs H', Inv X pins σ H' s' /\ Vals vs us /\ Q vs H'
def SP (X : Cx) (pins : List (Addr × Obj)) (D : Ends) (f : Flow) (s' : Shared) : Prop :=
 match f with
 | .next => ∃ σ' H', Inv X pins σ' H' s' /\ D.nx σ' H'
 | .brk => ∃ σ' H', Inv X pins σ' H' s' /\ D.bk σ' H'
 | .cont => ∃ σ' H', Inv X pins σ' H' s' /\ D.ct σ' H'
 | .ret u => ∃ v σ' H', Inv X pins σ' H' s' /\ RelV v u /\ D.rt v H'
def PE (X : Cx) (e : Expr) (t : TE) : Prop :=
 ∀ (pins : List (Addr × Obj)) (s : Shared) (σ : St) (H : Hp) (Q : VK), Inv X pins σ H s -> t σ H Q -> wpAny (model X.prog X.w) X.A (eval e X.env) (EP X pins σ Q) X.xe s
def PT (X : Cx) (e : Expr) (t : TT) : Prop :=
 ∀ (pins : List (Addr × Obj)) (s : Shared) (σ : St) (H : Hp) (Q : Bool -> Hp -> Prop), Inv X pins σ H s -> t σ H Q -> wpAny (model X.prog X.w) X.A (isTrue e X.env (eval e X.env)) (TP X pins σ Q) X.xe s
def PW (X : Cx) (e : Expr) (t : TT) : Prop :=
 ∀ (whole : Sem Value) (pins : List (Addr × Obj)) (s : Shared) (σ : St) (H : Hp) (Q : Bool -> Hp -> Prop), Inv X pins σ H s -> t σ H Q -> wpAny (model X.prog X.w) X.A (isTrue e X.env whole) (TP X pins σ Q) X.xe s
theorem PW.pt {X : Cx} {e : Expr} {t : TT} (h : PW X e t) : PT X e t := h _
def PA (X : Cx) (es : List Expr) (t : TA) : Prop :=
 ∀ (pos : Pos) (pins : List (Addr × Obj)) (s : Shared) (σ : St) (H : Hp) (Q : List V -> Hp -> Prop), Inv X pins σ H s -> t σ H Q -> wpAny (model X.prog X.w) X.A (spliced (backTo pos (starEach es X.env))) (AP X pins σ Q) X.xe s
def PS (X : Cx) (st : Stmt) (t : TS) : Prop :=
 ∀ (pins : List (Addr × Obj)) (s : Shared) (σ : St) (H : Hp) (D : Ends), Inv X pins σ H s -> t D σ H -> wpAny (model X.prog X.w) X.A (exec st X.env) (SP X pins D) X.xe s
def aR (X : Cx) (st : List Stmt) (t : TS) : Prop :=
 ∀ (pins : List (Addr × Obj)) (s : Shared) (σ : St) (H : Hp) (D : Ends), Inv X pins σ H s -> t D σ H -> wpAny (model X.prog X.w) X.A (execs st X.env) (SP X pins D) X.xe s
theorem aw {α : Type} {t : Sem α} {Q Q' : α -> Shared -> Prop} {M : Model} {A : Around} {E : Value -> Shared -> Prop} {s : Shared} (h : wpAny M A t Q E s) (hQ : ∀ a s, Q a s -> Q' a s) : wpAny M A t Q' E s := wpAny_mono h hQ fun _ _ x => x
end L2
namespace L2
open PySem PySem.Spec PyProof.Rows
section
variable {X : Cx}
def pM (i : Nat) : TE := fun σ H Q => ∃ v, σ[i]? = some (some v) /\ Q v H
def tC (v : V) : TE := fun _ H Q => Q v H
theorem Cj {i : Nat} {x : Str} {pos : Pos} (hN : X.N[i]? = some x) (hv : nk X.env.scope x) (hd : (x == ("__debug__" : Str)) = false := by decide) (dC : (x == ("__classdict__" : Str)) = false := by decide) : PE X (.Name x pos) (pM i) := by
 intro pins s σ H Q I h
 obtain ⟨v, e, h⟩ := h
 obtain ⟨m, hn, hl⟩ := I.loc
 obtain ⟨u, r, l⟩ := hl i x v hN e hv
 have fin : EP X pins σ Q u s := ⟨v, H, I, r, h⟩
 rcases l with ⟨hk, hm⟩ | ⟨hk, c, hc, hcell⟩
 ·exact wpAny_Name (wpAny_loadName_local I.ok.kind hk hn hm fin) hd
 ·rcases hk with hk | hk
  ·exact wpAny_Name (wpAny_loadName_cell I.ok.kind hk hc hcell fin) hd
  ·exact wpAny_Name (wpAny_loadName_free I.ok.kind hk hc hcell fin dC) hd
theorem ag {i j pos} : PE X (.Constant (.int i) j pos) (tC (.int i)) := fun _ _ _ H _ I h => wpAny_Constant_int ⟨.int i, H, I.tok _, ⟨_, rfl⟩, h⟩
theorem pN {b j pos} : PE X (.Constant (.bool b) j pos) (tC (.bl b)) := fun _ _ _ H _ I h => Constant_bool ⟨.bl b, H, I, rfl, h⟩
theorem dD {j pos} : PE X (.Constant .none j pos) (tC .non) := fun _ _ _ H _ I h => Constant_none ⟨.non, H, I, rfl, h⟩
theorem aD {x j pos} : PE X (.Constant (.str x) j pos) (tC (.str x)) := fun _ _ _ H _ I h => Calls.Constant_str ⟨.str x, H, I.tok _, ⟨_, rfl⟩, h⟩
def Gl (X : Cx) (x : Str) : Prop := X.env.kindOf x = some .globalImplicit
theorem nr {E : Value -> Shared -> Prop} {pins : List (Addr × Obj)} {s : Shared} {σ : St} {H : Hp} {x : Str} {u : Value} {pos : Pos} {Q : Value -> Shared -> Prop} (I : Inv X pins σ H s) (hg : Gl X x) (hm : X.mg x = some u) (h : Q u s)
 (hd : (x == ("__debug__" : Str)) = false := by decide) : wpAny (model X.prog X.w) X.A (eval (.Name x pos) X.env) Q E s :=
 Calls.Name_function_global I.ok.kind hg (Calls.loadGlobal_global (by rw [I.ok.glob]; exact I.mod.glob.keeps I.bk) hm h) hd
theorem jM {E : Value -> Shared -> Prop} {pins : List (Addr × Obj)} {s : Shared} {σ : St} {H : Hp} {x : Str} {u : Value} {pos : Pos} {Q : Value -> Shared -> Prop} (I : Inv X pins σ H s) (hg : Gl X x) (hm : X.mg x = none) (hv : bootBuiltins x = some u) (h : Q u s)
 (hn : x ≠ "__name__" := by decide) (hd : (x == ("__debug__" : Str)) = false := by decide) : wpAny (model X.prog X.w) X.A (eval (.Name x pos) X.env) Q E s := by
 obtain ⟨mb, h1, h2⟩ := I.mod.blt
 exact Calls.Name_function_global I.ok.kind hg (Calls.loadGlobal_builtin (by rw [I.ok.glob]; exact I.mod.glob.keeps I.bk) hm (by rw [I.ok.blt]; exact h1.keeps I.bk) ((h2 x hn).trans hv) h) hd
theorem k6 {x : Str} {v : V} {u : Value} {pos : Pos} (hg : Gl X x) (hm : X.mg x = some u) (r : RelV v u) (hd : (x == ("__debug__" : Str)) = false := by decide) : PE X (.Name x pos) (tC v) :=
 fun _ _ _ H _ I h => nr I hg hm ⟨v, H, I, r, h⟩ hd
theorem Ck {x : Str} {v : V} {u : Value} {pos : Pos} (hg : Gl X x) (hm : X.mg x = none) (hv : bootBuiltins x = some u) (r : RelV v u) (hn : x ≠ "__name__" := by decide) (hd : (x == ("__debug__" : Str)) = false := by decide) : PE X (.Name x pos) (tC v) :=
 fun _ _ _ H _ I h => jM I hg hm hv ⟨v, H, I, r, h⟩ hn hd
variable {a b : Expr} {ta tb : TE} {pos : Pos}
def PC (X : Cx) (op : CmpOp) (a b : Expr) (t : TE) : Prop :=
 ∀ (pins : List (Addr × Obj)) (s : Shared) (σ : St) (H : Hp) (Q : VK), Inv X pins σ H s -> t σ H Q ->
  wpAny (model X.prog X.w) X.A (eval a X.env) (fun v s₁ => wpAny (model X.prog X.w) X.A (eval b X.env) (fun u s₂ => wpAny (model X.prog X.w) X.A (compareOp op v u) (EP X pins σ Q) X.xe s₂) X.xe s₁) X.xe s
theorem vA (b : Expr) {op : CmpOp} (h : op ≠ .In) (h2 : op ≠ .NotIn) : behindInMarks op b = false := by
 have e1 : (op == CmpOp.In) = false := by cases op <;> first | rfl | exact absurd rfl h
 have e2 : (op == CmpOp.NotIn) = false := by cases op <;> first | rfl | exact absurd rfl h2
 cases b <;> simp [behindInMarks, e1, e2]
def vB (ta : TE) : TE := fun σ H Q => ta σ H fun x H1 => Q (.bl (decide (x = .non))) H1
def vC (ta : TE) : TE := fun σ H Q => ta σ H fun x H1 => Q (.bl (!decide (x = .non))) H1
theorem RelV.vD {x : V} {v : Value} (r : RelV x v) : (v == Value.none) = decide (x = .non) := by
 cases x with
 | non => cases r; rfl
 | bl _ => cases r; rfl
 | int _ => obtain ⟨t, rfl⟩ := r; rfl
 | str _ => obtain ⟨t, rfl⟩ := r; rfl
 | byt _ => obtain ⟨t, rfl⟩ := r; rfl
 | flt _ => obtain ⟨t, rfl⟩ := r; rfl
 | ref _ => cases r; rfl
 | ty _ => cases r; rfl
theorem Cm {j pos'} (ha : PE X a ta) : PC X .Is a (.Constant .none j pos') (vB ta) := by
 intro pins s σ H Q I h
 refine aw (ha pins s σ H _ I h) fun v s1 ⟨x, H1, I1, r1, q1⟩ => ?_
 exact Constant_none (is_none_gen ⟨.bl _, H1, I1, by rw [r1.vD]; rfl, q1⟩)
theorem nt {j pos'} (ha : PE X a ta) : PC X .IsNot a (.Constant .none j pos') (vC ta) := by
 intro pins s σ H Q I h
 refine aw (ha pins s σ H _ I h) fun v s1 ⟨x, H1, I1, r1, q1⟩ => ?_
 exact Constant_none (isnot_none_gen ⟨.bl _, H1, I1, by rw [r1.vD]; rfl, q1⟩)
def tB (t : TE) : TT := fun σ H Q => t σ H fun x H1 => ∃ c, x = .bl c /\ Q c H1
theorem nu {op : CmpOp} {t : TE} (h : PC X op a b t) (h1 : behindInMarks op b = false := by first | exact vA _ (by decide) (by decide) | rfl) : PE X (.Compare a [op] [b] pos) t := fun pins s σ H Q I hw => wpAny_Compare1 (h pins s σ H Q I hw) h1
theorem vE {op : CmpOp} {t : TE} (h : PC X op a b t) (h1 : behindInMarks op b = false := by first | exact vA _ (by decide) (by decide) | rfl) : PT X (.Compare a [op] [b] pos) (tB t) := by
 intro pins s σ H Q I hw
 refine wpAny_isTrue_Compare1 (aw (h pins s σ H _ I hw) fun v s1 h1 => aw h1 fun u s2 h2 => aw h2 fun c s3 ⟨x, H1, I1, r1, q1⟩ => ?_) h1
 obtain ⟨d, rfl, q⟩ := q1
 cases r1
 exact wpAny_truthy_bool ⟨H1, I1, q⟩
theorem Cn {e : Expr} {t : TE} (h : PE X e t) (he : ∀ whole, isTrue e X.env whole = (do let v <- whole; standAt e.pos; holding [v] (truthy v)) := by intro _; rfl) : PT X e (tB t) := by
 intro pins s σ H Q I hw
 refine isTrue_plain (aw (h pins s σ H _ I hw) fun v s1 ⟨x, H1, I1, r1, q1⟩ => ?_) (he _)
 obtain ⟨d, rfl, q⟩ := q1
 cases r1
 exact wpAny_truthy_bool ⟨H1, I1, q⟩
variable {tA nv : TT} {rest : List Expr}
def vF (t u : TT) : TT := fun σ H Q => t σ H fun c H1 => if c = true then u σ H1 Q else Q false H1
def vG (t u : TT) : TT := fun σ H Q => t σ H fun c H1 => if c = true then Q true H1 else u σ H1 Q
def vH (t : TT) : TT := fun σ H Q => t σ H fun c H1 => Q (!c) H1
theorem vI (ha : PT X a tA) : PW X (.BoolOp .And [a] pos) tA := by
 intro wh pins s σ H Q I h
 refine isTrue_and (aw (ha pins s σ H Q I h) fun c s1 e => ?_)
 cases c with
 | true => exact isTrue_and_nil e
 | false => exact e
theorem fX (ha : PT X a tA) : PW X (.BoolOp .Or [a] pos) tA := by
 intro wh pins s σ H Q I h
 refine isTrue_or (aw (ha pins s σ H Q I h) fun c s1 e => ?_)
 cases c with
 | false => exact isTrue_or_nil e
 | true => exact e
theorem vJ (ha : PT X a tA) (hb : PW X (.BoolOp .And (b :: rest) pos) nv) : PW X (.BoolOp .And (a :: b :: rest) pos) (vF tA nv) := by
 intro wh pins s σ H Q I h
 refine isTrue_and (aw (ha pins s σ H _ I h) fun c s1 ⟨H1, I1, q1⟩ => ?_)
 cases c with
 | true => exact hb wh pins s1 σ H1 Q I1 q1
 | false => exact ⟨H1, I1, q1⟩
theorem eR (ha : PT X a tA) (hb : PW X (.BoolOp .Or (b :: rest) pos) nv) : PW X (.BoolOp .Or (a :: b :: rest) pos) (vG tA nv) := by
 intro wh pins s σ H Q I h
 refine isTrue_or (aw (ha pins s σ H _ I h) fun c s1 ⟨H1, I1, q1⟩ => ?_)
 cases c with
 | true => exact ⟨H1, I1, q1⟩
 | false => exact hb wh pins s1 σ H1 Q I1 q1
theorem iL (ha : PT X a tA) : PT X (.UnaryOp .Not a pos) (vH tA) := by
 intro pins s σ H Q I h
 exact isTrue_not (ha pins s σ H (fun c H1 => Q (!c) H1) I h)
def vK (ta tb : TE) : TE := fun σ H Q => ta σ H fun x H1 => ∃ c, x = .bl c /\ if c = true then tb σ H1 Q else Q (.bl false) H1
def vL (ta tb : TE) : TE := fun σ H Q => ta σ H fun x H1 => ∃ c, x = .bl c /\ if c = true then Q (.bl true) H1 else tb σ H1 Q
def vM (ta : TE) : TE := fun σ H Q => ta σ H fun x H1 => ∃ c, x = .bl c /\ Q (.bl (!c)) H1
theorem jN {op} {t : TE} (h : PE X a t) : PE X (.BoolOp op [a] pos) t := fun pins s σ H Q I hw => BoolOp_one (h pins s σ H Q I hw)
theorem Co (ha : PE X a ta) (hb : PE X (.BoolOp .And (b :: rest) pos) tb) : PE X (.BoolOp .And (a :: b :: rest) pos) (vK ta tb) := by
 intro pins s σ H Q I h
 refine BoolOp_and (aw (ha pins s σ H _ I h) fun v s1 ⟨x, H1, I1, r1, q1⟩ => ?_)
 obtain ⟨c, rfl, q1⟩ := q1
 cases r1
 refine wpAny_truthy_bool ?_
 cases c with
 | true => exact hb pins s1 σ H1 Q I1 q1
 | false => exact ⟨.bl false, H1, I1, rfl, q1⟩
theorem Cp (ha : PE X a ta) (hb : PE X (.BoolOp .Or (b :: rest) pos) tb) : PE X (.BoolOp .Or (a :: b :: rest) pos) (vL ta tb) := by
 intro pins s σ H Q I h
 refine BoolOp_or (aw (ha pins s σ H _ I h) fun v s1 ⟨x, H1, I1, r1, q1⟩ => ?_)
 obtain ⟨c, rfl, q1⟩ := q1
 cases r1
 refine wpAny_truthy_bool ?_
 cases c with
 | false => exact hb pins s1 σ H1 Q I1 q1
 | true => exact ⟨.bl true, H1, I1, rfl, q1⟩
theorem Cq (ha : PE X a ta) : PE X (.UnaryOp .Not a pos) (vM ta) := by
 intro pins s σ H Q I h
 refine UnaryOp_ (aw (ha pins s σ H _ I h) fun v s1 ⟨x, H1, I1, r1, q1⟩ => ?_)
 obtain ⟨c, rfl, q1⟩ := q1
 cases r1
 exact not_of (wpAny_truthy_bool ⟨.bl (!c), H1, I1, rfl, q1⟩)
def vN (t : TT) (ta tb : TE) : TE := fun σ H Q => t σ H fun c H1 => if c = true then ta σ H1 Q else tb σ H1 Q
theorem k7 {c : Expr} (hc : PT X c tA) (ha : PE X a ta) (hb : PE X b tb) : PE X (.IfExp c a b pos) (vN tA ta tb) := by
 intro pins s σ H Q I h
 refine wpAny_IfExp (aw (hc pins s σ H _ I h) fun d s1 ⟨H1, I1, q1⟩ => ?_)
 cases d with
 | true => exact ha pins s1 σ H1 Q I1 q1
 | false => exact hb pins s1 σ H1 Q I1 q1
end
end L2
namespace L2
open PySem PySem.Spec PyProof.Rows
def ar (K : PySem.W.Frag) (H : Hp) (a : Addr) (xs : List V) : Prop :=
 Rd H a (.lst xs) ∨
  ∃ (o : Obj) (aj : Array Value) (n : Nat), K.lookup a = some o /\ o.cls = .type "list" /\ o.dict = none /\ o.data = .seq aj n /\ aj.size <= sizeLine /\ Vals xs aj.toList
def aB (K : PySem.W.Frag) (H : Hp) (a : Addr) (xs : List V) : Prop :=
 Rd H a (.tup xs) ∨
  ∃ (o : Obj) (aj : Array Value) (n : Nat), K.lookup a = some o /\ o.cls = .type "tuple" /\ o.data = .seq aj n /\ aj.size <= sizeLine /\ Vals xs aj.toList
noncomputable def Cr : Value -> Option V
 | .none => some .non
 | .bool b => some (.bl b)
 | .int i _ => some (.int i)
 | .str x _ => some (.str x)
 | .bytes b _ => some (.byt b)
 | .float b _ => some (.flt b)
 | .ref a => some (.ref a)
 | .type n => some (.ty n)
 | _ => none
theorem RelV.abs {x : V} {u : Value} (r : RelV x u) : Cr u = some x := by
 cases x with
 | non => cases r; rfl
 | bl _ => cases r; rfl
 | int _ => obtain ⟨t, rfl⟩ := r; rfl
 | str _ => obtain ⟨t, rfl⟩ := r; rfl
 | byt _ => obtain ⟨t, rfl⟩ := r; rfl
 | flt _ => obtain ⟨t, rfl⟩ := r; rfl
 | ref _ => cases r; rfl
 | ty _ => cases r; rfl
theorem RelV.inj {x y : V} {u : Value} (r : RelV x u) (q : RelV y u) : x = y := Option.some.inj (r.abs.symm.trans q.abs)
theorem Vals.inj : ∀ {xs ys : List V} {us : List Value}, Vals xs us -> Vals ys us -> xs = ys
 | _, _, _, .nil, .nil => rfl
 | _, _, _, .cons r t, .cons r' t' => by rw [r.inj r', Vals.inj t t']
section
variable {X : Cx} {pins : List (Addr × Obj)} {σ : St} {H : Hp} {s : Shared} {a : Addr} {xs ys : List V}
theorem ar.of {K : PySem.W.Frag} (h : H a = some (.lst xs)) : ar K H a xs := .inl (.inl h)
theorem aB.of {K : PySem.W.Frag} (h : H a = some (.tup xs)) : aB K H a xs := .inl (.inl h)
theorem Inv.list (I : Inv X pins σ H s) (h : ar X.K H a xs) : ∃ aj : List Value, Vals xs aj /\ PlainL s.heap a aj.toArray /\ xs.length <= sizeLine := by
 rcases h with h | ⟨o, aj, n, hk, hc, hd, hs, hz, r⟩
 ·obtain ⟨z, aj, n, r, e⟩ := h.ok I.av
  exact ⟨aj, r, ⟨_, n, e, rfl, rfl, rfl⟩, z⟩
 ·refine ⟨aj.toList, r, ⟨o, n, I.bG a o hk, hc, hd, by simpa using hs⟩, ?_⟩
  have e := r.length
  simp only [Array.length_toList] at e
  omega
theorem Inv.tuple (I : Inv X pins σ H s) (h : aB X.K H a xs) : ∃ aj : List Value, Vals xs aj /\ IsTup s.heap a aj.toArray /\ xs.length <= sizeLine := by
 rcases h with h | ⟨o, aj, n, hk, hc, hs, hz, r⟩
 ·obtain ⟨z, aj, r, p⟩ := h.ok I.av
  exact ⟨aj, r, p, z⟩
 ·refine ⟨aj.toList, r, ⟨o, I.bG a o hk, hc, n, by simpa using hs⟩, ?_⟩
  have e := r.length
  simp only [Array.length_toList] at e
  omega
theorem Inv.pO (I : Inv X pins σ H s) (h : ar X.K H a xs) (h' : ar X.K H a ys) : xs = ys := by
 obtain ⟨aj, r, ⟨o, n, e, _, _, d⟩, _⟩ := I.list h
 obtain ⟨its', r', ⟨o', n', e', _, _, d'⟩, _⟩ := I.list h'
 rw [e] at e'; cases e'
 rw [d] at d'
 injection d' with d1 _
 have : aj = its' := by simpa using congrArg Array.toList d1
 subst this
 exact r.inj r'
theorem Inv.Cs (I : Inv X pins σ H s) (h : aB X.K H a xs) (h' : aB X.K H a ys) : xs = ys := by
 obtain ⟨aj, r, ⟨o, e, _, n, d⟩, _⟩ := I.tuple h
 obtain ⟨its', r', ⟨o', e', _, n', d'⟩, _⟩ := I.tuple h'
 rw [e] at e'; cases e'
 rw [d] at d'
 injection d' with d1 _
 have : aj = its' := by simpa using congrArg Array.toList d1
 subst this
 exact r.inj r'
end
noncomputable abbrev Cx.eu (X : Cx) (E : Value -> Shared -> Prop) : Cx := { X with xe := E }
noncomputable abbrev Cx.ez (X : Cx) : Cx := X.eu fun _ _ => False
theorem Cx.Ok.eu {X : Cx} (ok : X.Ok) (E : Value -> Shared -> Prop) : (X.eu E).Ok :=
 ⟨ok.mod, ok.kind, ok.glob, ok.blt, ok.above, ok.inj, ok.has, ok.cab, ok.hd, ok.frames, ok.stk, ok.exf, ok.bs, ok.bsz, ok.noex, ok.exfs, ok.er, ok.frf⟩
theorem Cx.Ok.fA {X : Cx} {E : Value -> Shared -> Prop} (ok : (X.eu E).Ok) : X.Ok :=
 ⟨ok.mod, ok.kind, ok.glob, ok.blt, ok.above, ok.inj, ok.has, ok.cab, ok.hd, ok.frames, ok.stk, ok.exf, ok.bs, ok.bsz, ok.noex, ok.exfs, ok.er, ok.frf⟩
section
variable {X : Cx} {pins : List (Addr × Obj)} {σ : St} {H : Hp} {s : Shared} {E : Value -> Shared -> Prop}
theorem Inv.eu (I : Inv X pins σ H s) (E : Value -> Shared -> Prop) : Inv (X.eu E) pins σ H s := ⟨I.ok.eu E, I.os, I.bare, I.base, I.loc, I.cell, I.free, I.fz, I.pin, I.av, I.len⟩
theorem Inv.fA (I : Inv (X.eu E) pins σ H s) : Inv X pins σ H s := ⟨I.ok.fA, I.os, I.bare, I.base, I.loc, I.cell, I.free, I.fz, I.pin, I.av, I.len⟩
theorem SP.fA {D : Ends} {f : Flow} {s' : Shared} (h : SP (X.eu E) pins D f s') : SP X pins D f s' := by
 cases f with
 | next => obtain ⟨σ', H', I, q⟩ := h; exact ⟨σ', H', I.fA, q⟩
 | brk => obtain ⟨σ', H', I, q⟩ := h; exact ⟨σ', H', I.fA, q⟩
 | cont => obtain ⟨σ', H', I, q⟩ := h; exact ⟨σ', H', I.fA, q⟩
 | ret u => obtain ⟨v, σ', H', I, r, q⟩ := h; exact ⟨v, σ', H', I.fA, r, q⟩
theorem PE.ez {e : Expr} {t : TE} (h : PE X.ez e t) : PE X e t := fun pins s σ H Q I hw =>
 wpAny_mono (h pins s σ H Q (I.eu _) hw) (fun _ _ ⟨v, H', I', r, q⟩ => ⟨v, H', I'.fA, r, q⟩) fun _ _ z => False.elim z
theorem PT.ez {e : Expr} {t : TT} (h : PT X.ez e t) : PT X e t := fun pins s σ H Q I hw =>
 wpAny_mono (h pins s σ H Q (I.eu _) hw) (fun _ _ ⟨H', I', q⟩ => ⟨H', I'.fA, q⟩) fun _ _ z => False.elim z
theorem aR.ez {st : List Stmt} {t : TS} (h : aR X.ez st t) : aR X st t := fun pins s σ H D I hw =>
 wpAny_mono (h pins s σ H D (I.eu _) hw) (fun _ _ q => q.fA) fun _ _ z => False.elim z
end
section
variable {X : Cx} {st : Stmt} {rest : List Stmt} {t u : TS} {e : Expr} {te : TE} {pos : Pos}
def vO : TS := fun D σ H => D.nx σ H
def pP (t u : TS) : TS := fun D σ H => t { D with nx := u D } σ H
theorem aO : aR X [] vO := fun _ _ σ H _ I h => wpAny_execs_nil ⟨σ, H, I, h⟩
theorem au (h1 : PS X st t) (h2 : aR X rest u) : aR X (st :: rest) (pP t u) := by
 intro pins s σ H D I h
 refine wpAny_execs_cons (aw (h1 pins s σ H { D with nx := u D } I h) fun f s1 q => ?_)
 cases f with
 | next =>
  obtain ⟨σ', H', I', q⟩ := q
  exact h2 pins s1 σ' H' D I' q
 | ret v => exact q
 | brk => exact q
 | cont => exact q
theorem ao (h1 : PS X st t) : aR X [st] t := by
 intro pins s σ H D I h
 refine wpAny_execs_cons (aw (h1 pins s σ H D I h) fun f s1 q => ?_)
 cases f with
 | next => exact wpAny_execs_nil q
 | ret v => exact q
 | brk => exact q
 | cont => exact q
theorem Inv.quiet {pins : List (Addr × Obj)} {σ : St} {H : Hp} {s : Shared} (I : Inv X pins σ H s) : interactive X.env = false := by simp [interactive, I.ok.kind]
def vP (te : TE) : TS := fun D σ H => te σ H fun _ H1 => D.nx σ H1
theorem eA (he : PE X e te) (hs : swapsWith e none pos.line X.env = pure false := by rfl) : PS X (.Expr e pos) (vP te) := by
 intro pins s σ H D I h
 exact wpAny_Expr_any (aw (he pins s σ H _ I h) fun v s1 ⟨x, H1, I1, r1, q1⟩ => ⟨σ, H1, I1, q1⟩) I.quiet hs
def vQ (te : TE) : TS := fun D σ H => te σ H D.rt
theorem ax (he : PE X e te) : PS X (.Return (some e) pos) (vQ te) := by
 intro pins s σ H D I h
 exact wpAny_Return_some (aw (he pins s σ H _ I h) fun v s1 ⟨x, H1, I1, r1, q1⟩ => ⟨x, σ, H1, I1, r1, q1⟩)
def ny (c : TT) (t u : TS) : TS := fun D σ H => c σ H fun b H1 => if b = true then t D σ H1 else u D σ H1
theorem aK {c : Expr} {a b : List Stmt} {tc : TT} (hc : PT X c tc) (ha : aR X a t) (hb : aR X b u) : PS X (.If c a b pos) (ny tc t u) := by
 intro pins s σ H D I h
 refine wpAny_If (aw (hc pins s σ H _ I h) fun d s1 ⟨H1, I1, q1⟩ => ?_)
 cases d with
 | true => exact ha pins s1 σ H1 D I1 q1
 | false => exact hb pins s1 σ H1 D I1 q1
end
abbrev TG := V -> St -> Hp -> (St -> Hp -> Prop) -> Prop
abbrev iM := List V -> St -> Hp -> (St -> Hp -> Prop) -> Prop
def PG (X : Cx) (target : Expr) (t : TG) : Prop :=
 ∀ (pins : List (Addr × Obj)) (s : Shared) (σ : St) (H : Hp) (v : V) (u : Value) (Q : St -> Hp -> Prop), Inv X pins σ H s -> RelV v u -> t v σ H Q ->
  wpAny (model X.prog X.w) X.A (assign target X.env u) (fun _ s' => ∃ σ' H', Inv X pins σ' H' s' /\ Q σ' H') X.xe s
def nA (X : Cx) (ts : List Expr) (t : iM) : Prop :=
 ∀ (pins : List (Addr × Obj)) (s : Shared) (σ : St) (H : Hp) (vs : List V) (us : List Value) (Q : St -> Hp -> Prop), Inv X pins σ H s -> Vals vs us -> t vs σ H Q ->
  wpAny (model X.prog X.w) X.A (assignInOrder ((assignEach ts X.env).map (·.2)) us) (fun _ s' => ∃ σ' H', Inv X pins σ' H' s' /\ Q σ' H') X.xe s
abbrev pQ := V -> V -> V -> Hp -> (Hp -> Prop) -> Prop
def vR (X : Cx) (t : pQ) : Prop :=
 ∀ (pins : List (Addr × Obj)) (s : Shared) (σ : St) (H : Hp) (o i v : V) (ov iv u : Value) (Q : Hp -> Prop), Inv X pins σ H s -> RelV o ov -> RelV i iv -> RelV v u -> t o i v H Q ->
  wpAny (model X.prog X.w) X.A (setItem ov iv u) (fun _ s' => ∃ H', Inv X pins σ H' s' /\ Q H') X.xe s
section
variable {X : Cx} {pos : Pos}
def fY (i : Nat) : TG := fun v σ H Q => Q (σ.set i (some v)) H
theorem pR {i : Nat} {x : Str} (hN : X.N.Nodup) (hi : X.N[i]? = some x) (hx : Loc X.env.scope x) (hf : X.fn x = true ∨ X.env.scope.names.lookup x = some .local := by first | exact .inl rfl | exact .inr rfl | assumption) : PG X (.Name x pos) (fY i) := by
 intro pins s σ H v u Q I r h
 exact wpAny_assign_Name (vz I hN hi hx r (fun s' I' => ⟨_, H, I', h⟩) hf)
def pS : iM := fun vs σ H Q => vs = [] /\ Q σ H
def nB (t : TG) (u : iM) : iM := fun vs σ H Q => ∃ v r, vs = v :: r /\ t v σ H fun σ' H' => u r σ' H' Q
theorem Ct : nA X [] pS := by
 intro pins s σ H vs us Q I r h
 obtain ⟨e, h⟩ := h
 subst e
 cases r
 exact assignInOrder_nil ⟨σ, H, I, h⟩
theorem vS {e : Expr} {es : List Expr} {t : TG} {u : iM} (h1 : PG X e t) (h2 : nA X es u)
 (hs : (assignEach (e :: es) X.env).map (·.2) = assign e X.env :: (assignEach es X.env).map (·.2) := by rfl) : nA X (e :: es) (nB t u) := by
 intro pins s σ H vs us Q I r h
 obtain ⟨v, vr, e1, h⟩ := h
 subst e1
 cases r with
 | cons r rr =>
  rw [hs]
  refine assignInOrder_cons (aw (h1 pins s σ H _ _ _ I r h) fun _ s1 ⟨σ1, H1, I1, q1⟩ => ?_)
  exact h2 pins s1 σ1 H1 _ _ Q I1 rr q1
def vT (K : PySem.W.Frag) (n : Nat) (t : iM) : TG := fun v σ H Q => ∃ a xs, v = .ref a /\ aB K H a xs /\ xs.length = n /\ t xs σ H Q
theorem Cu {es : List Expr} {k : Nat} {t : iM} {n : Nat} (hc : X.calm = true) (h : nA X es t)
 (hn : (assignEach es X.env).length = n := by rfl) (k8 : (assignEach es X.env).findIdx? (·.1) = none := by rfl) : PG X (.Tuple es k pos) (vT X.K n t) := by
 intro pins s σ H v u Q I r hw
 obtain ⟨a, xs, e1, hq, hl, hw⟩ := hw
 subst e1
 cases r
 obtain ⟨aj, rv, ht, hz⟩ := I.tuple hq
 refine assign_Tuple_tuple (I.ok.hd hc) ht (by simp [hn, <- hl, rv.length]) k8 fun h' hx => ?_
 have I1 : Inv X pins σ H { s with heap := h' } := I.kept (t' := s.toks) fun b o e => hx b o (Nat.ne_of_lt (Heap.lt_size e)) e
 exact h pins _ σ H xs _ Q I1 (by simpa using rv) hw
def vU (to ti : TE) (t : pQ) : TG := fun v σ H Q => to σ H fun o H1 => ti σ H1 fun i H2 => t o i v H2 fun H3 => Q σ H3
theorem Cv {o i : Expr} {to ti : TE} {t : pQ} (ho : PE X o to) (hi : PE X i ti) (hs : vR X t)
 (ha : ∀ v, assign (.Subscript o i pos) X.env v = (do
   let ov <- holding [v] (eval o X.env)
   let iv <- holding [v, ov] (eval i X.env)
   standAt pos
   holding [v, ov, iv] (setItem ov iv v)
   release [v, ov, iv] []) := by intro _; rfl) : PG X (.Subscript o i pos) (vU to ti t) := by
 intro pins s σ H v u Q I r h
 rw [ha]
 refine wpAny_bind (wpAny_holding (aw (ho pins s σ H _ I h) fun ov s1 ⟨x, H1, I1, r1, q1⟩ => ?_))
 refine wpAny_bind (wpAny_holding (aw (hi pins s1 σ H1 _ I1 q1) fun iv s2 ⟨y, H2, I2, r2, q2⟩ => ?_))
 refine wpAny_bind (wpAny_standAt (wpAny_bind (wpAny_holding (aw (hs pins s2 σ H2 x y v ov iv u _ I2 r1 r2 r q2) fun _ s3 ⟨H3, I3, q3⟩ => ?_))))
 exact wpAny_release ⟨σ, H3, I3, q3⟩
def nC (te : TE) (g : TG) : TS := fun D σ H => te σ H fun x H1 => g x σ H1 D.nx
theorem Cw {tg e : Expr} {te : TE} {g : TG} (he : PE X e te) (hg : PG X tg g) (hs : swapsWithSole [tg] e pos.line X.env = pure false := by rfl) (hw : swappedStores [tg] e X.env = pure none := by rfl)
 (h1 : (assignEach [tg] X.env).map (·.2) = [assign tg X.env] := by rfl) : PS X (.Assign [tg] e pos) (nC te g) := by
 intro pins s σ H D I h
 refine wpAny_Assign_stores (aw (he pins s σ H _ I h) fun v s1 ⟨x, H1, I1, r1, q1⟩ => ?_) hs hw
 rw [h1]
 exact aw (hg pins s1 σ H1 x v _ I1 r1 q1) fun _ s2 q => q
theorem Cy {i : Nat} {x : Str} {e : Expr} {te : TE} {pos' : Pos} (hN : X.N.Nodup) (hi : X.N[i]? = some x) (hx : Loc X.env.scope x) (he : PE X e te) (hs : swapsWith e (some (.Name x pos')) pos.line X.env = pure false := by rfl) (hf : X.fn x = true ∨ X.env.scope.names.lookup x = some .local := by first | exact .inl rfl | exact .inr rfl | assumption) :
 PS X (.Assign [.Name x pos'] e pos) (nC te (fY i)) := by
 intro pins s σ H D I h
 refine wpAny_Assign_Name (aw (he pins s σ H _ I h) fun v s1 ⟨y, H1, I1, r1, q1⟩ => ?_) hs
 exact vz I1 hN hi hx r1 (fun s2 I2 => ⟨_, H1, I2, q1⟩) hf
end
section
variable {X : Cx} {pos : Pos}
end
structure It where
 go : Nat -> Hp -> Prop
 yld : Nat -> Hp -> V -> Hp -> Prop
 stop : Nat -> Hp -> Prop
def dj (X : Cx) (pins : List (Addr × Obj)) (H : Hp) (b : Addr) : Prop :=
 H b = none /\ b ≠ X.env.locals /\ b ∉ X.fs /\ (b ∈ X.ex ∨ X.s₀.heap.objs.size <= b) /\ (∀ x c, X.env.cells.lookup x = some c -> c ≠ b) /\ ∀ p ∈ X.pn ++ pins, p.1 ≠ b
theorem Inv.jO {X : Cx} {pins : List (Addr × Obj)} {σ : St} {H H' : Hp} {s : Shared} {b : Addr} (I : Inv X pins σ H s) (hb : s.heap.objs.size <= b) (hn : H' b = none) : dj X pins H' b := by
 refine ⟨hn, Nat.ne_of_gt (Nat.lt_of_lt_of_le I.lt hb), I.vt hb, .inr (Nat.le_trans I.sz hb), fun x c e z => ?_, fun p hp z => ?_⟩
 ·obtain ⟨v, q⟩ := I.cell x c e
  exact absurd (Nat.lt_of_lt_of_le q.lt (by rw [z]; exact hb)) (Nat.lt_irrefl _)
 ·exact absurd (Nat.lt_of_lt_of_le (Heap.lt_size (I.pin p hp).1) (by rw [z]; exact hb)) (Nat.lt_irrefl _)
structure Turn (P : Program) (w : World) (K : PySem.W.Frag) (tg : Expr) (J : It) (fp : List Addr) (it : Addr) (tn : Nat -> Heap -> Prop) : Prop where
 mem : it ∈ fp
 obj : ∀ i h, tn i h -> ∀ b ∈ fp, ∃ o, h.get? b = some o /\ ∀ v, o.data ≠ .cell v
 keep : ∀ i h h', tn i h -> (∀ b ∈ fp, ∀ o, h.get? b = some o -> h'.get? b = some o) -> tn i h'
 item : ∀ (X : Cx), X.prog = P -> X.w = w -> X.K = K -> X.calm = true -> ∀ (i : Nat) (pins : List (Addr × Obj)) (s : Shared) (σ : St) (H : Hp) (E : Value -> Shared -> Prop), Inv X pins σ H s -> (∀ b ∈ fp, dj X pins H b) -> tn i s.heap -> J.go i H ->
  wpAny (model P w) X.A (pyNext (.ref it)) (fun r s1 => ∃ u, r = some u /\
   wpAny (model P w) X.A (letOwnedTupleGo tg (.ref it) u) (fun _ s2 => ∃ x H', Inv X pins σ H' s2 /\ RelV x u /\ J.yld i H x H' /\ tn (i + 1) s2.heap /\ ∀ b ∈ fp, H' b = none) E s1) E s
 done : ∀ (X : Cx), X.prog = P -> X.w = w -> X.K = K -> X.calm = true -> ∀ (i : Nat) (pins : List (Addr × Obj)) (s : Shared) (σ : St) (H : Hp) (E : Value -> Shared -> Prop), Inv X pins σ H s -> (∀ b ∈ fp, dj X pins H b) -> tn i s.heap -> J.stop i H ->
  wpAny (model P w) X.A (pyNext (.ref it)) (fun r s1 => r = none /\ Inv X pins σ H s1) E s
 self : ∀ (A : Around) (i : Nat) (s : Shared) (Q : Value -> Shared -> Prop) (E : Value -> Shared -> Prop), tn i s.heap -> Q (.ref it) s -> wpAny (model P w) A (pyIter (.ref it)) Q E s
abbrev TI := St -> Hp -> (It -> Hp -> Prop) -> Prop
def vV (X : Cx) (pins : List (Addr × Obj)) (σ : St) (tg : Expr) (R : It -> Hp -> Prop) (nD : Value) (s2 : Shared) : Prop :=
 ∃ (it : Addr) (fp : List Addr) (tn : Nat -> Heap -> Prop) (J : It) (H' : Hp), nD = .ref it /\ Inv X pins σ H' s2 /\ Turn X.prog X.w X.K tg J fp it tn /\ tn 0 s2.heap /\ (∀ b ∈ fp, dj X pins H' b) /\ R J H'
def PI (X : Cx) (tg iter : Expr) (wi : TI) : Prop :=
 ∀ (pins : List (Addr × Obj)) (s : Shared) (σ : St) (H : Hp) (R : It -> Hp -> Prop), Inv X pins σ H s -> wi σ H R ->
  wpAny (model X.prog X.w) X.A (eval iter X.env) (fun v s1 => wpAny (model X.prog X.w) X.A (pyIter v) (vV X pins σ tg R) X.xe s1) X.xe s
theorem nE {M : Model} {A : Around} {E : Value -> Shared -> Prop} {s : Shared} {tg : Expr} {it : Addr} {u : Value} {o : Obj} {n : String} {vs : Array Value} {Q : Unit -> Shared -> Prop} (ho : s.heap.get? it = some o) (hc : o.cls = .type n) (hd : o.data = .fields vs)
 (hn : ["enumerate", "zip", "dict_itemiterator", "dict_reverseitemiterator", "odict_iterator", "itertools.zip_longest", "itertools.pairwise"].contains n = false) (hQ : Q () s) : wpAny M A (letOwnedTupleGo tg (.ref it) u) Q E s := by
 unfold letOwnedTupleGo
 cases tg <;> first
  | exact wpAny_pure hQ
  | (cases u <;> first
      | exact wpAny_pure hQ
      | (refine wpAny_bind (wpAny_load ho ?_)
         rw [hc, hd]
         show wpAny M A (if (["enumerate", "zip", "dict_itemiterator", "dict_reverseitemiterator", "odict_iterator", "itertools.zip_longest", "itertools.pairwise"].contains n && vs[0]? == some (rawInt _)) = true then _ else _) Q E s
         rw [if_neg (by intro h; rw [hn, Bool.false_and] at h; cases h)]
         exact wpAny_pure hQ))
noncomputable def gD (K : PySem.W.Frag) (a : Addr) : It :=
 ⟨fun i H => ∃ xs x, ar K H a xs /\ xs[i]? = some x, fun i H x H' => H' = H /\ ∀ xs, ar K H a xs -> xs[i]? = some x, fun i H => ∃ xs, ar K H a xs /\ xs.length <= i⟩
noncomputable def iN (K : PySem.W.Frag) (a : Addr) : It :=
 ⟨fun i H => ∃ xs x, aB K H a xs /\ xs[i]? = some x, fun i H x H' => H' = H /\ ∀ xs, aB K H a xs -> xs[i]? = some x, fun i H => ∃ xs, aB K H a xs /\ xs.length <= i⟩
noncomputable def eS (lo : Int) (n : Nat) : It := ⟨fun i _ => i < n, fun i H x H' => H' = H /\ x = .int (lo + i), fun i _ => n <= i⟩
theorem Cz {P : Program} {w : World} {K : PySem.W.Frag} {tg : Expr} (a it : Addr) : Turn P w K tg (gD K a) [it] it (fun i h => h.IsListIter it a i) where
 mem := by simp
 obj := fun i h st b hb => by
  have e : b = it := by simpa using hb
  subst e
  obtain ⟨o, e, c, d⟩ := st
  exact ⟨o, e, fun v z => by rw [d] at z; cases z⟩
 keep := fun i h h' st k => st.at fun o e => k it (by simp) o e
 item := by
  intro X hP hw hK hc i pins s σ H E I hf st hg
  subst hP hw hK
  obtain ⟨xs, x, hq, hx⟩ := hg
  obtain ⟨aj, rv, p, hz⟩ := I.list hq
  obtain ⟨u, hu, ru⟩ := rv.get hx
  obtain ⟨f0, f1, f2, f3, f4, f5⟩ := hf it (by simp)
  refine wpAny_pyNext_list_item st p.isList (x := u) (by simpa using hu) fun h' cT sb => ?_
  have I1 : Inv X pins σ H { s with heap := h' } := I.turned (t' := s.toks) (fun b o hb e => (sb.2 b hb).trans e) f0 f1 f3 f4 f5
  obtain ⟨o, e, c, d⟩ := id cT
  exact ⟨u, rfl, nE (s := { s with heap := h' }) e c d (by decide) ⟨x, H, I1, ru, ⟨rfl, fun ys hy => by rw [I.pO hy hq]; exact hx⟩, cT, fun b hb => (hf b hb).1⟩⟩
 done := by
  intro X hP hw hK hc i pins s σ H E I hf st hg
  subst hP hw hK
  obtain ⟨xs, hq, hx⟩ := hg
  obtain ⟨aj, rv, p, hz⟩ := I.list hq
  obtain ⟨f0, f1, f2, f3, f4, f5⟩ := hf it (by simp)
  have hl := rv.length
  exact wpAny_pyNext_list_end (I.ok.hd hc) st p.isList (by simp; omega) fun h' eb => ⟨rfl, I.turned (t' := s.toks) (fun b o hb e => eb b o hb e) f0 f1 f3 f4 f5⟩
 self := fun _ _ _ _ _ st h => wpAny_pyIter_listiter st h
theorem CA {P : Program} {w : World} {K : PySem.W.Frag} {tg : Expr} (a it : Addr) : Turn P w K tg (iN K a) [it] it (fun i h => h.IsTupleIter it a i) where
 mem := by simp
 obj := fun i h st b hb => by
  have e : b = it := by simpa using hb
  subst e
  obtain ⟨o, e, c, d⟩ := st
  exact ⟨o, e, fun v z => by rw [d] at z; cases z⟩
 keep := fun i h h' st k => st.at fun o e => k it (by simp) o e
 item := by
  intro X hP hw hK hc i pins s σ H E I hf st hg
  subst hP hw hK
  obtain ⟨xs, x, hq, hx⟩ := hg
  obtain ⟨aj, rv, p, hz⟩ := I.tuple hq
  obtain ⟨u, hu, ru⟩ := rv.get hx
  obtain ⟨f0, f1, f2, f3, f4, f5⟩ := hf it (by simp)
  refine wpAny_pyNext_tuple_item st (show s.heap.IsTuple a aj.toArray from p) (x := u) (by simpa using hu) fun h' cT sb => ?_
  have I1 : Inv X pins σ H { s with heap := h' } := I.turned (t' := s.toks) (fun b o hb e => (sb.2 b hb).trans e) f0 f1 f3 f4 f5
  obtain ⟨o, e, c, d⟩ := id cT
  exact ⟨u, rfl, nE (s := { s with heap := h' }) e c d (by decide) ⟨x, H, I1, ru, ⟨rfl, fun ys hy => by rw [I.Cs hy hq]; exact hx⟩, cT, fun b hb => (hf b hb).1⟩⟩
 done := by
  intro X hP hw hK hc i pins s σ H E I hf st hg
  subst hP hw hK
  obtain ⟨xs, hq, hx⟩ := hg
  obtain ⟨aj, rv, p, hz⟩ := I.tuple hq
  obtain ⟨f0, f1, f2, f3, f4, f5⟩ := hf it (by simp)
  have hl := rv.length
  exact wpAny_pyNext_tuple_end (I.ok.hd hc) st (show s.heap.IsTuple a aj.toArray from p) (by simp; omega) fun h' eb => ⟨rfl, I.turned (t' := s.toks) (fun b o hb e => eb b o hb e) f0 f1 f3 f4 f5⟩
 self := fun _ _ _ _ _ st h => wpAny_pyIter_tupleiter st h
theorem CB {P : Program} {w : World} {K : PySem.W.Frag} {tg : Expr} (it : Addr) (lo : Int) (n : Nat) : Turn P w K tg (eS lo n) [it] it (fun i h => IsRangeIter h it (lo + (i : Nat) * 1) ((n : Int) - (i : Nat)) 1) where
 mem := by simp
 obj := fun i h st b hb => by
  have e : b = it := by simpa using hb
  subst e
  exact ⟨_, st, fun v z => by
   have z' : Data.fields _ = Data.cell v := z
   cases z'⟩
 keep := fun i h h' st k => k it (by simp) _ st
 item := by
  intro X hP hw hK hc i pins s σ H E I hf st hg
  subst hP hw hK
  obtain ⟨f0, f1, f2, f3, f4, f5⟩ := hf it (by simp)
  have W := Walks.range (prog := X.prog) (w := X.w) (I.ok.hd hc) it lo 1 n
  refine W.item i s _ _ hg st fun v h' tk hv cT kk => ?_
  obtain ⟨t, rfl⟩ := hv
  have I1 : Inv X pins σ H { s with heap := h', toks := tk } := I.turned (fun b o hb e => kk b o (by simpa using hb) e) f0 f1 f3 f4 f5
  refine ⟨_, rfl, nE (s := { s with heap := h', toks := tk }) (n := "range_iterator") cT rfl rfl (by decide) ⟨.int (lo + i), H, I1, ⟨t, ?_⟩, ⟨rfl, rfl⟩, cT, fun b hb => (hf b hb).1⟩⟩
  rw [Int.mul_one]
 done := by
  intro X hP hw hK hc i pins s σ H E I hf st hg
  subst hP hw hK
  obtain ⟨f0, f1, f2, f3, f4, f5⟩ := hf it (by simp)
  exact wpAny_pyNext_range_end (I.ok.hd hc) st (by have : n <= i := hg; omega) fun h' eb => ⟨rfl, I.turned (t' := s.toks) (fun b o hb e => eb b o hb e) f0 f1 f3 f4 f5⟩
 self := fun _ _ _ _ _ st h => wpAny_pyIter_rangeiter st h
end L2
namespace L2
open PySem PySem.Spec PyProof.Rows
section
variable {X : Cx} {tg : Expr}
def pU (K : PySem.W.Frag) (tl : TE) : TI := fun σ H R => tl σ H fun x H1 => ∃ a, x = .ref a /\ (∃ xs, ar K H1 a xs) /\ R (gD K a) H1
def pV (K : PySem.W.Frag) (tl : TE) : TI := fun σ H R => tl σ H fun x H1 => ∃ a, x = .ref a /\ (∃ xs, aB K H1 a xs) /\ R (iN K a) H1
theorem nF {l : Expr} {tl : TE} (hl : PE X l tl) : PI X tg l (pU X.K tl) := by
 intro pins s σ H R I h
 refine aw (hl pins s σ H _ I h) fun v s1 ⟨x, H1, I1, r1, q1⟩ => ?_
 obtain ⟨a, e, ⟨xs, hq⟩, q⟩ := q1
 subst e
 cases r1
 obtain ⟨aj, rv, p, hz⟩ := I1.list hq
 refine wpAny_pyIter_list p.isList ?_
 refine ⟨s1.heap.objs.size, [s1.heap.objs.size], _, _, H1, rfl, I1.kept (t' := s1.toks) fun b o e => Heap.get?_push_of_some _ e, Cz a _, ⟨_, Heap.get?_push_size _ rfl, rfl, rfl⟩, fun b hb => ?_, q⟩
 have e : b = s1.heap.objs.size := by simpa using hb
 subst e
 exact I1.jO (Nat.le_refl _) (I1.av.fresh (Nat.le_refl _))
theorem CC {l : Expr} {tl : TE} (hl : PE X l tl) : PI X tg l (pV X.K tl) := by
 intro pins s σ H R I h
 refine aw (hl pins s σ H _ I h) fun v s1 ⟨x, H1, I1, r1, q1⟩ => ?_
 obtain ⟨a, e, ⟨xs, hq⟩, q⟩ := q1
 subst e
 cases r1
 obtain ⟨aj, rv, p, hz⟩ := I1.tuple hq
 refine wpAny_pyIter_tuple (show s1.heap.IsTuple a aj.toArray from p) ?_
 refine ⟨s1.heap.objs.size, [s1.heap.objs.size], _, _, H1, rfl, I1.kept (t' := s1.toks) fun b o e => Heap.get?_push_of_some _ e, CA a _, ⟨_, Heap.get?_push_size _ rfl, rfl, rfl⟩, fun b hb => ?_, q⟩
 have e : b = s1.heap.objs.size := by simpa using hb
 subst e
 exact I1.jO (Nat.le_refl _) (I1.av.fresh (Nat.le_refl _))
theorem vW {pins : List (Addr × Obj)} {σ : St} {H : Hp} {s : Shared} {R : It -> Hp -> Prop} {E : Value -> Shared -> Prop} {lo hi : Int} {t u v : Tok} {tk : Nat} (I : Inv X pins σ H s) (h1 : -(2 ^ 62) <= lo) (h2 : lo < 2 ^ 62) (h3 : -(2 ^ 62) <= hi) (h4 : hi < 2 ^ 62)
 (q : R (eS lo (hi - lo).toNat) H) : wpAny (model X.prog X.w) X.A (pyIter (.ref s.heap.objs.size)) (vV X pins σ tg R) E { s with heap := s.heap.push { cls := .type "range", data := .fields #[.int lo t, .int hi u, .int 1 v] }, toks := tk } := by
 refine wpAny_pyIter_range (IsRange.new ..) (small_one h1 h2 h3 h4) ?_
 have I1 : Inv X pins σ H { s with heap := s.heap.push { cls := .type "range", data := .fields #[.int lo t, .int hi u, .int 1 v] }, toks := tk } := I.kept fun b o e => Heap.get?_push_of_some _ e
 refine ⟨(s.heap.push { cls := .type "range", data := .fields #[.int lo t, .int hi u, .int 1 v] }).objs.size, [(s.heap.push { cls := .type "range", data := .fields #[.int lo t, .int hi u, .int 1 v] }).objs.size], _, _, H, rfl,
  I1.kept (t' := tk) fun b o e => Heap.get?_push_of_some _ e, CB _ lo (hi - lo).toNat, ?_, fun b hb => ?_, q⟩
 ·have e1 : lo + ((0 : Nat) : Int) * 1 = lo := by simp
  have e2 : (((hi - lo).toNat : Nat) : Int) - ((0 : Nat) : Int) = Builtin.Range.rangeSize lo hi 1 := by rw [rangeSize_one]; split <;> omega
  show IsRangeIter _ _ (lo + ((0 : Nat) : Int) * 1) ((((hi - lo).toNat : Nat) : Int) - ((0 : Nat) : Int)) 1
  rw [e1, e2]
  exact Heap.get?_push_size _ rfl
 ·have e : b = (s.heap.push { cls := .type "range", data := .fields #[.int lo t, .int hi u, .int 1 v] }).objs.size := by simpa using hb
  subst e
  exact I1.jO (Nat.le_refl _) (I1.av.fresh (Nat.le_refl _))
def pW (ta : TA) : TI := fun σ H R => ta σ H fun vs H1 => ∃ j : Int, vs = [.int j] /\ -(2 ^ 62) <= j /\ j < 2 ^ 62 /\ R (eS 0 j.toNat) H1
def pX (ta : TA) : TI := fun σ H R => ta σ H fun vs H1 => ∃ i j : Int, vs = [.int i, .int j] /\ (-(2 ^ 62) <= i /\ i < 2 ^ 62 /\ -(2 ^ 62) <= j /\ j < 2 ^ 62) /\ R (eS i (j - i).toNat) H1
theorem CD {a : Expr} {ta : TA} {p pos : Pos} (hg : Gl X "range") (hm : X.mg "range" = none) (ha : PA X [a] ta) (hs : starEach [a] X.env = [(false, eval a X.env)] := by rfl) : PI X tg (.Call (.Name "range" p) [a] [] pos) (pW ta) := by
 intro pins s σ H R I h
 refine Call_ (jM I hg hm boot_range (PyProof.Rows.callWith_type1 (aw (ha pos pins s σ H _ I h) fun us s1 ⟨vs, H1, I1, r1, q1⟩ => ?_) hs rfl))
 obtain ⟨j, e, q1, q2, q⟩ := q1
 subst e
 cases r1 with
 | cons r rr =>
  cases rr
  obtain ⟨t, rfl⟩ := r
  exact call_range_1 (vW I1 (by omega) (by omega) q1 q2 (by simpa using q))
theorem nG {a b : Expr} {ta : TA} {p pos : Pos} (hg : Gl X "range") (hm : X.mg "range" = none) (ha : PA X [a, b] ta) (hs : starEach [a, b] X.env = [(false, eval a X.env), (false, eval b X.env)] := by rfl) (iO : starEach [b] X.env = [(false, eval b X.env)] := by rfl) :
 PI X tg (.Call (.Name "range" p) [a, b] [] pos) (pX ta) := by
 intro pins s σ H R I h
 refine Call_ (jM I hg hm boot_range (PyProof.Rows.callWith_type1 (aw (ha pos pins s σ H _ I h) fun us s1 ⟨vs, H1, I1, r1, q1⟩ => ?_) (by rw [hs, iO]) (by rw [iO]; rfl)))
 obtain ⟨i, j, e, ⟨q1, q2, q3, q4⟩, q⟩ := q1
 subst e
 cases r1 with
 | cons r rr =>
  cases rr with
  | cons r' rr =>
   cases rr
   obtain ⟨t, rfl⟩ := r
   obtain ⟨t', rfl⟩ := r'
   exact call_range_2 (vW I1 q1 q2 q3 q4 q)
def fB (wi : TI) (g : TG) (tb : TS) : TS := fun D σ H => wi σ H fun J H1 => ∃ W : Nat -> Nat -> St -> Hp -> Prop, (∃ m, W 0 m σ H1) /\ ∀ i m σ H, W i m σ H ->
 (J.stop i H /\ D.nx σ H) ∨ (J.go i H /\ ∃ N : St -> Hp -> Prop, (∀ σ' H', N σ' H' -> ∃ m', m' < m /\ W (i + 1) m' σ' H') /\ ∀ x H', J.yld i H x H' -> g x σ H' fun σ2 H2 => tb { D with nx := N, ct := N, bk := D.nx } σ2 H2)
noncomputable def k9 (fp : List Addr) (h : Heap) : List (Addr × Obj) := fp.filterMap fun b => (h.get? b).map fun o => (b, o)
theorem nH {fp : List Addr} {h : Heap} {b : Addr} {o : Obj} (hb : b ∈ fp) (e : h.get? b = some o) : (b, o) ∈ k9 fp h := List.mem_filterMap.mpr ⟨b, hb, by rw [e]; rfl⟩
theorem CF {fp : List Addr} {h : Heap} {p : Addr × Obj} (hp : p ∈ k9 fp h) : p.1 ∈ fp /\ h.get? p.1 = some p.2 := by
 obtain ⟨b, hb, e⟩ := List.mem_filterMap.mp hp
 cases q : h.get? b with
 | none => rw [q] at e; cases e
 | some o =>
  rw [q] at e
  have e' : (b, o) = p := Option.some.inj e
  subst e'
  exact ⟨hb, q⟩
theorem Inv.pinned {pins : List (Addr × Obj)} {σ : St} {H : Hp} {s : Shared} {fp : List Addr} (I : Inv X pins σ H s) (hf : ∀ b ∈ fp, dj X pins H b) (ho : ∀ b ∈ fp, ∃ o, s.heap.get? b = some o /\ ∀ v, o.data ≠ .cell v) : Inv X (pins ++ k9 fp s.heap) σ H s :=
 I.k4 fun p hp => (List.mem_append.mp hp).elim (fun z => I.pin p (List.mem_append_right _ z)) fun z => by
  obtain ⟨hb, e⟩ := CF z
  obtain ⟨f0, f1, f2, _⟩ := hf p.1 hb
  obtain ⟨o, e', d⟩ := ho p.1 hb
  rw [e] at e'; cases e'
  exact ⟨e, f0, f1, f2, d⟩
theorem Inv.nI {pins pl : List (Addr × Obj)} {σ : St} {H : Hp} {s : Shared} (I : Inv X (pins ++ pl) σ H s) : Inv X pins σ H s := I.k4 fun p hp => I.pin p (List.mem_append_right _ (List.mem_append_left _ hp))
theorem jP {iter : Expr} {body : List Stmt} {wi : TI} {g : TG} {tb : TS} {pos : Pos} (hp : PassesOwn (model X.prog X.w) X.A X.env X.xe) (hc : X.calm = true) (hi : PI X tg iter wi) (hg : PG X tg g) (hb : aR X body tb)
 (hs : ∀ x, foldedSetIterable iter X.env x = pure x := by intro _; rfl) : PS X (.For tg iter body [] pos) (fB wi g tb) := by
 intro pins s σ H D I h
 refine wpAny_For (aw (hi pins s σ H _ I h) fun v s1 h1 => aw h1 fun nD s2 h2 => ?_) hs
 obtain ⟨it, fp, tn, J, H2, e, I2, T, eT, f2, W, ⟨m0, w0⟩, turn⟩ := h2
 subst e
 have pY : ∀ {H' : Hp}, (∀ b ∈ fp, H' b = none) -> ∀ b ∈ fp, dj X pins H' b := fun hn b hb => ⟨hn b hb, (f2 b hb).2⟩
 refine codeAny_forLoop_any (fun n s' => ∃ i σ' H', Inv X pins σ' H' s' /\ tn i s'.heap /\ (∀ b ∈ fp, H' b = none) /\ W i n σ' H') ?_ m0 ⟨0, σ, H2, I2, eT, fun b hb => (f2 b hb).1, w0⟩
 rintro n s3 ⟨i, σ3, H3, I3, lb, lg, w3⟩
 rcases turn i n σ3 H3 w3 with ⟨stop, qn⟩ | ⟨go, N, hN, step⟩
 ·refine wpAny_passesOwn hp (aw (T.done X rfl rfl rfl hc i pins s3 σ3 H3 X.xe I3 (pY lg) lb stop) fun r s4 ⟨hr, I4⟩ => ?_)
  subst hr
  exact wpAny_execs_nil ⟨σ3, H3, I4, qn⟩
 ·refine wpAny_passesOwn hp (aw (T.item X rfl rfl rfl hc i pins s3 σ3 H3 X.xe I3 (pY lg) lb go) fun r s4 ⟨u, hr, h4⟩ => ?_)
  subst hr
  refine wpAny_passesOwn hp (aw h4 fun _ s5 ⟨x, H5, I5, r5, y5, iP, pZ⟩ => ?_)
  have p4 := I5.pinned (pY pZ) (T.obj _ _ iP)
  refine wpAny_passesOwn hp (aw (hg _ s5 σ3 H5 x u _ p4 r5 (step x H5 y5)) fun _ s6 ⟨σ6, H6, I6, q6⟩ => ?_)
  refine wpAny_passesOwn hp (aw (hb _ s6 σ6 H6 _ I6 q6) fun f s7 q7 => ?_)
  have again : ∀ {σ7 : St} {H7 : Hp}, Inv X (pins ++ k9 fp s5.heap) σ7 H7 s7 -> N σ7 H7 -> ∃ m, m < n /\ ∃ i σ' H', Inv X pins σ' H' s7 /\ tn i s7.heap /\ (∀ b ∈ fp, H' b = none) /\ W i m σ' H' := fun {σ7 H7} I7 n7 => by
   obtain ⟨m', hm, w7⟩ := hN σ7 H7 n7
   refine ⟨m', hm, i + 1, σ7, H7, I7.nI, T.keep _ _ _ iP fun b hb o e => (I7.pin (b, o) (List.mem_append_right _ (List.mem_append_right _ (nH hb e)))).1, fun b hb => ?_, w7⟩
   obtain ⟨o, e, d⟩ := T.obj _ _ iP b hb
   exact (I7.pin (b, o) (List.mem_append_right _ (List.mem_append_right _ (nH hb e)))).2.1
  cases f with
  | next => obtain ⟨σ7, H7, I7, n7⟩ := q7; exact again I7 n7
  | cont => obtain ⟨σ7, H7, I7, n7⟩ := q7; exact again I7 n7
  | brk => obtain ⟨σ7, H7, I7, q7⟩ := q7; exact ⟨σ7, H7, I7.nI, q7⟩
  | ret v => obtain ⟨x7, σ7, H7, I7, r7, q7⟩ := q7; exact ⟨x7, σ7, H7, I7.nI, r7, q7⟩
end
theorem CG {K : PySem.W.Frag} {a : Addr} {xs : List V} {g : TG} {tb : TS} {D : Ends} {σ : St} {H : Hp} (Pv : Nat -> St -> Hp -> Prop) (h0 : Pv 0 σ H) (hl : ∀ i σ H, i <= xs.length -> Pv i σ H -> ar K H a xs)
 (hs : ∀ i x σ H, xs[i]? = some x -> Pv i σ H -> g x σ H fun σ2 H2 => tb { D with nx := Pv (i + 1), ct := Pv (i + 1), bk := D.nx } σ2 H2) (hd : ∀ σ H, Pv xs.length σ H -> D.nx σ H) :
 ∃ W : Nat -> Nat -> St -> Hp -> Prop, (∃ m, W 0 m σ H) /\ ∀ i m σ H, W i m σ H ->
  ((gD K a).stop i H /\ D.nx σ H) ∨ ((gD K a).go i H /\ ∃ N : St -> Hp -> Prop, (∀ σ' H', N σ' H' -> ∃ m', m' < m /\ W (i + 1) m' σ' H') /\ ∀ x H', (gD K a).yld i H x H' -> g x σ H' fun σ2 H2 => tb { D with nx := N, ct := N, bk := D.nx } σ2 H2) := by
 refine ⟨fun i m σ H => m = xs.length - i /\ i <= xs.length /\ Pv i σ H, ⟨xs.length, by simp, Nat.zero_le _, h0⟩, ?_⟩
 rintro i m σ H ⟨rfl, hi, p⟩
 have q := hl i σ H hi p
 by_cases cp : i < xs.length
 ·refine .inr ⟨⟨xs, xs[i], q, by simp [cp]⟩, Pv (i + 1), fun σ' H' p' => ⟨xs.length - (i + 1), by omega, rfl, cp, p'⟩, fun x H' y => ?_⟩
  obtain ⟨e, y⟩ := y
  subst e
  exact hs i x σ _ (y xs q) p
 ·have e : i = xs.length := by omega
  subst e
  exact .inl ⟨⟨xs, q, Nat.le_refl _⟩, hd σ H p⟩
theorem CH {K : PySem.W.Frag} {a : Addr} {xs : List V} {g : TG} {tb : TS} {D : Ends} {σ : St} {H : Hp} (Pv : Nat -> St -> Hp -> Prop) (h0 : Pv 0 σ H) (hl : ∀ i σ H, i <= xs.length -> Pv i σ H -> aB K H a xs)
 (hs : ∀ i x σ H, xs[i]? = some x -> Pv i σ H -> g x σ H fun σ2 H2 => tb { D with nx := Pv (i + 1), ct := Pv (i + 1), bk := D.nx } σ2 H2) (hd : ∀ σ H, Pv xs.length σ H -> D.nx σ H) :
 ∃ W : Nat -> Nat -> St -> Hp -> Prop, (∃ m, W 0 m σ H) /\ ∀ i m σ H, W i m σ H ->
  ((iN K a).stop i H /\ D.nx σ H) ∨ ((iN K a).go i H /\ ∃ N : St -> Hp -> Prop, (∀ σ' H', N σ' H' -> ∃ m', m' < m /\ W (i + 1) m' σ' H') /\ ∀ x H', (iN K a).yld i H x H' -> g x σ H' fun σ2 H2 => tb { D with nx := N, ct := N, bk := D.nx } σ2 H2) := by
 refine ⟨fun i m σ H => m = xs.length - i /\ i <= xs.length /\ Pv i σ H, ⟨xs.length, by simp, Nat.zero_le _, h0⟩, ?_⟩
 rintro i m σ H ⟨rfl, hi, p⟩
 have q := hl i σ H hi p
 by_cases cp : i < xs.length
 ·refine .inr ⟨⟨xs, xs[i], q, by simp [cp]⟩, Pv (i + 1), fun σ' H' p' => ⟨xs.length - (i + 1), by omega, rfl, cp, p'⟩, fun x H' y => ?_⟩
  obtain ⟨e, y⟩ := y
  subst e
  exact hs i x σ _ (y xs q) p
 ·have e : i = xs.length := by omega
  subst e
  exact .inl ⟨⟨xs, q, Nat.le_refl _⟩, hd σ H p⟩
theorem CI {lo : Int} {n : Nat} {g : TG} {tb : TS} {D : Ends} {σ : St} {H : Hp} (Pv : Nat -> St -> Hp -> Prop) (h0 : Pv 0 σ H)
 (hs : ∀ i σ H, i < n -> Pv i σ H -> g (.int (lo + i)) σ H fun σ2 H2 => tb { D with nx := Pv (i + 1), ct := Pv (i + 1), bk := D.nx } σ2 H2) (hd : ∀ σ H, Pv n σ H -> D.nx σ H) :
 ∃ W : Nat -> Nat -> St -> Hp -> Prop, (∃ m, W 0 m σ H) /\ ∀ i m σ H, W i m σ H ->
  ((eS lo n).stop i H /\ D.nx σ H) ∨ ((eS lo n).go i H /\ ∃ N : St -> Hp -> Prop, (∀ σ' H', N σ' H' -> ∃ m', m' < m /\ W (i + 1) m' σ' H') /\ ∀ x H', (eS lo n).yld i H x H' -> g x σ H' fun σ2 H2 => tb { D with nx := N, ct := N, bk := D.nx } σ2 H2) := by
 refine ⟨fun i m σ H => m = n - i /\ i <= n /\ Pv i σ H, ⟨n, by simp, Nat.zero_le _, h0⟩, ?_⟩
 rintro i m σ H ⟨rfl, hi, p⟩
 by_cases cp : i < n
 ·refine .inr ⟨cp, Pv (i + 1), fun σ' H' p' => ⟨n - (i + 1), by omega, rfl, cp, p'⟩, fun x H' y => ?_⟩
  obtain ⟨e, y⟩ := y
  subst e y
  exact hs i σ _ cp p
 ·have e : i = n := by omega
  subst e
  exact .inl ⟨Nat.le_refl _, hd σ H p⟩
end L2
namespace L2
open PySem PySem.Spec PyProof.Rows
abbrev R2 := V -> V -> Hp -> VK -> Prop
def aT (X : Cx) (f : Value -> Value -> Sem Value) (r : R2) : Prop :=
 ∀ (pins : List (Addr × Obj)) (s : Shared) (σ : St) (H : Hp) (x y : V) (v u : Value) (Q : VK), Inv X pins σ H s -> RelV x v -> RelV y u -> r x y H Q ->
  wpAny (model X.prog X.w) X.A (f v u) (EP X pins σ Q) X.xe s
def jQ (X : Cx) (f : Value -> Sem Value) (r : V -> Hp -> VK -> Prop) : Prop :=
 ∀ (pins : List (Addr × Obj)) (s : Shared) (σ : St) (H : Hp) (x : V) (v : Value) (Q : VK), Inv X pins σ H s -> RelV x v -> r x H Q ->
  wpAny (model X.prog X.w) X.A (f v) (EP X pins σ Q) X.xe s
def eU (X : Cx) (f : Value) (r : List V -> Hp -> VK -> Prop) : Prop :=
 ∀ (pins : List (Addr × Obj)) (s : Shared) (σ : St) (H : Hp) (xs : List V) (us : List Value) (Q : VK), Inv X pins σ H s -> Vals xs us -> r xs H Q ->
  wpAny (model X.prog X.w) X.A (call f us) (EP X pins σ Q) X.xe s
def iQ (r : R2) (ta tb : TE) : TE := fun σ H Q => ta σ H fun x H1 => tb σ H1 fun y H2 => r x y H2 Q
def vX (r : V -> Hp -> VK -> Prop) (ta : TE) : TE := fun σ H Q => ta σ H fun x H1 => r x H1 Q
def rI (C : Int -> Int -> Prop) (g : Int -> Int -> V) : R2 := fun x y H Q => ∃ i j, x = .int i /\ y = .int j /\ C i j /\ Q (g i j) H
def dO (g : Int -> Int -> V) : R2 := fun x y H Q => ∃ i j, x = .int i /\ y = .int j /\ Q (g i j) H
def rU (g : Int -> V) : V -> Hp -> VK -> Prop := fun x H Q => ∃ i, x = .int i /\ Q (g i) H
section
variable {X : Cx} {a b c : Expr} {ta tb tc : TE} {pos : Pos}
theorem p8 (ha : PE X a ta) (hb : PE X b tb) {pins : List (Addr × Obj)} {s : Shared} {σ : St} {H : Hp} {R : V -> V -> Hp -> Prop} (I : Inv X pins σ H s)
 (h : ta σ H fun x H1 => tb σ H1 fun y H2 => R x y H2) {Q : Value -> Shared -> Prop} {f : Value -> Value -> Sem Value}
 (hf : ∀ v u s2 x y H2, Inv X pins σ H2 s2 -> RelV x v -> RelV y u -> R x y H2 -> wpAny (model X.prog X.w) X.A (f v u) Q X.xe s2) :
 wpAny (model X.prog X.w) X.A (eval a X.env) (fun v s₁ => wpAny (model X.prog X.w) X.A (eval b X.env) (fun u s₂ => wpAny (model X.prog X.w) X.A (f v u) Q X.xe s₂) X.xe s₁) X.xe s := by
 refine aw (ha pins s σ H _ I h) fun v s1 ⟨x, H1, I1, r1, q1⟩ => ?_
 refine aw (hb pins s1 σ H1 _ I1 q1) fun u s2 ⟨y, H2, I2, r2, q2⟩ => ?_
 exact hf v u s2 x y H2 I2 r1 r2 q2
theorem aC {op : Operator} {r : R2} (ho : aT X (binaryOp op) r) (ha : PE X a ta) (hb : PE X b tb) : PE X (.BinOp a op b pos) (iQ r ta tb) := by
 intro pins s σ H Q I h
 exact wpAny_BinOp (p8 ha hb I h fun v u s2 x y H2 I2 rx ry q => ho pins s2 σ H2 x y v u Q I2 rx ry q)
theorem iR {op : UnaryOp} {r : V -> Hp -> VK -> Prop} (ho : jQ X (unaryOp op) r) (ha : PE X a ta) : PE X (.UnaryOp op a pos) (vX r ta) := by
 intro pins s σ H Q I h
 exact UnaryOp_ (aw (ha pins s σ H _ I h) fun v s1 ⟨x, H1, I1, r1, q1⟩ => ho pins s1 σ H1 x v Q I1 r1 q1)
theorem lh {f : Value -> Value -> Sem Value} {C : Int -> Int -> Prop} {g : Int -> Int -> Int}
 (rule : ∀ (i j : Int) (t u : Tok) (s : Shared) (Q : Value -> Shared -> Prop) (E : Value -> Shared -> Prop), C i j -> Q (.int (g i j) s.toks) { s with toks := s.toks + 1 } -> wpAny (model X.prog X.w) X.A (f (.int i t) (.int j u)) Q E s) :
 aT X f (rI C fun i j => .int (g i j)) := by
 intro pins s σ H x y v u Q I rx ry h
 obtain ⟨i, j, rfl, rfl, hc, q⟩ := h
 obtain ⟨t, rfl⟩ := rx
 obtain ⟨t', rfl⟩ := ry
 exact rule i j t t' s _ _ hc ⟨.int (g i j), H, I.tok _, ⟨_, rfl⟩, q⟩
theorem vY {f : Value -> Value -> Sem Value} {g : Int -> Int -> Int}
 (rule : ∀ (i j : Int) (t u : Tok) (s : Shared) (Q : Value -> Shared -> Prop) (E : Value -> Shared -> Prop), Q (.int (g i j) s.toks) { s with toks := s.toks + 1 } -> wpAny (model X.prog X.w) X.A (f (.int i t) (.int j u)) Q E s) :
 aT X f (dO fun i j => .int (g i j)) := by
 intro pins s σ H x y v u Q I rx ry h
 obtain ⟨i, j, rfl, rfl, q⟩ := h
 obtain ⟨t, rfl⟩ := rx
 obtain ⟨t', rfl⟩ := ry
 exact rule i j t t' s _ _ ⟨.int (g i j), H, I.tok _, ⟨_, rfl⟩, q⟩
theorem nJ {f : Value -> Value -> Sem Value} {g : Int -> Int -> Bool}
 (rule : ∀ (i j : Int) (t u : Tok) (s : Shared) (Q : Value -> Shared -> Prop) (E : Value -> Shared -> Prop), Q (.bool (g i j)) s -> wpAny (model X.prog X.w) X.A (f (.int i t) (.int j u)) Q E s) :
 aT X f (dO fun i j => .bl (g i j)) := by
 intro pins s σ H x y v u Q I rx ry h
 obtain ⟨i, j, rfl, rfl, q⟩ := h
 obtain ⟨t, rfl⟩ := rx
 obtain ⟨t', rfl⟩ := ry
 exact rule i j t t' s _ _ ⟨.bl (g i j), H, I, rfl, q⟩
def CJ (i j : Int) : Prop := 0 <= j /\ j <= 1000000 /\ i.natAbs < 2 ^ 64
def vZ (i j : Int) : Prop := (-(2 ^ 64) < i /\ i < 2 ^ 64) ∨ (-(2 ^ 64) < j /\ j < 2 ^ 64)
theorem vZ.ok {i j : Int} (h : vZ i j) : IntMulOk i j := by
 rcases h with ⟨h1, h2⟩ | ⟨h1, h2⟩
 ·exact .of_left (intBits_le_64 h1 h2)
 ·exact .of_right (intBits_le_64 h1 h2)
theorem CK : aT X (binaryOp .Add) (dO fun i j => .int (i + j)) := vY fun _ _ _ _ _ _ _ q => add_int q
theorem CL : aT X (binaryOp .Sub) (dO fun i j => .int (i - j)) := vY fun _ _ _ _ _ _ _ q => sub_int q
theorem CM : aT X (binaryOp .Mod) (rI (fun _ j => 0 < j) fun i j => .int (i % j)) := lh fun i j _ _ _ _ _ hc q => by
 have h1 : (0 : Int) < j := hc
 exact mod_int' (by omega) (by rw [Int.fmod_eq_emod_of_nonneg i (by omega)]; exact q)
theorem v3 : aT X (binaryOp .Pow) (rI CJ fun i j => .int (i ^ j.toNat)) := lh fun _ _ _ _ _ _ _ hc q => pow_int_small hc.1 hc.2.1 hc.2.2 q
theorem CN {f : Value -> Sem Value} {g : Int -> Int}
 (rule : ∀ (i : Int) (t : Tok) (s : Shared) (Q : Value -> Shared -> Prop) (E : Value -> Shared -> Prop), Q (.int (g i) s.toks) { s with toks := s.toks + 1 } -> wpAny (model X.prog X.w) X.A (f (.int i t)) Q E s) :
 jQ X f (rU fun i => .int (g i)) := by
 intro pins s σ H x v Q I rx h
 obtain ⟨i, rfl, q⟩ := h
 obtain ⟨t, rfl⟩ := rx
 exact rule i t s _ _ ⟨.int (g i), H, I.tok _, ⟨_, rfl⟩, q⟩
theorem CO : jQ X (unaryOp .USub) (rU fun i => .int (-i)) := CN fun _ _ _ _ _ q => neg_int q
end
noncomputable def fZ : V -> V -> Bool
 | .non, .non => true | .non, .int _ => true | .int _, .non => true | .non, .bl _ => true | .bl _, .non => true | .non, .str _ => true | .str _, .non => true
 | .int _, .int _ => true | .bl _, .bl _ => true | .str _, .str _ => true | .byt _, .byt _ => true
 | .int _, .str _ => true | .str _, .int _ => true | .bl _, .str _ => true | .str _, .bl _ => true
 | _, _ => false
def v5 : R2 := fun x y H Q => fZ x y = true /\ Q (.bl (decide (x = y))) H
def v7 : R2 := fun x y H Q => fZ x y = true /\ Q (.bl (!decide (x = y))) H
theorem v8 {i j : Int} : decide (V.int i = V.int j) = (i == j) := by
 rw [Bool.eq_iff_iff]
 simp
theorem v9 {i j : Bool} : decide (V.bl i = V.bl j) = (i == j) := by
 rw [Bool.eq_iff_iff]
 simp
theorem wa {i j : Str} : decide (V.str i = V.str j) = (i == j) := by
 rw [Bool.eq_iff_iff]
 simp
theorem wb {i j : Array UInt8} : decide (V.byt i = V.byt j) = (i.toList == j.toList) := by
 rw [Bool.eq_iff_iff]
 cases i
 cases j
 simp
section
variable {X : Cx} {a b c : Expr} {ta tb tc : TE} {pos : Pos}
theorem bH {pins : List (Addr × Obj)} {σ : St} {H : Hp} {s : Shared} {Q : VK} {k k' : Bool} (I : Inv X pins σ H s) (q : Q (.bl k) H) (e : k = k') : EP X pins σ Q (.bool k') s := by
 subst e
 exact ⟨.bl k, H, I, rfl, q⟩
theorem nK : aT X (compareOp .Eq) v5 := by
 intro pins s σ H x y v u Q I rx ry h
 obtain ⟨hs, q⟩ := h
 cases x with
 | non =>
  cases rx
  cases y with
  | non => cases ry; exact PySem.EqNone.eq_none_none (bH I q (by simp))
  | bl j => cases ry; exact PySem.EqNone.eq_none_bool (bH I q (by simp))
  | int j => obtain ⟨t', rfl⟩ := ry; exact PySem.EqNone.eq_none_int (bH I q (by simp))
  | str j => obtain ⟨t', rfl⟩ := ry; exact PySem.EqNone.eq_none_str (bH I q (by simp))
  | _ => exact absurd (show false = true from hs) Bool.false_ne_true
 | bl i =>
  cases rx
  cases y with
  | non => cases ry; exact PySem.EqNone.eq_bool_none (bH I q (by simp))
  | bl j => cases ry; exact eq_bool (bH I q v9)
  | str j => obtain ⟨t', rfl⟩ := ry; exact PySem.EqMixed.eq_bool_str (bH I q (by simp))
  | _ => exact absurd (show false = true from hs) Bool.false_ne_true
 | int i =>
  obtain ⟨t, rfl⟩ := rx
  cases y with
  | non => cases ry; exact PySem.EqNone.eq_int_none (bH I q (by simp))
  | int j => obtain ⟨t', rfl⟩ := ry; exact eq_int (bH I q v8)
  | str j => obtain ⟨t', rfl⟩ := ry; exact PySem.EqMixed.eq_int_str (bH I q (by simp))
  | _ => exact absurd (show false = true from hs) Bool.false_ne_true
 | str i =>
  obtain ⟨t, rfl⟩ := rx
  cases y with
  | non => cases ry; exact PySem.EqNone.eq_str_none (bH I q (by simp))
  | bl j => cases ry; exact PySem.EqMixed.eq_str_bool (bH I q (by simp))
  | int j => obtain ⟨t', rfl⟩ := ry; exact PySem.EqMixed.eq_str_int (bH I q (by simp))
  | str j => obtain ⟨t', rfl⟩ := ry; exact eq_str (bH I q wa)
  | _ => exact absurd (show false = true from hs) Bool.false_ne_true
 | byt i =>
  obtain ⟨t, rfl⟩ := rx
  cases y with
  | byt j => obtain ⟨t', rfl⟩ := ry; exact PySem.W.eq_bytes (bH I q wb)
  | _ => exact absurd (show false = true from hs) Bool.false_ne_true
 | _ => cases y <;> exact absurd (show false = true from hs) Bool.false_ne_true
theorem wc : aT X (compareOp .NotEq) v7 := by
 intro pins s σ H x y v u Q I rx ry h
 obtain ⟨hs, q⟩ := h
 cases x with
 | non =>
  cases rx
  cases y with
  | non => cases ry; exact PySem.EqNone.ne_none_none (bH I q (by simp))
  | bl j => cases ry; exact PySem.EqNone.ne_none_bool (bH I q (by simp))
  | int j => obtain ⟨t', rfl⟩ := ry; exact PySem.EqNone.ne_none_int (bH I q (by simp))
  | str j => obtain ⟨t', rfl⟩ := ry; exact PySem.EqNone.ne_none_str (bH I q (by simp))
  | _ => exact absurd (show false = true from hs) Bool.false_ne_true
 | bl i =>
  cases rx
  cases y with
  | non => cases ry; exact PySem.EqNone.ne_bool_none (bH I q (by simp))
  | bl j => cases ry; exact ne_bool (bH I q (congrArg not v9))
  | str j => obtain ⟨t', rfl⟩ := ry; exact PySem.EqMixed.ne_bool_str (bH I q (by simp))
  | _ => exact absurd (show false = true from hs) Bool.false_ne_true
 | int i =>
  obtain ⟨t, rfl⟩ := rx
  cases y with
  | non => cases ry; exact PySem.EqNone.ne_int_none (bH I q (by simp))
  | int j => obtain ⟨t', rfl⟩ := ry; exact ne_int (bH I q (congrArg not v8))
  | str j => obtain ⟨t', rfl⟩ := ry; exact PySem.EqMixed.ne_int_str (bH I q (by simp))
  | _ => exact absurd (show false = true from hs) Bool.false_ne_true
 | str i =>
  obtain ⟨t, rfl⟩ := rx
  cases y with
  | non => cases ry; exact PySem.EqNone.ne_str_none (bH I q (by simp))
  | bl j => cases ry; exact PySem.EqMixed.ne_str_bool (bH I q (by simp))
  | int j => obtain ⟨t', rfl⟩ := ry; exact PySem.EqMixed.ne_str_int (bH I q (by simp))
  | str j => obtain ⟨t', rfl⟩ := ry; exact ne_str (bH I q (congrArg not wa))
  | _ => exact absurd (show false = true from hs) Bool.false_ne_true
 | byt i =>
  obtain ⟨t, rfl⟩ := rx
  cases y with
  | byt j => obtain ⟨t', rfl⟩ := ry; exact PySem.W.ne_bytes (bH I q (congrArg not wb))
  | _ => exact absurd (show false = true from hs) Bool.false_ne_true
 | _ => cases y <;> exact absurd (show false = true from hs) Bool.false_ne_true
theorem p9 : aT X (compareOp .Lt) (dO fun i j => .bl (decide (i < j))) := nJ fun _ _ _ _ _ _ _ q => lt_int q
theorem jR : aT X (compareOp .LtE) (dO fun i j => .bl (decide (i <= j))) := nJ fun _ _ _ _ _ _ _ q => le_int q
theorem we : aT X (compareOp .Gt) (dO fun i j => .bl (decide (j < i))) := nJ fun _ _ _ _ _ _ _ q => gt_int q
theorem CP : aT X (compareOp .GtE) (dO fun i j => .bl (decide (j <= i))) := nJ fun _ _ _ _ _ _ _ q => ge_int q
theorem CQ : aT X (compareOp .In) (fun x y H Q => ∃ i j, x = .str i /\ y = .str j /\ Q (.bl (!(Builtin.Str.occurrences j i 0 j.length 1).isEmpty)) H) := by
 intro pins s σ H x y v u Q I rx ry h
 obtain ⟨i, j, rfl, rfl, q⟩ := h
 obtain ⟨t, rfl⟩ := rx
 obtain ⟨t', rfl⟩ := ry
 exact in_str (bH I q rfl)
theorem eV (b : Expr) {op : CmpOp} (h : op ≠ .In := by decide) (h2 : op ≠ .NotIn := by decide) : behindInMarks op b = false := by
 have e1 : (op == CmpOp.In) = false := by cases op <;> first | rfl | exact absurd rfl h
 have e2 : (op == CmpOp.NotIn) = false := by cases op <;> first | rfl | exact absurd rfl h2
 cases b <;> simp [behindInMarks, e1, e2]
theorem jS {op : CmpOp} {r : R2} (ho : aT X (compareOp op) r) (ha : PE X a ta) (hb : PE X b tb) (hm : behindInMarks op b = false) : PE X (.Compare a [op] [b] pos) (iQ r ta tb) := by
 intro pins s σ H Q I h
 exact wpAny_Compare1 (p8 ha hb I h fun v u s2 x y H2 I2 rx ry q => ho pins s2 σ H2 x y v u Q I2 rx ry q) hm
def nM (t : TE) : TT := fun σ H Q => t σ H fun x H' => ∃ k, x = .bl k /\ Q k H'
theorem qa {op : CmpOp} {r : R2} (ho : aT X (compareOp op) r) (ha : PE X a ta) (hb : PE X b tb) (hm : behindInMarks op b = false) : PT X (.Compare a [op] [b] pos) (nM (iQ r ta tb)) := by
 intro pins s σ H Q I h
 refine wpAny_isTrue_Compare1 (aw (ha pins s σ H _ I h) fun v s1 ⟨x, H1, I1, r1, q1⟩ => aw (hb pins s1 σ H1 _ I1 q1) fun u s2 ⟨y, H2, I2, r2, q2⟩ =>
  aw (ho pins s2 σ H2 x y v u _ I2 r1 r2 q2) fun c s3 ⟨z, H3, I3, r3, k, e, q3⟩ => ?_) hm
 subst e
 cases r3
 exact wpAny_truthy_bool ⟨H3, I3, q3⟩
def qb (r r' : R2) (ta tb tc : TE) : TE := fun σ H Q => ta σ H fun x H1 => tb σ H1 fun y H2 => r x y H2 fun z H3 => ∃ k, z = .bl k /\
 (if k = true then tc σ H3 fun w' H4 => r' y w' H4 Q else Q (.bl false) H3)
theorem CS {op dE : CmpOp} {r r' : R2} (ho : aT X (compareOp op) r) (cH : aT X (compareOp dE) r') (ha : PE X a ta) (hb : PE X b tb) (hc : PE X c tc)
 (hm : lastMarks [op, dE] [b, c] = false := by with_unfolding_all rfl) : PE X (.Compare a [op, dE] [b, c] pos) (qb r r' ta tb tc) := by
 intro pins s σ H Q I h
 refine Compare_chain (aw (ha pins s σ H _ I h) fun v s1 ⟨x, H1, I1, r1, q1⟩ => chain_link (aw (hb pins s1 σ H1 _ I1 q1) fun u s2 ⟨y, H2, I2, r2, q2⟩ =>
  aw (ho pins s2 σ H2 x y v u _ I2 r1 r2 q2) fun d s3 ⟨z, H3, I3, r3, k, e, q3⟩ => ?_)) hm
 subst e
 cases r3
 refine wpAny_truthy_bool ?_
 cases k with
 | false => exact ite_ff ⟨.bl false, H3, I3, rfl, q3⟩
 | true => exact ite_tt (chain_last (aw (hc pins s3 σ H3 _ I3 q3) fun w' s4 ⟨z', H4, I4, r4, q4⟩ => cH pins s4 σ H4 y z' u w' Q I4 r2 r4 q4))
theorem CT {op dE : CmpOp} {r r' : R2} (ho : aT X (compareOp op) r) (cH : aT X (compareOp dE) r') (ha : PE X a ta) (hb : PE X b tb) (hc : PE X c tc)
 (hm : lastMarks [op, dE] [b, c] = false := by with_unfolding_all rfl) : PT X (.Compare a [op, dE] [b, c] pos) (nM (qb r r' ta tb tc)) := by
 intro pins s σ H Q I h
 refine isTrue_chain (aw (ha pins s σ H _ I h) fun v s1 ⟨x, H1, I1, r1, q1⟩ => test_link (aw (hb pins s1 σ H1 _ I1 q1) fun u s2 ⟨y, H2, I2, r2, q2⟩ =>
  aw (ho pins s2 σ H2 x y v u _ I2 r1 r2 q2) fun d s3 ⟨z, H3, I3, r3, k, e, q3⟩ => ?_)) hm
 subst e
 cases r3
 refine wpAny_truthy_bool ?_
 cases k with
 | false =>
  obtain ⟨k', e', q'⟩ := q3
  cases e'
  exact ite_ff ⟨H3, I3, q'⟩
 | true =>
  refine ite_tt (test_last (aw (hc pins s3 σ H3 _ I3 q3) fun w' s4 ⟨z', H4, I4, r4, q4⟩ => aw (cH pins s4 σ H4 y z' u w' _ I4 r2 r4 q4) fun d' s5 ⟨z2, H5, I5, r5, k2, e2, q5⟩ => ?_))
  subst e2
  cases r5
  exact wpAny_truthy_bool ⟨H5, I5, q5⟩
theorem lj : (sizeLine : Nat) < 2 ^ 63 := by rw [sizeLine_eq]; decide
theorem wg : aT X (binaryOp .Add) (fun x y H Q => ∃ i j, x = .str i /\ y = .str j /\ i.length + j.length <= sizeLine /\ Q (.str (i ++ j)) H) := by
 intro pins s σ H x y v u Q I rx ry h
 obtain ⟨i, j, rfl, rfl, hz, q⟩ := h
 obtain ⟨t, rfl⟩ := rx
 obtain ⟨t', rfl⟩ := ry
 exact add_str (fun t' tk => ⟨.str (i ++ j), H, I.tok _, ⟨_, rfl⟩, q⟩) hz
theorem vals1 {x : V} {us : List Value} (r : Vals [x] us) : ∃ u, us = [u] /\ RelV x u := by
 cases r with
 | cons r1 r2 => cases r2; exact ⟨_, rfl, r1⟩
theorem vals2 {x y : V} {us : List Value} (r : Vals [x, y] us) : ∃ u w', us = [u, w'] /\ RelV x u /\ RelV y w' := by
 cases r with
 | cons r1 r2 =>
  cases r2 with
  | cons r3 r4 => cases r4; exact ⟨_, _, rfl, r1, r3⟩
theorem CU (hc : X.calm = true) : eU X (.builtin "min") (fun xs H Q => ∃ i j, xs = [.int i, .int j] /\ Q (.int (if j < i then j else i)) H) := by
 intro pins s σ H xs us Q I r h
 obtain ⟨i, j, rfl, q⟩ := h
 obtain ⟨u, w', rfl, ⟨t, rfl⟩, ⟨t', rfl⟩⟩ := vals2 r
 refine min_two_ints (I.ok.hd hc) fun h' tk k => ⟨_, H, I.kept k, ?_, q⟩
 by_cases hj : j < i
 ·rw [if_pos hj, if_pos hj]; exact ⟨_, rfl⟩
 ·rw [if_neg hj, if_neg hj]; exact ⟨_, rfl⟩
theorem qc : eU X (.type "int") (fun xs H Q => (∃ i, xs = [.int i] /\ Q (.int i) H) ∨ ∃ k, xs = [.bl k] /\ Q (.int (if k then 1 else 0)) H) := by
 intro pins s σ H xs us Q I r h
 rcases h with ⟨i, rfl, q⟩ | ⟨k, rfl, q⟩
 ·obtain ⟨u, rfl, t, rfl⟩ := vals1 r
  exact call_int_int ⟨.int i, H, I, ⟨_, rfl⟩, q⟩
 ·obtain ⟨u, rfl, r1⟩ := vals1 r
  cases r1
  exact call_int_bool ⟨.int (if k then 1 else 0), H, I.tok _, ⟨_, rfl⟩, q⟩
theorem f6 : eU X (.type "str") (fun xs H Q => ∃ i, xs = [.int i] /\ i.natAbs.log2 < 1920 /\ Q (.str (toString i)) H) := by
 intro pins s σ H xs us Q I r h
 obtain ⟨i, rfl, hz, q⟩ := h
 obtain ⟨u, rfl, t, rfl⟩ := vals1 r
 exact PySem.P.str_of_int hz ⟨.str _, H, I.tok _, ⟨_, rfl⟩, q⟩
def wj (K : PySem.W.Frag) (x : V) (H : Hp) (n : Nat) : Prop :=
 match x with
 | .str y => y.length <= sizeLine /\ n = y.length
 | .byt y => y.size <= sizeLine /\ n = y.size
 | .ref p => (∃ xs, ar K H p xs /\ n = xs.length) ∨ ∃ xs, aB K H p xs /\ n = xs.length
 | _ => False
theorem dP : eU X (.builtin "len") (fun xs H Q => ∃ x n, xs = [x] /\ wj X.K x H n /\ Q (.int n) H) := by
 intro pins s σ H xs us Q I r h
 obtain ⟨x, n, rfl, e, q⟩ := h
 obtain ⟨u, rfl, rx⟩ := vals1 r
 have hl := lj
 have hs : sizeLine = 16777216 := sizeLine_eq
 cases x with
 | str y =>
  obtain ⟨t, rfl⟩ := rx
  obtain ⟨hy, e'⟩ : y.length <= sizeLine /\ n = y.length := e
  subst e'
  exact len_str (by omega) ⟨.int _, H, I.tok _, ⟨_, rfl⟩, q⟩
 | byt y =>
  obtain ⟨t, rfl⟩ := rx
  obtain ⟨hy, e'⟩ : y.size <= sizeLine /\ n = y.size := e
  subst e'
  exact PySem.W.len_bytes (by omega) ⟨.int _, H, I.tok _, ⟨_, rfl⟩, q⟩
 | ref p =>
  cases rx
  have e' : (∃ xs, ar X.K H p xs /\ n = xs.length) ∨ ∃ xs, aB X.K H p xs /\ n = xs.length := e
  rcases e' with ⟨xs, hx, e'⟩ | ⟨xs, hx, e'⟩
  ·subst e'
   obtain ⟨aj, r', pl, hz⟩ := I.list hx
   have hlen := r'.length
   exact Calls.call_len_list pl.isList (by simp only [List.size_toArray]; omega) ⟨.int xs.length, H, I.tok _, ⟨_, by simp only [List.size_toArray]; rw [hlen]⟩, q⟩
  ·subst e'
   obtain ⟨aj, r', pl, hz⟩ := I.tuple hx
   have hlen := r'.length
   exact len_tuple pl (by simp only [List.size_toArray]; omega) ⟨.int xs.length, H, I.tok _, ⟨_, by simp only [List.size_toArray]; rw [hlen]⟩, q⟩
 | _ => exact (show False from e).elim
end
end L2
namespace L2
open PySem PySem.Spec PyProof.Rows
structure iS (h : Heap) (x dx C : Addr) (mA : Str -> Option Value) : Prop where
 obj : h.get? x = some (PySem.W.instObj C dx)
 ns : h.Ns1 dx mA
 ne : dx ≠ x
theorem CV {h : Heap} {dx : Addr} {mA : Str -> Option Value} (n : h.Ns1 dx mA) : ∃ od, h.get? dx = some od /\ ∀ name, PySem.W.lookIn name od = some (mA name) := by
 obtain ⟨o, es, ep, ho, hd, hk, _, hm⟩ := n
 refine ⟨o, ho, fun name => ?_⟩
 have e := hm name
 unfold nsFind findBy at e
 rw [<- Array.find?_toList] at e
 unfold PySem.W.lookIn
 rw [hd]
 dsimp only
 split
 ·rename_i y q
  rw [q] at e
  exact congrArg some e
 ·rename_i q
  rw [q] at e
  have a : es.toList.any (·.refKey) = false := by
   rw [List.any_eq_false]
   intro y hy
   obtain ⟨z, t, hkey⟩ := hk y (Array.mem_toList_iff.mp hy)
   simp [DictEntry.refKey, hkey]
  have a' : ¬ es.toList.any (·.refKey) = true := by rw [a]; exact Bool.false_ne_true
  rw [if_neg a']
  exact congrArg some e
theorem iS.look {h : Heap} {x dx C : Addr} {mA : Str -> Option Value} (I : iS h x dx C mA) : ∃ od, PySem.W.InstAt h x (PySem.W.instObj C dx) C (some od) /\ ∀ name, PySem.W.lookIn name od = some (mA name) :=
 let ⟨od, ho, hl⟩ := CV I.ns
 ⟨od, ⟨I.obj, rfl, rfl, ho⟩, hl⟩
section
variable {prog : Program} {w : World} {A : Around} {E : Value -> Shared -> Prop} {s : Shared} {K : PySem.W.Frag} {x dx C f : Addr} {mA : Str -> Option Value} {name : Str} {v : Value}
theorem get_map {expr : Bool} {Q : Value -> Shared -> Prop} (X : K.In s.heap) (I : iS s.heap x dx C mA) (hg : PySem.W.plainGet K C name = true) (hh : PySem.W.hasDictIn K C = true)
 (ha : PySem.W.findIn K (.ref C) name = some none) (hv : mA name = some v) (qd : PySem.W.handedIn v = true) (h : Q v { s with toks := s.toks + 1 }) :
 wpAny (model prog w) A (getAttr (.ref x) name expr) Q E s := by
 obtain ⟨od, J, hl⟩ := I.look
 exact PySem.W.get_value X J (PySem.W.plainGet_of hg).1 (PySem.W.findObj_own hh ha rfl (by rw [hl, hv])) qd h
theorem CW {pl : Sem Bool} {Q : Value × List Value -> Shared -> Prop} (X : K.In s.heap) (I : iS s.heap x dx C mA) (hg : PySem.W.plainGet K C name = true)
 (hf : PySem.W.findIn K (.ref C) name = some (some (.ref f))) (ht : PySem.W.isFn K (.ref f) = true) (hv : mA name = none) (h : Q (.ref f, [.ref x]) s) :
 wpAny (model prog w) A (getMethod (.ref x) name pl) Q E s := by
 obtain ⟨od, J, hl⟩ := I.look
 exact PySem.W.method_fn X J (PySem.W.plainGet_of hg).1 (PySem.W.plainGet_of hg).2 hf (beq_iff_eq.mp ht) (by show (PySem.W.lookIn name od).map (·.isSome) = some false; rw [hl, hv]; rfl) h
theorem CY {ns : List Str} {Q : Unit -> Shared -> Prop} (X : K.In s.heap) (I : iS s.heap x dx C mA)
 (hs : PySem.W.findIn K (.ref C) "__setattr__" = some (some (.builtin "object.__setattr__"))) (hp : PySem.W.plainOver K C = true) (ht : PySem.W.takerIn K C name = some none) (hh : PySem.W.hasDictIn K C = true)
 (hw : PySem.Within mA ns) (iT : ns.length <= sizeLine)
 (h : ∀ h', iS h' x dx C (fun y => if y = name then some v else mA y) -> Heap.SameBut dx s.heap h' -> Q () { s with heap := h', toks := s.toks + 2 }) :
 wpAny (model prog w) A (setAttr (.ref x) name v) Q E s := by
 obtain ⟨od, J, hl⟩ := I.look
 refine PySem.W.set_plain X J hs (PySem.W.osa_open (s := { s with toks := s.toks + 1 }) (r := none) X J hp ht fun b => ?_)
 obtain ⟨cd, hc, pJ⟩ := PySem.W.any_some hh
 have hx : s.heap.get? x = some ⟨.ref C, some dx, .plain, #[]⟩ := I.obj
 refine wpAny_bind (wpAny_pure (wpAny_bind (wpAny_bind (wpAny_loadPart hx (wpAny_bind (PySem.W.Looks.here (s := { s with toks := s.toks + 1 }) (PySem.W.looks_clsIn X hc) ?_))))))
 rw [pJ]
 refine wpAny_pure (a := some dx) (wpAny_bind (wpAny_pure (wpAny_bind ?_)))
 refine wpAny_nsSet1 (s := { s with toks := s.toks + 1 }) I.ns fun h' wm iO => ?_
 obtain ⟨oD, MR, MS, CZ, C0, C1⟩ := wm.count (PySem.Within.cons name v hw)
 refine wpAny_bind (wpAny_lookBehind CZ (by rw [C0]; exact pastItsLine_dict (Nat.le_trans C1 (by rw [List.length_cons]; omega))) ?_)
 exact wpAny_pure (h _ ⟨(iO.2 _ (Ne.symm I.ne)).trans I.obj, wm, I.ne⟩ iO)
theorem C2 {R : Result -> Shared -> Prop} {vs : List Value} {kw : List (Str × Value)} (X : K.In s.heap) (hm : PySem.W.makesIn K C = true)
 (hi : PySem.W.findIn K (.ref C) "__init__" = some (some (.ref f))) (hf : PySem.W.typeIn K (.ref f) = some (.type "function"))
 (h : codeAny (model prog w) (A.under (.builtin "type.__call__" ⟨.ref C :: vs, kw⟩)) (.call (.ref f) ⟨.ref (s.heap.objs.size + 1) :: vs, kw⟩) (PySem.W.InitBack (s.heap.objs.size + 1) R)
   { s with heap := (s.heap.push PySem.W.emptyDict).push (PySem.W.instObj C s.heap.objs.size) }) :
 codeAny (model prog w) A (.call (.ref C) ⟨vs, kw⟩) R s := by
 obtain ⟨hh, g, d, t, os⟩ := s
 exact PySem.W.make_core (PySem.W.makes_of X hm) (PySem.W.looks_findIn X hi) (fun self => PySem.W.bind_fn X self hf) (.inl rfl) h
end
noncomputable def c9 (f : Str) (v : V) : List (Str × V) -> List (Str × V)
 | [] => [(f, v)]
 | (g, x) :: r => if g = f then (g, v) :: r else (g, x) :: c9 f v r
theorem wq (f g : Str) (v : V) : ∀ fs : List (Str × V), (c9 f v fs).lookup g = if g = f then some v else fs.lookup g
 | [] => by
  show List.lookup g [(f, v)] = _
  by_cases h : g = f
  ·have hb : (g == f) = true := beq_iff_eq.mpr h
   simp only [List.lookup, hb, if_pos h]
  ·have hb : (g == f) = false := beq_eq_false_iff_ne.mpr h
   simp only [List.lookup, hb, if_neg h]
 | (k, x) :: r => by
  have ih := wq f g v r
  rw [show c9 f v ((k, x) :: r) = (if k = f then (k, v) :: r else (k, x) :: c9 f v r) from rfl]
  by_cases hk : k = f
  ·rw [if_pos hk]
   by_cases h : g = k
   ·have hb : (g == k) = true := beq_iff_eq.mpr h
    simp only [List.lookup, hb, if_pos (h.trans hk)]
   ·have hb : (g == k) = false := beq_eq_false_iff_ne.mpr h
    simp only [List.lookup, hb, if_neg (fun e : g = f => h (e.trans hk.symm))]
  ·rw [if_neg hk]
   by_cases h : g = k
   ·have hb : (g == k) = true := beq_iff_eq.mpr h
    simp only [List.lookup, hb, if_neg (fun e : g = f => hk (h.symm.trans e))]
   ·have hb : (g == k) = false := beq_eq_false_iff_ne.mpr h
    simp only [List.lookup, hb]
    exact ih
theorem qe (f : Str) (v : V) : ∀ fs : List (Str × V), f ∈ (c9 f v fs).map (·.1) /\ ∀ g, g ∈ fs.map (·.1) -> g ∈ (c9 f v fs).map (·.1)
 | [] => ⟨by simp [c9], fun g h => by simp at h⟩
 | (k, x) :: r => by
  obtain ⟨i1, i2⟩ := qe f v r
  rw [show c9 f v ((k, x) :: r) = (if k = f then (k, v) :: r else (k, x) :: c9 f v r) from rfl]
  by_cases hk : k = f
  ·rw [if_pos hk]
   subst hk
   exact ⟨by simp, fun g h => by simpa using h⟩
  ·rw [if_neg hk]
   refine ⟨?_, fun g h => ?_⟩
   ·rw [List.map_cons]
    exact List.mem_cons_of_mem _ i1
   ·rw [List.map_cons] at h ⊢
    rcases List.mem_cons.mp h with e | e
    ·exact List.mem_cons.mpr (.inl e)
    ·exact List.mem_cons_of_mem _ (i2 g e)
theorem wt (f : Str) (v : V) : ∀ fs : List (Str × V), (c9 f v fs).length <= fs.length + 1
 | [] => by simp [c9]
 | (k, x) :: r => by
  have ih := wt f v r
  rw [show c9 f v ((k, x) :: r) = (if k = f then (k, v) :: r else (k, x) :: c9 f v r) from rfl]
  by_cases hk : k = f
  ·rw [if_pos hk, List.length_cons, List.length_cons]; omega
  ·rw [if_neg hk, List.length_cons, List.length_cons]; omega
theorem c7.some_of {v : V} {o : Option Value} (r : c7 (some v) o) : ∃ u, o = some u /\ RelV v u := by
 cases o with
 | none => exact (show False from r).elim
 | some u => exact ⟨u, rfl, r⟩
theorem c7.none_of {o : Option Value} (r : c7 none o) : o = none := by
 cases o with
 | none => rfl
 | some u => exact (show False from r).elim
theorem C3 {v : V} {u : Value} (r : RelV v u) : PySem.W.handedIn u = true := by
 cases v with
 | non => cases (show u = Value.none from r); rfl
 | bl b => cases (show u = Value.bool b from r); rfl
 | int i => obtain ⟨t, e⟩ := (show ∃ t, u = Value.int i t from r); cases e; rfl
 | str x => obtain ⟨t, e⟩ := (show ∃ t, u = Value.str x t from r); cases e; rfl
 | byt b => obtain ⟨t, e⟩ := (show ∃ t, u = Value.bytes b t from r); cases e; rfl
 | flt b => obtain ⟨t, e⟩ := (show ∃ t, u = Value.float b t from r); cases e; rfl
 | ref a => cases (show u = Value.ref a from r); rfl
 | ty n => cases (show u = Value.type n from r); rfl
section
variable {P : Program} {w : World} {H H' : Hp} {h h' : Heap} {a C dx : Addr} {fs B8 : List (Str × V)}
theorem nN (av : b9 P w H h) (e : H a = some (.ins C dx fs)) : ∃ mA, iS h a dx C mA /\ (∀ f, c7 (fs.lookup f) (mA f)) /\ PySem.Within mA (fs.map (·.1)) /\ fs.length <= 1000 /\ H dx = some (.own a) := by
 obtain ⟨d, z, ne, ob, mA, n, r, q⟩ := (show cw P w H h a (.ins C dx fs) from av a _ e)
 exact ⟨mA, ⟨ob, n, ne⟩, r, q, z, d⟩
end
structure aW (K : PySem.W.Frag) (C : Addr) : Prop where
 pg : PySem.W.plainGet K C Str.empty = true
 hd : PySem.W.hasDictIn K C = true
 po : PySem.W.plainOver K C = true
 sa : PySem.W.findIn K (.ref C) "__setattr__" = some (some (.builtin "object.__setattr__"))
theorem aW.get {K : PySem.W.Frag} {C : Addr} (c : aW K C) (f : Str) : PySem.W.plainGet K C f = true := c.pg
def ba (K : PySem.W.Frag) (C : Addr) (f : Str) : Prop := PySem.W.findIn K (.ref C) f = some none
theorem ba.C4 {K : PySem.W.Frag} {C : Addr} {f : Str} (n : ba K C f) : PySem.W.takerIn K C f = some none := by
 unfold PySem.W.takerIn
 rw [show PySem.W.findIn K (.ref C) f = some none from n]
 rfl
structure Meth (K : PySem.W.Frag) (C : Addr) (m : Str) (f : Addr) : Prop where
 at_ : PySem.W.findIn K (.ref C) m = some (some (.ref f))
 fn : PySem.W.isFn K (.ref f) = true
 kp : PySem.W.keepIn K (.ref f) = true
section
variable {X : Cx} {pins : List (Addr × Obj)} {σ : St} {H : Hp} {s : Shared} {a C dx : Addr} {fs : List (Str × V)} {f : Str} {v : V} {A : Around} {E : Value -> Shared -> Prop}
theorem C5 {b : Bool} {Q : Value -> Shared -> Prop} (I : Inv X pins σ H s) (e : H a = some (.ins C dx fs)) (c : aW X.K C) (n : ba X.K C f) (l : fs.lookup f = some v)
 (h : ∀ u s', Inv X pins σ H s' -> RelV v u -> Q u s') : wpAny (model X.prog X.w) A (getAttr (.ref a) f b) Q E s := by
 obtain ⟨mA, O, r, _, _, _⟩ := nN I.av e
 obtain ⟨u, hu, ru⟩ := c7.some_of (v := v) (o := mA f) (by rw [<- l]; exact r f)
 exact get_map I.bG O (c.get f) c.hd n hu (C3 ru) (h u _ (I.tok _) ru)
theorem qf {m : Str} {g : Addr} {pl : Sem Bool} {Q : Value × List Value -> Shared -> Prop} (I : Inv X pins σ H s) (e : H a = some (.ins C dx fs)) (c : aW X.K C) (k : Meth X.K C m g) (l : fs.lookup m = none)
 (h : Q (.ref g, [.ref a]) s) : wpAny (model X.prog X.w) A (getMethod (.ref a) m pl) Q E s := by
 obtain ⟨mA, O, r, _, _, _⟩ := nN I.av e
 have hn : mA m = none := c7.none_of (by rw [<- l]; exact r m)
 exact CW I.bG O (c.get m) k.at_ k.fn hn h
theorem C6 {y : V} {u : Value} {Q : Unit -> Shared -> Prop} (I : Inv X pins σ H s) (e : H a = some (.ins C dx fs)) (c : aW X.K C) (n : ba X.K C f) (hl : fs.length < 1000) (ry : RelV y u)
 (h : ∀ s', Inv X pins σ (upd H a (.ins C dx (c9 f y fs))) s' -> Q () s') : wpAny (model X.prog X.w) A (setAttr (.ref a) f u) Q E s := by
 obtain ⟨mA, O, r, wi, _, ho⟩ := nN I.av e
 have hz : (fs.map (·.1)).length <= sizeLine := by rw [List.length_map, sizeLine_eq]; omega
 refine CY I.bG O c.sa c.po n.C4 c.hd wi hz fun h' O' sb => h _ ?_
 have hd : ∃ o, h'.get? dx = some o := let ⟨o, _, _, e', _⟩ := O'.ns; ⟨o, e'⟩
 refine I.write (x := a) (e := dx) (by rw [e]; exact True.intro) (.inr ho) (fun b q hb z => (sb.2 b hb).trans z) hd ?_
 refine ⟨by rw [aG O.ne]; exact ho, ?_, O.ne, O'.obj, _, O'.ns, fun g => ?_, fun g hg => ?_⟩
 ·have := wt f y fs; omega
 ·show c7 ((c9 f y fs).lookup g) (if g = f then some u else mA g)
  rw [wq]
  by_cases q : g = f
  ·rw [if_pos q, if_pos q]; exact ry
  ·rw [if_neg q, if_neg q]; exact r g
 ·by_cases q : g = f
  ·rw [q]; exact (qe f y fs).1
  ·refine (qe f y fs).2 g (wi g fun z => hg ?_)
   show (if g = f then some u else mA g) = none
   rw [if_neg q]; exact z
theorem Inv.made (I : Inv X pins σ H s) : Inv X pins σ (upd (upd H s.heap.objs.size (.own (s.heap.objs.size + 1))) (s.heap.objs.size + 1) (.ins C s.heap.objs.size []))
 { s with heap := (s.heap.push PySem.W.emptyDict).push (PySem.W.instObj C s.heap.objs.size) } := by
 have e1 : (s.heap.push PySem.W.emptyDict).get? s.heap.objs.size = some PySem.W.emptyDict := Heap.get?_push_size s.heap rfl
 have e2 : ((s.heap.push PySem.W.emptyDict).push (PySem.W.instObj C s.heap.objs.size)).get? (s.heap.objs.size + 1) = some (PySem.W.instObj C s.heap.objs.size) := by
  have := Heap.get?_push_size (s.heap.push PySem.W.emptyDict) (o := PySem.W.instObj C s.heap.objs.size) rfl
  rwa [Heap.size_push] at this
 have e3 : (s.heap.push PySem.W.emptyDict).Ns s.heap.objs.size (fun _ => none) := ⟨PySem.W.emptyDict, #[], _, e1, rfl, (fun e he => absurd he (by simp)), fun _ => rfl⟩
 have I1 := I.laid (a := s.heap.objs.size) (o := .own (s.heap.objs.size + 1)) (h' := s.heap.push PySem.W.emptyDict) (t' := s.toks) (fun b u q => Heap.get?_push_of_some _ q) (Nat.le_refl _) ⟨_, e1⟩
 refine I1.laid (a := s.heap.objs.size + 1) (o := .ins C s.heap.objs.size []) (t' := s.toks) (fun b u q => Heap.get?_push_of_some _ q) (Nat.le_of_eq (Heap.size_push _ _)) ?_
 have ne : s.heap.objs.size ≠ s.heap.objs.size + 1 := Nat.ne_of_lt (Nat.lt_succ_self _)
 refine ⟨by rw [aG ne, ah], Nat.zero_le _, ne, e2, fun _ => none, (Heap.Ns1.of_empty e3).at fun o q => Heap.get?_push_of_some _ q, fun _ => True.intro, fun y hy => absurd rfl hy⟩
theorem C7 {prog : Program} {w : World} {env : Env} {e : Expr} {f : Str} {pos : Pos} {s : Shared} {Q : Value -> Shared -> Prop} (hb : attributeBase e f env (eval e env) = eval e env)
 (h : wpAny (model prog w) A (eval e env) (fun o s₁ => wpAny (model prog w) A (getAttr o f true) Q E s₁) E s) : wpAny (model prog w) A (eval (.Attribute e f pos) env) Q E s :=
 Attribute_any_ h (by rw [arm_eval_Attribute, hb])
end
def wu (K : PySem.W.Frag) (ta : TE) (f : Str) : TE := fun σ H Q => ta σ H fun x H1 => ∃ a C dx fs v, x = .ref a /\ H1 a = some (.ins C dx fs) /\ aW K C /\ ba K C f /\ fs.lookup f = some v /\ Q v H1
def wx (K : PySem.W.Frag) (ta tv : TE) (f : Str) : TS := fun D σ H => tv σ H fun y H1 => ta σ H1 fun x H2 => ∃ a C dx fs, x = .ref a /\ H2 a = some (.ins C dx fs) /\ aW K C /\ ba K C f /\ fs.length < 1000 /\
 D.nx σ (upd H2 a (.ins C dx (c9 f y fs)))
section
variable {X : Cx} {o e value : Expr} {f : Str} {pos pos' C8 : Pos} {ta tv : TE}
theorem C9 (he : PE X e ta) (hb : attributeBase e f X.env (eval e X.env) = eval e X.env) : PE X (.Attribute e f pos) (wu X.K ta f) := by
 intro pins s σ H Q I h
 refine C7 hb (aw (he pins s σ H _ I h) fun u s1 ⟨x, H1, I1, rx, a, C, dx, fs, v, ex, ea, c, n, l, q⟩ => ?_)
 subst ex
 obtain rfl : u = Value.ref a := rx
 exact C5 I1 ea c n l fun u' s2 I2 ru => ⟨v, H1, I2, ru, q⟩
theorem Dc (ha : PE X o ta) (hv : PE X value tv) (hs : swapsWith value (some (.Attribute o f pos')) pos.line X.env = pure false) : PS X (.Assign [.Attribute o f pos'] value pos) (wx X.K ta tv f) := by
 intro pins s σ H D I h
 refine plainObj_wpAny_Assign_Attribute (aw (hv pins s σ H _ I h) fun u s1 ⟨y, H1, I1, ry, q⟩ => aw (ha pins s1 σ H1 _ I1 q) fun ov s2 ⟨x, H2, I2, rx, a, C, dx, fs, ex, ea, c, n, l, q2⟩ => ?_) hs
 subst ex
 obtain rfl : ov = Value.ref a := rx
 exact C6 I2 ea c n l ry fun s3 I3 => ⟨σ, _, I3, q2⟩
end
section
variable {X : Cx} {pins : List (Addr × Obj)} {σ : St} {H : Hp} {s : Shared} {A : Around} {E : Value -> Shared -> Prop} {Q : Value -> Shared -> Prop} {c : Value} {b : Bool}
inductive cI (K : PySem.W.Frag) (H : Hp) : V -> Value -> Prop where
 | non : cI K H .non (.type "NoneType")
 | bl (x : Bool) : cI K H (.bl x) (.type "bool")
 | int (i : Int) : cI K H (.int i) (.type "int")
 | str (x : Str) : cI K H (.str x) (.type "str")
 | flt (x : UInt64) : cI K H (.flt x) (.type "float")
 | lst {a : Addr} {xs : List V} (e : H a = some (.lst xs)) : cI K H (.ref a) (.type "list")
 | cP {a : Addr} {o : Obj} {xs : List V} (e : H a = some (.cP o (.lst xs))) : cI K H (.ref a) (.type "list")
 | tup {a : Addr} {xs : List V} (e : H a = some (.tup xs)) : cI K H (.ref a) (.type "tuple")
 | dK {a : Addr} {kvs : List (Key × V)} (e : H a = some (.dK kvs)) : cI K H (.ref a) (.type "dict")
 | dT {a : Addr} {kvs : List (List Key × V)} (e : H a = some (.dT kvs)) : cI K H (.ref a) (.type "dict")
 | ins {a C dx : Addr} {fs : List (Str × V)} (e : H a = some (.ins C dx fs)) (cl : aW K C) (ha : PySem.W.findIn K (.ref C) "__class__" = some (some (.builtin "object.__class__")))
  (hn : PySem.W.specialIn K (.builtin "object.__class__") "__get__" = some (some (.builtin "getset_descriptor.__get__"))) (wy : PySem.W.takesIn K (.builtin "object.__class__") = some true)
  (hm : PySem.W.mroIn K C (.type "object") = some true) : cI K H (.ref a) (.ref C)
theorem Dd {x : V} {u t : Value} (I : Inv X pins σ H s) (rx : RelV x u) (ty : cI X.K H x t) (e : PySem.W.kitOne X.K t c = some b) (h : ∀ tk, Q (.bool b) { s with toks := tk }) :
 wpAny (model X.prog X.w) A (call (.builtin "isinstance") [u, c]) Q E s := by
 cases ty with
 | non => cases (show u = Value.none from rx); exact PySem.W.kia_one PySem.W.kitx_none I.bG True.intro e (fun z => nomatch z) h
 | bl y => cases (show u = Value.bool y from rx); exact PySem.W.kia_one PySem.W.kitx_bool I.bG True.intro e (fun z => nomatch z) h
 | int i => obtain ⟨t, q⟩ := (show ∃ t, u = Value.int i t from rx); cases q; exact PySem.W.kia_one PySem.W.kitx_int I.bG True.intro e (fun z => nomatch z) h
 | str y => obtain ⟨t, q⟩ := (show ∃ t, u = Value.str y t from rx); cases q; exact PySem.W.kia_one PySem.W.kitx_str I.bG True.intro e (fun z => nomatch z) h
 | flt y => obtain ⟨t, q⟩ := (show ∃ t, u = Value.float y t from rx); cases q; exact PySem.W.kia_one PySem.W.kitx_float I.bG True.intro e (fun z => nomatch z) h
 | @lst a xs ea =>
  cases (show u = Value.ref a from rx)
  obtain ⟨_, _, n, _, h1⟩ := (show cw X.prog X.w H s.heap a (.lst xs) from I.av a _ ea)
  exact PySem.W.kia_one PySem.W.kitx_list I.bG ⟨_, h1, rfl⟩ e (fun z => nomatch z) h
 | @cP a ob xs ea =>
  cases (show u = Value.ref a from rx)
  obtain ⟨_, _, _, n, _, h1⟩ := (show cw X.prog X.w H s.heap a (.cP ob (.lst xs)) from I.av a _ ea)
  exact PySem.W.kia_one PySem.W.kitx_list I.bG ⟨_, h1, rfl⟩ e (fun z => nomatch z) h
 | @tup a xs ea =>
  cases (show u = Value.ref a from rx)
  obtain ⟨_, _, _, p⟩ := (show cw X.prog X.w H s.heap a (.tup xs) from I.av a _ ea)
  obtain ⟨o, h1, h2, _⟩ := p
  exact PySem.W.kia_one PySem.W.kitx_tuple I.bG ⟨o, h1, h2⟩ e (fun z => nomatch z) h
 | @dK a kvs ea =>
  cases (show u = Value.ref a from rx)
  obtain ⟨_, _, vs, _, p⟩ := (show cw X.prog X.w H s.heap a (.dK kvs) from I.av a _ ea)
  obtain ⟨o, es, ep, h1, h2, _⟩ := p
  exact PySem.W.kia_one PySem.W.kitx_dict I.bG ⟨o, h1, h2.1⟩ e (fun z => nomatch z) h
 | @dT a kvs ea =>
  cases (show u = Value.ref a from rx)
  obtain ⟨_, _, xs, _, o, es, ep, h1, h2, _⟩ := (show cw X.prog X.w H s.heap a (.dT kvs) from I.av a _ ea)
  exact PySem.W.kia_one PySem.W.kitx_dict I.bG ⟨o, h1, h2.1⟩ e (fun z => nomatch z) h
 | @ins a C dx fs ea cl ha hn wy hm =>
  cases (show u = Value.ref a from rx)
  obtain ⟨mA, O, _⟩ := nN I.av ea
  obtain ⟨od, J, _⟩ := O.look
  exact PySem.W.kia_one (PySem.W.kitx_own (cl.get _) cl.hd ha hn wy hm) I.bG J e (fun z => nomatch z) h
end
end L2
namespace L2
open PySem PySem.Spec PyProof.Rows
structure aS (k : Nat) (A : Around) : Prop where
 hd : A.handled = none
 dp : A.depth + 3 * k + 5 < recursionLimit
 un : A.units + 16 * k + 200 < cLine
theorem aS.mono {j k : Nat} {A : Around} (r : aS k A) (h : j <= k) : aS j A := ⟨r.hd, by have := r.dp; omega, by have := r.un; omega⟩
theorem aS.deeper {k : Nat} {A : Around} (r : aS (k + 1) A) (env : Env) : aS k (A.deeper env) :=
 ⟨r.hd, by have := r.dp; show A.depth + 1 + 3 * k + 5 < _; omega, by have := r.un; show A.units + 3 + 16 * k + 200 < _; omega⟩
theorem De {A : Around} {C : Addr} {us : List Value} {kw : List (Str × Value)} : (A.under (.builtin "type.__call__" ⟨.ref C :: us, kw⟩)).depth = A.depth + 1 := by
 first | rfl | simp [Around.under, Code.weight, Code.isCreation, Code.isGuard, Code.isCaller, Code.frames, Code.isFrame, guardIds]
theorem Df {A : Around} {C : Addr} {us : List Value} {kw : List (Str × Value)} : (A.under (.builtin "type.__call__" ⟨.ref C :: us, kw⟩)).units = A.units + 1 := by
 first | rfl | simp [Around.under, Code.cUnits, Code.frames, Code.isFrame]
theorem aS.make {k : Nat} {A : Around} (r : aS (k + 1) A) (C : Addr) (us : List Value) (kw : List (Str × Value)) : aS k (A.under (.builtin "type.__call__" ⟨.ref C :: us, kw⟩)) :=
 ⟨r.hd, by have := r.dp; rw [De]; omega, by have := r.un; rw [Df]; omega⟩
theorem aS.depth {k : Nat} {A : Around} (r : aS k A) : A.depth < recursionLimit := by have := r.dp; omega
def lp : TA := fun _ H Q => Q [] H
def nO (ta : TE) (tr : TA) : TA := fun σ H Q => ta σ H fun x H1 => tr σ H1 fun xs H2 => Q (x :: xs) H2
section
variable {X : Cx} {e : Expr} {es : List Expr} {te : TE} {t : TA} {pos : Pos}
theorem af : PA X [] lp := fun _ _ _ _ H Q I h => Calls.spliced_nil ⟨[], H, I, .nil, h⟩
theorem ae (ha : PE X e te) (hr : PA X es t) (hs : starEach (e :: es) X.env = (false, eval e X.env) :: starEach es X.env := by rfl) : PA X (e :: es) (nO te t) := by
 intro pos pins s σ H Q I h
 rw [hs]
 show wpAny _ _ (spliced ((false, eval e X.env) :: backTo pos (starEach es X.env))) _ _ s
 refine Calls.spliced_cons (aw (ha pins s σ H _ I h) fun u s1 ⟨x, H1, I1, r1, q1⟩ => ?_)
 exact aw (hr pos pins s1 σ H1 _ I1 q1) fun us s2 ⟨xs, H2, I2, r2, q2⟩ => ⟨x :: xs, H2, I2, .cons r1 r2, q2⟩
def wz (t : TA) : TE := fun σ H Q => t σ H fun xs H1 => xs.length <= sizeLine /\ ∀ p, H1 p = none -> Q (.ref p) (upd H1 p (.tup xs))
def wA (t : TA) : TE := fun σ H Q => t σ H fun xs H1 => xs.length <= sizeLine /\ ∀ p, H1 p = none -> Q (.ref p) (upd H1 p (.lst xs))
theorem aX {x1} (h : PA X es t) : PE X (.Tuple es x1 pos) (wz t) := by
 intro pins s σ H Q I hq
 refine wpAny_Tuple_spliced (aw (h pos pins s σ H _ I hq) fun us s1 ⟨xs, H1, I1, r, z, q⟩ => ⟨by rw [<- r.length]; exact z, ?_⟩)
 have hf : H1 s1.heap.objs.size = none := I1.av.fresh (Nat.le_refl _)
 refine ⟨.ref s1.heap.objs.size, upd H1 s1.heap.objs.size (.tup xs), I1.laid (t' := s1.toks) (fun b u e => Heap.get?_push_of_some _ e) (Nat.le_refl _) ?_, rfl, q _ hf⟩
 exact ⟨z, us, r, ⟨_, Heap.get?_push_size _ rfl, rfl, _, rfl⟩⟩
theorem bU (h : PA X es t) : PE X (.List es pos) (wA t) := by
 intro pins s σ H Q I hq
 refine wpAny_List_spliced (aw (h pos pins s σ H _ I hq) fun us s1 ⟨xs, H1, I1, r, z, q⟩ => ⟨by rw [<- r.length]; exact z, ?_⟩)
 have hf : H1 s1.heap.objs.size = none := I1.av.fresh (Nat.le_refl _)
 refine ⟨.ref s1.heap.objs.size, upd H1 s1.heap.objs.size (.lst xs), I1.laid (t' := s1.toks) (fun b u e => Heap.get?_push_of_some _ e) (Nat.le_refl _) ?_, rfl, q _ hf⟩
 exact ⟨z, us, 0, r, Heap.get?_push_size _ rfl⟩
end
abbrev Sp := List V -> Hp -> VK -> XK -> Prop
abbrev cJ := List Env -> Hp -> Shared -> XK -> Value -> Shared -> Prop
structure iU (P : Program) (w : World) (K : PySem.W.Frag) (mg : Str -> Option Value) (base : Heap) (A : Around) (outer : List Env) (s : Shared) (H : Hp) : Prop where
 frames : A.frames = some outer
 mod : Mod K mg base
 bs : ∀ b o, base.get? b = some o -> s.heap.get? b = some o /\ H b = none
 bsz : base.objs.size <= s.heap.objs.size
 er : s.heap.FunFrames base outer
 frf : ∀ b ∈ aN outer, H b = none
 av : b9 P w H s.heap
 bare : AllBare s.gens
def CE (outer : List Env) (P : Program) (w : World) (H : Hp) (s : Shared) (Q : VK) (u : Value) (s' : Shared) : Prop :=
 ∃ v H', s'.os = s.os /\ AllBare s'.gens /\ Un (aN outer) [] H H' s.heap s'.heap /\ b9 P w H' s'.heap /\ RelV v u /\ Q v H'
def CR (CX : cJ) (outer : List Env) (P : Program) (w : World) (H : Hp) (s : Shared) (Q : VK) (E : XK) (r : Result) (s' : Shared) : Prop :=
 match r with
 | .ok (.ret u) => CE outer P w H s Q u s'
 | .ok _ => False
 | .error e => CX outer H s E e s'
structure cq (P : Program) (w : World) (K : PySem.W.Frag) (mg : Str -> Option Value) (base : Heap) (CX : cJ) (k : Nat) (f : Addr) (fd : FuncData) (ps : List Str) (sp : Sp) : Prop where
 len : ∀ vs H Q E, sp vs H Q E -> vs.length = ps.length
 run : ∀ (A : Around) (outer : List Env) (s : Shared) (H : Hp) (args : Args) (us : List Value) (vs : List V) (Q : VK) (E : XK), aS k A -> iU P w K mg base A outer s H -> BindsTo s fd args (ps.zip us) -> Vals vs us -> sp vs H Q E ->
  codeAny (model P w) A (.call (.ref f) args) (CR CX outer P w H s Q E) s
theorem cq.imp {P : Program} {w : World} {K : PySem.W.Frag} {mg : Str -> Option Value} {base : Heap} {CX : cJ} {k : Nat} {f : Addr} {fd : FuncData} {ps : List Str} {sp wB : Sp} (F : cq P w K mg base CX k f fd ps sp)
 (h : ∀ vs H Q E, wB vs H Q E -> sp vs H Q E) : cq P w K mg base CX k f fd ps wB :=
 ⟨fun vs H Q E q => F.len vs H Q E (h _ _ _ _ q), fun A outer s H args us vs Q E hr he hb hv hs => F.run A outer s H args us vs Q E hr he hb hv (h _ _ _ _ hs)⟩
theorem iU.make {P : Program} {w : World} {K : PySem.W.Frag} {mg : Str -> Option Value} {base : Heap} {A : Around} {outer : List Env} {s : Shared} {H : Hp} (e : iU P w K mg base A outer s H) (C : Addr) (us : List Value) (kw : List (Str × Value)) :
 iU P w K mg base (A.under (.builtin "type.__call__" ⟨.ref C :: us, kw⟩)) outer s H := ⟨by first | exact e.frames | (simpa [Around.under, Code.envs, Code.isFrame, pushEnvs] using e.frames), e.mod, e.bs, e.bsz, e.er, e.frf, e.av, e.bare⟩
section
variable {X : Cx} {pins : List (Addr × Obj)} {σ : St} {H : Hp} {s s' : Shared}
theorem Inv.wC (I : Inv X pins σ H s) : iU X.prog X.w X.K X.mg X.base X.A X.stack s H :=
 ⟨I.ok.frames, I.ok.mod, I.bs, Nat.le_trans I.ok.bsz I.sz, I.stack, I.nq, I.av, I.bare⟩
theorem Inv.after {Q : VK} {u : Value} (I : Inv X pins σ H s) (h : CE X.stack X.prog X.w H s Q u s') : EP X pins σ Q u s' := by
 obtain ⟨v, H', os, bare, un, av, r, q⟩ := h
 obtain ⟨hh, g, d, t, nP⟩ := s'
 obtain rfl : nP = s.os := os
 exact ⟨v, H', I.call (h' := hh) (g' := g) (d' := d) (t' := t) (ch := []) un av bare (fun b z => absurd z (by simp)), r, q⟩
end
def lq (sp : Sp) (bP : List V) (E : XK) (t : TA) : TE := fun σ H Q => t σ H fun vs H1 => sp (vs ++ bP) H1 Q E
def qg (C : Addr) (m : Str) (sp : Sp) (bP : List V) (E : XK) (ta : TE) (t : TA) : TE := fun σ H Q => ta σ H fun x H1 => ∃ a dx fs, x = .ref a /\ H1 a = some (.ins C dx fs) /\ fs.lookup m = none /\
 t σ H1 fun vs H2 => sp (x :: (vs ++ bP)) H2 Q E
def wD (C : Addr) (sp : Sp) (bP : List V) (E : XK) (t : TA) : TE := fun σ H Q => t σ H fun vs H1 => ∀ x dx, H1 x = none -> H1 dx = none -> dx ≠ x ->
 sp (.ref x :: (vs ++ bP)) (upd (upd H1 dx (.own x)) x (.ins C dx [])) (fun v H2 => v = .non /\ Q (.ref x) H2) E
def Binds (K : PySem.W.Frag) (fd : FuncData) (ps : List Str) (ds : List Value) : Prop :=
 ∀ (s : Shared) (us : List Value), K.In s.heap -> (us ++ ds).length = ps.length -> BindsTo s fd ⟨us, []⟩ (ps.zip (us ++ ds))
theorem Binds.all {K : PySem.W.Frag} {fd : FuncData} {ps : List Str} (h : ∀ us : List Value, us.length = ps.length -> bindArgs fd ⟨us, []⟩ = pure (ps.zip us)) : Binds K fd ps [] := fun s us _ hl => by
 rw [List.append_nil] at hl ⊢
 exact .of_eq (h us hl)
def Passes (CX : cJ) (X : Cx) (E : XK) : Prop := ∀ (pins : List (Addr × Obj)) (σ : St) (H : Hp) (s : Shared) (e : Value) (s' : Shared), Inv X pins σ H s -> CX X.stack H s E e s' -> X.xe e s'
section
variable {X : Cx} {CX : cJ} {k : Nat} {f C : Addr} {fd : FuncData} {ps : List Str} {sp : Sp} {bP : List V} {ds : List Value} {E : XK} {x m : Str} {p pos apos : Pos} {e o : Expr} {es : List Expr} {ta : TE} {t : TA}
theorem lr {pins : List (Addr × Obj)} {σ : St} {H : Hp} {s : Shared} {Q : VK} {us : List Value} {vs : List V} (F : cq X.prog X.w X.K X.mg X.base CX k f fd ps sp) (hr : aS k X.A) (hb : Binds X.K fd ps ds) (hd : Vals bP ds) (hx : Passes CX X E)
 (I : Inv X pins σ H s) (r : Vals vs us) (h : sp (vs ++ bP) H Q E) : wpAny (model X.prog X.w) X.A (call (.ref f) us) (EP X pins σ Q) X.xe s := by
 have r2 : Vals (vs ++ bP) (us ++ ds) := r.append hd
 have hl : (us ++ ds).length = ps.length := by rw [<- r2.length]; exact F.len _ _ _ _ h
 refine wpAny_call (codeAny_mono (F.run X.A X.stack s H ⟨us, []⟩ (us ++ ds) (vs ++ bP) Q E hr I.wC (hb s us I.bG hl) r2 h) fun r s' hq => ?_)
 cases r with
 | error e => exact hx pins σ H s e s' I hq
 | ok fl =>
  cases fl with
  | ret u => exact I.after hq
  | next => exact False.elim hq
  | brk => exact False.elim hq
  | cont => exact False.elim hq
theorem cU (F : cq X.prog X.w X.K X.mg X.base CX k f fd ps sp) (hr : aS k X.A) (hg : Gl X x) (hm : X.mg x = some (.ref f)) (hk : PySem.W.keepIn X.K (.ref f) = true) (hb : Binds X.K fd ps ds) (hd : Vals bP ds) (hx : Passes CX X E)
 (ha : PA X (e :: es) t) (dZ : (x == ("__debug__" : Str)) = false := by decide) (he : starEach (e :: es) X.env = (false, eval e X.env) :: starEach es X.env := by rfl) (cV : (backTo pos (starEach es X.env)).any (·.1) = false := by rfl) :
 PE X (.Call (.Name x p) (e :: es) [] pos) (lq sp bP E t) := by
 intro pins s σ H Q I h
 refine wpAny_Call_Name_kw (nr I hg hm ?_ dZ)
 refine PySem.W.callWith_K (h₀ := X.base) I.ok.mod.kin hk (aw (ha pos pins s σ H _ I h) fun us s1 ⟨vs, H1, I1, r, q⟩ => ⟨I1.bG, ?_⟩) he cV
 exact lr F hr hb hd hx I1 r q
theorem eW {pl : Sem Bool} (he : PE X o ta) (c : aW X.K C) (hm : Meth X.K C m f) (F : cq X.prog X.w X.K X.mg X.base CX k f fd ps sp) (hr : aS k X.A) (hb : Binds X.K fd ps ds) (hd : Vals bP ds) (hx : Passes CX X E) (ha : PA X (e :: es) t)
 (k8 : starEach (e :: es) X.env = (false, eval e X.env) :: starEach es X.env := by rfl) (cV : (backTo pos (starEach es X.env)).any (·.1) = false := by rfl)
 (ht : eval (.Call (.Attribute o m apos) (e :: es) [] pos) X.env = (do
   let ov <- eval o X.env
   standAt apos.atName
   let (f, first) <- holding [ov] (getMethod ov m pl)
   callWith pos f first (backTo pos (starEach (e :: es) X.env)) (backToKw pos (keywordEach [] X.env))) := by rfl) :
 PE X (.Call (.Attribute o m apos) (e :: es) [] pos) (qg C m sp bP E ta t) := by
 intro pins s σ H Q I h
 refine PySem.W.methodCall_KW (pl := pl) (aw (he pins s σ H _ I h) fun u s1 ⟨x, H1, I1, rx, a, dx, fs, ex, ea, l, q⟩ => ?_) ht
 subst ex
 obtain rfl : u = Value.ref a := rx
 refine qf I1 ea c hm l ?_
 refine PySem.W.callWith_K (first := [.ref a]) (h₀ := X.base) I.ok.mod.kin hm.kp (aw (ha pos pins s1 σ H1 _ I1 q) fun us s2 ⟨vs, H2, I2, r, q2⟩ => ⟨I2.bG, ?_⟩) k8 cV
 exact lr (us := .ref a :: us) (vs := .ref a :: vs) F hr hb hd hx I2 (.cons rfl r) q2
theorem nQ {pl : Sem Bool} (he : PE X o ta) (c : aW X.K C) (hm : Meth X.K C m f) (F : cq X.prog X.w X.K X.mg X.base CX k f fd ps sp) (hr : aS k X.A) (hb : Binds X.K fd ps ds) (hd : Vals bP ds) (hx : Passes CX X E)
 (ht : eval (.Call (.Attribute o m apos) [] [] pos) X.env = (do
   let ov <- eval o X.env
   standAt apos.atName
   let (f, first) <- holding [ov] (getMethod ov m pl)
   callWith pos f first (backTo pos (starEach [] X.env)) (backToKw pos (keywordEach [] X.env))) := by rfl) :
 PE X (.Call (.Attribute o m apos) [] [] pos) (qg C m sp bP E ta lp) := by
 intro pins s σ H Q I h
 refine PySem.W.methodCall_KW (pl := pl) (aw (he pins s σ H _ I h) fun u s1 ⟨x, H1, I1, rx, a, dx, fs, ex, ea, l, q⟩ => ?_) ht
 subst ex
 obtain rfl : u = Value.ref a := rx
 refine qf I1 ea c hm l ?_
 exact PySem.W.callWith_K0 (first := [.ref a]) I1.bG hm.kp (lr (us := [.ref a]) (vs := [.ref a]) F hr hb hd hx I1 (.cons rfl .nil) q)
structure Mk (K : PySem.W.Frag) (C f : Addr) : Prop where
 makes : PySem.W.makesIn K C = true
 init : PySem.W.findIn K (.ref C) "__init__" = some (some (.ref f))
 fn : PySem.W.isFn K (.ref f) = true
 kp : PySem.W.keepIn K (.ref C) = true
theorem Dg {pins : List (Addr × Obj)} {σ : St} {H : Hp} {s : Shared} {Q : VK} {us : List Value} {vs : List V} (M : Mk X.K C f) (F : cq X.prog X.w X.K X.mg X.base CX k f fd ps sp) (hr : aS (k + 1) X.A) (hb : Binds X.K fd ps ds) (hd : Vals bP ds)
 (hx : Passes CX X E) (I : Inv X pins σ H s) (r : Vals vs us)
 (h : ∀ x dx, H x = none -> H dx = none -> dx ≠ x -> sp (.ref x :: (vs ++ bP)) (upd (upd H dx (.own x)) x (.ins C dx [])) (fun v H2 => v = .non /\ Q (.ref x) H2) E) :
 wpAny (model X.prog X.w) X.A (call (.ref C) us) (EP X pins σ Q) X.xe s := by
 have hq := h (s.heap.objs.size + 1) s.heap.objs.size (I.av.fresh (Nat.le_succ _)) (I.av.fresh (Nat.le_refl _)) (Nat.ne_of_lt (Nat.lt_succ_self _))
 have I2 := Inv.made (C := C) I
 have r2 : Vals (V.ref (s.heap.objs.size + 1) :: (vs ++ bP)) (Value.ref (s.heap.objs.size + 1) :: (us ++ ds)) := .cons rfl (r.append hd)
 have hl : (Value.ref (s.heap.objs.size + 1) :: us ++ ds).length = ps.length := by
  have e := r2.length
  rw [F.len _ _ _ _ hq] at e
  exact e.symm
 refine wpAny_call (C2 (f := f) I.bG M.makes M.init (beq_iff_eq.mp M.fn) (codeAny_mono (F.run _ X.stack _ _ ⟨Value.ref (s.heap.objs.size + 1) :: us, []⟩ (Value.ref (s.heap.objs.size + 1) :: (us ++ ds)) _ _ E (hr.make C us [])
  (I2.wC.make C us []) (hb _ (Value.ref (s.heap.objs.size + 1) :: us) I2.bG hl) r2 hq) fun r s' lx => ?_))
 cases r with
 | error e => exact hx pins σ _ _ e s' I2 lx
 | ok fl =>
  cases fl with
  | ret u =>
   obtain ⟨v, H', I3, rv, ev, q3⟩ := I2.after lx
   subst ev
   exact ⟨rv, ⟨V.ref (s.heap.objs.size + 1), H', I3, rfl, q3⟩⟩
  | next => exact False.elim lx
  | brk => exact False.elim lx
  | cont => exact False.elim lx
theorem cW (M : Mk X.K C f) (F : cq X.prog X.w X.K X.mg X.base CX k f fd ps sp) (hr : aS (k + 1) X.A) (hg : Gl X x) (hm : X.mg x = some (.ref C)) (hb : Binds X.K fd ps ds) (hd : Vals bP ds) (hx : Passes CX X E)
 (ha : PA X (e :: es) t) (dZ : (x == ("__debug__" : Str)) = false := by decide) (he : starEach (e :: es) X.env = (false, eval e X.env) :: starEach es X.env := by rfl) (cV : (backTo pos (starEach es X.env)).any (·.1) = false := by rfl) :
 PE X (.Call (.Name x p) (e :: es) [] pos) (wD C sp bP E t) := by
 intro pins s σ H Q I h
 refine wpAny_Call_Name_kw (nr I hg hm ?_ dZ)
 refine PySem.W.callWith_K (h₀ := X.base) I.ok.mod.kin M.kp (aw (ha pos pins s σ H _ I h) fun us s1 ⟨vs, H1, I1, r, q⟩ => ⟨I1.bG, ?_⟩) he cV
 exact Dg M F hr hb hd hx I1 r q
end
section
variable {X : Cx} {CX : cJ} {k : Nat} {f C : Addr} {fd : FuncData} {ps ks : List Str} {sp : Sp} {E : XK} {x m : Str} {p pos apos MT : Pos} {e o : Expr} {es : List Expr} {MU : List Keyword} {te ta : TE} {t tk : TA} {nm : Option Str}
variable {g : List Value -> List Value -> List Value} {gV : List V -> List V -> List V}
end
structure jT (N P : List Str) (sc : Scope) : Prop where
 kind : sc.kind = .function
 co : sc.isCoroutine = false
 gen : sc.isGenerator = false
 nd : N.Nodup
 pre : N.take P.length = P
 par : ∀ x ∈ P, sc.names.lookup x = some .local ∨ sc.names.lookup x = some .cell
 nofree : ∀ y ∈ sc.names, y.2 ≠ .free
theorem wF {kindOf : Str -> Option NameKind} {x : Str} : ∀ {binds : List (Str × Value)} {m : Str -> Option Value}, (∀ v, (x, v) ∉ binds) -> bindL kindOf binds m x = m x
 | [], _, _ => rfl
 | (n, v) :: r, m, h => by
  unfold bindL
  rw [wF fun w hw => h w (List.mem_cons_of_mem _ hw)]
  split
  ·have : x ≠ n := by rintro rfl; exact h v List.mem_cons_self
   simp [this]
  ·rfl
theorem wG {kindOf : Str -> Option NameKind} {x : Str} : ∀ {binds : List (Str × Value)} {m : Str -> Option Value}, (∀ v, (x, v) ∉ binds) -> bindC kindOf binds m x = m x
 | [], _, _ => rfl
 | (n, v) :: r, m, h => by
  unfold bindC
  rw [wG fun w hw => h w (List.mem_cons_of_mem _ hw)]
  split
  ·rfl
  ·have : x ≠ n := by rintro rfl; exact h v List.mem_cons_self
   simp [this]
theorem wH {kindOf : Str -> Option NameKind} {x : Str} {v : Value} : ∀ {P : List Str} {vs : List Value} {i : Nat} {m : Str -> Option Value}, P.Nodup -> P[i]? = some x -> vs[i]? = some v -> kindOf x = some .local ->
 bindL kindOf (P.zip vs) m x = some v
 | [], _, _, _, _, h, _, _ => by simp at h
 | _ :: _, [], _, _, _, _, h, _ => by simp at h
 | p :: P, w :: vs, 0, m, nd, h1, h2, hk => by
  simp at h1 h2; subst h1; subst h2
  show bindL kindOf ((p, w) :: P.zip vs) m p = _
  unfold bindL
  rw [wF fun v hv => (List.nodup_cons.mp nd).1 (List.of_mem_zip hv).1, if_pos hk]
  simp
 | p :: P, w :: vs, i + 1, m, nd, h1, h2, hk => by
  show bindL kindOf ((p, w) :: P.zip vs) m x = _
  unfold bindL
  exact wH (i := i) (List.nodup_cons.mp nd).2 (by simpa using h1) (by simpa using h2) hk
theorem wI {kindOf : Str -> Option NameKind} {x : Str} {v : Value} : ∀ {P : List Str} {vs : List Value} {i : Nat} {m : Str -> Option Value}, P.Nodup -> P[i]? = some x -> vs[i]? = some v -> kindOf x ≠ some .local ->
 bindC kindOf (P.zip vs) m x = some v
 | [], _, _, _, _, h, _, _ => by simp at h
 | _ :: _, [], _, _, _, _, h, _ => by simp at h
 | p :: P, w :: vs, 0, m, nd, h1, h2, hk => by
  simp at h1 h2; subst h1; subst h2
  show bindC kindOf ((p, w) :: P.zip vs) m p = _
  unfold bindC
  rw [wG fun v hv => (List.nodup_cons.mp nd).1 (List.of_mem_zip hv).1, if_neg hk]
  simp
 | p :: P, w :: vs, i + 1, m, nd, h1, h2, hk => by
  show bindC kindOf ((p, w) :: P.zip vs) m x = _
  unfold bindC
  exact wI (i := i) (List.nodup_cons.mp nd).2 (by simpa using h1) (by simpa using h2) hk
noncomputable def start (N : List Str) (vs : List V) : St := vs.map some ++ List.replicate (N.length - vs.length) none
noncomputable def cX (CX : cJ) (P : Program) (w : World) (K : PySem.W.Frag) (mg : Str -> Option Value) (base : Heap) (N : List Str) (qual : Str) (scope : Scope) (f : Addr) (cd : Value) (A : Around) (outer : List Env) (s : Shared) (H : Hp) (E : XK) : Cx where
 prog := P
 w := w
 K := K
 mg := mg
 base := base
 A := A.deeper (envOfC qual scope s.heap.objs.size f cd)
 N := N
 s₀ := s
 H₀ := H
 env := envOfC qual scope s.heap.objs.size f cd
 outer := outer
 stack := envOfC qual scope s.heap.objs.size f cd :: outer
 ex := []
 calm := true
 fn := fun _ => true
 pn := []
 xe := fun e s' => wpAny (model P w) (A.deeper (envOfC qual scope s.heap.objs.size f cd)) (leaving (envOfC qual scope s.heap.objs.size f cd) e) (fun _ qh => CX outer H s E e qh) (fun e' qh => CX outer H s E e' qh) s'
theorem wJ {sc : Scope} {n : Nat} {x : Str} (h : sc.names.lookup x = some .cell) : ∃ c, (cellsFrom n sc.names []).lookup x = some c := by
 have q := PySem.W.cellsFrom_some sc.names n [] (.inl h)
 exact Option.isSome_iff_exists.mp q
theorem Dh {CX : cJ} {P : Program} {w : World} {K : PySem.W.Frag} {mg : Str -> Option Value} {base : Heap} {N ps : List Str} {qual : Str} {scope : Scope} {f : Addr} {cd : Value} {A : Around} {outer : List Env} {s s1 : Shared} {H : Hp} {E : XK} {us : List Value} {vs : List V}
 (S : jT N ps scope) (hd : A.handled = none) (e0 : iU P w K mg base A outer s H) (hl : vs.length = ps.length) (r : Vals vs us)
 (x : InCallC s s.heap.objs.size (bindL (envOfC qual scope s.heap.objs.size f cd).kindOf (ps.zip us) fun _ => none) (cellsFrom (s.heap.objs.size + 1) scope.names []) (bindC (envOfC qual scope s.heap.objs.size f cd).kindOf (ps.zip us) fun _ => none) s1) :
 Inv (cX CX P w K mg base N qual scope f cd A outer s H E) [] (start N vs) H s1 := by
 have cV : ps.length <= N.length := by have := congrArg List.length S.pre; rw [List.length_take] at this; omega
 obtain ⟨h1, tk, rfl, hk⟩ := x.done
 have iV : ∀ b : Addr, b ∉ (cX CX P w K mg base N qual scope f cd A outer s H E).ex := fun b z => absurd (show b ∈ ([] : List Addr) from z) (by simp)
 refine ⟨⟨e0.mod, S.kind, rfl, rfl, Nat.le_refl _, fun y z c h1 h2 => ?_, fun y hy => ?_, fun y c _ h => ?_, fun _ => hd, Around.frames_deeper e0.frames, .inr ⟨rfl, rfl⟩, fun b z => absurd z (iV b), e0.bs, e0.bsz, fun b _ _ => iV b, fun b z => absurd z (iV b), e0.er, e0.frf⟩,
  rfl, e0.bare, Un.kept hk, ⟨_, x.toInCall.ns, fun i y v h1 h2 h3 => ?_⟩, fun y c h => ⟨_, x.cell y c h⟩, e0.av.fresh (Nat.le_refl _), fun y c h => ?_, fun p hp => absurd (show p ∈ ([] : List (Addr × Obj)) from hp) (by simp), e0.av.kept hk, ?_⟩
 ·exact name_of_addr x.apart (PySem.mem_of_lookup h1) (PySem.mem_of_lookup h2)
 ·have hy : scope.names.lookup y = some .cell ∨ scope.names.lookup y = some .free := hy
  rcases hy with hy | hy
  ·exact wJ hy
  ·exact absurd rfl (S.nofree _ (PySem.mem_of_lookup hy))
 ·exact Nat.le_of_lt (x.above y c (PySem.mem_of_lookup h))
 ·have hi : i < vs.length := by
   unfold start at h2
   by_cases hi : i < vs.length
   ·exact hi
   ·rw [List.getElem?_append_right (by simpa using hi)] at h2
    rw [List.getElem?_replicate] at h2
    split at h2 <;> cases h2
  have ha : vs[i]? = some v := by
   unfold start at h2
   rw [List.getElem?_append_left (by simpa using hi), List.getElem?_map] at h2
   cases e : vs[i]? with
   | none => rw [e] at h2; cases h2
   | some a => rw [e] at h2; cases h2; rfl
  obtain ⟨u, hu, rv⟩ := r.get ha
  have hp : ps[i]? = some y := by
   rw [<- S.pre, List.getElem?_take_of_lt (by omega)]; exact h1
  have wK : ps.Nodup := by rw [<- S.pre]; exact S.nd.sublist (List.take_sublist _ _)
  refine ⟨u, rv, ?_⟩
  rcases S.par y (List.mem_of_getElem? hp) with k | k
  ·exact .inl ⟨k, wH wK hp hu k⟩
  ·obtain ⟨c, e⟩ := wJ (n := s.heap.objs.size + 1) k
   refine .inr ⟨.inl k, c, e, ?_⟩
   have q := x.cell y c e
   rw [wI wK hp hu (by show scope.names.lookup y ≠ _; rw [k]; decide)] at q
   exact q
 ·exact e0.av.fresh (Nat.le_of_lt (x.above y c (PySem.mem_of_lookup h)))
 ·unfold start
  show _ = N.length
  rw [List.length_append, List.length_map, List.length_replicate]
  omega
theorem qi {CX : cJ} {P : Program} {w : World} {K : PySem.W.Frag} {mg : Str -> Option Value} {base : Heap} {k : Nat} {f : Addr} {name qual : Str} {params : Arguments} {body : List Stmt} {scope : Scope} {dV kV doc pm aP ct oc : Value} {an od : Option Addr}
 {eX : Array (Option Value)} {N ps : List Str} {sp : Sp} (lk : K.lookup f = some ⟨oc, od, .func (PySem.W.fnOf name qual params body scope dV kV doc pm an aP ct), eX⟩) (dC : PySem.W.codeIn K aP qual = true) (S : jT N ps scope)
 (len : ∀ vs H Q E, sp vs H Q E -> vs.length = ps.length)
 (dF : ∀ (A : Around) (outer : List Env) (s : Shared) (H : Hp) (vs : List V) (Q : VK) (E : XK), aS k (A.deeper (envOfC qual scope s.heap.objs.size f aP)) -> sp vs H Q E ->
   ∃ t, aR (cX CX P w K mg base N qual scope f aP A outer s H E) body t /\ t { nx := fun _ H' => Q .non H', rt := Q } (start N vs) H) :
 cq P w K mg base CX (k + 1) f (PySem.W.fnOf name qual params body scope dV kV doc pm an aP ct) ps sp := by
 refine ⟨len, fun A outer s H args us vs Q E hr e0 hb r fD => ?_⟩
 have hl := len _ _ _ _ fD
 have KX : K.In s.heap := e0.mod.kin.keeps fun b o e => (e0.bs b o e).1
 have lim : s.heap.NoLimit := e0.mod.nolimit.keeps fun b o e => (e0.bs b o e).1
 have Di : ∀ y ∈ ps.zip us, scope.names.lookup y.1 = some .local ∨ (scope.names.lookup y.1 = some .cell /\ ((cellsFrom (s.heap.objs.size + 1) scope.names []).lookup y.1).isSome = true) := fun ⟨n, v⟩ hy => by
  rcases S.par n (List.of_mem_zip hy).1 with q | q
  ·exact .inl q
  ·exact .inr ⟨q, PySem.W.cellsFrom_some _ _ _ (.inl q)⟩
 refine codeAny_call_function hr.depth (KX _ _ lk) rfl S.co S.gen rfl (PySem.W.codeRec_of KX dC) (hb _ _ _ _ ?_)
 refine wpAny_newFunctionEnv_cells S.kind Di fun env he s1 x => ?_
 subst he
 refine ⟨lim.keeps x.toInCall.keep, codeAny_func ?_⟩
 obtain ⟨t, ht, hq⟩ := dF A outer s H vs Q E (hr.deeper _) fD
 have I : Inv (cX CX P w K mg base N qual scope f aP A outer s H E) [] (start N vs) H s1 := Dh S hr.hd e0 hl r x
 refine wpAny_mono (ht [] s1 (start N vs) H _ I hq) (fun fl s' hs => ?_) fun e s' hs => hs
 have fin : ∀ {σ' : St} {H' : Hp} {v : V} {u : Value}, Inv (cX CX P w K mg base N qual scope f aP A outer s H E) [] σ' H' s' -> RelV v u -> Q v H' -> CE outer P w H s Q u s' :=
  fun {σ' H' v u} J rv q => ⟨v, H', J.os, J.bare, J.base, J.av, rv, q⟩
 cases fl with
 | ret u =>
  obtain ⟨v, σ', H', J, rv, q⟩ := hs
  exact fin J rv q
 | next =>
  obtain ⟨σ', H', J, q⟩ := hs
  exact fin (v := V.non) (u := Value.none) J rfl q
 | brk =>
  obtain ⟨_, _, _, q⟩ := hs
  exact False.elim q
 | cont =>
  obtain ⟨_, _, _, q⟩ := hs
  exact False.elim q
end L2
namespace L2
open PySem PySem.Spec PyProof.Rows
section
variable {X : Cx} {x : Str} {p pos : Pos} {e : Expr} {es : List Expr} {t : TA} {id T : String} {r : List V -> Hp -> VK -> Prop}
def qj (r : List V -> Hp -> VK -> Prop) (t : TA) : TE := fun σ H Q => t σ H fun vs H1 => r vs H1 Q
theorem cQ (hc : eU X (.builtin id) r) (hg : Gl X x) (hm : X.mg x = none) (hv : bootBuiltins x = some (.builtin id)) (ha : PA X (e :: es) t) (hn : x ≠ "__name__" := by decide) (dZ : (x == ("__debug__" : Str)) = false := by decide)
 (he : starEach (e :: es) X.env = (false, eval e X.env) :: starEach es X.env := by rfl) (cV : (backTo pos (starEach es X.env)).any (·.1) = false := by rfl) : PE X (.Call (.Name x p) (e :: es) [] pos) (qj r t) := by
 intro pins s σ H Q I h
 refine wpAny_Call_Name_kw (jM I hg hm hv ?_ hn dZ)
 exact PyProof.Rows.callWith_builtin1 (aw (ha pos pins s σ H _ I h) fun us s1 ⟨vs, H1, I1, r1, q1⟩ => hc pins s1 σ H1 vs us Q I1 r1 q1) he cV
theorem d6 (hc : eU X (.type T) r) (hg : Gl X x) (hm : X.mg x = none) (hv : bootBuiltins x = some (.type T)) (ha : PA X (e :: es) t) (hn : x ≠ "__name__" := by decide) (dZ : (x == ("__debug__" : Str)) = false := by decide)
 (he : starEach (e :: es) X.env = (false, eval e X.env) :: starEach es X.env := by rfl) (cV : (backTo pos (starEach es X.env)).any (·.1) = false := by rfl) : PE X (.Call (.Name x p) (e :: es) [] pos) (qj r t) := by
 intro pins s σ H Q I h
 refine wpAny_Call_Name_kw (jM I hg hm hv ?_ hn dZ)
 exact PyProof.Rows.callWith_type1 (aw (ha pos pins s σ H _ I h) fun us s1 ⟨vs, H1, I1, r1, q1⟩ => hc pins s1 σ H1 vs us Q I1 r1 q1) he cV
end
end L2
namespace HT
open PySem PyProof.Rows
noncomputable def lexLt : List Int -> List Int -> Bool
 | [], [] => false
 | [], _ :: _ => true
 | _ :: _, [] => false
 | x :: xs, y :: ys => if x = y then lexLt xs ys else decide (x < y)
section
open PySem.SeqAt
open PySem.AutoSeq1 (wpAny_loadPart')
open PySem.MeetsSeq PySem.MeetsSeq2 PySem.MeetsSeq3
end
section
variable {prog : Program} {w : World} {A : Around} {E : Value -> Shared -> Prop} {s : Shared}
noncomputable def aJ (n d : Nat) : Option Int -> Nat
 | none => d
 | some v => if v < 0 then (v + (n : Int)).toNat else min v.toNat n
theorem wL (n d : Nat) : aJ n d none = d := rfl
theorem Dj (n d k : Nat) : aJ n d (some (k : Int)) = min k n := by
 show (if (k : Int) < 0 then ((k : Int) + (n : Int)).toNat else min (k : Int).toNat n) = min k n
 rw [if_neg (by omega), Int.toNat_natCast]
theorem Dk (n d : Nat) (hd : d <= n) (o : Option Int) : aJ n d o <= n := by
 cases o with
 | none => exact hd
 | some v =>
  show (if v < 0 then (v + (n : Int)).toNat else min v.toNat n) <= n
  by_cases hv : v < 0
  ·rw [if_pos hv]; omega
  ·rw [if_neg hv]; exact Nat.min_le_right _ _
theorem wM (v : Int) (n d : Nat) : (if v < 0 then max (v + (n : Int)) 0 else min v (n : Int)) = ((aJ n d (some v) : Nat) : Int) := by
 show (if v < 0 then max (v + (n : Int)) 0 else min v (n : Int)) = (((if v < 0 then (v + (n : Int)).toNat else min v.toNat n) : Nat) : Int)
 by_cases hv : v < 0
 ·simp only [if_pos hv]; omega
 ·simp only [if_neg hv]; omega
theorem Dl (lo hi : Option Int) (n : Nat) : Builtin.Slice.sliceAdjust lo hi 1 (n : Int) = (((aJ n 0 lo : Nat) : Int), ((aJ n n hi : Nat) : Int)) := by
 have h1 : ¬ ((1 : Int) < 0) := by omega
 unfold Builtin.Slice.sliceAdjust
 simp only [h1, if_false]
 refine Prod.ext ?_ ?_
 ·cases lo with
  | none => rfl
  | some v => exact wM v n 0
 ·cases hi with
  | none => rfl
  | some v => exact wM v n n
theorem Dm (i j : Nat) : Builtin.Slice.slicePlaces (i : Int) (j : Int) 1 = j - i := by
 unfold Builtin.Slice.slicePlaces
 have h1 : (1 : Int) > 0 := by omega
 simp only [h1, if_true, Int.ediv_one]
 split <;> omega
theorem wN {v : Value} {o : Option Int} {Q : Option Int -> Shared -> Prop} (p : IsPart v o) (h : Q o s) : wpAny (model prog w) A (Builtin.Slice.slicePartIndex v) Q E s := by
 cases p with
 | none => exact slicePart_none h
 | int i t => exact slicePart_int h
theorem Dp {sl : Addr} {vl vu : Value} {lo hi : Option Int} {n : Nat} {Q : Int × Int × Nat -> Shared -> Prop} (hs : s.heap.IsSliceOf sl vl vu .none) (pl : IsPart vl lo) (pu : IsPart vu hi)
 (h : Q (((aJ n 0 lo : Nat) : Int), 1, aJ n n hi - aJ n 0 lo) s) : wpAny (model prog w) A (Builtin.Slice.sliceApplied (.ref sl) (pure (n : Int))) Q E s := by
 obtain ⟨os, f7, hcs, hds⟩ := id hs
 unfold Builtin.Slice.sliceApplied Builtin.Slice.sliceFields
 refine wpAny_bind (wpAny_bind (wpAny_field f7 hds (x := vl) rfl (wpAny_bind (wpAny_field f7 hds (x := vu) rfl (wpAny_bind (wpAny_field f7 hds (x := .none) rfl (wpAny_pure ?_)))))))
 refine wpAny_bind (slicePart_none ?_)
 show wpAny _ _ (if ((1 : Int) == 0) = true then _ else _) _ _ s
 rw [if_neg (by decide)]
 refine wpAny_bind (wN pl (wpAny_bind (wN pu (wpAny_bind (wpAny_pure ?_)))))
 show wpAny _ _ (match Builtin.Slice.sliceAdjust lo hi 1 (n : Int) with | (lo, hi) => pure (lo, (1 : Int), Builtin.Slice.slicePlaces lo hi 1)) _ _ s
 rw [Dl lo hi n]
 show wpAny _ _ (pure (((aJ n 0 lo : Nat) : Int), (1 : Int), Builtin.Slice.slicePlaces ((aJ n 0 lo : Nat) : Int) ((aJ n n hi : Nat) : Int) 1)) _ _ s
 rw [Dm]
 exact wpAny_pure h
theorem Dq (xs : Array Value) (i k : Nat) : ((List.range k).filterMap fun (m : Nat) => xs[((i : Int) + (m : Int) * 1).toNat]?).toArray = ((xs.toList.drop i).take k).toArray := by
 have e : (fun (m : Nat) => xs[((i : Int) + (m : Int) * 1).toNat]?) = fun m => xs[i + m]? := by
  funext m
  have : ((i : Int) + (m : Int) * 1).toNat = i + m := by omega
  rw [this]
 rw [e]
 have := pick_run xs i k
 rw [List.filterMap_map] at this
 have e2 : ((fun x => xs[x]?) ∘ fun x => i + x) = fun m => xs[i + m]? := rfl
 rw [e2] at this
 rw [this]
theorem Dr {t sl : Addr} {items : Array Value} {vl vu : Value} {lo hi : Option Int} {Q : Value -> Shared -> Prop} (ht : IsTup s.heap t items) (hs : s.heap.IsSliceOf sl vl vu .none) (pl : IsPart vl lo) (pu : IsPart vu hi)
 (hw : ¬ (aJ items.size 0 lo = 0 /\ aJ items.size items.size hi = items.size))
 (h : Q (.ref s.heap.objs.size) { s with heap := s.heap.push { cls := .type "tuple", data := .seq ((items.toList.drop (aJ items.size 0 lo)).take (aJ items.size items.size hi - aJ items.size 0 lo)).toArray } })
 (iT : items.size <= sizeLine) : wpAny (model prog w) A (getItem (.ref t) (.ref sl)) Q E s := by
 have nU : sizeOk (.seq ((items.toList.drop (aJ items.size 0 lo)).take (aJ items.size items.size hi - aJ items.size 0 lo)).toArray) := by
  show ((items.toList.drop (aJ items.size 0 lo)).take (aJ items.size items.size hi - aJ items.size 0 lo)).toArray.size <= sizeLine
  rw [List.size_toArray, List.length_take, List.length_drop, Array.length_toList]
  omega
 have hj : aJ items.size items.size hi <= items.size := Dk _ _ (Nat.le_refl _) hi
 obtain ⟨os, f7, hcs, hds⟩ := id hs
 have Ds : s.TypeIs (.ref sl) "slice" := ⟨os, f7, hcs⟩
 unfold getItem
 try with_reducible refine wpAny_holding ?_
 first | refine wpAny_bind (wpAny_pure ?_) | skip
 refine wpAny_bind (wpAny_sequenceKey ht.typeIs (by decide) ?_)
 refine wpAny_bind (wpAny_callSpecial?_slot (name := Str.ofString "__getitem__") ht.typeIs PyProof.Rows.slot_tuple_getitem
  (wpAny_call_entry PyProof.Rows.slot_tuple_getitem ht.typeIs entry_tuple_getitem ?_ (args_tuple_getitem _ _)))
 show wpAny _ _ (Builtin.Tuple.tupleItemsOf (.ref t) >>= _) _ _ s
 refine wpAny_bind (tupleItemsOf_ ht ?_)
 refine wpAny_bind (wpAny_typeOf Ds ?_)
 rw [if_pos (by decide)]
 refine wpAny_bind (Dp hs pl pu ?_)
 have Dt : ¬ ((((aJ items.size 0 lo : Nat) : Int) == 0 && (1 : Int) == 1 && (aJ items.size items.size hi - aJ items.size 0 lo) == items.size) = true) := by
  intro q
  rw [Bool.and_eq_true, Bool.and_eq_true] at q
  have q1 : ((aJ items.size 0 lo : Nat) : Int) = 0 := eq_of_beq q.1.1
  have q2 : aJ items.size items.size hi - aJ items.size 0 lo = items.size := eq_of_beq q.2
  exact hw ⟨by omega, by omega⟩
 show wpAny _ _ (if (((aJ items.size 0 lo : Nat) : Int) == 0 && (1 : Int) == 1 && (aJ items.size items.size hi - aJ items.size 0 lo) == items.size) = true then _ else _) _ _ s
 rw [if_neg Dt, Dq]
 first
  | exact wpAny_bind (m := Builtin.Tuple.tupleExact _) (wpAny_newObj_type (wpAny_pure ⟨_, rfl, wpAny_pure h⟩) nU)
  | exact wpAny_bind (m := Builtin.Tuple.tupleExact _) (wpAny_newObj_type (wpAny_bind (wpAny_pure (wpAny_pure ⟨_, rfl, wpAny_pure h⟩))) nU)
  | exact wpAny_bind (wpAny_bind (m := Builtin.Tuple.tupleExact _) (wpAny_newObj_type (wpAny_pure (wpAny_pure ⟨_, rfl, wpAny_pure h⟩)) nU))
  | exact wpAny_bind (wpAny_bind (m := Builtin.Tuple.tupleExact _) (wpAny_newObj_type (wpAny_pure ⟨_, rfl, wpAny_pure h⟩) nU))
end
end HT
namespace L2
open PySem PySem.Spec PyProof.Rows
abbrev TO := St -> Hp -> (Option Int -> Hp -> Prop) -> Prop
def PO (X : Cx) (e : Option Expr) (t : TO) : Prop :=
 ∀ (pins : List (Addr × Obj)) (s : Shared) (σ : St) (H : Hp) (Q : Option Int -> Hp -> Prop), Inv X pins σ H s -> t σ H Q ->
  wpAny (model X.prog X.w) X.A (evalPart e X.env) (fun u s' => ∃ o H', Inv X pins σ H' s' /\ IsPart u o /\ Q o H') X.xe s
noncomputable def wO : TO := fun _ H Q => Q none H
noncomputable def wQ (t : TE) : TO := fun σ H Q => t σ H fun x H1 => ∃ i, x = .int i /\ Q (some i) H1
section
variable {X : Cx} {e : Expr} {te : TE} {lo hi : Option Expr} {tl th : TO} {pos p2 : Pos}
theorem qk : PO X none wO := by
 intro pins s σ H Q I h
 rw [evalPart_none]
 exact wpAny_pure ⟨none, H, I, .none, h⟩
theorem ql (h : PE X e te) : PO X (some e) (wQ te) := by
 intro pins s σ H Q I hw
 rw [evalPart_some]
 refine aw (h pins s σ H _ I hw) fun u s1 ⟨x, H1, I1, r1, q1⟩ => ?_
 obtain ⟨i, rfl, q⟩ := q1
 obtain ⟨t, rfl⟩ := r1
 exact ⟨some i, H1, I1, .int i t, q⟩
def nV (X : Cx) (r : V -> Option Int -> Option Int -> Hp -> VK -> Prop) : Prop :=
 ∀ (pins : List (Addr × Obj)) (s : Shared) (σ : St) (H : Hp) (x : V) (v vl vu : Value) (lo hi : Option Int) (sl : Addr) (Q : VK), Inv X pins σ H s -> RelV x v -> s.heap.IsSliceOf sl vl vu .none -> IsPart vl lo -> IsPart vu hi -> r x lo hi H Q ->
  ∃ T id, typeLookup (.type T) "__getitem__" = pure (some (.builtin id)) /\ s.TypeIs v T /\ wpAny (model X.prog X.w) X.A (getItem v (.ref sl)) (EP X pins σ Q) X.xe s
def wR (r : V -> Option Int -> Option Int -> Hp -> VK -> Prop) (te : TE) (tl th : TO) : TE := fun σ H Q => te σ H fun x H1 => tl σ H1 fun l H2 => th σ H2 fun u H3 => r x l u H3 Q
theorem qm {r : V -> Option Int -> Option Int -> Hp -> VK -> Prop} (hr : nV X r) (he : PE X e te) (hl : PO X lo tl) (hu : PO X hi th) : PE X (.Subscript e (.Slice lo hi none p2) pos) (wR r te tl th) := by
 intro pins s σ H Q I h
 refine Subscript_ (aw (he pins s σ H _ I h) fun v s1 ⟨x, H1, I1, r1, q1⟩ => ?_)
 refine wpAny_Slice (aw (hl pins s1 σ H1 _ I1 q1) fun vl s2 ⟨l, H2, I2, pl, q2⟩ => aw (hu pins s2 σ H2 _ I2 q2) fun vu s3 ⟨u, H3, I3, pu, q3⟩ => ?_)
 rw [evalPart_none]
 refine wpAny_pure ?_
 have I4 : Inv X pins σ H3 { s3 with heap := s3.heap.push { cls := .type "slice", data := .fields #[vl, vu, .none] } } := I3.kept (t' := s3.toks) fun b ob q => Heap.get?_push_of_some _ q
 obtain ⟨T, id, hT, ht, hg⟩ := hr pins { s3 with heap := s3.heap.push { cls := .type "slice", data := .fields #[vl, vu, .none] } } σ H3 x v vl vu l u s3.heap.objs.size Q I4 r1 (Heap.IsSliceOf.new ..) pl pu q3
 show wpAny (model X.prog X.w) X.A (subscriptTail e (.Slice lo hi none p2) v (.ref s3.heap.objs.size)) (EP X pins σ Q) X.xe { s3 with heap := s3.heap.push { cls := .type "slice", data := .fields #[vl, vu, .none] } }
 exact tail_any (ops := [.ref s3.heap.objs.size, v]) ht hT hg (by with_unfolding_all rfl)
noncomputable def eY (xs : List V) (lo hi : Option Int) : List V := (xs.drop (HT.aJ xs.length 0 lo)).take (HT.aJ xs.length xs.length hi - HT.aJ xs.length 0 lo)
theorem wU (xs : List V) (lo hi : Option Int) : (eY xs lo hi).length <= xs.length := by
 unfold eY
 rw [List.length_take, List.length_drop]
 omega
def Du (K : PySem.W.Frag) : V -> Option Int -> Option Int -> Hp -> VK -> Prop := fun x lo hi H Q => ∃ a xs, x = .ref a /\ aB K H a xs /\
 ¬ (HT.aJ xs.length 0 lo = 0 /\ HT.aJ xs.length xs.length hi = xs.length) /\ ∀ p, H p = none -> Q (.ref p) (upd H p (.tup (eY xs lo hi)))
theorem Dv : nV X (Du X.K) := by
 intro pins s σ H x v vl vu lo hi sl Q I rx hs pl pu h
 obtain ⟨a, xs, rfl, hx, hw, q⟩ := h
 cases rx
 obtain ⟨aj, r, ht, hz⟩ := I.tuple hx
 have hlen : aj.toArray.size = xs.length := by rw [List.size_toArray]; exact r.length.symm
 refine ⟨"tuple", _, PyProof.Rows.slot_tuple_getitem.lookup, ht.typeIs, ?_⟩
 refine HT.Dr ht hs pl pu (by rw [hlen]; exact hw) ?_ (by rw [hlen]; exact hz)
 rw [hlen]
 refine ⟨.ref s.heap.objs.size, _, I.laid (t' := s.toks) (o := .tup (eY xs lo hi)) (fun b ob q => Heap.get?_push_of_some _ q) (Nat.le_refl _) ?_, rfl, q _ (I.av.fresh (Nat.le_refl _))⟩
 exact ⟨Nat.le_trans (wU xs lo hi) hz, _, (r.drop (HT.aJ xs.length 0 lo)).take (HT.aJ xs.length xs.length hi - HT.aJ xs.length 0 lo), IsTup.new _ _⟩
end
end L2
namespace L2
open PySem PySem.Spec PyProof.Rows
noncomputable def eZ (n : Nat) (i : Int) : Option Nat := if 0 <= i then (if i < n then some i.toNat else none) else if -(n : Int) <= i then some (i + n).toNat else none
noncomputable def cK {α : Type} (xs : List α) (i : Int) : Option α := (eZ xs.length i).bind fun j => xs[j]?
theorem wV {n : Nat} {i : Int} {j : Nat} (h : eZ n i = some j) : seqIndex? i n = some j /\ j < n /\ -(n : Int) <= i /\ i < n := by
 unfold eZ at h
 by_cases h0 : 0 <= i
 ·rw [if_pos h0] at h
  by_cases h1 : i < n
  ·rw [if_pos h1] at h
   have e : i.toNat = j := Option.some.inj h
   exact ⟨by rw [seqIndex_of h0 h1, e], by omega, by omega, h1⟩
  ·rw [if_neg h1] at h; cases h
 ·rw [if_neg h0] at h
  by_cases h1 : -(n : Int) <= i
  ·rw [if_pos h1] at h
   have e : (i + n).toNat = j := Option.some.inj h
   exact ⟨by rw [seqIndex_neg (by omega) h1, e], by omega, h1, by omega⟩
  ·rw [if_neg h1] at h; cases h
theorem qo {α : Type} {xs : List α} {i : Int} {v : α} (h : cK xs i = some v) : ∃ j, seqIndex? i xs.length = some j /\ xs[j]? = some v /\ j < xs.length /\ -(xs.length : Int) <= i /\ i < xs.length := by
 unfold cK at h
 cases e : eZ xs.length i with
 | none => rw [e] at h; cases h
 | some j =>
  rw [e] at h
  obtain ⟨h1, h2, h3, h4⟩ := wV e
  exact ⟨j, h1, h, h2, h3, h4⟩
theorem iW {α : Type} {xs : List α} {j : Nat} {v : α} (h : xs[j]? = some v) : cK xs (j : Int) = some v := by
 have hj : j < xs.length := (List.getElem?_eq_some_iff.mp h).1
 have e : eZ xs.length (j : Int) = some j := by
  unfold eZ
  rw [if_pos (by omega), if_pos (by omega)]; simp
 unfold cK; rw [e]; exact h
def qp (b : Expr) : Prop := ∀ o i, subscripted b false o i = operate [o, i] (getItem o i)
def fE (X : Cx) (r : R2) : Prop :=
 ∀ (value slice : Expr) (pins : List (Addr × Obj)) (s : Shared) (σ : St) (H : Hp) (x y : V) (v u : Value) (Q : VK), Inv X pins σ H s -> RelV x v -> RelV y u -> r x y H Q ->
  subscripted slice false v u = operate [v, u] (getItem v u) -> wpAny (model X.prog X.w) X.A (subscriptTail value slice v u) (EP X pins σ Q) X.xe s
def nW (X : Cx) (id : String) (r : V -> List V -> Hp -> VK -> Prop) : Prop :=
 ∀ (pins : List (Addr × Obj)) (s : Shared) (σ : St) (H : Hp) (x : V) (xs : List V) (v : Value) (us : List Value) (Q : VK), Inv X pins σ H s -> RelV x v -> Vals xs us -> r x xs H Q ->
  wpAny (model X.prog X.w) X.A (call (.builtin id) (v :: us)) (EP X pins σ Q) X.xe s
section
variable {X : Cx} {a b : Expr} {ta tb : TE} {pos : Pos}
theorem fE.or {r r' : R2} (h : fE X r) (h' : fE X r') : fE X (fun x y H Q => r x y H Q ∨ r' x y H Q) := by
 intro value slice pins s σ H x y v u Q I rx ry q hs
 rcases q with q | q
 ·exact h value slice pins s σ H x y v u Q I rx ry q hs
 ·exact h' value slice pins s σ H x y v u Q I rx ry q hs
theorem wW {r : R2} (hr : fE X r) (ha : PE X a ta) (hb : PE X b tb) (hs : qp b) : PE X (.Subscript a b pos) (iQ r ta tb) := by
 intro pins s σ H Q I h
 exact Subscript_ (p8 ha hb I h fun v u s2 x y H2 I2 rx ry q => hr a b pins s2 σ H2 x y v u Q I2 rx ry q (hs _ _))
def wX (K : PySem.W.Frag) : R2 := fun x y H Q => ∃ p xs i v, x = .ref p /\ y = .int i /\ ar K H p xs /\ cK xs i = some v /\ Q v H
def wY (K : PySem.W.Frag) : R2 := fun x y H Q => ∃ p xs i v, x = .ref p /\ y = .int i /\ aB K H p xs /\ cK xs i = some v /\ Q v H
def wZ : R2 := fun x y H Q => ∃ z i c, x = .str z /\ y = .int i /\ z.length <= sizeLine /\ cK z.cps.toList i = some c /\ Q (.str ⟨#[c]⟩) H
theorem Dw : fE X (wX X.K) := by
 intro value slice pins s σ H x y v u Q I rx ry h hs
 obtain ⟨p, xs, i, z, rfl, rfl, hq, he, q⟩ := h
 cases rx
 obtain ⟨t, rfl⟩ := ry
 obtain ⟨aj, r, pl, hz⟩ := I.list hq
 obtain ⟨j, h1, h2, h3, h4, h5⟩ := qo he
 obtain ⟨w, ew, ly⟩ := r.get h2
 have hl := r.length
 have hn := lj
 have fin : EP X pins σ Q w s := ⟨z, H, I, ly, q⟩
 by_cases h0 : 0 <= i
 ·have hj : i.toNat = j := by
   rw [seqIndex_of h0 h5] at h1
   exact Option.some.inj h1
  exact item_listR pl.isList h0 (by omega) (by rw [hj]; simpa using ew) fin hs
 ·have hj : (i + (aj.toArray.size : Int)).toNat = j := by
   rw [seqIndex_neg (by omega) h4] at h1
   rw [List.size_toArray, <- hl]
   exact Option.some.inj h1
  exact subscriptTail_builtinR (x := w) pl.isList.typeIs slot_list_getitem.lookup
   (wpAny_getItem_list_neg (Q := fun r s' => r = w /\ EP X pins σ Q r s') pl.isList (by omega) (by rw [List.size_toArray] <;> omega) (by omega) (by rw [hj]; simpa using ew) ⟨rfl, fin⟩) hs
theorem Dx : fE X (wY X.K) := by
 intro value slice pins s σ H x y v u Q I rx ry h hs
 obtain ⟨p, xs, i, z, rfl, rfl, hq, he, q⟩ := h
 cases rx
 obtain ⟨t, rfl⟩ := ry
 obtain ⟨aj, r, pl, hz⟩ := I.tuple hq
 obtain ⟨j, h1, h2, h3, h4, h5⟩ := qo he
 obtain ⟨w, ew, ly⟩ := r.get h2
 have hl := r.length
 have hn := lj
 have fin : EP X pins σ Q w s := ⟨z, H, I, ly, q⟩
 exact subscriptTail_builtinR (x := w) pl.typeIs slot_tuple_getitem.lookup
  (getItem_tuple (j := j) (Q := fun r s' => r = w /\ EP X pins σ Q r s') pl (by omega) (by omega) (by rw [List.size_toArray, <- hl]; exact h1) (by simpa using ew) ⟨rfl, fin⟩) hs
theorem Dy : fE X wZ := by
 intro value slice pins s σ H x y v u Q I rx ry h hs
 obtain ⟨z, i, c, rfl, rfl, hz, he, q⟩ := h
 obtain ⟨t, rfl⟩ := rx
 obtain ⟨t', rfl⟩ := ry
 obtain ⟨j, h1, h2, h3, h4, h5⟩ := qo he
 have hl : z.cps.toList.length = z.length := by simp [Str.length]
 rw [hl] at h1 h4 h5
 have hn := lj
 exact tail_any (typeIs_str s z t) slot_str_getitem.lookup (getItem_str (c := c) (by
  have e1 : decide (i < -(2 ^ 63 : Int)) = false := decide_eq_false (by omega)
  have e2 : decide (i ≥ 2 ^ 63) = false := decide_eq_false (by omega)
  rw [e1, e2, Bool.or_false]) (by rw [h1]; simpa using h2) ⟨.str ⟨#[c]⟩, H, I.tok _, ⟨_, rfl⟩, q⟩) hs
def iX (K : PySem.W.Frag) : R2 := fun x y H Q => wX K x y H Q ∨ wY K x y H Q ∨ wZ x y H Q
theorem w4 : fE X (iX X.K) := Dw.or (Dx.or Dy)
theorem Dz (aj : List Value) (n j : Nat) (u : Value) : Obj.mapSeq (·.setIfInBounds j u) { cls := .type "list", data := .seq aj.toArray n } = { cls := .type "list", data := .seq (aj.set j u).toArray n } := by
 simp [Obj.mapSeq]
theorem Inv.lst {pins : List (Addr × Obj)} {σ : St} {H : Hp} {s : Shared} {p : Addr} {xs : List V} (I : Inv X pins σ H s) (h : H p = some (.lst xs)) :
 ∃ (aj : List Value) (n : Nat), Vals xs aj /\ s.heap.get? p = some { cls := .type "list", data := .seq aj.toArray n } /\ xs.length <= sizeLine := by
 obtain ⟨z, aj, n, r, e⟩ := I.av p _ h
 exact ⟨aj, n, r, e, z⟩
theorem Inv.DA {pins : List (Addr × Obj)} {σ : St} {H : Hp} {s : Shared} {p : Addr} {xs ys : List V} {aj its' : List Value} {n n' : Nat} {f : Obj -> Obj} (I : Inv X pins σ H s) (h : H p = some (.lst xs))
 (ho : s.heap.get? p = some { cls := .type "list", data := .seq aj.toArray n }) (hf : f { cls := .type "list", data := .seq aj.toArray n } = { cls := .type "list", data := .seq its'.toArray n' }) (r : Vals ys its') (hz : ys.length <= sizeLine) (t : Nat) :
 Inv X pins σ (upd H p (.lst ys)) { s with heap := s.heap.update p f, toks := t } := by
 have e : (s.heap.update p f).get? p = some { cls := .type "list", data := .seq its'.toArray n' } := by
  rw [Heap.get?_update_self f ho (by rw [hf] <;> rfl), hf]
 refine I.write (x := p) (e := p) (by rw [h]; trivial) (.inl rfl) (fun b u hb q => (Heap.get?_update_other _ _ (Ne.symm hb)).trans q) ⟨_, e⟩ ?_
 exact ⟨hz, its', n', r, e⟩
def w5 : V -> V -> V -> Hp -> (Hp -> Prop) -> Prop := fun o i v H Q => ∃ p xs k j, o = .ref p /\ i = .int k /\ H p = some (.lst xs) /\ eZ xs.length k = some j /\ Q (upd H p (.lst (xs.set j v)))
theorem set_list : vR X w5 := by
 intro pins s σ H o i v ov iv u Q I ro ri rv h
 obtain ⟨p, xs, k, j, rfl, rfl, hp, hj, q⟩ := h
 cases ro
 obtain ⟨t, rfl⟩ := ri
 obtain ⟨aj, n, r, ho, hz⟩ := I.lst hp
 obtain ⟨h1, h2, h3, h4⟩ := wV hj
 have hl := r.length
 have hn := lj
 have I' : Inv X pins σ (upd H p (.lst (xs.set j v))) { s with heap := s.heap.update p (Obj.mapSeq (·.setIfInBounds j u)) } :=
  I.DA hp ho (Dz aj n j u) (r.set rv j) (by rw [List.length_set]; exact hz) s.toks
 by_cases h0 : 0 <= k
 ·have hk : k.toNat = j := by
   rw [seqIndex_of h0 h4] at h1
   exact Option.some.inj h1
  exact PySem.W.ki_setAt ho h0 (by omega) (by rw [List.size_toArray, <- hl]; exact h4) (by rw [hk]; exact ⟨_, I', q⟩)
 ·have hk : (k + (aj.toArray.size : Int)).toNat = j := by
   rw [seqIndex_neg (by omega) h3] at h1
   rw [List.size_toArray, <- hl]
   exact Option.some.inj h1
  exact PySem.W.ki_setBack ho (by omega) (by rw [List.size_toArray, <- hl]; exact h3) (by omega) (by rw [hk]; exact ⟨_, I', q⟩)
theorem DB (lo hi : Option Int) (n : Nat) : (sliceBounds lo hi none n).1 = ((HT.aJ n 0 lo : Nat) : Int) /\ (sliceBounds lo hi none n).2.1 = ((HT.aJ n n hi : Nat) : Int) /\ (sliceBounds lo hi none n).2.2 = 1 := by
 refine ⟨?_, ?_, rfl⟩
 ·cases lo with
  | none => simp [sliceBounds, HT.aJ]
  | some i =>
   simp only [sliceBounds, HT.aJ, Option.getD_none, show (1 : Int) > 0 by decide, if_true]
   by_cases h : i < 0
   ·simp only [h, if_true] <;> omega
   ·simp only [h, if_false] <;> omega
 ·cases hi with
  | none => simp [sliceBounds, HT.aJ]
  | some i =>
   simp only [sliceBounds, HT.aJ, Option.getD_none, show (1 : Int) > 0 by decide, if_true]
   by_cases h : i < 0
   ·simp only [h, if_true] <;> omega
   ·simp only [h, if_false] <;> omega
theorem DC (aj : List Value) (lo hi : Option Int) : slicePick aj.toArray lo hi none = ((aj.drop (HT.aJ aj.length 0 lo)).take (HT.aJ aj.length aj.length hi - HT.aJ aj.length 0 lo)).toArray := by
 obtain ⟨h1, h2, h3⟩ := DB lo hi aj.toArray.size
 unfold slicePick
 rw [h1, h2, h3]
 simp only [sliceRange_one, pick_run, List.size_toArray] <;> rfl
def w6 (K : PySem.W.Frag) : V -> Option Int -> Option Int -> Hp -> VK -> Prop := fun x lo hi H Q => ∃ a xs, x = .ref a /\ ar K H a xs /\ ∀ p, H p = none -> Q (.ref p) (upd H p (.lst (eY xs lo hi)))
theorem DD : nV X (w6 X.K) := by
 intro pins s σ H x v vl vu lo hi sl Q I rx hs pl pu h
 obtain ⟨a, xs, rfl, hx, q⟩ := h
 cases rx
 obtain ⟨aj, r, ht, hz⟩ := I.list hx
 have hlen := r.length
 refine ⟨"list", _, slot_list_getitem.lookup, ht.isList.typeIs, ?_⟩
 refine wpAny_getItem_list_slice ht.isList hs pl pu .none (by simp) ?_ (by rw [List.size_toArray] <;> omega)
 rw [DC, <- hlen]
 refine ⟨.ref s.heap.objs.size, _, I.laid (t' := s.toks) (o := .lst (eY xs lo hi)) (fun b ob q => Heap.get?_push_of_some _ q) (Nat.le_refl _) ?_, rfl, q _ (I.av.fresh (Nat.le_refl _))⟩
 exact ⟨Nat.le_trans (wU xs lo hi) hz, _, 0, (r.drop (HT.aJ xs.length 0 lo)).take (HT.aJ xs.length xs.length hi - HT.aJ xs.length 0 lo), Heap.get?_push_size _ rfl⟩
def nX (K : PySem.W.Frag) (T : String) (x : V) (H : Hp) : Prop := match x with
 | .str _ => T = "str"
 | .int _ => T = "int"
 | .ref p => (T = "list" /\ ∃ xs, ar K H p xs) ∨ (T = "tuple" /\ ∃ o, K.lookup p = some o /\ o.cls = .type "tuple" /\ o.dict = none) ∨
  (T = "dict" /\ ((∃ kvs, H p = some (.dK kvs)) ∨ ∃ kvs, H p = some (.dT kvs))) ∨ (T = "set" /\ ∃ S n, H p = some (.set S n))
 | _ => False
theorem DE {pins : List (Addr × Obj)} {σ : St} {H : Hp} {s : Shared} {T : String} {x : V} {v : Value} (I : Inv X pins σ H s) (r : RelV x v) (ty : nX X.K T x H) :
 s.TypeIs v T /\ ∀ a, v = .ref a -> ∃ ob, s.heap.get? a = some ob /\ ob.dict = none := by
 cases x with
 | str z =>
  obtain ⟨t, rfl⟩ := r
  cases (show T = "str" from ty)
  exact ⟨typeIs_str s z t, fun _ e => nomatch e⟩
 | int i =>
  obtain ⟨t, rfl⟩ := r
  cases (show T = "int" from ty)
  exact ⟨typeIs_int s i t, fun _ e => nomatch e⟩
 | ref p =>
  cases r
  rcases ty with ⟨rfl, xs, hq⟩ | ⟨rfl, o, hk, hc, hd⟩ | ⟨rfl, hk⟩ | ⟨rfl, S, n, hk⟩
  ·obtain ⟨aj, _, pl, _⟩ := I.list hq
   refine ⟨pl.isList.typeIs, fun a e => ?_⟩
   cases e
   obtain ⟨o, n, e, c, hd, _⟩ := pl
   exact ⟨o, e, hd⟩
  ·refine ⟨⟨o, I.bG p o hk, hc⟩, fun a e => ?_⟩
   cases e
   exact ⟨o, I.bG _ o hk, hd⟩
  ·have z : ∃ o, s.heap.get? p = some o /\ o.ExactDict := by
    rcases hk with ⟨kvs, hk⟩ | ⟨kvs, hk⟩
    ·obtain ⟨_, _, _, _, o, _, _, e, ex, _⟩ := I.av p _ hk
     exact ⟨o, e, ex⟩
    ·obtain ⟨_, _, _, _, o, _, _, e, ex, _⟩ := I.av p _ hk
     exact ⟨o, e, ex⟩
   obtain ⟨o, e, ex⟩ := z
   refine ⟨⟨o, e, ex.1⟩, fun a e2 => ?_⟩
   cases e2
   exact ⟨o, e, ex.2.1⟩
  ·obtain ⟨o, _, _, _, e, ex, _⟩ := I.av p _ hk
   refine ⟨⟨o, e, ex.1⟩, fun a e2 => ?_⟩
   cases e2
   exact ⟨o, e, ex.2.1⟩
 | _ => exact False.elim ty
def DF (K : PySem.W.Frag) (T : String) (r : V -> List V -> Hp -> VK -> Prop) (to : TE) : TE := fun σ H Q => to σ H fun x H1 => nX K T x H1 /\ r x [] H1 Q
def w9 (K : PySem.W.Frag) (T : String) (r : V -> List V -> Hp -> VK -> Prop) (to : TE) (t : TA) : TE := fun σ H Q => to σ H fun x H1 => nX K T x H1 /\ t σ H1 fun xs H2 => r x xs H2 Q
variable {o e : Expr} {es : List Expr} {to : TE} {t : TA} {name : Str} {apos dQ : Pos} {T id : String} {r : V -> List V -> Hp -> VK -> Prop}
theorem dG (pa : PlainAttrs T) (slot : Slot T name id) (DG : typeOf (.builtin id) = pure (.type "method_descriptor")) (hm : nW X id r) (ho : PE X o to) (ha : PA X (e :: es) t)
 (DH : attributeBase o name X.env (eval o X.env) = eval o X.env := by rfl)
 (DI : ((backTo dQ (starEach (e :: es) X.env)).all (fun x => !x.1) && (backToKw dQ (keywordEach [] X.env)).all (fun x => x.1.isSome)
   && decide ((e :: es).length + ([] : List Keyword).length + (if ([] : List Keyword).isEmpty then 0 else 1) < 30)) = true := by rfl)
 (DJ : (apos.endLine == dQ.line) = true := by rfl) (hs : starEach (e :: es) X.env = (false, eval e X.env) :: starEach es X.env := by rfl) (DK : (backTo dQ (starEach es X.env)).any (·.1) = false := by rfl) :
 PE X (.Call (.Attribute o name apos) (e :: es) [] dQ) (w9 X.K T r to t) := by
 intro pins s σ H Q I h
 refine wpAny_Call_method_late DH DI DJ rfl (aw (ho pins s σ H _ I h) fun v s1 ⟨x, H1, I1, r1, ty, q1⟩ => ?_)
 obtain ⟨h1, h2⟩ := DE I1 r1 ty
 refine ⟨T, id, pa, slot, DG, h1, h2, ?_⟩
 have hA := ha dQ pins s1 σ H1 _ I1 q1
 rw [hs] at hA ⊢
 refine Calls.callWith_builtin (by show (false || (backTo dQ (starEach es X.env)).any (·.1)) = false; rw [DK] <;> rfl) (Calls.evalArgs_plain ?_)
 exact aw hA fun us s2 ⟨vs, H2, I2, r2, q2⟩ => hm pins s2 σ H2 x vs v us Q I2 r1 r2 q2
end
end L2
namespace L2
open PySem PySem.Spec PyProof.Rows
def xb (X : Cx) (id : String) (r : V -> List V -> Hp -> VK -> Prop) : Prop :=
 ∀ (pins : List (Addr × Obj)) (s : Shared) (σ : St) (H : Hp) (x : V) (xs : List V) (v : Value) (us : List Value) (Q : VK), Inv X pins σ H s -> RelV x v -> Vals xs us -> r x xs H Q ->
  wpAny (model X.prog X.w) X.A (call (.builtin id) (v :: us)) (EP X pins σ Q) X.xe s
theorem Vals.one : ∀ {x : V} {us : List Value}, Vals [x] us -> ∃ u, us = [u] /\ RelV x u
 | _, _, .cons r .nil => ⟨_, rfl, r⟩
theorem Vals.zero : ∀ {us : List Value}, Vals [] us -> us = []
 | _, .nil => rfl
theorem Vals.reverse {xs : List V} {us : List Value} (h : Vals xs us) : Vals xs.reverse us.reverse := by
 induction h with
 | nil => exact .nil
 | cons r t ih => rw [List.reverse_cons, List.reverse_cons]; exact Vals.append ih (.cons r .nil)
section
variable {X : Cx} {pins : List (Addr × Obj)} {σ : St} {H : Hp} {s : Shared} {l b : Addr} {xs ys zs : List V}
theorem Inv.xf {aj its' : List Value} {n : Nat} {f : Array Value -> Array Value} {t' : Nat} (I : Inv X pins σ H s) (hH : H l = some (.lst xs))
 (e : s.heap.get? l = some { cls := .type "list", data := .seq aj.toArray n }) (hf : f aj.toArray = its'.toArray) (hv : Vals ys its') (hz : ys.length <= sizeLine) :
 Inv X pins σ (upd H l (.lst ys)) { s with heap := s.heap.update l (Obj.mapSeq f), toks := t' } := by
 have q := PySem.IsL.update e f
 rw [hf] at q
 refine I.write (x := l) (e := l) (by rw [hH]; exact trivial) (.inl rfl) (fun b' u hb hu => (Heap.get?_update_other s.heap (Obj.mapSeq f) (Ne.symm hb)).trans hu) ⟨_, q⟩ ?_
 exact ⟨hz, its', _, hv, q⟩
theorem Inv.xg {aj : List Value} {t' : Nat} (I : Inv X pins σ H s) (hv : Vals ys aj) (hz : ys.length <= sizeLine) :
 Inv X pins σ (upd H s.heap.objs.size (.lst ys)) { s with heap := s.heap.push { cls := .type "list", data := .seq aj.toArray }, toks := t' } :=
 I.laid (fun _ _ q => Heap.get?_push_of_some _ q) (Nat.le_refl _) ⟨hz, aj, 0, hv, Heap.get?_push_size _ rfl⟩
theorem Inv.fresh (I : Inv X pins σ H s) : H s.heap.objs.size = none := I.av.fresh (Nat.le_refl _)
theorem Inv.lz (I : Inv X pins σ H s) (hH : H l = some (.lst xs)) : xs.length <= sizeLine /\ ∃ (aj : List Value) (n : Nat), Vals xs aj /\ xs.length = aj.length /\ s.heap.get? l = some { cls := .type "list", data := .seq aj.toArray n } := by
 obtain ⟨z, aj, n, r, e⟩ := I.av l _ hH
 exact ⟨z, aj, n, r, r.length, e⟩
theorem DL {n : Nat} (h : n <= sizeLine) : Builtin.List.listTooLong n = false := by
 unfold Builtin.List.listTooLong
 exact decide_eq_false (by omega)
end
section
variable {X : Cx}
def xi : V -> List V -> Hp -> VK -> Prop := fun x vs H Q => ∃ l xs y, x = .ref l /\ vs = [y] /\ H l = some (.lst xs) /\ xs.length < sizeLine /\ Q .non (upd H l (.lst (xs ++ [y])))
theorem lA : xb X "list.append" xi := by
 intro pins s σ H x vs v us Q I rx rv h
 obtain ⟨l, xs, y, rfl, rfl, hH, hz, q⟩ := h
 cases rx
 obtain ⟨u, rfl, ru⟩ := rv.one
 obtain ⟨z, aj, n, r, hl, e⟩ := I.lz hH
 refine call_meets F.slot_list_append ⟨_, e, rfl⟩ F.entry_list_append (F.args_list_append_2 _ _) (PySem.list_append l aj.toArray n u (by rw [List.size_toArray]; omega)) ⟨e, ?_⟩
 refine ⟨.non, _, I.xf (its' := aj ++ [u]) hH e (by simp) (r.append (.cons ru .nil)) ?_, rfl, q⟩
 rw [List.length_append, List.length_singleton]
 omega
def DM : V -> List V -> Hp -> VK -> Prop := fun x vs H Q => ∃ l b xs zs, x = .ref l /\ vs = [.ref b] /\ H l = some (.lst xs) /\ H b = some (.lst zs) /\ xs.length + zs.length <= sizeLine /\ Q .non (upd H l (.lst (xs ++ zs)))
theorem xj : xb X "list.extend" DM := by
 intro pins s σ H x vs v us Q I rx rv h
 obtain ⟨l, b, xs, zs, rfl, rfl, hH, hB, hz, q⟩ := h
 cases rx
 obtain ⟨u, rfl, ru⟩ := rv.one
 cases ru
 obtain ⟨z, aj, n, r, hl, e⟩ := I.lz hH
 obtain ⟨z2, iY, n2, r2, bD, e2⟩ := I.lz hB
 have iT : aj.toArray.size + iY.toArray.size <= sizeLine := by rw [List.size_toArray, List.size_toArray]; omega
 have DN : ¬ (!aj.toArray.isEmpty && Builtin.List.listTooLong (aj.toArray.size + iY.toArray.size)) = true := by
  rw [DL iT, Bool.and_false]
  exact Bool.false_ne_true
 refine call_meets F.slot_list_extend ⟨_, e, rfl⟩ F.entry_list_extend (F.args_list_extend_2 _ _)
  (AutoSeq1.list_extend_list_list_0 l aj.toArray n b iY.toArray n2 DN (by rw [List.size_toArray]; omega) (by omega)) ⟨e, e2, ?_⟩
 refine ⟨.non, _, I.xf (its' := aj ++ iY) hH e (by simp) (r.append r2) ?_, rfl, q⟩
 rw [List.length_append]
 omega
def xk : R2 := fun x y H Q => ∃ l b xs zs, x = .ref l /\ y = .ref b /\ H l = some (.lst xs) /\ H b = some (.lst zs) /\ xs.length + zs.length <= sizeLine /\ ∀ p, H p = none -> Q (.ref p) (upd H p (.lst (xs ++ zs)))
theorem gE : aT X (binaryOp .Add) xk := by
 intro pins s σ H x y v u Q I rx ry h
 obtain ⟨l, b, xs, zs, rfl, rfl, hH, hB, hz, q⟩ := h
 cases rx
 cases ry
 obtain ⟨z, aj, n, r, hl, e⟩ := I.lz hH
 obtain ⟨z2, iY, n2, r2, bD, e2⟩ := I.lz hB
 refine PySem.P.add_list e e2 ?_ (by rw [List.size_toArray, List.size_toArray]; omega)
 have ea : aj.toArray ++ iY.toArray = (aj ++ iY).toArray := by simp
 rw [ea]
 exact ⟨.ref _, _, I.xg (t' := s.toks) (r.append r2) (by rw [List.length_append]; omega), rfl, q _ I.fresh⟩
end
section
variable {prog : Program} {w : World} {A : Around} {E : Value -> Shared -> Prop} {s : Shared}
set_option maxRecDepth 100000 in
end
section
variable {X : Cx}
end
end L2
namespace qq
open PySem PySem.W PySem.Calls PyProof.Rows
theorem DO {P : Params} {h : Heap} : ∀ (ns : List Int) (vs : List Value), WellAll P h vs (ns.map WData.int) -> IntsAre vs ns := by
 intro ns
 induction ns with
 | nil =>
  intro vs w
  rw [List.map_nil] at w
  cases w
  exact .nil
 | cons n ns ih =>
  intro vs w
  rw [List.map_cons] at w
  cases w with
  | cons a b =>
   cases a
   exact .cons _ _ (ih _ b)
theorem DP {l : OpenLaw} {n : Nat} (hn : l.most = some n) {P : Params} {h : Heap} {args : List WData} {vals : List Value}
 (xm : l.row.toRowW.claim.pre args = true) (DQ : WellAll P h vals args) :
 ∃ a vs ns, vals = [Value.ref a] /\ args = [WData.list (ns.map WData.int)] /\ h.get? a = some { cls := .type "list", data := .seq vs.toArray } /\ IntsAre vs ns /\ ns.length <= n := by
 have DR : WShape.hasAll [] args [.list .int] = true := (pre_splitW xm).1
 have hc : l.pre.holds [] { args := args } = true := (pre_splitW xm).2
 obtain ⟨d, r, rfl, h1, h2⟩ := hasAllW_cons DR
 obtain rfl := hasAllW_nil h2
 obtain ⟨xs, rfl, h3⟩ := hasW_list h1
 obtain ⟨ns, rfl⟩ := items_int h3
 have hlen : ns.length <= n := by
  unfold OpenLaw.pre at hc
  have h4 : (WTm.not (.lt (.lit (.int (n : Int))) (.len (.arg 0)))).holds [] { args := [.list (ns.map .int)] } = true := by
   have h4 := (holds_andW hc).1
   rw [hn] at h4
   exact h4
  have h5 := condW_of h4 (w_not (w_lt w_lit (w_len_list (w_arg rfl))))
  rw [List.length_map] at h5
  refine Nat.le_of_not_lt fun q => ?_
  have q' : (n : Int) < ((ns.length : Nat) : Int) := by omega
  first
   | (rw [decide_eq_true q'] at h5; exact absurd h5 (by decide))
   | (simp at h5; omega)
 cases DQ with
 | cons w1 w2 =>
  cases w2
  cases w1 with
  | list ho hall => exact ⟨_, _, ns, rfl, rfl, ho, DO ns _ hall, hlen⟩
theorem DS (l : OpenLaw) (args : List WData) : l.row.toRowW.claim.post args (.bool true) args = true :=
 postW_of (r := l.row.toRowW) (X := (true == true))
  (show WShape.has [] (.bool true) .bool = true by first | rfl | decide | simp [WShape.has, WShape.arms, WShape.armsAll])
  (show (WTm.eq .res (.lit (.bool true))).value [] { args := args, res := some (.bool true), after := args } = some (.bool (true == true)) from w_eq_bool (w_res rfl) w_lit) rfl
section
variable {prog : Program} {w : World} {A : Around} {E : Value -> Shared -> Prop} {s : Shared} {K : Frag}
end
end qq
namespace L2
open PySem PySem.Spec PyProof.Rows
theorem qr : ∀ {vs : List Value} {ns : List Int}, IntsAre vs ns -> Vals (ns.map V.int) vs
 | _, _, .nil => .nil
 | _, _, .cons n t h => .cons ⟨t, rfl⟩ (qr h)
def xn (H : Hp) : Prop := ∀ b, H b = none ∨ ∃ o xs, H b = some (.cP o (.lst xs))
theorem DT {P : Program} {w : World} {K : PySem.W.Frag} {mg mb : Str -> Option Value} {CX : cJ} {k : Nat} {fa a : Addr} {fd : FuncData} {x : Str} {sp : Sp} {s₁ : Shared} {vs : List Value} {ns : List Int}
 (KX : K.In s₁.heap) (iZ : s₁.heap.Ns mainGlobals mg) (hb : s₁.heap.Ns builtinsNs mb) (DU : ∀ x : Str, x ≠ "__name__" -> mb x = bootBuiltins x) (DV : s₁.heap.NoLimit) (hg : s₁.gens = #[])
 (ha : s₁.heap.get? a = some { cls := .type "list", data := .seq vs.toArray }) (hi : IntsAre vs ns) (hl : ns.length <= sizeLine) (hr : aS k callerA)
 (F : ∀ base : Heap, K.In base -> base.Ns mainGlobals mg -> cq P w K mg base CX k fa fd [x] sp) (DW : ∀ (s : Shared) (u : Value), BindsTo s fd ⟨[u], []⟩ [(x, u)])
 (fD : ∀ H : Hp, xn H -> ar K H a (ns.map V.int) -> sp [.ref a] H (fun v _ => v = .bl true) fun _ _ _ => False)
 (DX : ∀ H e s', CX [] H s₁ (fun _ _ _ => False) e s' -> False) :
 codeAny (model P w) callerA (.call (.ref fa) ⟨[.ref a], []⟩) (fun r s' => r = .ok (.ret (.bool true)) /\ OldK s₁.heap s'.heap /\ s'.os = s₁.os /\ AllBare s'.gens) s₁ := by
 have rv := qr hi
 have DY := hi.length
 have core : ∀ H : Hp, xn H -> ar K H a (ns.map V.int) -> b9 P w H s₁.heap -> (∀ b, H b ≠ none -> b = a) -> (H a ≠ none -> K.lookup a = none) ->
  codeAny (model P w) callerA (.call (.ref fa) ⟨[.ref a], []⟩) (fun r s' => r = .ok (.ret (.bool true)) /\ OldK s₁.heap s'.heap /\ s'.os = s₁.os /\ AllBare s'.gens) s₁ := by
  intro H hO hS av hA hK
  have xp : ∀ {b : Addr} {o : Obj}, s₁.heap.get? b = some o -> H b = none -> (fV s₁.heap H).get? b = some o := fun e n => Ca e n
  have iV : ∀ {b : Addr} {o : Obj} {es : Array DictEntry} {ep : Nat}, s₁.heap.get? b = some o -> o.data = .dict es ep -> H b = none := fun {b o es ep} e d => by
   cases q : H b with
   | none => rfl
   | some u =>
    have e' : b = a := hA b (by rw [q]; simp)
    subst e'
    rw [ha] at e; cases e
    have d' : Data.seq vs.toArray _ = Data.dict es ep := d
    cases d'
  have nY : ∀ {b : Addr} {m : Str -> Option Value}, s₁.heap.Ns b m -> (fV s₁.heap H).Ns b m := fun {b m} ⟨o, es, ep, e, d, r⟩ => ⟨o, es, ep, xp e (iV e d), d, r⟩
  have xq : K.In (fV s₁.heap H) := fun b o e => xp (KX b o e) (by
   cases q : H b with
   | none => rfl
   | some u =>
    have e' : b = a := hA b (by rw [q]; simp)
    subst e'
    rw [hK (by rw [q]; simp)] at e; cases e)
  have hM : Mod K mg (fV s₁.heap H) := ⟨xq, nY iZ, ⟨mb, nY hb, DU⟩, let ⟨mc, h1, h2⟩ := DV; ⟨mc, nY h1, h2⟩⟩
  have e0 : iU P w K mg (fV s₁.heap H) callerA [] s₁ H := ⟨rfl, hM, fun b o e => Cb e, Nat.le_of_eq (B9 _ _), trivial, fun b hb => absurd (show b ∈ ([] : List Addr) from hb) (by simp), av, .of_eq hg⟩
  refine codeAny_mono ((F _ xq (nY iZ)).run callerA [] s₁ H ⟨[.ref a], []⟩ [.ref a] [.ref a] _ _ hr e0 (DW s₁ (.ref a)) (.cons rfl .nil) (fD H hO hS)) fun r s' h => ?_
  cases r with
  | error e => exact (DX H e s' h).elim
  | ok fl =>
   cases fl with
   | next => exact False.elim h
   | brk => exact False.elim h
   | cont => exact False.elim h
   | ret u =>
    obtain ⟨v, H', os, bare, un, DZ, r', q⟩ := h
    have q' : v = .bl true := q
    subst q'
    obtain rfl : u = Value.bool true := r'
    refine ⟨rfl, OldK.of_keep fun b o e => ?_, os, bare⟩
    cases q : H b with
    | none => exact un.keep b o e q (by intro z; exact absurd (show b ∈ ([] : List Addr) from z) (by simp)) (by simp)
    | some u =>
     rcases hO b with z | ⟨ob, xs, z⟩
     ·rw [q] at z; cases z
     ·have z2 := un.di b ob _ z
      obtain ⟨e1, _⟩ := av b _ z
      obtain ⟨e2, _⟩ := DZ b _ z2
      rw [e] at e1; cases e1
      exact e2
 cases hk : K.lookup a with
 | some o =>
  have e := KX a o hk
  rw [ha] at e
  cases e
  refine core (fun _ => none) (fun _ => .inl rfl) (.inr ⟨_, vs.toArray, _, hk, rfl, rfl, rfl, by rw [List.size_toArray, DY]; exact hl, by simpa using rv⟩) (fun b u z => by have z' : (none : Option HO) = some u := z; cases z') (fun b z => absurd rfl z) fun z => absurd rfl z
 | none =>
  refine core (fun b => if b = a then some (.cP { cls := .type "list", data := .seq vs.toArray } (.lst (ns.map V.int))) else none) (fun b => ?_) (.inl (.inr ⟨{ cls := .type "list", data := .seq vs.toArray }, if_pos rfl⟩)) (fun b u z => ?_) (fun b z => ?_) fun _ => hk
  ·by_cases hb : b = a
   ·exact .inr ⟨_, _, if_pos hb⟩
   ·exact .inl (if_neg hb)
  ·by_cases hb : b = a
   ·have z' := (if_pos hb).symm.trans z
    cases z'
    subst hb
    exact ⟨ha, by rw [List.length_map]; exact hl, vs, _, rv, ha⟩
   ·have z' := (if_neg hb).symm.trans z
    cases z'
  ·by_cases hb : b = a
   ·exact hb
   ·exact absurd (if_neg hb) z
end L2
namespace L2
open PySem PySem.Spec PyProof.Rows
end L2
namespace L2
open PySem PySem.Spec PyProof.Rows
def inClass (s : Stmt) (j : Nat) : Stmt := match s with
 | .ClassDef _ _ _ body _ _ _ _ _ _ _ => body.getD j (.Pass ⟨0, 0, 0, 0⟩)
 | _ => .Pass ⟨0, 0, 0, 0⟩
noncomputable def i0 (s : Stmt) : Arguments := match s with
 | .FunctionDef _ a _ _ _ _ _ _ _ _ => a
 | _ => { posonlyargs := [], args := [], vararg := none, kwonlyargs := [], kw_defaults := [], kwarg := none, defaults := [] }
noncomputable def dR (s : Stmt) : List Stmt := match s with
 | .FunctionDef _ _ b _ _ _ _ _ _ _ => b
 | _ => []
noncomputable def cb (s : Stmt) : Scope := match s with
 | .FunctionDef _ _ _ _ _ _ sc _ _ _ => sc
 | _ => { kind := .function, names := [], isGenerator := false, isCoroutine := false }
abbrev xr : cJ := fun _ _ _ _ _ _ => False
abbrev E0 : XK := fun _ _ _ => False
structure fF (K : PySem.W.Frag) (x qual : Str) (st : Stmt) (f : Addr) (fd : FuncData) : Prop where
 ex : ∃ (oc : Value) (od : Option Addr) (kV doc pm : Value) (an : Option Addr) (aP ct : Value) (eX : Array (Option Value)),
  fd = PySem.W.fnOf x qual (i0 st) (dR st) (cb st) .none kV doc pm an aP ct /\ K.lookup f = some ⟨oc, od, .func fd, eX⟩ /\ PySem.W.codeIn K aP qual = true
 kp : PySem.W.keepIn K (.ref f) = true
section
variable {P : Program} {w : World} {K : PySem.W.Frag} {mg : Str -> Option Value} {base : Heap}
theorem fF.ok {x qual : Str} {st : Stmt} {f : Addr} {fd : FuncData} {N ps : List Str} {k : Nat} {sp : Sp} (F : fF K x qual st f fd) (S : jT N ps (cb st)) (len : ∀ vs H Q E, sp vs H Q E -> vs.length = ps.length)
 (dF : ∀ (aP : Value) (A : Around) (outer : List Env) (s : Shared) (H : Hp) (vs : List V) (Q : VK) (E : XK), aS k (A.deeper (envOfC qual (cb st) s.heap.objs.size f aP)) -> sp vs H Q E ->
   ∃ t, aR (cX xr P w K mg base N qual (cb st) f aP A outer s H E).ez (dR st) t /\ t { nx := fun _ H' => Q .non H', rt := Q } (start N vs) H) : cq P w K mg base xr (k + 1) f fd ps sp := by
 obtain ⟨oc, od, kV, doc, pm, an, aP, ct, eX, rfl, lk, dC⟩ := F.ex
 refine qi lk dC S len fun A outer s H vs Q E hr fD => ?_
 obtain ⟨t, h, q⟩ := dF aP A outer s H vs Q E hr fD
 exact ⟨t, h.ez, q⟩
theorem fF.binds {x qual : Str} {st : Stmt} {f : Addr} {fd : FuncData} {ps : List Str} (F : fF K x qual st f fd)
 (h : ∀ (kV doc pm : Value) (an : Option Addr) (aP ct : Value) (us : List Value), us.length = ps.length -> bindArgs (PySem.W.fnOf x qual (i0 st) (dR st) (cb st) .none kV doc pm an aP ct) ⟨us, []⟩ = pure (ps.zip us)) : Binds K fd ps [] := by
 obtain ⟨oc, od, kV, doc, pm, an, aP, ct, eX, rfl, lk, dC⟩ := F.ex
 exact .all (h kV doc pm an aP ct)
theorem f9 {x qual : Str} {st : Stmt} {f : Addr} {oc : Value} {od an : Option Addr} {eX : Array (Option Value)} {kV doc pm aP ct : Value} (l : K.lookup f = some ⟨oc, od, .func (PySem.W.fnOf x qual (i0 st) (dR st) (cb st) .none kV doc pm an aP ct), eX⟩)
 (c : PySem.W.codeIn K aP qual = true) (k : PySem.W.keepIn K (.ref f) = true) : fF K x qual st f (PySem.W.fnOf x qual (i0 st) (dR st) (cb st) .none kV doc pm an aP ct) := ⟨⟨oc, od, kV, doc, pm, an, aP, ct, eX, rfl, l, c⟩, k⟩
end
section
variable {X : Cx}
theorem pv (i : Nat) {x : Str} {pos : Pos} (hN : X.N[i]? = some x := by rfl) (hv : nk X.env.scope x := by first | exact Or.inl rfl | exact Or.inr (Or.inl rfl) | exact Or.inr (Or.inr rfl)) (hd : (x == ("__debug__" : Str)) = false := by decide)
 (dC : (x == ("__classdict__" : Str)) = false := by decide) : PE X (.Name x pos) (pM i) := Cj hN hv hd dC
end
def ai (H H' : Hp) : Prop := ∀ b o, H b = some o -> H' b = some o
theorem ai.refl (H : Hp) : ai H H := fun _ _ h => h
theorem ai.trans {H H1 H2 : Hp} (a : ai H H1) (b : ai H1 H2) : ai H H2 := fun c o h => b c o (a c o h)
theorem ai.free {H H' : Hp} (e : ai H H') {l : Addr} (h : H' l = Option.none) : H l = Option.none := by
 cases q : H l with
 | none => rfl
 | some o =>
  rw [e l o q] at h
  cases h
theorem ai.seq {K : PySem.W.Frag} {H H' : Hp} {a : Addr} {xs : List V} (e : ai H H') (h : ar K H a xs) : ar K H' a xs := by
 rcases h with (h | ⟨o, h⟩) | h
 ·exact .inl (.inl (e _ _ h))
 ·exact .inl (.inr ⟨o, e _ _ h⟩)
 ·exact .inr h
end L2
namespace Gz
open PySem PySem.Spec PyProof.Rows L2
def Bd (n : Nat) (x : Int) : Prop := x.natAbs < 2 ^ n
theorem Bd.of {n : Nat} {x : Int} (h1 : -((2 ^ n : Nat) : Int) < x) (h2 : x < ((2 ^ n : Nat) : Int)) : Bd n x := by
 unfold Bd; lia
theorem Bd.up {n m : Nat} {x : Int} (h : Bd n x) (hm : n <= m) : Bd m x := Nat.lt_of_lt_of_le h (Nat.pow_le_pow_right (by decide) hm)
theorem Bd.bits {n : Nat} {x : Int} (h : Bd n x) : Builtin.Int.intBits x <= n := by
 unfold Builtin.Int.intBits
 by_cases e : x = 0
 ·subst e; simp
 ·have e0 : ¬ ((x == 0) = true) := by simpa using e
  rw [if_neg e0]
  have hn : x.natAbs ≠ 0 := by lia
  have := (Nat.log2_lt hn).mpr h
  lia
theorem Bd.log {n : Nat} {x : Int} (h : Bd n x) (hn : n <= 9000) (h0 : 0 < n) : x.natAbs.log2 < 9000 := by
 by_cases e : x.natAbs = 0
 ·rw [e]; decide
 ·have := (Nat.log2_lt e).mpr h
  lia
def lB (i j : Int) : Prop := Bd 4000 i /\ Bd 4000 j
theorem lB.ok {i j : Int} (h : lB i j) : IntMulOk i j :=
 IntMulOk.of_bits (Nat.le_trans h.1.bits (by decide)) (Nat.le_trans h.2.bits (by decide))
section
variable {X : Cx}
theorem D0 : aT X (binaryOp .Mult) (rI lB fun i j => .int (i * j)) := lh fun _ _ _ _ _ _ _ hc q => mul_int q hc.ok
theorem xt : aT X (binaryOp .FloorDiv) (rI (fun _ j => 0 < j /\ Bd 4000 j) fun i j => .int (i / j)) := lh fun i j _ _ _ _ _ hc q => by
 have h1 : (0 : Int) < j := hc.1
 exact floordiv_int (by lia) (by rw [Int.fdiv_eq_ediv_of_nonneg i (by lia)]; exact q) (.inl (PyProof.noPylong_of_log2 (hc.2.log (by decide) (by decide))))
noncomputable def lC : V -> Value
 | .ref a => .ref a
 | .ty n => .type n
 | _ => .none
theorem D1 : eU X (.builtin "isinstance") (fun xs H Q => ∃ x c t b, xs = [x, c] /\ cI X.K H x t /\ lC c ≠ .none /\ PySem.W.kitOne X.K t (lC c) = some b /\ Q (.bl b) H) := by
 intro pins s σ H xs us Q I r h
 obtain ⟨x, c, t, b, rfl, ty, hc, e, q⟩ := h
 obtain ⟨u, v, rfl, rx, rc⟩ := vals2 r
 have ev : v = lC c := by
  cases c with
  | ref a => exact rc
  | ty n => exact rc
  | non => exact absurd rfl hc
  | bl _ => exact absurd rfl hc
  | int _ => exact absurd rfl hc
  | str _ => exact absurd rfl hc
  | byt _ => exact absurd rfl hc
  | flt _ => exact absurd rfl hc
 subst ev
 exact Dd I rx ty e fun tk => ⟨.bl b, H, I.tok tk, rfl, q⟩
end
theorem qt {K : PySem.W.Frag} {t : Value} : PySem.W.kitOne K t t = some true := by
 unfold PySem.W.kitOne
 rw [if_pos (by simp)]
theorem nZ {K : PySem.W.Frag} {a c : String} {b : Bool} (h : PySem.W.kitMeta c = true) (h2 : (PySem.fastBuiltinMro a).map (·.contains (.type c)) = some b) (h3 : (a == c) = false) : PySem.W.kitOne K (.type a) (.type c) = some b := by
 unfold PySem.W.kitOne
 have e : ¬ ((Value.type a == Value.type c) = true) := by
  simp only [beq_iff_eq, Value.type.injEq]
  simpa using h3
 rw [if_neg e]
 show (if PySem.W.kitMeta c = true then PySem.W.subIn K (.type a) (.type c) else none) = some b
 rw [if_pos h]
 exact h2
theorem D2 {K : PySem.W.Frag} : PySem.W.kitOne K (.type "int") (.type "bool") = some false := nZ (by decide +kernel) (by decide +kernel) (by decide)
theorem D3 {K : PySem.W.Frag} : PySem.W.kitOne K (.type "bool") (.type "int") = some true := nZ (by decide +kernel) (by decide +kernel) (by decide)
theorem D4 {K : PySem.W.Frag} : PySem.W.kitOne K (.type "NoneType") (.type "int") = some false := nZ (by decide +kernel) (by decide +kernel) (by decide)
theorem D5 {K : PySem.W.Frag} : PySem.W.kitOne K (.type "NoneType") (.type "tuple") = some false := nZ (by decide +kernel) (by decide +kernel) (by decide)
theorem dS : bootBuiltins "len" = some (.builtin "len") := by decide +kernel
theorem D6 : bootBuiltins "min" = some (.builtin "min") := by decide +kernel
theorem xu : bootBuiltins "max" = some (.builtin "max") := by decide +kernel
theorem D7 : bootBuiltins "isinstance" = some (.builtin "isinstance") := by decide +kernel
theorem D8 : bootBuiltins "all" = some (.builtin "all") := by decide +kernel
theorem n0 : bootBuiltins "int" = some (.type "int") := by decide +kernel
theorem fG : bootBuiltins "str" = some (.type "str") := by decide +kernel
theorem D9 : bootBuiltins "zip" = some (.type "zip") := by decide +kernel
noncomputable def qu : V -> V -> Option Bool
 | .int _, .ty n => if n = "int" then some true else if n = "bool" then some false else none
 | .bl _, .ty n => if n = "int" then some true else if n = "bool" then some true else none
 | .non, .ty n => if n = "int" then some false else if n = "tuple" then some false else none
 | _, _ => none
def fH (K : PySem.W.Frag) (x c : V) (H : Hp) (Q : VK) : Prop := match qu x c with
 | some b => Q (.bl b) H
 | none => ∃ t b, cI K H x t /\ lC c ≠ .none /\ PySem.W.kitOne K t (lC c) = some b /\ Q (.bl b) H
section
variable {X : Cx}
theorem Ea : eU X (.builtin "isinstance") (fun xs H Q => ∃ x c, xs = [x, c] /\ fH X.K x c H Q) := by
 intro pins s σ H xs us Q I r h
 obtain ⟨x, c, rfl, h⟩ := h
 refine D1 pins s σ H _ us Q I r ?_
 cases e : qu x c with
 | none =>
  unfold fH at h
  rw [e] at h
  obtain ⟨t, b, h1, h2, h3, h4⟩ := h
  exact ⟨x, c, t, b, rfl, h1, h2, h3, h4⟩
 | some b =>
  unfold fH at h
  rw [e] at h
  unfold qu at e
  split at e
  ·rename_i i n
   split at e
   ·rename_i z; subst z; cases e
    exact ⟨_, _, _, _, rfl, cI.int i, (fun z => nomatch z), qt, h⟩
   ·split at e
    ·rename_i z; subst z; cases e
     exact ⟨_, _, _, _, rfl, cI.int i, (fun z => nomatch z), D2, h⟩
    ·cases e
  ·rename_i i n
   split at e
   ·rename_i z; subst z; cases e
    exact ⟨_, _, _, _, rfl, cI.bl i, (fun z => nomatch z), D3, h⟩
   ·split at e
    ·rename_i z; subst z; cases e
     exact ⟨_, _, _, _, rfl, cI.bl i, (fun z => nomatch z), qt, h⟩
    ·cases e
  ·rename_i n
   split at e
   ·rename_i z; subst z; cases e
    exact ⟨_, _, _, _, rfl, cI.non, (fun z => nomatch z), D4, h⟩
   ·split at e
    ·rename_i z; subst z; cases e
     exact ⟨_, _, _, _, rfl, cI.non, (fun z => nomatch z), D5, h⟩
    ·cases e
  ·cases e
end
section
variable {K : PySem.W.Frag} {H : Hp} {Q : VK} {i : Int} {b : Bool} {p : Addr} {xs : List V}
theorem Eb : fH K (.int i) (.ty "int") H Q = Q (.bl true) H := rfl
theorem Ec : fH K (.int i) (.ty "bool") H Q = Q (.bl false) H := rfl
theorem Ed : fH K (.bl b) (.ty "int") H Q = Q (.bl true) H := rfl
theorem Ee : fH K (.bl b) (.ty "bool") H Q = Q (.bl true) H := rfl
theorem Ef : fH K .non (.ty "int") H Q = Q (.bl false) H := rfl
theorem Eg : fH K .non (.ty "tuple") H Q = Q (.bl false) H := rfl
end
end Gz
namespace Gz
open PySem PySem.Spec PyProof.Rows L2
def cB (P : Program) (w : World) : cJ := fun outer H s E e s' =>
 ∃ (x : Addr) (cls a0 : Value) (H' : Hp) (B : Heap), e = .ref x /\ s'.os = s.os /\ AllBare s'.gens /\ Un (aN outer) [] H H' s.heap s'.heap /\
  (∀ b o, s.heap.get? b = some o -> H b = none -> b ∉ aN outer -> B.get? b = some o) /\ (∀ b o, s.heap.get? b = some o -> b ∉ aN outer -> ∃ o', B.get? b = some o') /\ b9 P w H' B /\ H' x = none /\ s.heap.get? x = none /\
  Heap.FlyingW B outer x cls a0 s'.heap /\ E cls none H'
theorem cR {P : Program} {w : World} {X : Cx} : Passes (cB P w) X E0 := fun _ _ _ _ _ _ _ ⟨_, _, _, _, _, _, _, _, _, _, _, _, _, _, _, h⟩ => h.elim
theorem Eh {P : Program} {w : World} {outer : List Env} {H : Hp} {s s' : Shared} {e : Value} (h : cB P w outer H s (fun _ _ _ => False) e s') : False := by
 obtain ⟨_, _, _, _, _, _, _, _, _, _, _, _, _, _, _, h⟩ := h
 exact h
section
variable {P : Program} {w : World} {K : PySem.W.Frag} {mg : Str -> Option Value} {base : Heap}
theorem okN {x qual : Str} {st : Stmt} {f : Addr} {fd : FuncData} {N ps : List Str} {k : Nat} {sp : Sp} (F : fF K x qual st f fd) (S : jT N ps (cb st)) (len : ∀ vs H Q E, sp vs H Q E -> vs.length = ps.length)
 (dF : ∀ (aP : Value) (A : Around) (outer : List Env) (s : Shared) (H : Hp) (vs : List V) (Q : VK) (E : XK), aS k (A.deeper (envOfC qual (cb st) s.heap.objs.size f aP)) -> sp vs H Q E ->
   ∃ t, aR (cX (cB P w) P w K mg base N qual (cb st) f aP A outer s H E).ez (dR st) t /\ t { nx := fun _ H' => Q .non H', rt := Q } (start N vs) H) : cq P w K mg base (cB P w) (k + 1) f fd ps sp := by
 obtain ⟨oc, od, kV, doc, pm, an, aP, ct, eX, rfl, lk, dC⟩ := F.ex
 refine qi lk dC S len fun A outer s H vs Q E hr fD => ?_
 obtain ⟨t, h, q⟩ := dF aP A outer s H vs Q E hr fD
 exact ⟨t, h.ez, q⟩
end
theorem Ei (a b : Int) : fZ (.int a) (.int b) = true := rfl
theorem Ej (a b : Bool) : fZ (.bl a) (.bl b) = true := rfl
theorem Ek (a : Int) : fZ (.int a) .non = true := rfl
theorem El (a : Int) : fZ .non (.int a) = true := rfl
theorem Em : fZ .non .non = true := rfl
theorem ite_tt {A B : Prop} : (if true = true then A else B) = A := if_pos rfl
theorem ite_ff {A B : Prop} : (if false = true then A else B) = B := if_neg Bool.false_ne_true
end Gz
namespace Gz
open PySem PySem.Spec PyProof.Rows L2
theorem Eo {CX : cJ} {P : Program} {w : World} {K : PySem.W.Frag} {mg : Str -> Option Value} {base : Heap} {N : List Str} {qual : Str} {scope : Scope} {f : Addr} {cd : Value} {A : Around} {outer : List Env} {s : Shared} {H : Hp} {E : XK} :
 (cX CX P w K mg base N qual scope f cd A outer s H E).K = K := rfl
theorem Ep {CX : cJ} {P : Program} {w : World} {K : PySem.W.Frag} {mg : Str -> Option Value} {base : Heap} {N : List Str} {qual : Str} {scope : Scope} {f : Addr} {cd : Value} {A : Around} {outer : List Env} {s : Shared} {H : Hp} {E : XK} :
 (cX CX P w K mg base N qual scope f cd A outer s H E).N = N := rfl
section
variable {K : PySem.W.Frag} {H H' : Hp} {a p : Addr} {xs ys : List V} {i : Int} {v : V} {Q : VK}
theorem ak {o : HO} (h : H p = none) : ai H (upd H p o) := fun b u e => by rw [aG (gB e h)]; exact e
theorem aQ (h : aB K H p xs) (e : cK xs i = some v) (q : Q v H) : iX K (.ref p) (.int i) H Q := .inr (.inl ⟨p, xs, i, v, rfl, rfl, h, e, q⟩)
theorem cc (h : ar K H p xs) (e : cK xs i = some v) (q : Q v H) : iX K (.ref p) (.int i) H Q := .inl ⟨p, xs, i, v, rfl, rfl, h, e, q⟩
theorem d7 (h : ar K H p xs) : wj K (.ref p) H xs.length := .inl ⟨xs, h, rfl⟩
end
end Gz
namespace Gz
open PySem PySem.Spec PyProof.Rows L2
def FJ (J : It) (g : TG) (tb : TS) (D : Ends) (σ : L2.St) (H : Hp) : Prop := ∃ W : Nat -> Nat -> L2.St -> Hp -> Prop, (∃ m, W 0 m σ H) /\ ∀ i m σ H, W i m σ H ->
 (J.stop i H /\ D.nx σ H) ∨ (J.go i H /\ ∃ N : L2.St -> Hp -> Prop, (∀ σ' H', N σ' H' -> ∃ m', m' < m /\ W (i + 1) m' σ' H') /\ ∀ x H', J.yld i H x H' -> g x σ H' fun σ2 H2 => tb { D with nx := N, ct := N, bk := D.nx } σ2 H2)
section
variable {K : PySem.W.Frag} {g : TG} {tb : TS} {D : Ends} {σ : L2.St} {H : Hp} {a : Addr} {xs : List V} {lo : Int} {n : Nat}
theorem Er {ta : TA} : fB (pW ta) g tb D σ H = ta σ H (fun vs H1 => ∃ j : Int, vs = [.int j] /\ -(2 ^ 62) <= j /\ j < 2 ^ 62 /\ FJ (eS 0 j.toNat) g tb D σ H1) := rfl
theorem Es {tl : TE} : fB (pU K tl) g tb D σ H = tl σ H (fun x H1 => ∃ a, x = .ref a /\ (∃ xs, ar K H1 a xs) /\ FJ (gD K a) g tb D σ H1) := rfl
theorem Et {tl : TE} : fB (pV K tl) g tb D σ H = tl σ H (fun x H1 => ∃ a, x = .ref a /\ (∃ xs, aB K H1 a xs) /\ FJ (iN K a) g tb D σ H1) := rfl
theorem xw (Pv : Nat -> L2.St -> Hp -> Prop) (h0 : Pv 0 σ H)
 (hs : ∀ i σ H, i < n -> Pv i σ H -> g (.int (lo + i)) σ H fun σ2 H2 => tb { D with nx := Pv (i + 1), ct := Pv (i + 1), bk := D.nx } σ2 H2) (hd : ∀ σ H, Pv n σ H -> D.nx σ H) : FJ (eS lo n) g tb D σ H := CI Pv h0 hs hd
theorem Eu (Pv : Nat -> L2.St -> Hp -> Prop) (h0 : Pv 0 σ H) (hl : ∀ i σ H, i <= xs.length -> Pv i σ H -> ar K H a xs)
 (hs : ∀ i x σ H, xs[i]? = some x -> Pv i σ H -> g x σ H fun σ2 H2 => tb { D with nx := Pv (i + 1), ct := Pv (i + 1), bk := D.nx } σ2 H2) (hd : ∀ σ H, Pv xs.length σ H -> D.nx σ H) : FJ (gD K a) g tb D σ H := CG Pv h0 hl hs hd
theorem Ew (Pv : Nat -> L2.St -> Hp -> Prop) (h0 : Pv 0 σ H) (hl : ∀ i σ H, i <= xs.length -> Pv i σ H -> aB K H a xs)
 (hs : ∀ i x σ H, xs[i]? = some x -> Pv i σ H -> g x σ H fun σ2 H2 => tb { D with nx := Pv (i + 1), ct := Pv (i + 1), bk := D.nx } σ2 H2) (hd : ∀ σ H, Pv xs.length σ H -> D.nx σ H) : FJ (iN K a) g tb D σ H := CH Pv h0 hl hs hd
end
theorem bu : (2 : Nat) <= sizeLine := by decide
theorem n3 {x : Int} (h : x.natAbs < 2 ^ 200) : Bd 4000 x := Bd.up (n := 200) h (by decide)
theorem gF {x y : Int} (h : x.natAbs < 2 ^ 200) (h' : y.natAbs < 2 ^ 200) : lB x y := ⟨n3 h, n3 h'⟩
end Gz
namespace Gz
open PySem PySem.Spec PyProof.Rows L2
section
variable {X : Cx}
end
section
variable {K : PySem.W.Frag} {H H1 : Hp} {l p : Addr} {xs ys : List V} {o : HO}
theorem eB (hl : H l = none) (s : ai H H1) : ai H (upd H1 l o) := fun b u e => by
 rw [aG (gB e hl)]; exact s b u e
theorem Ex (h : aB K H1 p xs) (hl : H1 l = some (.lst ys)) : aB K (upd H1 l o) p xs := by
 rcases h with (h | ⟨z, h⟩) | h
 ·exact .inl (.inl (by rw [aG (kZ h hl (fun e => nomatch e))]; exact h))
 ·exact .inl (.inr ⟨z, by rw [aG (kZ h hl (fun e => nomatch e))]; exact h⟩)
 ·exact .inr h
def n4 (K : PySem.W.Frag) (H : Hp) (v : V) (a b : Int) : Prop := ∃ p, v = .ref p /\ aB K H p [.int a, .int b]
theorem n4.put {v : V} {a b : Int} (h : n4 K H1 v a b) (hl : H1 l = some (.lst ys)) : n4 K (upd H1 l o) v a b := by
 obtain ⟨p, e, h⟩ := h
 exact ⟨p, e, Ex h hl⟩
end
end Gz
namespace Gz
open PySem PySem.W PySem.Spec PySem.Calls PyProof.Rows Builtin Builtin.ObjectAttr Builtin.Getset_descriptor
section
variable {prog : Program} {w : World} {A : Around} {E : Value -> Shared -> Prop} {s : Shared} {K : Frag} {x C : Addr} {oe : Obj} {R : Result -> Shared -> Prop}
end
structure XC (K : Frag) (C : Addr) : Prop where
 ex : excIn K C [.type "ValueError", .type "Exception", .type "BaseException", .type "object"] "ValueError.__new__" = true
 mo : mroIn K C (.type "object") = some true
 mb : mroIn K C (.type "BaseException") = some true
 ga : findIn K (.ref C) "__getattribute__" = some (some (.builtin "BaseException.__getattribute__"))
 gr : findIn K (.ref C) "__getattr__" = some none
 gc : findIn K (.ref C) "__class__" = some (some (.builtin "object.__class__"))
theorem XC.cls {K : Frag} {C : Addr} (x : XC K C) : ∃ c d cd sl, K.lookup C = some ⟨c, d, .cls cd, sl⟩ := by
 have q := x.ex
 unfold excIn at q
 split at q
 ·rename_i dd cd sl ho
  exact ⟨_, _, _, _, ho⟩
 ·cases q
theorem Ey {K : Frag} {h : Heap} {C : Addr} (X : K.In h) (c : XC K C) :
 ∃ bm N nm q bs hdct sn sub ab col dd k0 k1 k2 k3 k5 mN, h.get? C = some (excClassObj nm q C N bs bm hdct sn sub ab col dd k0 k1 k2 k3 k5 "ValueError.__new__") /\ h.Ns N mN /\ mN "__init__" = none /\
  OwnTail h [.type "ValueError", .type "Exception", .type "BaseException", .type "object"] bm := by
 have q := c.ex
 unfold excIn at q
 split at q
 ·rename_i dd cd sl ho
  split at q
  ·rename_i C' bm k0 k1 k2 k3 n k5 hm hs
   simp only [Bool.and_eq_true, beq_iff_eq, Bool.not_eq_true'] at q
   obtain ⟨⟨⟨⟨⟨rfl, rfl⟩, hdel⟩, ht⟩, av⟩, hni⟩ := q
   obtain ⟨nm, bs, mro, ns, qn, hd, sn, sub, ab, col, del⟩ := cd
   dsimp only at hm hdel av hni
   subst hm hdel
   have Ez : sl = #[k0, k1, k2, k3, some (.builtin "ValueError.__new__"), k5] := by
    obtain ⟨l⟩ := sl
    simp only at hs
    rw [hs]
   subst Ez
   exact ⟨bm, ns, nm, qn, bs, hd, sn, sub, ab, col, dd, k0, k1, k2, k3, k5, _, X _ _ ho, .of_isNs (isNs_of_in X av), nsMap_none_of_in X av hni, tail_of_in X ht⟩
  ·cases q
 ·cases q
end Gz
namespace Gz
open PySem PySem.Spec PyProof.Rows L2
section
variable {X : Cx}
end
end Gz
namespace Gz
open PySem PySem.Spec PyProof.Rows L2
theorem cw.some {P : Program} {w : World} {H : Hp} {h : Heap} {a : Addr} {o : HO} (x : cw P w H h a o) : ∃ ob, h.get? a = some ob := by
 cases o with
 | lst xs => obtain ⟨_, _, _, _, e⟩ := x; exact ⟨_, e⟩
 | tup xs => obtain ⟨_, _, _, o, e, _⟩ := x; exact ⟨_, e⟩
 | dK kvs => obtain ⟨_, _, _, _, o, _, _, e, _⟩ := x; exact ⟨_, e⟩
 | dT kvs => obtain ⟨_, _, _, _, o, _, _, e, _⟩ := x; exact ⟨_, e⟩
 | set S n => obtain ⟨o, _, _, _, e, _⟩ := x; exact ⟨_, e⟩
 | ins C dx fs => obtain ⟨_, _, _, e, _⟩ := x; exact ⟨_, e⟩
 | own y => exact x
 | xd fs => obtain ⟨_, ⟨_, _, _, e, _⟩, _⟩ := x; exact ⟨_, e⟩
 | gA lo hi => obtain ⟨_, _, _, e⟩ := x; exact ⟨_, e⟩
 | cP ob u => obtain ⟨e, _⟩ := x; exact ⟨_, e⟩
 | tbl ps => exact ⟨_, x⟩
 | met f y => exact ⟨_, x⟩
 | ext φ => exact x.2.1
def xx (X : Cx) (E : XK) : Prop := ∀ (pins : List (Addr × Obj)) (σ : L2.St) (H : Hp) (s : Shared) (e C : Addr) (vs : List Value) (h' : Heap), Inv X pins σ H s -> Heap.MadeExcOf s.heap h' e (.ref C) vs -> E (.ref C) none H -> X.xe (.ref e) { s with heap := h' }
def qv (C : Addr) (E : XK) (ta : TA) : TS := fun D σ H => ta σ H fun vs H1 => vs.length <= sizeLine /\ E (.ref C) none H1
section
variable {X : Cx}
theorem fI {x : Str} {np dQ pos : Pos} {e₀ : Expr} {rest : List Expr} {ta : TA} {C : Addr} {E : XK} (hx : xx X E) (hg : Gl X x) (hm : X.mg x = some (.ref C)) (xc : XC X.K C) (hc : X.calm = true) (ha : PA X (e₀ :: rest) ta)
 (hd : (x == ("__debug__" : Str)) = false := by decide) (he : starEach (e₀ :: rest) X.env = (false, eval e₀ X.env) :: starEach rest X.env := by rfl)
 (cV : (backTo dQ (starEach rest X.env)).any (·.1) = false := by rfl) :
 PS X (.Raise (some (.Call (.Name x np) (e₀ :: rest) [] dQ)) none pos) (qv C E ta) := by
 intro pins s σ H D I h
 obtain ⟨tl, N, nm, q, bs, hdct, sn, sub, ab, col, dd, k0, k1, k2, k3, k5, mN, hC, hN, hni, T⟩ := Ey I.ok.mod.kin xc
 refine wpAny_Raise_call_subU (C := C) (nm := nm) (q := q) (N := N) (bs := bs) (bm := tl) (hdct := hdct) (sn := sn) (sub := sub) (ab := ab) (col := col) (dd := dd) (k0 := k0) (k1 := k1) (k2 := k2) (k3 := k3) (k5 := k5)
  PySem.F.excBase_ValueError (by decide +kernel) PySem.F.excBase_ValueError (mN := mN) (T.hasType PySem.F.excBase_ValueError.hasBase) (I.ok.hd hc) (by rw [he]; show (false || (backTo dQ (starEach rest X.env)).any (·.1)) = false; rw [cV]; rfl) hni (nr I hg hm ⟨rfl, ?_⟩ hd)
 have xy := ha dQ pins s σ H _ I h
 rw [he] at xy ⊢
 refine Calls.evalArgs_plain (wpAny_mono xy (fun us s₂ h₂ => ?_) fun _ _ y => y)
 obtain ⟨vs, H1, I1, r, hl, hE⟩ := h₂
 exact ⟨rfl, by rw [<- r.length]; exact hl, I1.bk _ _ hC, hN.keeps I1.bk, T.keeps I1.bk, fun h' e hm => hx pins σ H1 s₂ e C us h' I1 hm hE⟩
end
section
variable {P : Program} {w : World} {K : PySem.W.Frag} {mg : Str -> Option Value} {base : Heap} {N : List Str} {qual : Str} {scope : Scope} {f : Addr} {cd : Value} {A : Around} {outer : List Env} {s : Shared} {H : Hp} {E : XK}
theorem xA {env : Env} {b L : Addr} (hf : env.frame = some L) (h : b ∈ aN (env :: outer)) : b = L ∨ b ∈ aN outer := by
 unfold aN at h
 rw [List.filterMap_cons, hf] at h
 exact List.mem_cons.mp h
theorem fJ : xx (cX (cB P w) P w K mg base N qual scope f cd A outer s H E) E := by
 intro pins σ H1 s1 e C vs h1 I hx hE
 have qw : (cX (cB P w) P w K mg base N qual scope f cd A outer s H E).A.frames = some (envOfC qual scope s.heap.objs.size f cd :: outer) := I.ok.frames
 have hF : s1.heap.FunFrames base (envOfC qual scope s.heap.objs.size f cd :: outer) := I.stack
 have jU : ∀ env ∈ (envOfC qual scope s.heap.objs.size f cd :: outer), ∀ b, env.frame = some b -> b ∈ aN (envOfC qual scope s.heap.objs.size f cd :: outer) := fun env he b hb => List.mem_filterMap.mpr ⟨env, he, hb⟩
 have EA : ∀ b ∈ aN (envOfC qual scope s.heap.objs.size f cd :: outer), H1 b = none := I.nq
 have jK : ∀ b o, s.heap.get? b = some o -> b ≠ s.heap.objs.size := fun b o e => Nat.ne_of_lt (Heap.lt_size e)
 have fW : ∀ b o, s.heap.get? b = some o -> b ∉ aN outer -> b ∉ aN (envOfC qual scope s.heap.objs.size f cd :: outer) := fun b o e hb z => by
  rcases xA rfl z with z | z
  ·exact jK b o e z
  ·exact hb z
 have ub : Un (aN outer) [] H H1 s.heap s1.heap := I.base
 refine wpAny_leaves_madeW (base := PySem.W.hideAll s1.heap (aN (envOfC qual scope s.heap.objs.size f cd :: outer))) qw rfl (fun b o q => PySem.W.of_hideAll _ q) (PySem.W.funFrames_hide hF jU) hx fun h' t fl tup bt up => ?_
 have stays := fl.1
 have jV : ∀ b o, s1.heap.get? b = some o -> b ∉ aN (envOfC qual scope s.heap.objs.size f cd :: outer) -> (PySem.W.hideAll s1.heap (aN (envOfC qual scope s.heap.objs.size f cd :: outer))).get? b = some o := fun b o q hb => PySem.W.hideAll_get _ q hb
 have lD : ∀ b ∈ aN (envOfC qual scope s.heap.objs.size f cd :: outer), ∀ o, s1.heap.get? b = some o -> ∃ sl, h'.get? b = some { o with slots := sl } := fun b hb o q => by
  obtain ⟨_, o', cH, hnf⟩ := hF.mem hb
  rw [q] at cH; cases cH
  exact up b o (hx.keeps b o q) hnf
 refine ⟨e, .ref C, .ref t, H1, _, rfl, I.os, I.bare, ⟨fun b o q n hb dH => ?_, fun b o q n hb dH => ?_, ub.free, fun b o q dH => ?_, ub.c8, ub.di, ub.dB⟩, fun b o q n hb => ?_, fun b o q hb => ?_, fun a o q => ?_, ?_, ?_, fl, hE⟩
 ·exact stays b o (jV b o (ub.keep b o q n hb dH) (fW b o q hb))
 ·obtain ⟨sl, e1⟩ := ub.slot b o q n hb dH
  obtain ⟨fU, e2⟩ := lD b (by unfold aN; rw [List.filterMap_cons]; exact List.mem_cons_of_mem _ hb) _ e1
  exact ⟨fU, e2⟩
 ·obtain ⟨o', e1⟩ := ub.there b o q dH
  by_cases hb : b ∈ aN (envOfC qual scope s.heap.objs.size f cd :: outer)
  ·obtain ⟨sl, e2⟩ := lD b hb o' e1
   exact ⟨_, e2⟩
  ·exact ⟨o', stays b o' (jV b o' e1 hb)⟩
 ·exact jV b o (ub.keep b o q n hb (by simp)) (fW b o q hb)
 ·obtain ⟨o', e1⟩ := ub.there b o q (by simp)
  exact ⟨o', jV b o' e1 (fW b o q hb)⟩
 ·refine (I.av a o q).stay (fun b u hb z => jV b u z fun hm => ?_) (fun _ z => z) fun _ _ z => z
  have := EA b hm
  rcases hb with hb | hb
  ·rw [hb, q] at this; cases this
  ·rw [hb] at this; cases this
 ·cases q : H1 e with
  | none => rfl
  | some u =>
   obtain ⟨ob, z⟩ := cw.some (I.av e u q)
   rw [hx.new] at z; cases z
 ·cases q : s.heap.get? e with
  | none => rfl
  | some u =>
   obtain ⟨o', z⟩ := ub.there e u q (by simp)
   rw [hx.new] at z; cases z
theorem bf : Passes (cB P w) (cX (cB P w) P w K mg base N qual scope f cd A outer s H E) E := by
 intro pins σ H1 s1 ev s2 I cx
 obtain ⟨x, cls, a0, H', B, rfl, os, bare, un, kb, tb, av, hx, hn, fl, hE⟩ := cx
 have qw : (cX (cB P w) P w K mg base N qual scope f cd A outer s H E).A.frames = some (envOfC qual scope s.heap.objs.size f cd :: outer) := I.ok.frames
 have hF : s1.heap.FunFrames base (envOfC qual scope s.heap.objs.size f cd :: outer) := I.stack
 have jK : ∀ b o, s.heap.get? b = some o -> b ≠ s.heap.objs.size := fun b o e => Nat.ne_of_lt (Heap.lt_size e)
 have fW : ∀ b o, s.heap.get? b = some o -> b ∉ aN outer -> b ∉ aN (envOfC qual scope s.heap.objs.size f cd :: outer) := fun b o e hb z => by
  rcases xA rfl z with z | z
  ·exact jK b o e z
  ·exact hb z
 have EB : ∀ b, b ∈ aN outer -> b ∈ aN (envOfC qual scope s.heap.objs.size f cd :: outer) := fun b hb => by
  unfold aN; rw [List.filterMap_cons]; exact List.mem_cons_of_mem _ hb
 have ub : Un (aN outer) [] H H1 s.heap s1.heap := I.base
 have xB : Un (aN (envOfC qual scope s.heap.objs.size f cd :: outer)) [] H1 H' s1.heap s2.heap := un
 have xC : ∀ b o, s1.heap.get? b = some o -> H1 b = none -> b ∉ aN (envOfC qual scope s.heap.objs.size f cd :: outer) -> B.get? b = some o := kb
 have gf : ∀ b o, s1.heap.get? b = some o -> b ∉ aN (envOfC qual scope s.heap.objs.size f cd :: outer) -> ∃ o', B.get? b = some o' := tb
 have EC : ∀ b ∈ aN (envOfC qual scope s.heap.objs.size f cd :: outer), H1 b = none := I.nq
 refine wpAny_leaves_onW qw rfl fl fun h' xD up => ?_
 have stays := xD.1
 have lD : ∀ b ∈ aN (envOfC qual scope s.heap.objs.size f cd :: outer), ∀ o, s1.heap.get? b = some o -> ∃ sl, h'.get? b = some { o with slots := sl } := fun b hb o q => by
  obtain ⟨_, o', cH, hnf⟩ := hF.mem hb
  rw [q] at cH; cases cH
  obtain ⟨sl, e1⟩ := xB.slot b o q (EC b hb) hb (by simp)
  obtain ⟨fU, e2⟩ := up b _ e1 hnf
  exact ⟨fU, e2⟩
 refine ⟨x, cls, a0, H', B, rfl, os.trans I.os, bare, ⟨fun b o q n hb dH => ?_, fun b o q n hb dH => ?_, fun b o q n dH => ?_, fun b o q dH => ?_, fun b xs q => un.c8 _ _ (ub.c8 _ _ q), fun b o u q => un.di _ _ _ (ub.di _ _ _ q), fun b ps q => ?_⟩, fun b o q n hb => ?_, fun b o q hb => ?_, av, hx, ?_, xD, hE⟩
 ·exact stays b o (xC b o (ub.keep b o q n hb dH) (ub.free b o q n dH) (fW b o q hb))
 ·obtain ⟨sl, e1⟩ := ub.slot b o q n hb dH
  obtain ⟨fU, e2⟩ := lD b (EB b hb) _ e1
  exact ⟨fU, e2⟩
 ·obtain ⟨o', e1⟩ := ub.there b o q dH
  exact xB.free b o' e1 (ub.free b o q n dH) (by simp)
 ·obtain ⟨o', e1⟩ := ub.there b o q dH
  by_cases hb : b ∈ aN (envOfC qual scope s.heap.objs.size f cd :: outer)
  ·obtain ⟨sl, e2⟩ := lD b hb o' e1
   exact ⟨_, e2⟩
  ·obtain ⟨o2, e2⟩ := gf b o' e1 hb
   exact ⟨o2, stays b o2 e2⟩
 ·obtain ⟨m1, e1⟩ := ub.dB b ps q
  obtain ⟨m2, e2⟩ := un.dB b _ e1
  exact ⟨m1 ++ m2, by rw [e2, Array.append_assoc]⟩
 ·exact xC b o (ub.keep b o q n hb (by simp)) (ub.free b o q n (by simp)) (fW b o q hb)
 ·obtain ⟨o', e1⟩ := ub.there b o q (by simp)
  exact gf b o' e1 (fW b o q hb)
 ·cases q : s.heap.get? x with
  | none => rfl
  | some u =>
   obtain ⟨o', z⟩ := ub.there x u q (by simp)
   rw [hn] at z; cases z
theorem xE {x qual : Str} {st : Stmt} {f : Addr} {fd : FuncData} {N ps : List Str} {k : Nat} {sp : Sp} (F : fF K x qual st f fd) (S : jT N ps (cb st)) (len : ∀ vs H Q E, sp vs H Q E -> vs.length = ps.length)
 (dF : ∀ (aP : Value) (A : Around) (outer : List Env) (s : Shared) (H : Hp) (vs : List V) (Q : VK) (E : XK), aS k (A.deeper (envOfC qual (cb st) s.heap.objs.size f aP)) -> sp vs H Q E ->
   ∃ t, aR (cX (cB P w) P w K mg base N qual (cb st) f aP A outer s H E) (dR st) t /\ t { nx := fun _ H' => Q .non H', rt := Q } (start N vs) H) : cq P w K mg base (cB P w) (k + 1) f fd ps sp := by
 obtain ⟨oc, od, kV, doc, pm, an, aP, ct, eX, rfl, lk, dC⟩ := F.ex
 refine qi lk dC S len fun A outer s H vs Q E hr fD => ?_
 exact dF aP A outer s H vs Q E hr fD
end
end Gz
namespace Gz
open PySem PySem.Spec PyProof.Rows L2
section
variable {X : Cx} {F : Value -> Shared -> Prop} {pins pn : List (Addr × Obj)} {σ : L2.St} {H : Hp} {s : Shared} {A' : Around}
end
end Gz
namespace Gz
open PySem PySem.Spec PyProof.Rows L2
local macro_rules | `(tactic| walk_at "om") => `(tactic| ((try simp only [PySem.Addr] at *); lia))
inductive d8 (X : Cx) (scope : Scope) (cl : List (Str × Addr)) : List Nat -> List Str -> Prop where
 | nil : d8 X scope cl [] []
 | cons {j : Nat} {y : Str} {c : Addr} {js : List Nat} {ys : List Str} (hN : X.N[j]? = some y) (hk : X.env.kindOf y = some .cell) (h1 : cl.lookup y = some c) (h2 : X.env.cells.lookup y = some c) (h : d8 X scope cl js ys) : d8 X scope cl (j :: js) (y :: ys)
inductive fb (X : Cx) : List (Str × Addr) -> Prop where
 | nil : fb X []
 | cons {n : Str} {a : Addr} {r : List (Str × Addr)} (h : X.env.cells.lookup n = some a) (t : fb X r) : fb X ((n, a) :: r)
theorem fb.get {X : Cx} : ∀ {cl : List (Str × Addr)}, fb X cl -> ∀ y c, cl.lookup y = some c -> X.env.cells.lookup y = some c
 | _, .nil, y, c, e => by simp at e
 | _, .cons (n := n) h t, y, c, e => by
  rw [List.lookup_cons] at e
  by_cases hy : (y == n) = true
  ·rw [hy] at e
   have e1 : y = n := by simpa using hy
   cases e
   rw [e1]; exact h
  ·rw [Bool.eq_false_iff.mpr hy] at e
   exact t.get y c e
theorem d8.get {X : Cx} {scope : Scope} {cl : List (Str × Addr)} {σ : L2.St} : ∀ {js : List Nat} {ys : List Str}, d8 X scope cl js ys -> ∀ (i : Nat) (y : Str) (v : V), ys[i]? = some y -> (js.map fun j => (σ[j]?).join)[i]? = some (some v) ->
 ∃ (j : Nat) (c : Addr), X.N[j]? = some y /\ σ[j]? = some (some v) /\ X.env.kindOf y = some .cell /\ cl.lookup y = some c /\ X.env.cells.lookup y = some c
 | _, _, .nil, i, y, v, e, _ => by simp at e
 | _, _, .cons (j := j) hN hk h1 h2 h, 0, y, v, e, q => by
  simp at e q
  subst e
  refine ⟨j, _, hN, ?_, hk, h1, h2⟩
  cases z : σ[j]? with
  | none => rw [z] at q; simp at q
  | some o => rw [z] at q; simp at q; rw [q]
 | _, _, .cons hN hk h1 h2 h, i + 1, y, v, e, q => by
  simp only [List.getElem?_cons_succ, List.map_cons] at e q
  exact h.get i y v e q
theorem d8.len {X : Cx} {scope : Scope} {cl : List (Str × Addr)} : ∀ {js : List Nat} {ys : List Str}, d8 X scope cl js ys -> js.length = ys.length
 | _, _, .nil => rfl
 | _, _, .cons _ _ _ _ h => by simp [h.len]
noncomputable def cY (X : Cx) (N' : List Str) (scope : Scope) (cl : List (Str × Addr)) (C : Addr) (s2 : Shared) (H2 : Hp) (ex : List Addr) (pn : List (Addr × Obj)) : Cx :=
 { X with N := N', s₀ := s2, H₀ := H2, env := compEnvC scope cl C X.env, outer := X.stack, ex := ex, fn := fun _ => false, pn := pn, xe := fun _ _ => False }
structure i3 (X : Cx) (x : Str) (scope : Scope) (cl : List (Str × Addr)) (fr : List Nat) (ys : List Str) : Prop where
 clos : closureFor scope X.env = pure cl
 nocell : (scope.names.all fun p => p.2 != .cell) = true
 kind : scope.kind = .function
 names : (scope.names.all fun p => p.2 != .local || scope.names.lookup p.1 == some .local) = true
 own : scope.names.lookup x = some .local
 kinds : ((relabel scope X.env).names.all fun p => (p.2 != .cell && p.2 != .free) || (cl.lookup p.1).isSome) = true
 cls : fb X cl
 aN : d8 X scope cl fr ys
 nd : (x :: ys).Nodup
 kfr : (ys.all fun y => (relabel scope X.env).names.lookup y == some .cell) = true
def i4 (X : Cx) (ifs : List Expr) (t : TT) : Prop :=
 ∀ (pins : List (Addr × Obj)) (s : Shared) (σ : L2.St) (H : Hp) (Q : Bool -> Hp -> Prop), Inv X pins σ H s -> t σ H Q ->
  wpAny (model X.prog X.w) X.A (forIn ifs true fun c r => if r = true then do let ok <- isTrue c X.env (eval c X.env); pure (ForInStep.yield ok) else pure (ForInStep.yield r)) (TP X pins σ Q) X.xe s
def xF : TT := fun _ H Q => Q true H
theorem i5 {X : Cx} : i4 X [] xF := fun _ _ _ H _ I h => wpAny_tests_nil ⟨H, I, h⟩
def lE (J : It) (ρ : L2.St) (tt : TT) (te : TE) (H : Hp) (Q : VK) : Prop := ∃ W : Nat -> Nat -> List V -> Hp -> Prop, (∃ m, W 0 m [] H) /\ ∀ i m ys H, W i m ys H ->
 (J.stop i H /\ ys.length <= sizeLine /\ ∀ l, H l = none -> Q (.ref l) (upd H l (.lst ys))) ∨ (J.go i H /\ ys.length < sizeLine /\ ∃ N : List V -> Hp -> Prop, (∀ zs H', N zs H' -> ∃ m', m' < m /\ W (i + 1) m' zs H') /\
  ∀ x H', J.yld i H x H' -> tt (some x :: ρ) H' fun b H1 => if b = true then te (some x :: ρ) H1 fun y H2 => N (ys ++ [y]) H2 else N ys H1)
def qx (wi : TI) (fr : List Nat) (tt : TT) (te : TE) : TE := fun σ H Q => wi σ H fun J H1 => lE J (fr.map fun j => (σ[j]?).join) tt te H1 Q
structure lF (X : Cx) (own : List Str) (scope : Scope) (cl : List (Str × Addr)) (fr : List Nat) (ys : List Str) : Prop where
 clos : closureFor scope X.env = pure cl
 nocell : (scope.names.all fun p => p.2 != .cell) = true
 kind : scope.kind = .function
 names : (scope.names.all fun p => p.2 != .local || scope.names.lookup p.1 == some .local) = true
 kinds : ((relabel scope X.env).names.all fun p => (p.2 != .cell && p.2 != .free) || (cl.lookup p.1).isSome) = true
 cls : fb X cl
 aN : d8 X scope cl fr ys
 kfr : (ys.all fun y => (relabel scope X.env).names.lookup y == some .cell) = true
def jW (k : Nat) (J : It) (g : TG) (ρ : L2.St) (tt : TT) (te : TE) (H : Hp) (Q : VK) : Prop := ∃ W : Nat -> Nat -> List V -> Hp -> Prop, (∃ m, W 0 m [] H) /\ ∀ i m ys H, W i m ys H ->
 (J.stop i H /\ ys.length <= sizeLine /\ ∀ l, H l = none -> Q (.ref l) (upd H l (.lst ys))) ∨ (J.go i H /\ ys.length < sizeLine /\ ∃ N : List V -> Hp -> Prop, (∀ zs H', N zs H' -> ∃ m', m' < m /\ W (i + 1) m' zs H') /\
  ∀ os : List (Option V), os.length = k -> ∀ x H', J.yld i H x H' -> g x (os ++ ρ) H' fun σ2 H2 => ∃ nP, nP.length = k /\ σ2 = nP ++ ρ /\ tt σ2 H2 fun b H1 => if b = true then te σ2 H1 fun y H2 => N (ys ++ [y]) H2 else N ys H1)
def ED (k : Nat) (wi : TI) (g : TG) (fr : List Nat) (tt : TT) (te : TE) : TE := fun σ H Q => wi σ H fun J H1 => jW k J g (fr.map fun j => (σ[j]?).join) tt te H1 Q
theorem EE {prog : Program} {w : World} {A : Around} {s : Shared} {R : Result -> Shared -> Prop} {elt target iter : Expr} {ifs : List Expr} {scope : Scope} {pos : Pos} {it acc : Value} {env : Env} (I : Nat -> Shared -> Prop)
 (turn : ∀ n s, I n s -> wpAny (model prog w) A (pyNext it) (fun r s₁ => match r with
   | none => R (.ok .next) s₁
   | some v => wpAny (model prog w) A (letOwnedTupleGo target it v) (fun _ xG => wpAny (model prog w) A (assign target env v) (fun _ s₂ =>
    wpAny (model prog w) A (forIn ifs true fun c r => if r = true then do let ok <- isTrue c env (eval c env); pure (ForInStep.yield ok) else pure (ForInStep.yield r)) (fun ok s₃ =>
     if ok = true then wpAny (model prog w) A (eval elt env) (fun x s₄ =>
      wpAny (model prog w) A (call (.builtin "list.append") [acc, x]) (fun _ s₅ => ∃ m, m < n /\ I m s₅) (notedBy (model prog w) A env fun e s' => R (.error e) s') s₄) (notedBy (model prog w) A env fun e s' => R (.error e) s') s₃
     else ∃ m, m < n /\ I m s₃) (notedBy (model prog w) A env fun e s' => R (.error e) s') s₂) (notedBy (model prog w) A env fun e s' => R (.error e) s') xG) (notedBy (model prog w) A env fun e s' => R (.error e) s') s₁) (notedBy (model prog w) A env fun e s' => R (.error e) s') s)
 (n : Nat) (h : I n s) :
 codeAny (model prog w) A (.compLoop (.ListComp elt [⟨target, iter, ifs, 0⟩] scope pos) 0 it acc env) R s := by
 refine codeAny_loop rfl I (fun n s hI => ?_) n h
 show wpAny _ A ((compTurn (.ListComp elt [⟨target, iter, ifs, 0⟩] scope pos) 0 it acc env).onRaise (fun x => do noteFrame x env; theTreesLotGoes x)) _ _ s
 refine wpAny_noted ?_
 rw [compTurn_list]
 refine wpAny_bind (wpAny_standAt (wpAny_bind (wpAny_mono (turn n s hI) (fun r s₁ h₁ => ?_) fun _ _ h' => h')))
 cases r with
 | none => exact wpAny_pure h₁
 | some v =>
  refine wpAny_bind (wpAny_mono h₁ (fun _ xG EF => ?_) fun _ _ h' => h')
  refine wpAny_bind (wpAny_mono EF (fun _ s₂ h₂ => wpAny_bind (wpAny_mono h₂ (fun ok s₃ h₃ => ?_) fun _ _ h' => h')) fun _ _ h' => h')
  cases ok with
  | false => exact wpAny_pure ⟨rfl, h₃⟩
  | true =>
   exact wpAny_bind (wpAny_bind (wpAny_mono h₃ (fun x s₄ h₄ => wpAny_bind (wpAny_mono h₄ (fun _ s₅ h₅ => wpAny_pure (wpAny_pure ⟨rfl, h₅⟩)) fun _ _ h' => h')) fun _ _ h' => h'))
theorem xH {l : List (Str × NameKind)} {p : Str × NameKind -> Bool} (h : l.all p = true) {y : Str} {k : NameKind} (e : l.lookup y = some k) : p (y, k) = true := by
 exact List.all_eq_true.mp h _ (PySem.mem_of_lookup e)
def qy (i : Nat) (te : TE) : TS := fun D σ H => te σ H fun v H1 => D.nx (σ.set i (some v)) H1
section
variable {X : Cx} {pins : List (Addr × Obj)} {σ : L2.St} {H2 : Hp} {s2 : Shared} {own : List Str} {tg : Expr} {g : TG} {pos : Pos} {elt iter : Expr} {ifs : List Expr} {scope : Scope} {cl : List (Str × Addr)} {fr : List Nat} {ys : List Str} {tt : TT} {te : TE}
theorem EG {C : Addr} {ex : List Addr} {pn : List (Addr × Obj)} (S : lF X own scope cl fr ys) (I2 : Inv X pins σ H2 s2) (f2 : ∀ b ∈ ex, dj X pins H2 b) (hC : s2.heap.objs.size <= C) (hex : ∀ b ∈ ex, b < s2.heap.objs.size) : (cY X (own ++ ys) scope cl C s2 H2 ex pn).Ok := by
 refine ⟨I2.ok.mod, S.kind, I2.ok.glob, I2.ok.blt, hC, fun a b c h1 h2 => ?_, fun y hy => ?_, fun _ _ z => (nomatch z), I2.ok.hd, I2.ok.frames, .inl rfl, fun b hb => ⟨?_, fun y c e z => ?_⟩, I2.bs, Nat.le_trans I2.ok.bsz I2.sz, fun b o e hb => ?_, fun b hb z => ?_, I2.stack, I2.nq⟩
 ·exact I2.ok.inj a b c (S.cls.get a c h1) (S.cls.get b c h2)
 ·have EH : (relabel scope X.env).names.lookup y = some .cell ∨ (relabel scope X.env).names.lookup y = some .free := hy
  have q : (cl.lookup y).isSome = true := by
   rcases EH with e | e
   ·simpa using xH S.kinds e
   ·simpa using xH S.kinds e
  exact Option.isSome_iff_exists.mp q
 ·exact Nat.ne_of_lt (Nat.lt_of_lt_of_le (hex b hb) hC)
 ·exact (f2 b hb).2.2.2.2.1 y c (S.cls.get y c e) z
 ·obtain ⟨_, _, _, d, _, _⟩ := f2 b hb
  rcases d with d | d
  ·exact I2.ok.noex b o e d
  ·exact absurd (Nat.lt_of_lt_of_le (Heap.lt_size e) (Nat.le_trans I2.ok.bsz d)) (Nat.lt_irrefl _)
 ·obtain ⟨_, d1, d2, _⟩ := f2 b hb
  rcases List.mem_cons.mp (I2.jJ b z) with q | q
  ·exact d1 q
  ·exact d2 q
noncomputable def ff (X : Cx) (N' : List Str) (fn : Str -> Bool) (scope : Scope) (cl : List (Str × Addr)) (C : Addr) (s2 : Shared) (H2 : Hp) (ex : List Addr) (pn : List (Addr × Obj)) : Cx :=
 { X with N := N', s₀ := s2, H₀ := H2, env := compEnvC scope cl C X.env, outer := X.stack, ex := ex, fn := fn, pn := pn, xe := fun _ _ => False }
theorem xI {C D : Addr} {fp : List Addr} (I2 : Inv X pins σ H2 s2) (f2 : ∀ b ∈ fp, dj X pins H2 b) (hC : s2.heap.objs.size <= C) (hD : s2.heap.objs.size <= D) : ∀ p ∈ X.pn ++ pins, p.1 ≠ C /\ p.1 ≠ D /\ p.1 ∉ aN X.stack /\ ∀ b ∈ fp, p.1 ≠ b := fun p hp => by
 obtain ⟨e, n, nL, nf, _⟩ := I2.pin p hp
 have lt := Heap.lt_size e
 refine ⟨by walk_at "om", by walk_at "om", fun z => ?_, fun b hb => (f2 b hb).2.2.2.2.2 p hp⟩
 rcases List.mem_cons.mp (I2.jJ _ z) with q | q
 ·exact nL q
 ·exact nf q
theorem EI {J : It} {fp : List Addr} {it C D : Addr} {tn : Nat -> Heap -> Prop} {Q : VK} {RR : Value -> Addr -> Result -> Shared -> Prop} {nm : List Str} {fn : Str -> Bool} {k : Nat} {qz ρ : List (Option V)} {h1 : Heap} {tk : Nat}
 (hc : X.calm = true) (hg : PG (ff X nm fn scope cl C s2 H2 fp (X.pn ++ pins)) tg g) (hb : i4 (ff X nm fn scope cl C s2 H2 fp (X.pn ++ pins)) ifs tt /\ PE (ff X nm fn scope cl C s2 H2 fp (X.pn ++ pins)) elt te)
 (I2 : Inv X pins σ H2 s2) (T : Turn X.prog X.w X.K tg J fp it tn) (eT : tn 0 s2.heap) (f2 : ∀ b ∈ fp, dj X pins H2 b)
 (h : jW k J g ρ tt te H2 Q)
 (qA : ∀ D C s' H', Inv X pins σ H' s' -> (∃ m, s'.heap.Ns C m) -> dj X pins H' C -> Q (.ref D) H' -> RR (.ref D) C (.ok .next) s')
 (f7 : qz.length = k) (I4 : Inv (ff X nm fn scope cl C s2 H2 fp (X.pn ++ pins)) [] (qz ++ ρ) H2 { s2 with heap := h1, toks := tk }) (keep : ∀ b o, s2.heap.get? b = some o -> h1.get? b = some o)
 (hD : h1.get? D = some { cls := .type "list", data := .seq ([] : List Value).toArray 0 }) (eD : s2.heap.objs.size = D) (eC : s2.heap.objs.size + 1 = C)
 (xJ : ∀ y c, cl.lookup y = some c -> c ≠ D /\ ∀ b ∈ fp, c ≠ b) :
 codeAny (model X.prog X.w) X.A (.compStart (.ListComp elt [⟨tg, iter, ifs, 0⟩] scope pos) 0 (.ref it) (.ref D) (compEnvC scope cl C X.env)) (RR (.ref D) C) { s2 with heap := h1, toks := tk } := by
 obtain ⟨W, ⟨m0, w0⟩, turn⟩ := h
 have i6 : D ≠ C := by walk_at "om"
 have jX : s2.heap.objs.size <= C := by walk_at "om"
 have lG : s2.heap.objs.size <= D := by walk_at "om"
 have i7 : ∀ b ∈ fp, b < D := fun b hb => by
  obtain ⟨o, e, _⟩ := T.obj 0 _ eT b hb
  exact eD ▸ Heap.lt_size e
 have EJ : ∀ b, D <= b -> b ∉ aN X.stack := fun b hle z => by
  rcases List.mem_cons.mp (I2.jJ b z) with q | q
  ·have := I2.lt; walk_at "om"
  ·exact I2.vt (eD ▸ hle) q
 have qB := xI I2 f2 jX lG
 have xK : tn 0 h1 := T.keep 0 _ _ eT fun b _ o e => keep b o e
 have qC : ∀ (H' : Hp) (o : Obj), (∀ b ∈ fp, H' b = none) -> ∀ b ∈ fp, dj (ff X nm fn scope cl C s2 H2 fp (X.pn ++ pins)) [(D, o)] H' b := fun H' o hn b hb => by
  obtain ⟨_, d1, d2, d3, d4, d5⟩ := f2 b hb
  have lt := i7 b hb
  refine ⟨hn b hb, ?_, fun z => ?_, .inl hb, fun y c e z => (xJ y c e).2 b hb z, fun p hp => ?_⟩
  ·show b ≠ C
   walk_at "om"
  ·rcases List.mem_cons.mp (I2.jJ b z) with q | q
   ·exact d1 q
   ·exact d2 q
  ·have jY : p ∈ (X.pn ++ pins) ++ [(D, o)] := hp
   rcases List.mem_append.mp jY with z | z
   ·exact d5 p z
   ·have : p = (D, o) := by simpa using z
    subst this
    show D ≠ b
    walk_at "om"
 have loop : ∀ s' : Shared, s' = { s2 with heap := h1, toks := tk } ->
  codeAny (model X.prog X.w) X.A (.compLoop (.ListComp elt [⟨tg, iter, ifs, 0⟩] scope pos) 0 (.ref it) (.ref D) (compEnvC scope cl C X.env)) (RR (.ref D) C) s' := by
  rintro s' rfl
  refine EE (fun n s' => ∃ i zs H' os aj nn, os.length = k /\ Inv (ff X nm fn scope cl C s2 H2 fp (X.pn ++ pins)) [] (os ++ ρ) H' s' /\ tn i s'.heap /\ (∀ b ∈ fp, H' b = none) /\ H' D = none /\
   s'.heap.get? D = some { cls := .type "list", data := .seq (aj : List Value).toArray nn } /\ Vals zs aj /\ W i n zs H') ?_ m0 ⟨0, [], H2, qz, [], 0, f7, I4, xK, fun b hb => (f2 b hb).1, I2.av.fresh lG, hD, .nil, w0⟩
  rintro n s3 ⟨i, zs, H3, xM, aj, nn, EK, I3, lb, lg, qD, EL, r3, w3⟩
  have xN : Inv (ff X nm fn scope cl C s2 H2 fp (X.pn ++ pins)) [(D, { cls := .type "list", data := .seq aj.toArray nn })] (xM ++ ρ) H3 s3 := I3.k4 fun p hp => by
   have : p = (D, { cls := .type "list", data := .seq aj.toArray nn }) := by simpa using hp
   subst this
   exact ⟨EL, qD, i6, EJ D (Nat.le_refl _), fun v z => nomatch z⟩
  rcases turn i n zs H3 w3 with ⟨stop, hlen, q⟩ | ⟨go, hlen, N, xO, step⟩
  ·refine wpAny_mono (T.done (ff X nm fn scope cl C s2 H2 fp (X.pn ++ pins)) rfl rfl rfl hc i _ s3 _ H3 (fun _ _ => False) xN (qC H3 _ lg) lb stop) (fun r s4 ⟨hr, J4⟩ => ?_) fun _ _ z => z.elim
   subst hr
   have un := J4.base
   have EM : ∀ b o, s2.heap.get? b = some o -> b ≠ D := fun b o e => by have := Heap.lt_size e; walk_at "om"
   have i8 : ∀ b u, H3 b = some u -> b ≠ D := fun b u e z => by rw [z, qD] at e; cases e
   refine qA D C s4 (upd H3 D (.lst zs)) ?_ ?_ ?_ (q D qD)
   ·refine I2.Ci (ch := fp) J4.os ⟨un.keep, un.slot, fun b o e nn hx => ?_, un.there, fun b xs e => ?_, fun b o u e => ?_, fun b ps e => ?_⟩ (fun a o e => ?_) J4.bare fun b hb => ?_
    ·rw [aG (EM b o e)]; exact un.free b o e nn hx
    ·have := un.c8 b xs e; rw [aG (i8 b _ this)]; exact this
    ·have := un.di b o u e; rw [aG (i8 b _ this)]; exact this
    ·obtain ⟨more, this⟩ := un.dB b ps e
     exact ⟨more, by rw [aG (i8 b _ this)]; exact this⟩
    ·by_cases ha : a = D
     ·subst ha
      rw [ah] at e; cases e
      exact ⟨hlen, aj, nn, r3, (J4.pin (a, _) (List.mem_append_right _ (List.mem_singleton.mpr rfl))).1⟩
     ·rw [aG ha] at e
      exact (J4.av a o e).stay (fun _ _ _ z => z) (fun b z => by rw [aG (i8 b _ z)]; exact z) fun b xs z => by rw [aG (i8 b _ z)]; exact z
    ·obtain ⟨_, d1, d2, d3, d4, d5⟩ := f2 b hb
     exact ⟨d3, d1, d4, d5⟩
   ·obtain ⟨m, hm, _⟩ := J4.loc
    exact ⟨m, hm⟩
   ·exact I2.jO jX (by rw [aG (Ne.symm i6)]; exact J4.free)
  ·refine wpAny_mono (T.item (ff X nm fn scope cl C s2 H2 fp (X.pn ++ pins)) rfl rfl rfl hc i _ s3 _ H3 (fun _ _ => False) xN (qC H3 _ lg) lb go) (fun r s4 ⟨u, hr, h4⟩ => ?_) fun _ _ z => z.elim
   subst hr
   refine wpAny_mono h4 (fun _ s5 ⟨y5, H5, I5, r5, yl, iP, pZ⟩ => ?_) fun _ _ z => z.elim
   have p4 := I5.pinned (qC H5 _ pZ) (T.obj _ _ iP)
   refine wpAny_mono (hg _ s5 _ H5 y5 u _ p4 r5 (step xM EK y5 H5 yl)) (fun _ s6 ⟨σ6, H6, I6, n5, xP, e6, q6⟩ => ?_) fun _ _ z => z.elim
   subst e6
   have after : ∀ (s7 : Shared) (H7 : Hp), Inv (ff X nm fn scope cl C s2 H2 fp (X.pn ++ pins)) ([(D, { cls := .type "list", data := .seq aj.toArray nn })] ++ k9 fp s5.heap) (n5 ++ ρ) H7 s7 ->
    Inv (ff X nm fn scope cl C s2 H2 fp (X.pn ++ pins)) [] (n5 ++ ρ) H7 s7 /\ tn (i + 1) s7.heap /\ (∀ b ∈ fp, H7 b = none) /\ H7 D = none /\ s7.heap.get? D = some { cls := .type "list", data := .seq aj.toArray nn } := fun s7 H7 I7 => by
    have pD := I7.pin (D, { cls := .type "list", data := .seq aj.toArray nn }) (List.mem_append_right _ (List.mem_append_left _ (List.mem_singleton.mpr rfl)))
    refine ⟨I7.k4 fun p hp => absurd hp (by simp), T.keep _ _ _ iP fun b hb o e => (I7.pin (b, o) (List.mem_append_right _ (List.mem_append_right _ (nH hb e)))).1, fun b hb => ?_, pD.2.1, pD.1⟩
    obtain ⟨o, e, _⟩ := T.obj _ _ iP b hb
    exact (I7.pin (b, o) (List.mem_append_right _ (List.mem_append_right _ (nH hb e)))).2.1
   refine wpAny_mono (hb.1 _ s6 _ H6 _ I6 q6) (fun ok s7 ⟨H7, I7, q7⟩ => ?_) fun _ _ z => z.elim
   dsimp only at q7
   by_cases av : ok = true
   ·rw [if_pos av] at q7 ⊢
    refine wpAny_mono (hb.2 _ s7 _ H7 _ I7 q7) (fun yv s8 ⟨y8, H8, I8, r8, n8⟩ => ?_) fun _ _ z => z.elim
    obtain ⟨m', qE, w8⟩ := xO _ _ n8
    obtain ⟨J8, EN, EO, xQ, qF⟩ := after s8 H8 I8
    have hl := r3.length
    refine call_meets F.slot_list_append ⟨_, qF, rfl⟩ F.entry_list_append (F.args_list_append_2 _ _) (PySem.list_append D aj.toArray nn yv (by rw [List.size_toArray]; walk_at "om")) ⟨qF, ?_⟩
    have xR := PySem.IsL.update qF (fun a => a.push yv)
    rw [List.push_toArray] at xR
    refine ⟨m', qE, i + 1, zs ++ [y8], H8, n5, aj ++ [yv], _, xP, J8.turned (it := D) (fun b o dm e => (Heap.get?_update_other _ _ (Ne.symm dm)).trans e) xQ i6 (.inr lG) (fun y c e z => ?_) (fun p hp => ?_), T.keep _ _ _ EN fun b dm o e => ?_, EO, xQ, xR, r3.append (.cons r8 .nil), w8⟩
    ·exact (xJ y c e).1 z
    ·have jY : p ∈ X.pn ++ pins := by
      have : p ∈ (X.pn ++ pins) ++ [] := hp
      simpa using this
     exact (qB p jY).2.1
    ·have := i7 b dm
     exact (Heap.get?_update_other _ _ (by walk_at "om")).trans e
   ·rw [if_neg av] at q7 ⊢
    obtain ⟨m', qE, w7⟩ := xO _ _ q7
    obtain ⟨J7, ER, ES, ET, EU⟩ := after s7 H7 I7
    exact ⟨m', qE, i + 1, zs, H7, n5, aj, nn, xP, J7, ER, ES, ET, EU, r3, w7⟩
 exact codeAny_compStart_list (loop _ rfl) (T.self X.A 0 _ _ _ xK (loop _ rfl))
theorem xS {J : It} {fp : List Addr} {it : Addr} {tn : Nat -> Heap -> Prop} {E : Value -> Shared -> Prop} {Q : VK} {RR : Value -> Addr -> Result -> Shared -> Prop}
 (S : lF X own scope cl fr ys) (hc : X.calm = true) (hg : ∀ (C : Addr) (s : Shared) (H : Hp) (ex : List Addr) (pn : List (Addr × Obj)), PG (cY X (own ++ ys) scope cl C s H ex pn) tg g)
 (hb : ∀ (C : Addr) (s : Shared) (H : Hp) (ex : List Addr) (pn : List (Addr × Obj)), i4 (cY X (own ++ ys) scope cl C s H ex pn) ifs tt /\ PE (cY X (own ++ ys) scope cl C s H ex pn) elt te)
 (I2 : Inv X pins σ H2 s2) (T : Turn X.prog X.w X.K tg J fp it tn) (eT : tn 0 s2.heap) (f2 : ∀ b ∈ fp, dj X pins H2 b)
 (h : jW own.length J g (fr.map fun j => (σ[j]?).join) tt te H2 Q)
 (qA : ∀ D C s' H', Inv X pins σ H' s' -> (∃ m, s'.heap.Ns C m) -> dj X pins H' C -> Q (.ref D) H' -> RR (.ref D) C (.ok .next) s') :
 wpAny (model X.prog X.w) X.A (newList []) (fun acc s3 => wpAny (model X.prog X.w) X.A (newFunctionEnv scope X.env.globals cl [] X.env.qual none .none (some X.env)) (fun xT s4 =>
  codeAny (model X.prog X.w) X.A (.compStart (.ListComp elt [⟨tg, iter, ifs, 0⟩] scope pos) 0 (.ref it) acc { xT with scope := relabel scope X.env }) (RR acc xT.locals) s4) E s3) E s2 := by
 refine wpAny_newObj_type (wpAny_newFunctionEnv (fun y hy => by simpa using List.all_eq_true.mp S.nocell y hy) (fun y hy => absurd hy (by simp)) (fun h1 iZ lH => ?_) S.kind)
 dsimp only at iZ lH ⊢
 generalize eP : s2.heap.push { cls := .type "list", dict := none, data := .seq ([] : List Value).toArray } = P2 at iZ lH ⊢
 have sz : P2.objs.size = s2.heap.objs.size + 1 := by rw [<- eP, Heap.size_push]
 have i6 : s2.heap.objs.size ≠ P2.objs.size := by walk_at "om"
 have keep : ∀ b o, s2.heap.get? b = some o -> h1.get? b = some o := fun b o e => by
  have lt := Heap.lt_size e
  exact lH.extBut b o (by walk_at "om") (Heap.get?_push_of_some _ (eP ▸ Heap.get?_push_of_some _ e))
 have hD : h1.get? s2.heap.objs.size = some { cls := .type "list", data := .seq ([] : List Value).toArray 0 } :=
  lH.extBut _ _ i6 (Heap.get?_push_of_some _ (eP ▸ Heap.get?_push_size _ rfl))
 generalize eC : P2.objs.size = C at iZ lH i6 ⊢
 generalize eD : s2.heap.objs.size = D at i6 hD
 have jX : s2.heap.objs.size <= C := by walk_at "om"
 have lG : s2.heap.objs.size <= D := by walk_at "om"
 have i7 : ∀ b ∈ fp, b < s2.heap.objs.size := fun b hb => by
  obtain ⟨o, e, _⟩ := T.obj 0 _ eT b hb
  exact Heap.lt_size e
 have EV : (cY X (own ++ ys) scope cl C s2 H2 fp (X.pn ++ pins)).Ok := EG S I2 f2 jX (fun b hb => by have := i7 b hb; walk_at "om")
 have qB := xI I2 f2 jX lG
 have I4 : Inv (cY X (own ++ ys) scope cl C s2 H2 fp (X.pn ++ pins)) [] ((own.map fun _ => none) ++ fr.map fun j => (σ[j]?).join) H2 { s2 with heap := h1, toks := s2.toks + ([] : List (Str × Value)).length } := by
  refine ⟨EV, rfl, I2.bare, Un.kept keep, ⟨_, iZ, fun i y v e1 e2 e3 => ?_⟩, fun y c e => ?_, I2.av.fresh jX, fun y c e => I2.fz y c (S.cls.get y c e), fun p hp => ?_, I2.av.kept keep, ?_⟩
  ·by_cases hio : i < own.length
   ·rw [List.getElem?_append_left (by simpa using hio)] at e2
    simp [hio] at e2
   ·rw [List.getElem?_append_right (by simp; lia)] at e2
    have xU : ys[i - own.length]? = some y := by
     have : (own ++ ys)[i]? = some y := e1
     rwa [List.getElem?_append_right (by lia)] at this
    rw [List.length_map] at e2
    obtain ⟨j, c, hN, hσ, hk, EW, EX⟩ := S.aN.get (i - own.length) y v xU e2
    obtain ⟨m, hm, hl⟩ := I2.loc
    obtain ⟨u, ru, lu⟩ := hl j y v hN hσ (.inr (.inl hk))
    refine ⟨u, ru, .inr ⟨.inl ?_, c, EW, ?_⟩⟩
    ·have z := List.all_eq_true.mp S.kfr y (List.mem_of_getElem? xU)
     exact (by simpa using z : (relabel scope X.env).names.lookup y = some .cell)
    ·rcases lu with ⟨z, _⟩ | ⟨_, c', e', q'⟩
     ·rw [hk] at z; cases z
     ·rw [EX] at e'; cases e'
      obtain ⟨o, ho, hd⟩ := q'
      exact ⟨o, keep _ _ ho, hd⟩
  ·obtain ⟨v, o, ho, hd⟩ := I2.cell y c (S.cls.get y c e)
   exact ⟨v, o, keep _ _ ho, hd⟩
  ·have jY : p ∈ X.pn ++ pins := by
    have : p ∈ (X.pn ++ pins) ++ [] := hp
    simpa using this
   obtain ⟨e, n, _, _, d⟩ := I2.pin p jY
   obtain ⟨p1, _, p3, _⟩ := qB p jY
   exact ⟨keep _ _ e, n, p1, p3, d⟩
  ·show ((own.map fun _ => (none : Option V)) ++ fr.map fun j => (σ[j]?).join).length = (own ++ ys).length
   simp [S.aN.len]
 refine EI hc (hg C s2 H2 fp (X.pn ++ pins)) (hb C s2 H2 fp (X.pn ++ pins)) I2 T eT f2 h qA (by simp) I4 keep hD eD (sz.symm.trans eC) fun y c e => ?_
 obtain ⟨v, o, ho, _⟩ := I2.cell y c (S.cls.get y c e)
 have := Heap.lt_size ho
 exact ⟨by walk_at "om", fun b hb z => (f2 b hb).2.2.2.2.1 y c (S.cls.get y c e) z⟩
theorem EY {wi : TI} {B : L2.St -> It -> Hp -> VK -> Prop} (S : lF X own scope cl fr ys) (hc : X.calm = true) (hi : PI X tg iter wi) (hg : ∀ (C : Addr) (s : Shared) (H : Hp) (ex : List Addr) (pn : List (Addr × Obj)), PG (cY X (own ++ ys) scope cl C s H ex pn) tg g)
 (hb : ∀ (C : Addr) (s : Shared) (H : Hp) (ex : List Addr) (pn : List (Addr × Obj)), i4 (cY X (own ++ ys) scope cl C s H ex pn) ifs tt /\ PE (cY X (own ++ ys) scope cl C s H ex pn) elt te)
 (hB : ∀ ρ J H Q, B ρ J H Q -> jW own.length J g ρ tt te H Q) (hs : ∀ z, foldedSetIterable iter X.env z = pure z := by intro _; rfl) : PE X (.ListComp elt [⟨tg, iter, ifs, 0⟩] scope pos) (fun σ H Q => wi σ H fun J H1 => B (fr.map fun j => (σ[j]?).join) J H1 Q) := by
 intro pins s σ H Q I h
 rw [eval_ListComp]
 refine wpAny_comprehension_free (use := none) rfl hs S.clos S.kind (fun y hy hl => ?_) (aw (hi pins s σ H _ I h) fun xv s1 h1 => aw h1 fun nD s2 h2 => ?_)
 ·have z := List.all_eq_true.mp S.names y hy
  rw [hl] at z
  simpa using z
 ·obtain ⟨it, fp, tn, J, H2, rfl, I2, T, eT, f2, qG⟩ := h2
  refine xS (RR := fun acc C => compPost (model X.prog X.w) X.A X.xe none (EP X pins σ Q) acc C) S hc hg hb I2 T eT f2 (hB _ _ _ _ qG) fun D C s' H' J' hn fC q => ?_
  obtain ⟨m, hm⟩ := hn
  obtain ⟨c0, c1, c2, c3, c4, c5⟩ := fC
  exact ⟨m, hm, fun h' sb => ⟨.ref D, H', J'.turned (it := C) (fun b o hb e => sb.extBut b o hb e) c0 c1 c3 c4 c5, rfl, q⟩⟩
theorem EZ {wi : TI} {B : L2.St -> It -> Hp -> VK -> Prop} {y : Str} {py lI : Pos} {i : Nat} (S : lF X own scope cl fr ys) (hc : X.calm = true) (hN : X.N.Nodup) (hy : X.N[i]? = some y) (hl : X.env.scope.names.lookup y = some .local) (hi : PI X tg iter wi) (hg : ∀ (C : Addr) (s : Shared) (H : Hp) (ex : List Addr) (pn : List (Addr × Obj)), PG (cY X (own ++ ys) scope cl C s H ex pn) tg g)
 (hb : ∀ (C : Addr) (s : Shared) (H : Hp) (ex : List Addr) (pn : List (Addr × Obj)), i4 (cY X (own ++ ys) scope cl C s H ex pn) ifs tt /\ PE (cY X (own ++ ys) scope cl C s H ex pn) elt te)
 (hB : ∀ ρ J H Q, B ρ J H Q -> jW own.length J g ρ tt te H Q) (qH : swapsWith (.ListComp elt [⟨tg, iter, ifs, 0⟩] scope pos) (some (.Name y py)) lI.line X.env = pure true := by rfl)
 (hs : ∀ z, foldedSetIterable iter X.env z = pure z := by intro _; rfl) : PS X (.Assign [.Name y py] (.ListComp elt [⟨tg, iter, ifs, 0⟩] scope pos) lI) (qy i fun σ H Q => wi σ H fun J H1 => B (fr.map fun j => (σ[j]?).join) J H1 Q) := by
 intro pins s σ H Dn I h
 rw [exec_Assign_Name_used _ _ _ _ qH]
 refine wpAny_bind (wpAny_standAt (wpAny_bind ?_))
 show wpAny _ X.A (do let _ <- comprehension (.ListComp elt [⟨tg, iter, ifs, 0⟩] scope pos) scope X.env _ (newList []) false (eval iter X.env) (some (assign (.Name y py) X.env))) _ _ s
 refine wpAny_bind (aw (wpAny_comprehension_free (use := some (assign (.Name y py) X.env)) (Q := fun _ s' => SP X pins Dn .next s') rfl hs S.clos S.kind (fun z hz hl => ?_) (aw (hi pins s σ H _ I h) fun xv s1 h1 => aw h1 fun nD s2 h2 => ?_)) fun _ s' hq => wpAny_pure (wpAny_pure hq))
 ·have z' := List.all_eq_true.mp S.names z hz
  rw [hl] at z'
  simpa using z'
 ·obtain ⟨it, fp, tn, J, H2, rfl, I2, T, eT, f2, qG⟩ := h2
  refine xS (RR := fun acc C => compPost (model X.prog X.w) X.A X.xe (some (assign (.Name y py) X.env)) (fun _ s' => SP X pins Dn .next s') acc C) S hc hg hb I2 T eT f2 (hB _ _ _ _ qG) fun D C s' H' J' hn fC q => ?_
  obtain ⟨m, oC, es, ep, ho, hd, hr⟩ := hn
  obtain ⟨c0, c1, c2, c3, c4, c5⟩ := fC
  have J2 : Inv X (pins ++ [(C, oC)]) σ H' s' := J'.k4 fun p hp => by
   rcases List.mem_append.mp hp with z | z
   ·exact J'.pin p (List.mem_append_right _ z)
   ·have : p = (C, oC) := by simpa using z
    subst this
    exact ⟨ho, c0, c1, c2, fun v z => by rw [hd] at z; cases z⟩
  show wpAny _ X.A (assign (.Name y py) X.env (.ref D)) _ _ _
  refine aw (pR (X := X) hN hy (.inl hl) (.inr hl) _ s' σ H' (.ref D) (.ref D) (fun σ' lJ => σ' = σ.set i (some (.ref D)) /\ lJ = H') J2 rfl ⟨rfl, rfl⟩) fun _ s3 ⟨σ3, H3, J3, e1, e2⟩ => ?_
  subst e1 e2
  obtain ⟨pc, MV, _⟩ := J3.pin (C, oC) (List.mem_append_right _ (List.mem_append_right _ (List.mem_singleton.mpr rfl)))
  refine ⟨m, ⟨oC, es, ep, pc, hd, hr⟩, fun h' sb => ⟨_, H3, J3.nI.turned (it := C) (fun b o hb e => sb.extBut b o hb e) c0 c1 c3 c4 c5, q⟩⟩
end
theorem xV {J : It} {ρ : L2.St} {tt : TT} {te : TE} {H : Hp} {Q : VK} (h : lE J ρ tt te H Q) : jW 1 J (fY 0) ρ tt te H Q := by
 obtain ⟨W, w0, turn⟩ := h
 refine ⟨W, w0, fun i m ys H hw => (turn i m ys H hw).imp id fun ⟨a, b, N, hN, st⟩ => ⟨a, b, N, hN, fun os ho x H' y => ?_⟩⟩
 match os, ho with
 | [_], _ => exact ⟨[some x], rfl, rfl, st x H' y⟩
section
variable {X : Cx} {x : Str} {px pos : Pos} {elt iter : Expr} {ifs : List Expr} {scope : Scope} {cl : List (Str × Addr)} {fr : List Nat} {ys : List Str} {tt : TT} {te : TE}
theorem i3.g (S : i3 X x scope cl fr ys) : lF X [x] scope cl fr ys := ⟨S.clos, S.nocell, S.kind, S.names, S.kinds, S.cls, S.aN, S.kfr⟩
theorem i3.pg (S : i3 X x scope cl fr ys) (C : Addr) (s : Shared) (H : Hp) (ex : List Addr) (pn : List (Addr × Obj)) : PG (cY X ([x] ++ ys) scope cl C s H ex pn) (.Name x px) (fY 0) :=
 pR (X := cY X (x :: ys) scope cl C s H ex pn) (i := 0) S.nd rfl (.inl (lookup_relabel_local S.own)) (.inr (lookup_relabel_local S.own))
theorem jZ {wi : TI} (S : i3 X x scope cl fr ys) (hc : X.calm = true) (hi : PI X (.Name x px) iter wi)
 (hb : ∀ (C : Addr) (s : Shared) (H : Hp) (ex : List Addr) (pn : List (Addr × Obj)), i4 (cY X (x :: ys) scope cl C s H ex pn) ifs tt /\ PE (cY X (x :: ys) scope cl C s H ex pn) elt te)
 (hs : ∀ z, foldedSetIterable iter X.env z = pure z := by intro _; rfl) : PE X (.ListComp elt [⟨.Name x px, iter, ifs, 0⟩] scope pos) (qx wi fr tt te) := EY (B := fun ρ J H Q => lE J ρ tt te H Q) S.g hc hi S.pg hb (fun _ _ _ _ h => xV h) hs
theorem E1 {wi : TI} {y : Str} {py lI : Pos} {i : Nat} (S : i3 X x scope cl fr ys) (hc : X.calm = true) (hN : X.N.Nodup) (hy : X.N[i]? = some y) (hl : X.env.scope.names.lookup y = some .local) (hi : PI X (.Name x px) iter wi)
 (hb : ∀ (C : Addr) (s : Shared) (H : Hp) (ex : List Addr) (pn : List (Addr × Obj)), i4 (cY X (x :: ys) scope cl C s H ex pn) ifs tt /\ PE (cY X (x :: ys) scope cl C s H ex pn) elt te)
 (qH : swapsWith (.ListComp elt [⟨.Name x px, iter, ifs, 0⟩] scope pos) (some (.Name y py)) lI.line X.env = pure true := by rfl)
 (hs : ∀ z, foldedSetIterable iter X.env z = pure z := by intro _; rfl) : PS X (.Assign [.Name y py] (.ListComp elt [⟨.Name x px, iter, ifs, 0⟩] scope pos) lI) (qy i (qx wi fr tt te)) := EZ (B := fun ρ J H Q => lE J ρ tt te H Q) S.g hc hN hy hl hi S.pg hb (fun _ _ _ _ h => xV h) qH hs
end
def i9 (Ok : Hp -> Prop) (ρ : L2.St) (tt : TT) (te : TE) : List V -> List V -> Hp -> (List V -> Hp -> Prop) -> Prop
 | [], ys, H, Q => Ok H /\ Q ys H
 | x :: r, ys, H, Q => Ok H /\ tt (some x :: ρ) H fun b H1 => if b = true then te (some x :: ρ) H1 fun y H2 => i9 Ok ρ tt te r (ys ++ [y]) H2 Q else i9 Ok ρ tt te r ys H1 Q
structure n6 (J : It) (Ok : Hp -> Prop) (xs : List V) : Prop where
 go : ∀ i H x, Ok H -> xs[i]? = some x -> J.go i H
 yld : ∀ i H x H', Ok H -> J.yld i H x H' -> H' = H /\ (i < xs.length -> xs[i]? = some x)
 stop : ∀ i H, Ok H -> xs.length <= i -> J.stop i H
section
variable {J : It} {Ok : Hp -> Prop} {xs : List V} {ρ : L2.St} {tt : TT} {te : TE} {H : Hp} {Q : VK} {K : PySem.W.Frag} {a : Addr}
theorem ja (O : n6 J Ok xs) (hn : xs.length <= sizeLine) (h : i9 Ok ρ tt te xs [] H fun ys H' => ∀ l, H' l = none -> Q (.ref l) (upd H' l (.lst ys))) : lE J ρ tt te H Q := by
 refine ⟨fun i m ys H => m = xs.length - i /\ i <= xs.length /\ ys.length <= i /\ i9 Ok ρ tt te (xs.drop i) ys H fun ys H' => ∀ l, H' l = none -> Q (.ref l) (upd H' l (.lst ys)), ⟨_, rfl, Nat.zero_le _, Nat.le_refl _, h⟩, ?_⟩
 rintro i m ys H ⟨rfl, hi, hy, g⟩
 by_cases cp : i < xs.length
 ·have e := List.drop_eq_getElem_cons cp
  rw [e] at g
  obtain ⟨g0, g1⟩ := g
  refine .inr ⟨O.go i H _ g0 (List.getElem?_eq_getElem cp), by walk_at "om", fun zs H' => zs.length <= i + 1 /\ i9 Ok ρ tt te (xs.drop (i + 1)) zs H' fun ys H' => ∀ l, H' l = none -> Q (.ref l) (upd H' l (.lst ys)), fun zs H' q => ⟨_, by walk_at "om", rfl, cp, q.1, q.2⟩, fun x H' y => ?_⟩
  obtain ⟨rfl, ex⟩ := O.yld i H x H' g0 y
  have ex := ex cp
  rw [List.getElem?_eq_getElem cp] at ex
  cases ex
  have l1 : ∀ y : V, (ys ++ [y]).length <= i + 1 := fun y => by rw [List.length_append, List.length_singleton]; walk_at "om"
  have l2 : ys.length <= i + 1 := by walk_at "om"
  simp only [l1, l2, true_and]
  exact g1
 ·have e : i = xs.length := by walk_at "om"
  subst e
  rw [List.drop_length] at g
  exact .inl ⟨O.stop _ H g.1 (Nat.le_refl _), by walk_at "om", g.2⟩
theorem qI : n6 (gD K a) (fun H => ar K H a xs) xs :=
 ⟨fun _ _ _ h e => ⟨xs, _, h, e⟩, fun _ _ _ _ h y => ⟨y.1, fun _ => y.2 xs h⟩, fun _ _ h hi => ⟨xs, h, hi⟩⟩
theorem qJ {lo : Int} {n : Nat} : n6 (eS lo n) (fun _ => True) ((List.range n).map fun k => V.int (lo + (k : Nat))) :=
 ⟨fun i _ _ _ e => by
  have := (List.getElem?_eq_some_iff.mp e).1
  show i < n
  simpa using this, fun i _ _ _ _ y => ⟨y.1, fun hi => by
   have lK : i < n := by simpa using hi
   rw [y.2, List.getElem?_map, List.getElem?_range lK]; rfl⟩, fun i _ _ hi => by
   show n <= i
   simpa using hi⟩
theorem qK {p : V -> Bool} {f : V -> V} {Q' : List V -> Hp -> Prop} (gg : Ok H) : ∀ {xs ys : List V}, (∀ x ∈ xs, ∀ Q, Q (p x) H -> tt (some x :: ρ) H Q) -> (∀ x ∈ xs, p x = true -> ∀ Q, Q (f x) H -> te (some x :: ρ) H Q) -> Q' (ys ++ (xs.filter p).map f) H -> i9 Ok ρ tt te xs ys H Q'
 | [], ys, _, _, q => ⟨gg, by simpa using q⟩
 | x :: r, ys, ht, he, q => by
  refine ⟨gg, ht x (.head _) _ ?_⟩
  by_cases hb : p x = true
  ·rw [if_pos hb]
   refine he x (.head _) hb _ (qK gg (fun y hy => ht y (.tail _ hy)) (fun y hy => he y (.tail _ hy)) ?_)
   rw [List.filter_cons, if_pos hb] at q
   simpa using q
  ·rw [if_neg hb]
   refine qK gg (fun y hy => ht y (.tail _ hy)) (fun y hy => he y (.tail _ hy)) ?_
   rw [List.filter_cons, if_neg hb] at q
   exact q
end
section
variable {X : Cx} {K : PySem.W.Frag}
theorem E2 (h : X.K = K) : fE X (iX K) := h ▸ w4
end
end Gz
namespace Gz
open PySem PySem.Spec PyProof.Rows L2
local macro_rules | `(tactic| walk_at "om") => `(tactic| ((try simp only [PySem.Addr] at *); lia))
section
set_option hygiene false
local macro_rules | `(tactic| walk_at "mm1") => `(tactic| (
 have nS : S ∉ wr := fun z => hS (W.sub _ z)
 intro k
 induction k with
 | zero =>
  intro j s vb c e st pb oS fin
  have e' : j + 1 = n := by walk_at "om"
  refine codeAny_builtin e1 ?_
  rw [Around.under_plainId e2 _]
  show wpAny _ A.in1 (seqItems? (.ref S) >>= _) _ _ s
  refine wpAny_bind (wpAny_seqItems oS rfl ?_)
  show wpAny _ A.in1 (tryCatch (pyNext (.ref I)) _ >>= _) _ _ s
  refine wpAny_bind (wpAny_tryCatch (W.done s _ _ (e' ▸ st) fun h1 tk kp => ?_))
  have gG := kp S _ nS oS
  show wpAny _ A.in1 (updateSeq S (fun _ => #[]) >>= _) _ _ _
  refine wpAny_bind ?_
  refine wpAny_updateSeq gG rfl (wpAny_bind (wpAny_letGo (wpAny_pure ?_)))
  exact fin vb _ tk (by rw [<- e']; exact pb) fun b o hw hb q => (Heap.get?_update_other _ _ (Ne.symm hb)).trans (kp b o hw q)
 | succ k ih =>
  intro j s vb c e st pb oS fin
  have lt : j + 1 < n := by walk_at "om"
  refine codeAny_builtin e1 ?_
  rw [Around.under_plainId e2 _]
  show wpAny _ A.in1 (seqItems? (.ref S) >>= _) _ _ s
  refine wpAny_bind (wpAny_seqItems oS rfl ?_)
  show wpAny _ A.in1 (tryCatch (pyNext (.ref I)) _ >>= _) _ _ s
  refine wpAny_bind (wpAny_tryCatch (W.item (j + 1) s _ _ lt st fun v h1 tk pv n9 kp => ?_))
  have gG := kp S _ nS oS
  show wpAny _ A.in1 (tryCatch (holding [v, v] (richCompare _ v vb >>= _)) _ >>= _) _ _ _
  refine wpAny_bind (wpAny_tryCatch (wpAny_holding (wpAny_bind (hcmp (j + 1) (argBest bt j) v vb _ _ _ pv pb ?_))))
  refine wpAny_bind (wpAny_holding (wpAny_truthy_bool ?_))
  refine wpAny_bind (wpAny_letGo (wpAny_pure ?_))
  cases hb : bt (j + 1) (argBest bt j) with
  | true =>
   simp only [if_true]
   refine wpAny_bind ?_
   refine wpAny_updateSeq gG rfl (wpAny_bind (wpAny_letGo ?_))
   rw [nm]
   refine wpAny_pure ⟨plainId_quiet e2 _, ih (j + 1) _ v _ (by walk_at "om") (W.frame _ _ _ n9 fun b hf o q => ?_) (by simp only [argBest, hb, if_true]; exact pv) (Heap.get?_update_self _ gG rfl) fun v2 h2 qL p2 k2 => ?_⟩
   ·exact (Heap.get?_update_other _ _ (fun z : S = b => hS (by rw [z]; exact hf))).trans q
   ·exact fin v2 h2 qL p2 fun b o hw oa q => k2 b o hw oa ((Heap.get?_update_other _ _ (Ne.symm oa)).trans (kp b o hw q))
  | false =>
   simp only [Bool.false_eq_true, if_false]
   refine wpAny_bind (wpAny_letGo ?_)
   rw [nm]
   refine wpAny_pure ⟨plainId_quiet e2 _, ih (j + 1) _ vb c (by walk_at "om") n9 (by simp only [argBest, hb, Bool.false_eq_true, if_false]; exact pb) gG fun v2 h2 qL p2 k2 => ?_⟩
   exact fin v2 h2 qL p2 fun b o hw oa q => k2 b o hw oa (kp b o hw q)))
local macro_rules | `(tactic| walk_at "mm2") => `(tactic| (
 show wpAny _ A.in1 (Builtin.Builtins.bindParams _ ["key", "default"] 0 ⟨[], [("default", d)]⟩ >>= _) _ _ s
 refine wpAny_bind (wpAny_of_eq (show Builtin.Builtins.bindParams _ ["key", "default"] 0 ⟨[], [("default", d)]⟩ = pure [none, some d] from rfl) ?_)
 refine wpAny_bind (wpAny_pure ?_)
 refine wpAny_bind (iter_intList hl fun s2 e2 st i7 E3 => ?_)
 subst e2
 refine wpAny_bind (wpAny_newObj_type ?_)
 have W := Walks.list (prog := prog) (w := w) (A := A.in1) hh s.heap.objs.size l E3 (intItems xs)
 generalize eP : (s.heap.push { cls := .type "list_iterator", data := .fields #[.ref l, .int 0 0] }) = P2 at st i7 ⊢
 have qM : P2.objs.size ∉ [s.heap.objs.size, l] := fun z => Nat.lt_irrefl _ (i7 _ z)
 have up : ∀ b o, s.heap.get? b = some o -> b ≠ P2.objs.size /\ b ∉ [s.heap.objs.size] /\ (P2.push { cls := .type "list", dict := none, data := .seq ([] : List Value).toArray }).get? b = some o := fun b o q => by
  have lt := Heap.lt_size q
  have q2 : P2.get? b = some o := by rw [<- eP]; exact Heap.get?_push_of_some _ q
  refine ⟨Nat.ne_of_lt (Heap.lt_size q2), fun z => ?_, Heap.get?_push_of_some _ q2⟩
  have : b = s.heap.objs.size := by simpa using z
  walk_at "om"
 rw [nm]
 refine wpAny_pure ⟨plainId_quiet e2 _, ?_⟩
 have oS : (P2.push { cls := .type "list", dict := none, data := .seq ([] : List Value).toArray }).get? P2.objs.size = some { cls := .type "list", dict := none, data := .seq #[] 0, slots := #[] } := Heap.get?_push_size _ rfl
 have cT := W.frame 0 P2 (P2.push { cls := .type "list", dict := none, data := .seq ([] : List Value).toArray }) st fun b _ o q => Heap.get?_push_of_some _ q
 have nS : P2.objs.size ∉ [s.heap.objs.size] := fun z => qM (by simp at z; simp [z])
 by_cases hz : xs.size = 0
 ·have E4 : (P2.push { cls := .type "list", dict := none, data := .seq ([] : List Value).toArray }).IsListIter s.heap.objs.size l (intItems xs).size /\ (P2.push { cls := .type "list", dict := none, data := .seq ([] : List Value).toArray }).IsList l (intItems xs) := by
   have : (intItems xs).size = 0 := by simpa [intItems] using hz
   rw [this]; exact cT
  refine codeAny_builtin e1 ?_
  rw [Around.under_plainId e2 _]
  show wpAny _ A.in1 (seqItems? (.ref P2.objs.size) >>= _) _ _ _
  refine wpAny_bind (wpAny_seqItems oS rfl ?_)
  show wpAny _ A.in1 (tryCatch (pyNext (.ref s.heap.objs.size)) _ >>= _) _ _ _
  refine wpAny_bind (wpAny_tryCatch (W.done _ _ _ E4 fun h2 tk kp => ?_))
  refine wpAny_bind (wpAny_rule (wpAny_pure ?_))
  exact h0 hz h2 tk fun b o q => kp b o (up b o q).2.1 (up b o q).2.2
 ·have hp : 0 < xs.size := by walk_at "om"
  have hn : 0 < (intItems xs).size := by simpa [intItems] using hp
  refine codeAny_builtin e1 ?_
  rw [Around.under_plainId e2 _]
  show wpAny _ A.in1 (seqItems? (.ref P2.objs.size) >>= _) _ _ _
  refine wpAny_bind (wpAny_seqItems oS rfl ?_)
  show wpAny _ A.in1 (tryCatch (pyNext (.ref s.heap.objs.size)) _ >>= _) _ _ _
  refine wpAny_bind (wpAny_tryCatch (W.item 0 _ _ _ hn cT fun v h2 tk pv n9 kp => ?_))
  have gG := kp _ _ nS oS
  show wpAny _ A.in1 (updateSeq P2.objs.size (fun _ => #[v, v]) >>= _) _ _ _
  refine wpAny_bind ?_
  refine wpAny_updateSeq gG rfl ?_
  rw [nm]
  refine wpAny_pure ⟨plainId_quiet e2 _, e3 W (e4 (numAt xs) (fun _ _ => intItems_at)) qM ((intItems xs).size - 1) 0 _ v _ (by walk_at "om") (W.frame _ _ _ n9 fun b hf o q => ?_) pv (Heap.get?_update_self _ gG rfl) fun v2 h3 E5 p3 k3 => ?_⟩
  ·exact (Heap.get?_update_other _ _ (fun z : P2.objs.size = b => qM (by rw [z]; exact hf))).trans q
  ·refine h1 hp v2 h3 E5 (by simpa [intItems] using p3) fun b o q => ?_
   exact k3 b o (up b o q).2.1 (up b o q).1 ((Heap.get?_update_other _ _ (Ne.symm (up b o q).1)).trans (kp b o (up b o q).2.1 (up b o q).2.2))))
end
noncomputable def j3 : List Int -> Int
 | [] => 0
 | x :: r => r.foldl (fun b y => if y > b then y else b) x
theorem xW : ∀ (r : List Int) (b : Int), b <= r.foldl (fun b y => if y > b then y else b) b /\ (∀ y ∈ r, y <= r.foldl (fun b y => if y > b then y else b) b) /\ (r.foldl (fun b y => if y > b then y else b) b = b ∨ r.foldl (fun b y => if y > b then y else b) b ∈ r)
 | [], b => ⟨Int.le_refl _, fun _ z => (nomatch z), .inl rfl⟩
 | x :: r, b => by
  simp only [List.foldl_cons]
  obtain ⟨h1, h2, h3⟩ := xW r (if x > b then x else b)
  refine ⟨?_, fun y hy => ?_, ?_⟩
  ·refine Int.le_trans ?_ h1; split <;> lia
  ·rcases List.mem_cons.mp hy with rfl | hy
   ·refine Int.le_trans ?_ h1; split <;> lia
   ·exact h2 y hy
  ·rcases h3 with h3 | h3
   ·rw [h3]; split
    ·right; simp
    ·left; rfl
   ·right; exact List.mem_cons_of_mem _ h3
theorem qN {ns : List Int} (h : ns ≠ []) : j3 ns ∈ ns /\ ∀ y ∈ ns, y <= j3 ns := by
 cases ns with
 | nil => exact absurd rfl h
 | cons x r =>
  obtain ⟨h1, h2, h3⟩ := xW r x
  refine ⟨?_, fun y hy => ?_⟩
  ·rcases h3 with h3 | h3
   ·show r.foldl _ x ∈ _
    rw [h3]; exact .head _
   ·exact .tail _ h3
  ·rcases List.mem_cons.mp hy with rfl | hy
   ·exact h1
   ·exact h2 y hy
theorem xX : ∀ {ns : List Int} {aj : List Value}, Vals (ns.map V.int) aj -> ∃ xs : Array (Int × Tok), aj.toArray = intItems xs /\ xs.toList.map (·.1) = ns
 | [], _, .nil => ⟨#[], by simp [intItems], rfl⟩
 | n :: ns, _, .cons (l₂ := aj) r t => by
  obtain ⟨xs, e1, e2⟩ := xX (ns := ns) t
  obtain ⟨tk, rfl⟩ := r
  refine ⟨((n, tk) :: xs.toList).toArray, ?_, ?_⟩
  ·have : aj = xs.toList.map (fun p => Value.int p.1 p.2) := by
    have := congrArg Array.toList e1
    simpa [intItems] using this
   simp [intItems, this]
  ·simp [e2]
theorem E6 {xs : Array (Int × Tok)} {ns : List Int} (e : xs.toList.map (·.1) = ns) {i : Nat} (hi : i < xs.size) : numAt xs i ∈ ns /\ numAt xs i = ns.getD i 0 := by
 subst e
 unfold numAt
 rw [Array.getElem?_eq_getElem hi]
 refine ⟨List.mem_map.mpr ⟨xs[i], by simp, rfl⟩, ?_⟩
 simp [hi]
theorem E7 {xs : Array (Int × Tok)} {ns : List Int} (e : xs.toList.map (·.1) = ns) {y : Int} (hy : y ∈ ns) : ∃ i, i < xs.size /\ numAt xs i = y := by
 subst e
 obtain ⟨p, hp, rfl⟩ := List.mem_map.mp hy
 obtain ⟨i, hi, e⟩ := List.mem_iff_getElem.mp hp
 refine ⟨i, by simpa using hi, ?_⟩
 unfold numAt
 have lK : i < xs.size := by simpa using hi
 rw [Array.getElem?_eq_getElem lK]
 have : xs[i] = p := by simpa using e
 rw [this]; rfl
theorem E8 {xs : Array (Int × Tok)} {ns : List Int} (e : xs.toList.map (·.1) = ns) (h : 0 < xs.size) : numAt xs (argBest (fun i j => decide (numAt xs i > numAt xs j)) (xs.size - 1)) = j3 ns := by
 obtain ⟨h1, h2⟩ := argBest_gt (numAt xs) (xs.size - 1)
 have eE : ns ≠ [] := by
  intro z; subst z
  have q := congrArg List.length e
  rw [List.length_map, Array.length_toList, List.length_nil] at q
  lia
 obtain ⟨m1, m2⟩ := qN eE
 refine Int.le_antisymm (m2 _ (E6 e (by lia)).1) ?_
 obtain ⟨i, hi, ei⟩ := E7 e m1
 rw [<- ei]; exact h2 i (by lia)
section
variable {X : Cx} {e d : Expr} {te td : TE} {p pos kp : Pos}
noncomputable def E9 (f : List Int -> Int) : List Int -> V -> V
 | [], y => y
 | n :: ns, _ => .int (f (n :: ns))
def Fc (K : PySem.W.Frag) (f : List Int -> Int) (te td : TE) : TE := fun σ H Q => te σ H fun x H1 => td σ H1 fun y H2 => ∃ a ns, x = .ref a /\ ar K H2 a (ns.map V.int) /\ Q (E9 f ns y) H2
end
end Gz
namespace Gz
open PySem PySem.Spec PyProof.Rows L2
local macro_rules | `(tactic| walk_at "om") => `(tactic| ((try simp only [PySem.Addr] at *); lia))
section
variable {X : Cx} {pins : List (Addr × Obj)} {σ : L2.St} {H : Hp} {s : Shared} {h' : Heap}
theorem xY {ch : List Addr} (I : Inv X pins σ H s) (k : ∀ b o, b ∉ ch -> s.heap.get? b = some o -> h'.get? b = some o) (hf : ∀ b ∈ ch, dj X pins H b) {H' : Hp} (up : ∀ b u, H b = some u -> H' b = some u) : ∀ b u, H b = some u -> cw X.prog X.w H' h' b u := by
 have gC : ∀ b u, H b = some u -> b ∉ ch := fun b u e z => by rw [(hf b z).1] at e; cases e
 intro b u e
 refine (I.av b u e).stay (fun c v hc q => k c v ?_ q) (fun c q => up c _ q) fun c xs q => up c _ q
 rcases hc with z | z
 ·rw [z]; exact gC b u e
 ·exact gC c _ z
theorem Fd {t' : Nat} {ch : List Addr} (I : Inv X pins σ H s) (k : ∀ b o, b ∉ ch -> s.heap.get? b = some o -> h'.get? b = some o) (hf : ∀ b ∈ ch, dj X pins H b) : Inv X pins σ H { s with heap := h', toks := t' } := by
 refine I.step (g' := s.gens) (d' := s.drawn) (ch := ch) (fun b hb => ?_) (fun b o _ _ hc e _ => k b o hc e) (fun b o _ _ hc e _ => ⟨o.slots, k b o hc e⟩) (fun _ _ _ _ n => n)
  (fun b o hc e => ⟨o, k b o hc e⟩) (fun _ _ e => e) (fun _ _ _ e => e) (fun b ps e => ⟨#[], by rw [e]; simp⟩) (fun m hm => ?_) (fun b u e => xY I k hf (fun _ _ q => q) b u e) I.bare
 ·obtain ⟨_, d1, d2, d3, d4, d5⟩ := hf b hb
  exact ⟨d3, d1, d4, d5⟩
 ·obtain ⟨o, es, ep, ho, r⟩ := hm
  exact ⟨o, es, ep, k _ o (fun z => (hf _ z).2.1 rfl) ho, r⟩
theorem Fe {t' : Nat} {ch : List Addr} {T : Addr} {o : HO} (I : Inv X pins σ H s) (k : ∀ b o, b ∉ ch -> s.heap.get? b = some o -> h'.get? b = some o) (hf : ∀ b ∈ ch, dj X pins H b) (hT : s.heap.objs.size <= T)
 (new : cw X.prog X.w (upd H T o) h' T o) : Inv X pins σ (upd H T o) { s with heap := h', toks := t' } := by
 have hn := I.av.fresh hT
 have neT : ∀ b u, s.heap.get? b = some u -> b ≠ T := fun b u e => Nat.ne_of_lt (Nat.lt_of_lt_of_le (Heap.lt_size e) hT)
 have i8 : ∀ b u, H b = some u -> b ≠ T := fun b u e => gB e hn
 have up : ∀ b u, H b = some u -> upd H T o b = some u := fun b u e => by rw [aG (i8 b u e)]; exact e
 refine I.step (g' := s.gens) (d' := s.drawn) (ch := ch) (fun b hb => ?_) (fun b o _ _ hc e _ => k b o hc e) (fun b o _ _ hc e _ => ⟨o.slots, k b o hc e⟩) (fun b u _ e n => by rw [aG (neT b u e)]; exact n)
  (fun b o hc e => ⟨o, k b o hc e⟩) (fun b xs e => up b _ e) (fun b _ _ e => up b _ e) (fun b ps e => ⟨#[], by rw [up b _ e]; simp⟩) (fun m hm => ?_) (fun b u e => ?_) I.bare
 ·obtain ⟨_, d1, d2, d3, d4, d5⟩ := hf b hb
  exact ⟨d3, d1, d4, d5⟩
 ·obtain ⟨o, es, ep, ho, r⟩ := hm
  exact ⟨o, es, ep, k _ o (fun z => (hf _ z).2.1 rfl) ho, r⟩
 ·by_cases hb : b = T
  ·subst hb; rw [ah] at e; cases e; exact new
  ·rw [aG hb] at e
   exact xY I k hf up b u e
end
noncomputable def xZ (K : PySem.W.Frag) (a : Addr) (n : Nat) : It :=
 ⟨fun i H => ∃ xs x, ar K H a xs /\ xs.length = n /\ xs.reverse[i]? = some x, fun i H x H' => H' = H /\ ∀ xs, ar K H a xs -> xs.length = n -> xs.reverse[i]? = some x, fun i _ => i = n⟩
def x2 (K : PySem.W.Frag) (ta : TA) : TI := fun σ H R => ta σ H fun vs H1 => ∃ a xs, vs = [.ref a] /\ ar K H1 a xs /\ R (xZ K a xs.length) H1
noncomputable def x3 (K : PySem.W.Frag) (a : Addr) : It :=
 ⟨fun i H => ∃ xs x, ar K H a xs /\ xs[i]? = some x, fun i H v H' => ∃ (p : Addr) (x : V), v = .ref p /\ H p = none /\ H' = upd H p (.tup [.int i, x]) /\ ∀ xs, ar K H a xs -> xs[i]? = some x, fun i H => ∃ xs, ar K H a xs /\ xs.length <= i⟩
theorem Ff : 2 <= sizeLine := by decide
def x4 (K : PySem.W.Frag) (ta : TA) : TI := fun σ H R => ta σ H fun vs H1 => ∃ a, vs = [.ref a] /\ (∃ xs, ar K H1 a xs) /\ R (x3 K a) H1
noncomputable def og (K : PySem.W.Frag) (a b : Addr) : It :=
 ⟨fun i H => ∃ xs ys x y, ar K H a xs /\ ar K H b ys /\ xs[i]? = some x /\ ys[i]? = some y, fun i H v H' => ∃ (p : Addr) (x y : V), v = .ref p /\ H p = none /\ H' = upd H p (.tup [x, y]) /\ (∀ xs, ar K H a xs -> xs[i]? = some x) /\ ∀ ys, ar K H b ys -> ys[i]? = some y,
  fun i H => ∃ xs ys, ar K H a xs /\ ar K H b ys /\ (xs.length <= i ∨ ys.length <= i)⟩
theorem Fg {P : Program} {w : World} {K : PySem.W.Frag} {es : List Expr} {k : Nat} {tp : Pos} (a b z TI TO i1 i2 : Addr) (D : ZipApart z TI TO i1 i2 a b) : Turn P w K (.Tuple es k tp) (og K a b) [z, TI, TO, i1, i2] z
 (fun i h => IsZip h z TI TO .none /\ IsPair h TI (.ref i1) (.ref i2) /\ (∃ a b, IsPair h TO a b) /\ h.IsListIter i1 a i /\ h.IsListIter i2 b i) where
 mem := by simp
 obj := fun i h st c hc => by
  obtain ⟨hz, fg, ⟨ta, tb, fK⟩, ⟨o1, h1, c1, d1⟩, ⟨o2, h2, c2, d2⟩⟩ := st
  have iK : c = z ∨ c = TI ∨ c = TO ∨ c = i1 ∨ c = i2 := by simpa using hc
  rcases iK with rfl | rfl | rfl | rfl | rfl
  ·exact ⟨_, hz, fun v q => by
    have q' : Data.fields _ = Data.cell v := q
    cases q'⟩
  ·exact ⟨_, fg, fun v q => by
    have q' : Data.seq _ _ = Data.cell v := q
    cases q'⟩
  ·exact ⟨_, fK, fun v q => by
    have q' : Data.seq _ _ = Data.cell v := q
    cases q'⟩
  ·exact ⟨o1, h1, fun v q => by rw [d1] at q; cases q⟩
  ·exact ⟨o2, h2, fun v q => by rw [d2] at q; cases q⟩
 keep := fun i h h' st kk => by
  obtain ⟨hz, fg, ⟨ta, tb, fK⟩, h1, h2⟩ := st
  exact ⟨kk z (by simp) _ hz, kk TI (by simp) _ fg, ⟨ta, tb, kk TO (by simp) _ fK⟩, h1.at fun o e => kk i1 (by simp) o e, h2.at fun o e => kk i2 (by simp) o e⟩
 item := by
  intro X hP hw hK hc i pins s σ H E I hf st hg
  subst hP hw hK
  obtain ⟨xs, ys, x, y, hqx, hqy, hx, hy⟩ := hg
  obtain ⟨hz, fg, ⟨ta, tb, fK⟩, h1, h2⟩ := st
  obtain ⟨aj, rv, p1, _⟩ := I.list hqx
  obtain ⟨jts, oh, p2, _⟩ := I.list hqy
  obtain ⟨u, hu, ru⟩ := rv.get hx
  obtain ⟨v, hv, Fh⟩ := oh.get hy
  refine wpAny_pyNext_zip_item D hz fg fK h1 h2 p1.isList p2.isList (x := u) (y := v) (by simpa using hu) (by simpa using hv) fun h' z1 t1 l1 l2 pT iT hk => ?_
  refine ⟨_, rfl, wpAny_letOwnedTupleGo_zip z1 fun h3 z3 Fi => ?_⟩
  have j4 : Heap.SameBut z h' h3 := Fi
  have neT : s.heap.objs.size ≠ z := Nat.ne_of_gt (Heap.lt_size hz)
  have up : ∀ b o, b ∉ [z, TI, TO, i1, i2] -> s.heap.get? b = some o -> h3.get? b = some o := fun b o hb q => by
   have dm : b ≠ z /\ b ≠ TI /\ b ≠ TO /\ b ≠ i1 /\ b ≠ i2 := by simpa using hb
   exact j4.extBut b o dm.1 (hk b o dm.1 dm.2.2.1 dm.2.2.2.1 dm.2.2.2.2 q)
  have hn : H s.heap.objs.size = none := I.av.fresh (Nat.le_refl _)
  refine ⟨.ref s.heap.objs.size, upd H s.heap.objs.size (.tup [x, y]), Fe (s := s) (h' := h3) (t' := s.toks) I up hf (Nat.le_refl _) ⟨Ff, [u, v], .cons ru (.cons Fh .nil), ?_⟩, rfl, ⟨_, x, y, rfl, hn, rfl, fun zs qO => by rw [I.pO qO hqx]; exact hx, fun zs qO => by rw [I.pO qO hqy]; exact hy⟩,
   ⟨z3, j4.extBut _ _ D.TIz (hk _ _ D.TIz D.TITO D.TIi1 D.TIi2 fg), ⟨_, _, j4.extBut _ _ D.TOz t1⟩, l1.at fun o q => j4.extBut _ _ D.i1z q, l2.at fun o q => j4.extBut _ _ D.i2z q⟩, fun b hb => ?_⟩
  ·have := j4.extBut _ _ neT pT
   exact ⟨_, this, rfl, _, rfl⟩
  ·rw [aG]
   ·exact (hf b hb).1
   ·have dm : b = z ∨ b = TI ∨ b = TO ∨ b = i1 ∨ b = i2 := by simpa using hb
    rcases dm with rfl | rfl | rfl | rfl | rfl
    ·exact Ne.symm neT
    ·exact Nat.ne_of_lt (Heap.lt_size fg)
    ·exact Nat.ne_of_lt (Heap.lt_size fK)
    ·obtain ⟨o, q, _⟩ := h1
     exact Nat.ne_of_lt (Heap.lt_size q)
    ·obtain ⟨o, q, _⟩ := h2
     exact Nat.ne_of_lt (Heap.lt_size q)
 done := by
  intro X hP hw hK hc i pins s σ H E I hf st hg
  subst hP hw hK
  obtain ⟨xs, ys, hqx, hqy, hx⟩ := hg
  obtain ⟨hz, fg, ⟨ta, tb, fK⟩, h1, h2⟩ := st
  obtain ⟨aj, rv, p1, _⟩ := I.list hqx
  obtain ⟨jts, oh, p2, _⟩ := I.list hqy
  have l1 := rv.length
  have l2 := oh.length
  refine wpAny_pyNext_zip_end (I.ok.hd hc) D hz fg fK h1 h2 p1.isList p2.isList (hx.imp (fun q => by simp; lia) fun q => by simp; lia) fun h' hk => ⟨rfl, Fd (t' := s.toks) I (fun b o hb q => ?_) hf⟩
  have dm : b ≠ z /\ b ≠ TI /\ b ≠ TO /\ b ≠ i1 /\ b ≠ i2 := by simpa using hb
  exact hk b o dm.1 dm.2.2.1 dm.2.2.2.1 dm.2.2.2.2 q
 self := fun _ i s Q E st h => wpAny_pyIter_zip st.1 h
def qP (K : PySem.W.Frag) (ta : TA) : TI := fun σ H R => ta σ H fun vs H1 => ∃ a b, vs = [.ref a, .ref b] /\ (∃ xs, ar K H1 a xs) /\ (∃ ys, ar K H1 b ys) /\ R (og K a b) H1
theorem Fj {X : Cx} {es : List Expr} {k : Nat} {tp : Pos} {e f : Expr} {ta : TA} {p pos : Pos} (hg : Gl X "zip") (hm : X.mg "zip" = none) (ha : PA X [e, f] ta) (hs : starEach [e, f] X.env = (false, eval e X.env) :: starEach [f] X.env := by rfl) (iO : starEach [f] X.env = [(false, eval f X.env)] := by rfl) : PI X (.Tuple es k tp) (.Call (.Name "zip" p) [e, f] [] pos) (qP X.K ta) := by
 intro pins s σ H R I h
 refine Call_ (jM I hg hm D9 (PyProof.Rows.callWith_type1 (aw (ha pos pins s σ H _ I h) fun us s1 ⟨vs, H1, I1, r1, q1⟩ => ?_) hs (by rw [iO]; rfl)))
 obtain ⟨a, b, rfl, ⟨xs, hqx⟩, ⟨ys, hqy⟩, q⟩ := q1
 obtain ⟨u, v, rfl, ru, Fl⟩ := vals2 r1
 cases ru
 cases Fl
 obtain ⟨aj, rv, p1, _⟩ := I1.list hqx
 obtain ⟨jts, oh, p2, _⟩ := I1.list hqy
 have a1 : a < s1.heap.objs.size := by obtain ⟨_, e, _⟩ := p1.isList; exact Heap.lt_size e
 have a2 : b < s1.heap.objs.size := by obtain ⟨_, e, _⟩ := p2.isList; exact Heap.lt_size e
 refine call_zip_2 p1.isList p2.isList fun h' hz fg fK h1 h2 iT hk => ?_
 refine wpAny_pyIter_zip hz ?_
 have I2 : Inv X pins σ H1 { s1 with heap := h' } := I1.kept (t' := s1.toks) hk
 refine ⟨s1.heap.objs.size + 4, [s1.heap.objs.size + 4, s1.heap.objs.size + 2, s1.heap.objs.size + 3, s1.heap.objs.size, s1.heap.objs.size + 1], _, _, H1, rfl, I2, Fg a b _ _ _ _ _ (zipApart_new a1 a2), ⟨hz, fg, ⟨_, _, fK⟩, h1, h2⟩, fun c hc => ?_, q⟩
 have iK : s1.heap.objs.size <= c := by
  simp only [List.mem_cons, List.not_mem_nil, or_false] at hc
  walk_at "om"
 exact I1.jO iK (I1.av.fresh iK)
section
variable {X : Cx}
theorem x5 : ∀ {bs : List Bool} {aj : List Value}, Vals (bs.map V.bl) aj -> aj = bs.map Value.bool
 | [], aj, r => by cases r; rfl
 | b :: bs, aj, r => by
  cases r with
  | cons r1 r2 =>
   cases r1
   rw [x5 r2]; rfl
theorem Fo (hc : X.calm = true) : eU X (.builtin "all") (fun xs H Q => ∃ (a : Addr) (bs : List Bool), xs = [.ref a] /\ ar X.K H a (bs.map V.bl) /\ Q (.bl (bs.all id)) H) := by
 intro pins s σ H xs us Q I r h
 obtain ⟨a, bs, rfl, hS, q⟩ := h
 obtain ⟨u, rfl, ru⟩ := vals1 r
 cases ru
 obtain ⟨aj, rv, hp, _⟩ := I.list hS
 have e := x5 rv
 subst e
 have hl := hp.isList
 have cp : a < s.heap.objs.size := by obtain ⟨_, e, _⟩ := hl; exact Heap.lt_size e
 refine call_all_walk (wpAny_pyIter_list hl ?_)
 refine ⟨s.heap.objs.size, [s.heap.objs.size, a], [s.heap.objs.size], (bs.map Value.bool).toArray.size, _, _, fun i => (bs[i]?).getD true, rfl, Walks.list (A := X.A.in1) (I.ok.hd hc) _ a (Nat.ne_of_lt cp) (bs.map Value.bool).toArray, ⟨⟨_, Heap.get?_push_size _ rfl, rfl, rfl⟩, hl.push _⟩, fun i v s' Q' E' hP hQ => ?_, fun h' tk hk => ?_⟩
 ·have oi : (bs[i]?).map Value.bool = some v := by simpa using hP
  cases e : bs[i]? with
  | none => rw [e] at oi; cases oi
  | some b =>
   rw [e] at oi; cases oi
   simp only [e, Option.getD_some] at hQ
   exact wpAny_truthy_bool hQ
 ·have e : ((List.range (bs.map Value.bool).toArray.size).all fun i => (bs[i]?).getD true) = bs.all id := by
   rw [List.size_toArray, List.length_map]; exact PyProof.Rows.LSm.range_all bs
  rw [e]
  exact ⟨.bl (bs.all id), H, I.kept (fun b o q => hk b o (fun z => by
   have : b = s.heap.objs.size := by simpa using z
   rw [this] at q; exact Nat.lt_irrefl _ (Heap.lt_size q)) (Heap.get?_push_of_some _ q)), rfl, q⟩
end
section
variable {K : PySem.W.Frag} {g : TG} {tb : TS} {D : Ends} {σ : L2.St} {H : Hp} {a b : Addr} {xs ys : List V}
theorem Fp {ta : TA} : fB (x2 K ta) g tb D σ H = ta σ H (fun vs H1 => ∃ a xs, vs = [.ref a] /\ ar K H1 a xs /\ FJ (xZ K a xs.length) g tb D σ H1) := rfl
theorem Fs {ta : TA} : fB (x4 K ta) g tb D σ H = ta σ H (fun vs H1 => ∃ a, vs = [.ref a] /\ (∃ xs, ar K H1 a xs) /\ FJ (x3 K a) g tb D σ H1) := rfl
theorem Ft {ta : TA} : fB (qP K ta) g tb D σ H = ta σ H (fun vs H1 => ∃ a b, vs = [.ref a, .ref b] /\ (∃ xs, ar K H1 a xs) /\ (∃ ys, ar K H1 b ys) /\ FJ (og K a b) g tb D σ H1) := rfl
theorem Fu (Pv : Nat -> L2.St -> Hp -> Prop) (h0 : Pv 0 σ H) (hl : ∀ i σ H, Pv i σ H -> ar K H a xs /\ ar K H b ys)
 (hs : ∀ i x y σ H p, xs[i]? = some x -> ys[i]? = some y -> Pv i σ H -> H p = none -> g (.ref p) σ (upd H p (.tup [x, y])) fun σ2 H2 => tb { D with nx := Pv (i + 1), ct := Pv (i + 1), bk := D.nx } σ2 H2) (hd : ∀ σ H, Pv (min xs.length ys.length) σ H -> D.nx σ H) : FJ (og K a b) g tb D σ H := by
 refine ⟨fun i m σ H => m = min xs.length ys.length - i /\ i <= min xs.length ys.length /\ Pv i σ H, ⟨_, rfl, Nat.zero_le _, h0⟩, ?_⟩
 rintro i m σ H ⟨rfl, hi, p⟩
 have q := hl i σ H p
 by_cases cp : i < min xs.length ys.length
 ·have h1 : i < xs.length := by lia
  have h2 : i < ys.length := by lia
  refine .inr ⟨⟨xs, ys, xs[i], ys[i], q.1, q.2, by simp [h1], by simp [h2]⟩, Pv (i + 1), fun σ' H' p' => ⟨min xs.length ys.length - (i + 1), by lia, rfl, cp, p'⟩, fun v H' y => ?_⟩
  obtain ⟨w, x, y', rfl, hw, rfl, e1, e2⟩ := y
  exact hs i x y' σ _ w (e1 xs q.1) (e2 ys q.2) p hw
 ·have e : i = min xs.length ys.length := by lia
  refine .inl ⟨⟨xs, ys, q.1, q.2, by lia⟩, hd σ H (e ▸ p)⟩
end
theorem Fw {K : PySem.W.Frag} {i j : Nat} {p : Addr} {x y : V} {σ : L2.St} {H : Hp} {Q : L2.St -> Hp -> Prop} (h : aB K H p [x, y]) (q : Q ((σ.set i (some x)).set j (some y)) H) : vT K 2 (nB (fY i) (nB (fY j) pS)) (.ref p) σ H Q :=
 ⟨p, [x, y], rfl, h, rfl, x, [y], rfl, y, [], rfl, rfl, q⟩
end Gz
namespace Gz
open PySem PySem.Spec PyProof.Rows L2
section
variable {X : Cx} {K : PySem.W.Frag}
variable {ρ : L2.St} {tt : TT} {te : TE} {H : Hp} {Q : VK} {a b : Addr} {xs ys : List V}
end
end Gz
namespace Gz
open PySem PySem.Spec PyProof.Rows L2
section
variable {X : Cx} {pins : List (Addr × Obj)} {σ : L2.St} {H : Hp} {s : Shared}
end
end Gz
namespace Gz
open PySem PySem.Spec PyProof.Rows L2
noncomputable def x6 (lo st : Int) (n : Nat) : It := ⟨fun i _ => i < n, fun i H x H' => H' = H /\ x = .int (lo + (i : Int) * st), fun i _ => n <= i⟩
noncomputable def x8 (lo hi st : Int) : Nat := (Builtin.Range.rangeSize lo hi st).toNat
def x9 (ta : TA) : TI := fun σ H R => ta σ H fun vs H1 => ∃ i j c : Int, vs = [.int i, .int j, .int c] /\ (-1000000 <= i /\ i <= 1000000 /\ -1000000 <= j /\ j <= 1000000 /\ -1000000 <= c /\ c <= 1000000 /\ c ≠ 0) /\ R (x6 i c (x8 i j c)) H1
section
variable {g : TG} {tb : TS} {D : Ends} {σ : L2.St} {H : Hp} {lo st : Int} {n : Nat}
theorem Fx {ta : TA} : fB (pX ta) g tb D σ H = ta σ H (fun vs H1 => ∃ i j : Int, vs = [.int i, .int j] /\ (-(2 ^ 62) <= i /\ i < 2 ^ 62 /\ -(2 ^ 62) <= j /\ j < 2 ^ 62) /\ FJ (eS i (j - i).toNat) g tb D σ H1) := rfl
theorem Fz {ta : TA} : fB (x9 ta) g tb D σ H = ta σ H (fun vs H1 => ∃ i j c : Int, vs = [.int i, .int j, .int c] /\ (-1000000 <= i /\ i <= 1000000 /\ -1000000 <= j /\ j <= 1000000 /\ -1000000 <= c /\ c <= 1000000 /\ c ≠ 0) /\ FJ (x6 i c (x8 i j c)) g tb D σ H1) := rfl
end
end Gz
namespace Gz
open PySem PySem.Spec PyProof.Rows L2
theorem FC (xs : List V) (a : Nat) : eY xs (some (a : Int)) none = xs.drop a := by
 unfold eY
 rw [HT.Dj, HT.wL]
 by_cases h : a <= xs.length
 ·rw [Nat.min_eq_left h, List.take_of_length_le (by rw [List.length_drop]; lia)]
 ·rw [Nat.min_eq_right (by lia), List.drop_eq_nil_of_le (Nat.le_refl _), List.drop_eq_nil_of_le (by lia)]; simp
mutual
noncomputable def eF : Nat -> PyData -> Bool
 | _, .none => true
 | _, .bool _ => true
 | _, .int _ => true
 | n + 1, .tuple ds => j5 n ds
 | n + 1, .list ds => j5 n ds
 | _, _ => false
noncomputable def j5 : Nat -> List PyData -> Bool
 | _, [] => true
 | n, d :: ds => eF n d && j5 n ds
end
mutual
theorem ya : ∀ (d : PyData) {n : Nat}, eF n d = true -> PyData.eqv d d = true /\ d.canLay0 = true /\ d.depth <= n
 | .none, n, _ => ⟨rfl, rfl, Nat.zero_le _⟩
 | .bool b, n, _ => ⟨by simp [PyData.eqv], rfl, Nat.zero_le _⟩
 | .int i, n, _ => ⟨by simp [PyData.eqv], rfl, Nat.zero_le _⟩
 | .str x, 0, h => by simp [eF] at h
 | .str x, n + 1, h => by simp [eF] at h
 | .dict x, 0, h => by simp [eF] at h
 | .dict x, n + 1, h => by simp [eF] at h
 | .tuple ds, 0, h => by simp [eF] at h
 | .list ds, 0, h => by simp [eF] at h
 | .tuple ds, n + 1, h => by
  obtain ⟨a, b, c⟩ := qQ ds (n := n) (by simpa [eF] using h)
  exact ⟨by simpa only [PyData.eqv] using a, by simpa only [PyData.canLay0] using b, by simp only [PyData.depth]; lia⟩
 | .list ds, n + 1, h => by
  obtain ⟨a, b, c⟩ := qQ ds (n := n) (by simpa [eF] using h)
  exact ⟨by simpa only [PyData.eqv] using a, by simpa only [PyData.canLay0] using b, by simp only [PyData.depth]; lia⟩
theorem qQ : ∀ (ds : List PyData) {n : Nat}, j5 n ds = true -> PyData.eqvAll ds ds = true /\ PyData.canLayAll0 ds = true /\ PyData.depthAll ds <= n
 | [], n, _ => ⟨rfl, rfl, Nat.zero_le _⟩
 | d :: ds, n, h => by
  have h' : eF n d = true /\ j5 n ds = true := by simpa [j5] using h
  obtain ⟨a, b, c⟩ := ya d h'.1
  obtain ⟨a', b', c'⟩ := qQ ds h'.2
  exact ⟨by simp only [PyData.eqvAll, a, a', Bool.and_self], by simp only [PyData.canLayAll0, b, b', Bool.and_self], by simp only [PyData.depthAll]; lia⟩
end
end Gz
namespace Gz
open PySem PySem.Spec PyProof.Rows L2
end Gz
namespace Gz
noncomputable def num (c : Int) : Int := if c % 3 = 0 then c / 3 % 13 - 6 else c / 3 % 1000000000000000000000000000000 * 3315501701285949699224633478459810372516696558535471 % 200000000000000000000000000000000000000000000000001 - 100000000000000000000000000000000000000000000000000
noncomputable def oj (a b : Int) : Int := ((Nat.gcd a.natAbs b.natAbs : Nat) : Int)
noncomputable def sg (t b : Int) : Int := if b < 0 then -oj t b else oj t b
noncomputable def rt (t b : Int) : Int := t.fdiv (sg t b)
end Gz
namespace Gz
open PySem PySem.Spec PyProof.Rows L2
def aA {α : Type} (R : V -> α -> Prop) : List V -> List α -> Prop
 | [], [] => True
 | x :: xs, a :: as => R x a /\ aA R xs as
 | _, _ => False
section
variable {α : Type} {R R' : V -> α -> Prop}
theorem aA.len : ∀ {xs : List V} {as : List α}, aA R xs as -> xs.length = as.length
 | [], [], _ => rfl
 | _ :: _, _ :: _, h => by simp [aA.len h.2]
 | [], _ :: _, h => h.elim
 | _ :: _, [], h => h.elim
theorem aA.imp (f : ∀ x a, R x a -> R' x a) : ∀ {xs : List V} {as : List α}, aA R xs as -> aA R' xs as
 | [], [], _ => trivial
 | _ :: _, _ :: _, h => ⟨f _ _ h.1, aA.imp f h.2⟩
 | [], _ :: _, h => h.elim
 | _ :: _, [], h => h.elim
theorem aA.get : ∀ {xs : List V} {as : List α}, aA R xs as -> ∀ {i : Nat} {x : V}, xs[i]? = some x -> ∃ a, as[i]? = some a /\ R x a
 | [], [], _, i, x, e => by simp at e
 | _ :: _, a :: _, h, 0, x, e => by simp at e; subst e; exact ⟨a, by simp, h.1⟩
 | _ :: _, _ :: _, h, i + 1, x, e => by
  simp only [List.getElem?_cons_succ] at e ⊢
  exact aA.get h.2 e
 | [], _ :: _, h, _, _, _ => h.elim
 | _ :: _, [], h, _, _, _ => h.elim
theorem aA.at : ∀ {xs : List V} {as : List α}, aA R xs as -> ∀ {i : Nat} {a : α}, as[i]? = some a -> ∃ x, xs[i]? = some x /\ R x a
 | [], [], _, i, x, e => by simp at e
 | x :: _, _ :: _, h, 0, a, e => by simp at e; subst e; exact ⟨x, by simp, h.1⟩
 | _ :: _, _ :: _, h, i + 1, a, e => by
  simp only [List.getElem?_cons_succ] at e ⊢
  exact aA.at h.2 e
 | [], _ :: _, h, _, _, _ => h.elim
 | _ :: _, [], h, _, _, _ => h.elim
theorem aA.app : ∀ {xs ys : List V} {as bs : List α}, aA R xs as -> aA R ys bs -> aA R (xs ++ ys) (as ++ bs)
 | [], _, [], _, _, h => h
 | _ :: _, _, _ :: _, _, h, h' => ⟨h.1, aA.app h.2 h'⟩
 | [], _, _ :: _, _, h, _ => h.elim
 | _ :: _, _, [], _, h, _ => h.elim
theorem aA.snoc {xs : List V} {as : List α} {x : V} {a : α} (h : aA R xs as) (h' : R x a) : aA R (xs ++ [x]) (as ++ [a]) := h.app ⟨h', trivial⟩
theorem aA.take : ∀ {xs : List V} {as : List α} (n : Nat), aA R xs as -> aA R (xs.take n) (as.take n)
 | [], [], n, _ => by simp [aA]
 | _ :: _, _ :: _, 0, _ => by simp [aA]
 | _ :: _, _ :: _, n + 1, h => by simpa [aA] using ⟨h.1, aA.take n h.2⟩
 | [], _ :: _, _, h => h.elim
 | _ :: _, [], _, h => h.elim
theorem aA.drop : ∀ {xs : List V} {as : List α} (n : Nat), aA R xs as -> aA R (xs.drop n) (as.drop n)
 | [], [], n, _ => by simp [aA]
 | _ :: _, _ :: _, 0, h => by simpa using h
 | _ :: _, _ :: _, n + 1, h => by simpa using aA.drop n h.2
 | [], _ :: _, _, h => h.elim
 | _ :: _, [], _, h => h.elim
theorem aA.gA {lo : Int} (n : Nat) : aA (fun x (k : Nat) => x = V.int (lo + k)) ((List.range n).map fun k => V.int (lo + (k : Nat))) (List.range n) := by
 suffices ∀ l : List Nat, aA (fun x (k : Nat) => x = V.int (lo + k)) (l.map fun k => V.int (lo + (k : Nat))) l from this _
 intro l
 induction l with
 | nil => trivial
 | cons a l ih => exact ⟨rfl, ih⟩
end
abbrev P2 := Int × Int
def jb (H : Hp) (v : V) (p : P2) : Prop := ∃ a, v = .ref a /\ H a = some (.tup [.int p.1, .int p.2])
theorem jb.put {H : Hp} {v : V} {p : P2} {r : Addr} {ys zs : List V} (h : jb H v p) (hr : H r = some (.lst ys)) : jb (upd H r (.lst zs)) v p := by
 obtain ⟨a, e, q⟩ := h
 refine ⟨a, e, ?_⟩
 rw [aG (kZ q hr (fun z => nomatch z))]; exact q
abbrev qR (H : Hp) : List V -> List P2 -> Prop := aA (jb H)
theorem qR.put {H : Hp} {xs : List V} {ps : List P2} {r : Addr} {ys zs : List V} (h : qR H xs ps) (hr : H r = some (.lst ys)) : qR (upd H r (.lst zs)) xs ps := aA.imp (fun _ _ x => x.put hr) h
noncomputable def oo (ns : List Int) : Bool := (ns.zip (ns.drop 1)).all fun r => decide (r.1 < r.2)
theorem FD {ns : List Int} : oo ns = true ↔ ∀ i, i + 1 < ns.length -> ns.getD i 0 < ns.getD (i + 1) 0 := by
 unfold oo
 rw [List.all_eq_true]
 constructor
 ·intro h i hi
  have e : (ns.zip (ns.drop 1))[i]? = some (ns.getD i 0, ns.getD (i + 1) 0) := by
   rw [List.getElem?_zip_eq_some, List.getElem?_drop, List.getD_eq_getElem?_getD, List.getD_eq_getElem?_getD, List.getElem?_eq_getElem (show i < ns.length by lia), show 1 + i = i + 1 by lia, List.getElem?_eq_getElem hi]
   exact ⟨rfl, rfl⟩
  simpa using h _ (List.mem_of_getElem? e)
 ·intro h r hr
  obtain ⟨i, hi⟩ := List.mem_iff_getElem?.mp hr
  rw [List.getElem?_zip_eq_some, List.getElem?_drop] at hi
  have h1 := (List.getElem?_eq_some_iff.mp hi.2).1
  have := h i (by lia)
  rw [List.getD_eq_getElem?_getD, List.getD_eq_getElem?_getD, hi.1, show i + 1 = 1 + i by lia, hi.2] at this
  simpa using this
noncomputable def cZ (ps : List P2) (i : Nat) : P2 := ps.getD i (0, 0)
end Gz
namespace Gz
open PySem PySem.Spec PyProof.Rows L2
end Gz
namespace Gz
open PySem PySem.Spec PyProof.Rows L2
end Gz
namespace Gz
open PySem PySem.Spec PyProof.Rows L2
def lL (s e : P2) (p q t b : Int) : Prop := (t - s.2 * b) * (e.1 - s.1) * q = (p - s.1 * q) * (e.2 - s.2) * b
def oq (ks : List P2) (p q : Int) (i : Nat) : Prop := i + 1 < ks.length /\ (cZ ks i).1 * q <= p /\ p <= (cZ ks (i + 1)).1 * q
def hit (ks : List P2) (p q : Int) : Prop := ∃ i, oq ks p q i
structure Led (ks : List P2) (p q t b : Int) : Prop where
 pos : 1 <= b
 low : oj t b = 1
 on : ∀ i, oq ks p q i -> lL (cZ ks i) (cZ ks (i + 1)) p q t b
theorem yb {ks : List P2} {i : Nat} (h : i < ks.length) : (ks.map (·.1)).getD i 0 = (cZ ks i).1 := by
 unfold cZ
 rw [List.getD_eq_getElem?_getD, List.getElem?_map, List.getD_eq_getElem?_getD, List.getElem?_eq_getElem h]; rfl
theorem yc {ks : List P2} (h : oo (ks.map (·.1)) = true) : ∀ {i j : Nat}, i < j -> j < ks.length -> (cZ ks i).1 < (cZ ks j).1 := by
 rw [FD] at h
 have st : ∀ i, i + 1 < ks.length -> (cZ ks i).1 < (cZ ks (i + 1)).1 := fun i hi => by
  have := h i (by rw [List.length_map]; exact hi)
  rwa [yb (by lia), yb hi] at this
 intro i j j6 hj
 induction j with
 | zero => lia
 | succ j ih =>
  by_cases e : i = j
  ·subst e; exact st i hj
  ·exact Int.lt_trans (ih (by lia) (by lia)) (st j hj)
theorem FE {a b c : P2} {p q t w : Int} (hq : 0 < q) (MW : a.1 < b.1) (h1 : p = b.1 * q) (h : lL a b p q t w) : lL b c p q t w := by
 unfold lL at *
 subst h1
 have e : (t - b.2 * w) * ((b.1 - a.1) * q) = 0 := by grind
 have n : (b.1 - a.1) * q ≠ 0 := Int.mul_ne_zero (by lia) (by lia)
 have := (Int.mul_eq_zero.mp e).resolve_right n
 have e2 : t - b.2 * w = 0 := this
 rw [e2]; grind
theorem Led.of {ks : List P2} {p q t b : Int} {i : Nat} (hr : oo (ks.map (·.1)) = true) (hq : 0 < q) (h1 : 1 <= b) (h2 : oj t b = 1) (hi : oq ks p q i) (first : ∀ j, j < i -> ¬ oq ks p q j) (h : lL (cZ ks i) (cZ ks (i + 1)) p q t b) : Led ks p q t b := by
 refine ⟨h1, h2, fun j hj => ?_⟩
 by_cases e : j = i
 ·rw [e]; exact h
 by_cases lt : j < i
 ·exact absurd hj (first j lt)
 by_cases e1 : j = i + 1
 ·subst e1
  have l1 := yc hr (i := i) (j := i + 1) (by lia) (by have := hj.1; lia)
  exact FE hq l1 (by have := hi.2.2; have := hj.2.1; lia) h
 ·have l1 := yc hr (i := i + 1) (j := j) (by lia) (by have := hj.1; lia)
  have : (cZ ks (i + 1)).1 * q < (cZ ks j).1 * q := Int.mul_lt_mul_of_pos_right l1 hq
  have a1 := hi.2.2
  have a2 := hj.2.1
  lia
def yd (H : Hp) (v : V) (t b : Int) : Prop := ∃ a, v = .ref a /\ H a = some (.tup [.int t, .int b])
theorem yd.p {K : PySem.W.Frag} {H : Hp} {v : V} {t b : Int} (h : yd H v t b) : n4 K H v t b := let ⟨a, e, q⟩ := h; ⟨a, e, aB.of q⟩
def SameBut (x : Addr) (H H' : Hp) : Prop := ∀ b o, b ≠ x -> H b = some o -> H' b = some o
end Gz
namespace Gz
open PySem PySem.Spec PyProof.Rows L2
end Gz
namespace Gz
open PySem PySem.Spec PyProof.Rows L2
theorem jc {α β : Type} {R : Hp -> V -> α -> Prop} {R' : Hp -> V -> β -> Prop} {Ok : Hp -> Prop} {ρ : L2.St} {tt : TT} {te : TE} {f : α -> β} {Q' : List V -> Hp -> Prop} (mono : ∀ H H' x a, ai H H' -> R H x a -> R H' x a) (ye : ∀ H H' x a, ai H H' -> R' H x a -> R' H' x a) :
 ∀ {xs : List V} {as : List α} {ys : List V} {bs : List β} {H : Hp}, aA (R H) xs as -> aA (R' H) ys bs -> (∀ H', ai H H' -> Ok H') -> (∀ x a, a ∈ as -> ∀ H', ai H H' -> R H' x a -> ∀ Q, Q true H' -> tt (some x :: ρ) H' Q) ->
 (∀ x a, a ∈ as -> ∀ H', ai H H' -> R H' x a -> ∀ Q : VK, (∀ lJ y, ai H' lJ -> R' lJ y (f a) -> Q y lJ) -> te (some x :: ρ) H' Q) ->
 (∀ H' zs, ai H H' -> aA (R' H') zs (bs ++ as.map f) -> Q' zs H') -> i9 Ok ρ tt te xs ys H Q'
 | [], [], ys, bs, H, _, hy, gg, _, _, q => ⟨gg H (ai.refl H), q H ys (ai.refl H) (by simpa using hy)⟩
 | x :: xs, a :: as, ys, bs, H, h, hy, gg, ht, he, q => by
  refine ⟨gg H (ai.refl H), ht x a (.head _) H (ai.refl H) h.1 _ ?_⟩
  rw [if_pos rfl]
  refine he x a (.head _) H (ai.refl H) h.1 _ fun H2 y s2 r2 => ?_
  refine jc mono ye (bs := bs ++ [f a]) (h.2.imp fun x a r => mono _ _ _ _ s2 r) ((hy.imp fun x a r => ye _ _ _ _ s2 r).snoc r2) (fun H' s' => gg H' (s2.trans s')) (fun x a ha H' s' => ht x a (.tail _ ha) H' (s2.trans s')) (fun x a ha H' s' => he x a (.tail _ ha) H' (s2.trans s')) fun H' zs s' hz => ?_
  refine q H' zs (s2.trans s') ?_
  rw [List.map_cons]
  rwa [List.append_assoc] at hz
 | [], _ :: _, _, _, _, h, _, _, _, _, _ => h.elim
 | _ :: _, [], _, _, _, h, _, _, _, _, _ => h.elim
noncomputable def sw (ks : List P2) : List P2 := ks.map fun p => (p.2, p.1)
end Gz
namespace Gz
open PySem PySem.Spec PyProof.Rows L2
end Gz
namespace Gz
open PySem PySem.W PyProof.Rows
section
variable {lt : Nat -> Nat -> Bool} {n : Nat}
structure Ord (lt : Nat -> Nat -> Bool) : Prop where
 asym : ∀ {a b}, lt a b = true -> lt b a = false
 tr : ∀ {a b c}, lt b a = false -> lt c b = false -> lt c a = false
theorem Ord.rfl' (O : Ord lt) (a : Nat) : lt a a = false := by
 cases h : lt a a with
 | false => rfl
 | true => rw [O.asym h] at h; cases h
def lM (lt : Nat -> Nat -> Bool) (p : Array Nat) (k : Nat) : Prop := ∀ i j, i <= j -> j < k -> lt (p.getD j 0) (p.getD i 0) = false
def lN (lt : Nat -> Nat -> Bool) (p : Array Nat) (k : Nat) : Prop := ∀ i j, i <= j -> j < k -> lt (p.getD i 0) (p.getD j 0) = false
def jd (n : Nat) (p : Array Nat) : Prop := p.toList.Perm (List.range n)
theorem jd.size {p : Array Nat} (h : jd n p) : p.size = n := by
 have := h.length_eq
 simpa using this
theorem jd.below {p : Array Nat} (h : jd n p) {i : Nat} (hi : i < n) : p.getD i 0 < n := by
 have hs := h.size
 have lK : i < p.size := by lia
 have e : p.getD i 0 = p[i] := by simp [Array.getD, lK]
 rw [e]
 have m : p[i] ∈ p.toList := by simp
 simpa using h.mem_iff.mp m
theorem jd.of {p q : Array Nat} (h : jd n p) (hq : q.Perm p) : jd n q := (Array.perm_iff_toList_perm.mp hq).trans h
theorem lM.one (O : Ord lt) {p : Array Nat} : lM lt p 1 := fun i j j6 hj => by
 have : i = j := by lia
 subst this; exact O.rfl' _
theorem lN.one (O : Ord lt) {p : Array Nat} : lN lt p 1 := fun i j j6 hj => by
 have : i = j := by lia
 subst this; exact O.rfl' _
theorem lM.succ (O : Ord lt) {p : Array Nat} {k : Nat} (h : lM lt p k) (hk : 1 <= k) (hn : lt (p.getD k 0) (p.getD (k - 1) 0) = false) : lM lt p (k + 1) := fun i j j6 hj => by
 by_cases e : j = k
 ·subst e
  by_cases ei : i = j
  ·subst ei; exact O.rfl' _
  ·exact O.tr (h i (j - 1) (by lia) (by lia)) hn
 ·exact h i j j6 (by lia)
theorem lN.succ (O : Ord lt) {p : Array Nat} {k : Nat} (h : lN lt p k) (hk : 1 <= k) (hn : lt (p.getD (k - 1) 0) (p.getD k 0) = false) : lN lt p (k + 1) := fun i j j6 hj => by
 by_cases e : j = k
 ·subst e
  by_cases ei : i = j
  ·subst ei; exact O.rfl' _
  ·exact O.tr hn (h i (j - 1) (by lia) (by lia))
 ·exact h i j j6 (by lia)
noncomputable def yf {α : Type} (lt : Nat -> Nat -> Bool) : KasT α -> α
 | .ret a => a
 | .ask i j k => yf lt (k (lt i j))
noncomputable def FF (lt : Nat -> Nat -> Bool) (n : Nat) : Array Nat := if n < 2 then List.toArray (List.range n) else yf lt (kas_sort n)
end
end Gz
namespace Gz
open PySem PySem.Spec PyProof.Rows L2
local macro_rules | `(tactic| walk_at "om") => `(tactic| ((try simp only [PySem.Addr] at *); lia))
section
variable {prog : Program} {w : World} {A : Around} {E : Value -> Shared -> Prop} {s : Shared}
end
def yg (sp : Sp) : List V -> List V -> Hp -> (List V -> Hp -> Prop) -> Prop
 | [], ks, H, Q => Q ks H
 | x :: r, ks, H, Q => sp [x] H (fun k H1 => yg sp r (ks ++ [k]) H1 Q) E0
def dI (K : PySem.W.Frag) (H : Hp) : List V -> List (List Int) -> Prop
 | [], [] => True
 | k :: ks, n :: ns => (∃ p, k = .ref p /\ aB K H p (n.map V.int) /\ n ≠ []) /\ dI K H ks ns
 | _, _ => False
theorem dI.len {K : PySem.W.Frag} {H : Hp} : ∀ {ks : List V} {ns : List (List Int)}, dI K H ks ns -> ks.length = ns.length
 | [], [], _ => rfl
 | _ :: _, _ :: _, h => by simp [dI.len h.2]
 | [], _ :: _, h => h.elim
 | _ :: _, [], h => h.elim
theorem dI.snoc {K : PySem.W.Frag} {H : Hp} {p : Addr} {n : List Int} (hp : aB K H p (n.map V.int)) (hn : n ≠ []) : ∀ {ks : List V} {ns : List (List Int)}, dI K H ks ns -> dI K H (ks ++ [.ref p]) (ns ++ [n])
 | [], [], _ => ⟨⟨p, rfl, hp, hn⟩, trivial⟩
 | _ :: _, _ :: _, h => ⟨h.1, dI.snoc hp hn h.2⟩
 | [], _ :: _, h => h.elim
 | _ :: _, [], h => h.elim
theorem dI.get {K : PySem.W.Frag} {H : Hp} : ∀ {ks : List V} {ns : List (List Int)} {i : Nat} {k : V}, dI K H ks ns -> ks[i]? = some k -> ∃ p, k = .ref p /\ aB K H p ((ns.getD i []).map V.int)
 | [], [], _, _, _, e => by simp at e
 | k :: _, n :: _, 0, _, h, e => by
  simp at e; subst e
  obtain ⟨⟨p, a, b, _⟩, _⟩ := h
  exact ⟨p, a, b⟩
 | _ :: _, _ :: _, i + 1, _, h, e => by
  have := dI.get (i := i) h.2 (by simpa using e)
  simpa using this
 | [], _ :: _, _, _, h, _ => h.elim
 | _ :: _, [], _, _, h, _ => h.elim
section
variable {X : Cx} {pins : List (Addr × Obj)} {σ : L2.St} {H : Hp} {s : Shared}
theorem dI.c8 (I : Inv X pins σ H s) : ∀ {ks : List V} {ns : List (List Int)} {us : List Value}, dI X.K H ks ns -> Vals ks us -> ∃ fs, PySem.W.KatTups s.heap us fs /\ fs.length = us.length /\ ∀ v ∈ fs, ∃ i t, v = .int i t
 | [], [], _, _, .nil => ⟨[], trivial, rfl, fun _ z => (nomatch z)⟩
 | k :: ks, n :: ns, _, h, .cons r rs => by
  obtain ⟨⟨p, rfl, hp, hn⟩, h⟩ := h
  cases r
  obtain ⟨fs, a, b, c⟩ := dI.c8 I h rs
  obtain ⟨aj, rv, ⟨o, ho, hc, m, hd⟩, _⟩ := I.tuple hp
  cases n with
  | nil => exact absurd rfl hn
  | cons z zs =>
   cases rv with
   | cons r1 r2 =>
    obtain ⟨t, rfl⟩ := r1
    refine ⟨.int z t :: fs, PySem.W.KatTups.cons ho hc hd (by simp) a, by simp [b], fun v hv => ?_⟩
    rcases List.mem_cons.mp hv with rfl | hv
    ·exact ⟨_, _, rfl⟩
    ·exact c v hv
 | [], _ :: _, _, h, _ => h.elim
 | _ :: _, [], _, h, _ => h.elim
noncomputable def FG (eG : List (List Int)) (i j : Nat) : Bool := HT.lexLt (eG.getD i []) (eG.getD j [])
noncomputable def FH {α : Type} (eG : List (List Int)) (d : α) (as : List α) : List α := (FF (FG eG) as.length).toList.map fun i => as.getD i d
end
section
variable {X : Cx} {pins : List (Addr × Obj)} {σ : L2.St} {H : Hp} {s : Shared} {CX : cJ} {k : Nat} {fa a : Addr} {fd : FuncData} {y : Str} {sp : Sp} {xs : List V} {Q : VK}
def FI (K : PySem.W.Frag) (sp : Sp) (x : V) (H1 : Hp) (Q : VK) : Prop := ∃ (a : Addr) (xs : List V), x = .ref a /\ ar K H1 a xs /\ xs.length < 64 /\ yg sp xs [] H1 fun ks H2 => ∃ eG, dI K H2 ks eG /\ ∀ l, H2 l = none -> Q (.ref l) (upd H2 l (.lst (FH eG .non xs)))
def FK (K : PySem.W.Frag) (sp : Sp) (te : TE) : TE := fun σ H Q => te σ H fun x H1 => FI K sp x H1 Q
end
end Gz
namespace Gz
open PySem PySem.Spec PyProof.Rows L2
abbrev En := Option Int
noncomputable def ev : En -> V
 | none => .non
 | some i => .int i
theorem FL : ev none = .non := rfl
theorem FN (i : Int) : ev (some i) = .int i := rfl
noncomputable def gh : En -> En -> Bool
 | some x, some y => decide (y < x)
 | _, _ => false
def bI (H : Hp) (v : V) (a b : En) : Prop := ∃ p, v = .ref p /\ H p = some (.tup [ev a, ev b])
theorem bI.same {H H1 : Hp} {v : V} {a b : En} (h : bI H v a b) (s : ai H H1) : bI H1 v a b := by
 obtain ⟨p, e, h⟩ := h
 exact ⟨p, e, s _ _ h⟩
noncomputable def hold (a b : En) (n : Int) : Bool := !gh a (some n) && !gh (some n) b
end Gz
namespace Gz
open L2
abbrev S2 := En × En
noncomputable def hs (s : S2) (n : Int) : Bool := hold s.1 s.2 n
def yh (s : S2) : Prop := gh s.1 s.2 = false
def j7 (a b : En) : Prop := a = none ∨ ∃ x y, a = some x /\ b = some y /\ x <= y
theorem j7.refl (a : En) : j7 a a := by
 rcases a with _ | x
 ·exact .inl rfl
 ·exact .inr ⟨x, x, rfl, rfl, Int.le_refl _⟩
theorem j7.trans {a b c : En} (h : j7 a b) (h' : j7 b c) : j7 a c := by
 rcases h with rfl | ⟨x, y, rfl, rfl, h1⟩
 ·exact .inl rfl
 ·rcases h' with h' | ⟨x', y', e, rfl, h2⟩
  ·cases h'
  ·cases e; exact .inr ⟨_, _, rfl, rfl, by lia⟩
def je (p q : S2) : Prop := ∃ h l, p.2 = some h /\ q.1 = some l /\ h + 2 <= l
def Apart : List S2 -> Prop
 | x :: y :: r => je x y /\ Apart (y :: r)
 | _ => True
theorem Apart.snoc : ∀ {i : List S2} {p q : S2}, Apart (i ++ [p]) -> je p q -> Apart (i ++ [p, q])
 | [], p, q, _, h => ⟨h, trivial⟩
 | [x], p, q, h, h' => ⟨h.1, h', trivial⟩
 | x :: y :: r, p, q, h, h' => ⟨h.1, Apart.snoc (i := y :: r) h.2 h'⟩
theorem Apart.get : ∀ {l : List S2} {k : Nat} {p q : S2}, Apart l -> l[k]? = some p -> l[k + 1]? = some q -> je p q
 | [], _, _, _, _, e, _ => by simp at e
 | [_], _, _, _, _, _, e => by simp at e
 | x :: y :: r, 0, p, q, h, e, e' => by simp at e e'; subst e e'; exact h.1
 | x :: y :: r, k + 1, p, q, h, e, e' => Apart.get (l := y :: r) (k := k) h.2 (by simpa using e) (by simpa using e')
def j8 (a b : En) : Prop := b = none ∨ ∃ x y, a = some x /\ b = some y /\ x <= y
theorem j8.refl (a : En) : j8 a a := by
 rcases a with _ | x
 ·exact .inl rfl
 ·exact .inr ⟨x, x, rfl, rfl, Int.le_refl _⟩
theorem j8.trans {a b c : En} (h : j8 a b) (h' : j8 b c) : j8 a c := by
 rcases h' with rfl | ⟨x', y', rfl, rfl, h2⟩
 ·exact .inl rfl
 ·rcases h with h | ⟨x, y, rfl, e, h1⟩
  ·cases h
  ·cases e; exact .inr ⟨_, _, rfl, rfl, by lia⟩
open PySem in
def cL (H : Hp) : List V -> List S2 -> Prop
 | [], [] => True
 | v :: vs, s :: ss => bI H v s.1 s.2 /\ cL H vs ss
 | _, _ => False
section
variable {H H1 : Hp} {K : PySem.W.Frag}
theorem bI.put {v : V} {a b : En} {l : PySem.Addr} {ys : List V} {o : HO} (h : bI H v a b) (hl : H l = some (.lst ys)) : bI (upd H l o) v a b := by
 obtain ⟨p, e, h⟩ := h
 exact ⟨p, e, by rw [aG (kZ h hl fun z => nomatch z)]; exact h⟩
theorem cL.put {l : PySem.Addr} {ys : List V} {o : HO} (hl : H l = some (.lst ys)) : ∀ {vs : List V} {ss : List S2}, cL H vs ss -> cL (upd H l o) vs ss
 | [], [], _ => trivial
 | _ :: _, _ :: _, h => ⟨h.1.put hl, cL.put hl h.2⟩
 | [], _ :: _, h => h.elim
 | _ :: _, [], h => h.elim
theorem cL.len : ∀ {vs : List V} {ss : List S2}, cL H vs ss -> vs.length = ss.length
 | [], [], _ => rfl
 | _ :: _, _ :: _, h => by simp [cL.len h.2]
 | [], _ :: _, h => h.elim
 | _ :: _, [], h => h.elim
theorem cL.get : ∀ {vs : List V} {ss : List S2} {i : Nat} {v : V}, cL H vs ss -> vs[i]? = some v -> ∃ s, ss[i]? = some s /\ bI H v s.1 s.2
 | [], [], _, _, _, e => by simp at e
 | _ :: _, s :: _, 0, _, h, e => by simp at e; subst e; exact ⟨s, rfl, h.1⟩
 | _ :: _, _ :: _, i + 1, _, h, e => by
  obtain ⟨s, a, b⟩ := cL.get (i := i) h.2 (by simpa using e)
  exact ⟨s, by simpa using a, b⟩
 | [], _ :: _, _, _, h, _ => h.elim
 | _ :: _, [], _, _, h, _ => h.elim
theorem cL.app : ∀ {vs ws : List V} {ss ts : List S2}, cL H vs ss -> cL H ws ts -> cL H (vs ++ ws) (ss ++ ts)
 | [], _, [], _, _, h => h
 | _ :: _, _, _ :: _, _, h, h' => ⟨h.1, cL.app h.2 h'⟩
 | [], _, _ :: _, _, h, _ => h.elim
 | _ :: _, _, [], _, h, _ => h.elim
open PySem
end
end Gz
namespace Gz
open PySem PySem.Spec PyProof.Rows L2
structure yi (K : PySem.W.Frag) (C : Addr) (m : Str) (f : Addr) : Prop where
 ga : PySem.W.specialIn K (.ref C) "__getattribute__" = some (some (.builtin "type.__getattribute__"))
 rd : PySem.W.readsIn K C (.type "type") = true
 fd : PySem.W.findCls K (.ref C) (.type "type") m = some (.val (.ref f))
 kp : PySem.W.keepIn K (.ref f) = true
section
variable {X : Cx} {CX : cJ} {k : Nat} {f C : Addr} {fd : FuncData} {ps : List Str} {ds : List Value} {bP : List V} {sp : Sp} {E : XK} {x m : Str} {p pos apos : Pos} {e : Expr} {es : List Expr} {t : TA}
theorem lO {pl : Sem Bool} (hg : Gl X x) (hm : X.mg x = some (.ref C)) (c : yi X.K C m f) (F : cq X.prog X.w X.K X.mg X.base CX k f fd ps sp) (hr : aS k X.A) (hb : Binds X.K fd ps ds) (hd : Vals bP ds) (hx : Passes CX X E) (ha : PA X (e :: es) t)
 (dZ : (x == ("__debug__" : Str)) = false := by decide) (k8 : starEach (e :: es) X.env = (false, eval e X.env) :: starEach es X.env := by rfl) (cV : (backTo pos (starEach es X.env)).any (·.1) = false := by rfl)
 (ht : eval (.Call (.Attribute (.Name x p) m apos) (e :: es) [] pos) X.env = (do
   let ov <- eval (.Name x p) X.env
   standAt apos.atName
   let (f, first) <- holding [ov] (getMethod ov m pl)
   callWith pos f first (backTo pos (starEach (e :: es) X.env)) (backToKw pos (keywordEach [] X.env))) := by rfl) :
 PE X (.Call (.Attribute (.Name x p) m apos) (e :: es) [] pos) (lq sp bP E t) := by
 intro pins s σ H Q I h
 refine PySem.W.methodCall_KW (pl := pl) (aw (k6 (X := X) (v := .ref C) hg hm rfl dZ pins s σ H (fun v H1 => v = .ref C /\ H1 = H) I ⟨rfl, rfl⟩) fun u s1 ⟨y, H1, I1, rx, e1, e2⟩ => ?_) ht
 subst e1 e2
 obtain rfl : u = Value.ref C := rx
 refine PySem.W.method_cls I1.bG c.ga (PySem.W.cls_value I1.bG c.rd c.fd rfl ?_)
 have I2 : Inv X pins σ H1 { s1 with toks := s1.toks + 1 } := I1.tok _
 refine PySem.W.callWith_K (first := []) (h₀ := X.base) I.ok.mod.kin c.kp (aw (ha pos pins _ σ H1 _ I2 h) fun us s2 ⟨vs, H2, I3, r, q2⟩ => ⟨I3.bG, ?_⟩) k8 cV
 exact lr (us := us) (vs := vs) F hr hb hd hx I3 r q2
end
section
variable {X : Cx}
end
section
variable {X : Cx} {CX : cJ} {k : Nat} {f : Addr} {fd : FuncData} {ps : List Str} {ds : List Value} {bP : List V} {sp : Sp} {E : XK} {m : Str} {pos apos : Pos} {o e : Expr} {es : List Expr} {ta : TE} {t : TA}
def FP (K : PySem.W.Frag) (m : Str) (f : Addr) (sp : Sp) (bP : List V) (E : XK) (ta : TE) (t : TA) : TE := fun σ H Q => ta σ H fun x H1 => ∃ a C dx fs, x = .ref a /\ H1 a = some (.ins C dx fs) /\ aW K C /\ Meth K C m f /\ fs.lookup m = none /\
 t σ H1 fun vs H2 => sp (.ref a :: (vs ++ bP)) H2 Q E
end
abbrev W2 := Option S2
def qS (H : Hp) (v : V) : W2 -> Prop
 | none => v = .non
 | some s => bI H v s.1 s.2
theorem qS.put {H : Hp} {v : V} {w : W2} {l : Addr} {ys : List V} {o : HO} (h : qS H v w) (hl : H l = some (.lst ys)) : qS (upd H l o) v w := by
 cases w with
 | none => exact h
 | some a => exact bI.put h hl
end Gz
namespace Gz
open PySem L2 PySem.W PySem.Spec PyProof.Rows
def Bt (n : Nat) (x : Int) : Prop := Builtin.Int.intBits x <= n
theorem Bt.add {n : Nat} {x y : Int} (h : Bt n x) (h' : Bt n y) : Bt (n + 1) (x + y) := by
 have := PyProof.Rows.bits_add h h'
 rwa [Nat.max_self] at this
theorem Bt.mul {n m : Nat} {x y : Int} (h : Bt n x) (h' : Bt m y) : Bt (n + m) (x * y) := PyProof.Rows.bits_mul h h'
theorem Bt.up {n m : Nat} {x : Int} (h : Bt n x) (hm : n <= m) : Bt m x := Nat.le_trans h hm
theorem Bt.small {x : Int} (h1 : -(2 ^ 64) < x) (h2 : x < 2 ^ 64) : Bt 64 x := PySem.intBits_le_64 h1 h2
def j9 (i j : Int) : Prop := Bt 40000000 i /\ Bt 40000000 j
theorem j9.ok {i j : Int} (h : j9 i j) : IntMulOk i j := PyProof.Rows.mulOk_of_bits h.1 h.2 (by decide)
theorem FQ {X : Cx} : aT X (binaryOp .Mult) (rI j9 fun i j => .int (i * j)) := lh fun _ _ _ _ _ _ _ hc q => mul_int q hc.ok
def gH (ns : List Int) : Prop := ns.length <= 63 /\ ∀ x ∈ ns, Bt 1048576 x
theorem weigh : ∀ (ns : List Int) (x : Int), x ∈ ns -> Builtin.Int.intBits x <= PySem.W.WData.weightAll (ns.map PySem.W.WData.int)
 | [], x, h => by simp at h
 | y :: ns, x, h => by
  have e : PySem.W.WData.weightAll ((y :: ns).map PySem.W.WData.int) = (if y == 0 then 0 else y.natAbs.log2 + 1) + 1 + PySem.W.WData.weightAll (ns.map PySem.W.WData.int) := by
   rw [List.map_cons]
   simp only [PySem.W.WData.weightAll, PySem.W.WData.weight]
  rw [e]
  rcases List.mem_cons.mp h with rfl | h
  ·unfold Builtin.Int.intBits
   lia
  ·have := weigh ns x h
   lia
theorem FR {ns : List Int} (h : PySem.W.WData.layableAll [PySem.W.WData.list (ns.map PySem.W.WData.int)] = true) : ∀ x ∈ ns, Bt 1048576 x := by
 intro x hx
 have h1 : PySem.W.WData.layable (PySem.W.WData.list (ns.map PySem.W.WData.int)) = true := by
  have : (PySem.W.WData.layable (PySem.W.WData.list (ns.map PySem.W.WData.int)) && true) = true := h
  rwa [Bool.and_true] at this
 unfold PySem.W.WData.layable at h1
 rw [Bool.and_eq_true] at h1
 have h2 := of_decide_eq_true h1.2
 have h3 := weigh ns x hx
 simp only [PySem.W.WData.weight] at h2
 unfold Bt
 lia
theorem FT {l : PySem.W.OpenLaw} {k : Nat} {q : Program} {loose : List Str} {XP : (Str -> Option Value) -> Heap -> Prop} {YP : World -> Heap -> Prop} {d : DefRec} {K : Params -> PySem.W.Frag} {CX : World -> cJ} {sp : World -> Sp} {x : Str}
 (most : l.most = some 63) (plain : d.params.defaults = []) (room : aS k callerA)
 (FU : ∀ (w : World) (h : Heap), YP w h -> (K w.params).In h)
 (F : ∀ (w : World) (mg : Str -> Option Value) (fa : Addr) (h : Heap), (K w.params).In h -> h.Ns mainGlobals mg -> mg d.name = some (.ref fa) ->
   ∃ fd : FuncData, (∀ (s : Shared) (u : Value), BindsTo s fd ⟨[u], []⟩ [(x, u)]) /\
    ∀ base : Heap, (K w.params).In base -> base.Ns mainGlobals mg -> cq l.prog w (K w.params) mg base (CX w) k fa fd [x] (sp w))
 (law : ∀ (w : World) (H : Hp) (a : Addr) (ns : List Int), gH ns -> ar (K w.params) H a (ns.map V.int) -> sp w [.ref a] H (fun v _ => v = .bl true) fun _ _ _ => False)
 (calm : ∀ (w : World) (H : Hp) (s : Shared) (e : Value) (s' : Shared), CX w [] H s (fun _ _ _ => False) e s' -> False) :
 PySem.W.WalkO q loose XP YP l.row.toRowW d [] (fun f vs => PySem.call f vs) := by
 intro w t₀ t mg mb G Y f ob pm cd doc dV kV look data code defs at_ gens args vals as pre lay _ well _
 have e1 : dV = .none := Dflts.none defs plain
 have e2 : kV = .none := Dflts.noKw defs
 cases e1
 cases e2
 obtain ⟨a, vs, ns, e3, e4, obj, are, len⟩ := qq.DP most pre well
 cases e3
 cases e4
 have KX := FU w _ Y
 obtain ⟨fd, bind, ok⟩ := F w mg f _ KX G.T.g at_
 have run := DT KX G.T.g G.T.b G.T.builtins G.T.nolimit gens obj are (Nat.le_trans len (by decide)) room ok bind
  (fun H _ S => law w H a ns ⟨len, FR lay⟩ S) fun H e s' => calm w H t e s'
 refine enter_call (codeAny_mono run ?_)
 rintro r s' ⟨rfl, old, os, bare⟩
 exact ⟨.inl ⟨.bool true, .bool true, [], rfl, fun _ => rfl, .bool true, qq.DS l _, fun _ => ⟨List.Pairwise.nil, fun _ z => (nomatch z)⟩⟩, old, os, bare⟩
noncomputable def lP (ns : List Int) (k : Int) : Int := if 0 < (ns.length : Int) then ns.getD (k % (ns.length : Int)).toNat 0 else 0
theorem FV {ns : List Int} (h : gH ns) (k : Int) : Bt 1048576 (lP ns k) := by
 unfold lP
 split
 ·rw [List.getD_eq_getElem?_getD]
  cases e : ns[(k % (ns.length : Int)).toNat]? with
  | none => exact (Bt.small (by decide) (by decide)).up (by decide)
  | some n => exact h.2 _ (List.mem_of_getElem? e)
 ·exact (Bt.small (by decide) (by decide)).up (by decide)
theorem FW {ns : List Int} {k : Int} (h : 0 < (ns.length : Int)) : cK (ns.map V.int) (k % (ns.length : Int)) = some (.int (lP ns k)) := by
 have h1 := Int.emod_nonneg k (show (ns.length : Int) ≠ 0 by lia)
 have h2 := Int.emod_lt_of_pos k h
 unfold lP
 rw [if_pos h]
 have ek : k % (ns.length : Int) = (((k % (ns.length : Int)).toNat : Nat) : Int) := by lia
 refine (congrArg (cK _) ek).trans (iW ?_)
 rw [List.getElem?_map, List.getD_eq_getElem?_getD, List.getElem?_eq_getElem (by lia)]
 rfl
end Gz
namespace Gz
open PySem PySem.Spec PyProof.Rows L2
end Gz
namespace Gz
open PySem PySem.Spec PyProof.Rows L2
end Gz
namespace Gz
end Gz
namespace Gz
open PySem L2
theorem bg {a b : TS} {D : Ends} {σ : L2.St} {H : Hp} (I : L2.St -> Hp -> Prop) (h1 : ∀ N : L2.St -> Hp -> Prop, (∀ σ H, I σ H -> N σ H) -> a { D with nx := N } σ H) (h2 : ∀ σ H, I σ H -> b D σ H) : pP a b D σ H := h1 _ h2
end Gz
namespace Gz
open PySem PySem.Spec PyProof.Rows L2
theorem bB {c : Prop} [Decidable c] {a b : Prop} (h : c -> a) (h' : ¬ c -> b) : if c then a else b := by
 by_cases z : c
 ·rw [if_pos z]; exact h z
 ·rw [if_neg z]; exact h' z
section
variable {X : Cx} {pos : Pos}
theorem lQ {x : Str} {n : Int} (h : ∃ t, X.mg x = some (.int n t)) (hg : Gl X x) (hd : (x == ("__debug__" : Str)) = false := by decide) : PE X (.Name x pos) (tC (.int n)) := by
 obtain ⟨t, ht⟩ := h
 exact k6 (v := .int n) hg ht ⟨t, rfl⟩ hd
end
end Gz
namespace Gz
open PySem PySem.Spec PyProof.Rows L2
section
variable {X : Cx} {a b c d : Expr} {ta tb tc td : TE} {pos : Pos}
def yj (r r' ot : R2) (ta tb tc td : TE) : TE := fun σ H Q => ta σ H fun x H1 => tb σ H1 fun y H2 => r x y H2 fun z H3 => ∃ k, z = .bl k /\
 (if k = true then tc σ H3 fun w' H4 => r' y w' H4 fun z2 H5 => ∃ k2, z2 = .bl k2 /\ (if k2 = true then td σ H5 fun w2 H6 => ot w' w2 H6 Q else Q (.bl false) H5) else Q (.bl false) H3)
theorem FX {op dE qT : CmpOp} {r r' ot : R2} (ho : aT X (compareOp op) r) (cH : aT X (compareOp dE) r') (FY : aT X (compareOp qT) ot) (ha : PE X a ta) (hb : PE X b tb) (hc : PE X c tc) (hd : PE X d td)
 (hm : lastMarks [op, dE, qT] [b, c, d] = false := by with_unfolding_all rfl) : PT X (.Compare a [op, dE, qT] [b, c, d] pos) (nM (yj r r' ot ta tb tc td)) := by
 intro pins s σ H Q I h
 refine isTrue_chain (aw (ha pins s σ H _ I h) fun v s1 ⟨x, H1, I1, r1, q1⟩ => test_link (aw (hb pins s1 σ H1 _ I1 q1) fun u s2 ⟨y, H2, I2, r2, q2⟩ =>
  aw (ho pins s2 σ H2 x y v u _ I2 r1 r2 q2) fun d s3 ⟨z, H3, I3, r3, k, e, q3⟩ => ?_)) hm
 subst e
 cases r3
 refine wpAny_truthy_bool ?_
 cases k with
 | false =>
  obtain ⟨k', e', q'⟩ := q3
  cases e'
  exact (if_neg (by decide)).mpr ⟨H3, I3, q'⟩
 | true =>
  refine (if_pos rfl).mpr (test_link (aw (hc pins s3 σ H3 _ I3 q3) fun w' s4 ⟨z', H4, I4, r4, q4⟩ => aw (cH pins s4 σ H4 y z' u w' _ I4 r2 r4 q4) fun d2 s5 ⟨z2, H5, I5, r5, k2, e2, q5⟩ => ?_))
  subst e2
  cases r5
  refine wpAny_truthy_bool ?_
  cases k2 with
  | false =>
   obtain ⟨k', e', q'⟩ := q5
   cases e'
   exact (if_neg (by decide)).mpr ⟨H5, I5, q'⟩
  | true =>
   refine (if_pos rfl).mpr (test_last (aw (hd pins s5 σ H5 _ I5 q5) fun w2 s6 ⟨z3, H6, I6, r6, q6⟩ => aw (FY pins s6 σ H6 z' z3 w' w2 _ I6 r4 r6 q6) fun d' s7 ⟨z4, H7, I7, r7, k3, e3, q7⟩ => ?_))
   subst e3
   cases r7
   exact wpAny_truthy_bool ⟨H7, I7, q7⟩
end
section
variable {X : Cx} {CX : cJ} {k : Nat} {f : Addr} {fd : FuncData} {ps : List Str} {ds : List Value} {bP : List V} {sp : Sp} {E : XK} {m : Str} {pos apos : Pos} {o : Expr} {ta : TE}
end
def FZ (t1 t2 : TE) : TE := fun σ H Q => t1 σ H Q ∨ t2 σ H Q
end Gz
namespace Gz
open PySem L2
end Gz
namespace L2
open PySem PySem.Spec PyProof.Rows
section
variable {κ : Type} [DecidableEq κ]
noncomputable def cD (kvs : List (κ × V)) (k : κ) : Option V := (kvs.find? fun kv => decide (kv.1 = k)).map (·.2)
noncomputable def putK (kvs : List (κ × V)) (k : κ) (v : V) : List (κ × V) :=
 if (kvs.any fun kv => decide (kv.1 = k)) = true then kvs.map (fun kv => if kv.1 = k then (kv.1, v) else kv) else kvs ++ [(k, v)]
noncomputable def ou (kvs : List (κ × V)) (k : κ) : List (κ × V) := kvs.filter fun kv => decide (kv.1 ≠ k)
theorem ow {p : κ × V} {r : List (κ × V)} {k : κ} (e : p.1 = k) : cD (p :: r) k = some p.2 := by simp [cD, List.find?_cons, e]
theorem oy {p : κ × V} {r : List (κ × V)} {k : κ} (e : ¬ p.1 = k) : cD (p :: r) k = cD r k := by simp [cD, List.find?_cons, e]
theorem yk (k : κ) : ∀ kvs : List (κ × V), (kvs.any fun kv => decide (kv.1 = k)) = (cD kvs k).isSome
 | [] => rfl
 | p :: r => by
  rw [List.any_cons]
  by_cases e : p.1 = k
  ·simp only [ow e, decide_eq_true e, Bool.true_or, Option.isSome_some]
  ·rw [oy e, decide_eq_false e, Bool.false_or]; exact yk k r
theorem c7.ym {o : Option V} {u : Option Value} (r : c7 o u) : o.isSome = u.isSome := by
 cases o with
 | none => cases u with
  | none => rfl
  | some _ => exact (show False from r).elim
 | some _ => cases u with
  | none => exact (show False from r).elim
  | some _ => rfl
theorem c7.getD {o : Option V} {u : Option Value} {d : V} {d' : Value} (r : c7 o u) (rd : RelV d d') : RelV (o.getD d) (u.getD d') := by
 cases o with
 | none => cases u with
  | none => exact rd
  | some _ => exact (show False from r).elim
 | some _ => cases u with
  | none => exact (show False from r).elim
  | some _ => exact r
theorem KV.val {kvs : List (κ × V)} {vs : List (κ × Value)} (r : KV kvs vs) (k : κ) : c7 (cD kvs k) (valueAt vs k) := by
 unfold KV at r
 induction r with
 | nil => exact True.intro
 | @cons p q ps qs h t ih =>
  obtain ⟨h1, h2⟩ := h
  by_cases e : p.1 = k
  ·have e' : q.1 = k := h1.symm.trans e
   have b : valueAt (q :: qs) k = some q.2 := by simp [valueAt, List.find?_cons, e']
   rw [ow e, b]; exact h2
  ·have e' : ¬ q.1 = k := fun z => e (h1.trans z)
   have b : valueAt (q :: qs) k = valueAt qs k := by simp [valueAt, List.find?_cons, e']
   rw [oy e, b]; exact ih
theorem KV.any {kvs : List (κ × V)} {vs : List (κ × Value)} (r : KV kvs vs) (k : κ) : (kvs.any fun kv => decide (kv.1 = k)) = vs.any fun kv => decide (kv.1 = k) := by
 unfold KV at r
 induction r with
 | nil => rfl
 | cons h t ih => rw [List.any_cons, List.any_cons, ih, h.1]
theorem KV.ka {kvs : List (κ × V)} {vs : List (κ × Value)} (r : KV kvs vs) (k : κ) {y : V} {u : Value} (ry : RelV y u) :
 KV (kvs.map fun kv => if kv.1 = k then (kv.1, y) else kv) (vs.map fun kv => if kv.1 = k then (kv.1, u) else kv) := by
 unfold KV at r ⊢
 induction r with
 | nil => exact .nil
 | @cons p q ps qs h t ih =>
  rw [List.map_cons, List.map_cons]
  refine .cons ?_ ih
  obtain ⟨h1, h2⟩ := h
  by_cases e : p.1 = k
  ·rw [if_pos e, if_pos (h1.symm.trans e)]; exact ⟨h1, ry⟩
  ·rw [if_neg e, if_neg (fun z => e (h1.trans z))]; exact ⟨h1, h2⟩
theorem KV.put {kvs : List (κ × V)} {vs : List (κ × Value)} (r : KV kvs vs) (k : κ) {y : V} {u : Value} (ry : RelV y u) : KV (putK kvs k y) (stored vs k u) := by
 unfold putK stored
 rw [r.any k]
 by_cases e : (vs.any fun kv => decide (kv.1 = k)) = true
 ·rw [if_pos e, if_pos e]; exact r.ka k ry
 ·rw [if_neg e, if_neg e]; exact Paired.snoc r ⟨rfl, ry⟩
theorem KV.drop {kvs : List (κ × V)} {vs : List (κ × Value)} (r : KV kvs vs) (k : κ) : KV (ou kvs k) (without vs k) := by
 unfold KV at r ⊢
 unfold ou without
 induction r with
 | nil => exact .nil
 | @cons p q ps qs h t ih =>
  obtain ⟨h1, h2⟩ := h
  rw [List.filter_cons, List.filter_cons]
  by_cases e : p.1 = k
  ·have a : ¬ decide (p.1 ≠ k) = true := by simp [e]
   have b : ¬ decide (q.1 ≠ k) = true := by simp [h1.symm.trans e]
   rw [if_neg a, if_neg b]; exact ih
  ·have e' : ¬ q.1 = k := fun z => e (h1.trans z)
   have a : decide (p.1 ≠ k) = true := by simp [e]
   have b : decide (q.1 ≠ k) = true := by simp [e']
   rw [if_pos a, if_pos b]; exact .cons ⟨h1, h2⟩ ih
theorem KV.length {kvs : List (κ × V)} {vs : List (κ × Value)} (r : KV kvs vs) : kvs.length = vs.length := Paired.length r
end
theorem yn {P : Program} {w : World} {k : Key} {u : Value} (r : RelV (kV k) u) : (gy P w).is k u = true := by
 cases k with
 | inl i => obtain ⟨t, e⟩ := (show ∃ t, u = Value.int i t from r); subst e; exact B5 P w i t
 | inr x => obtain ⟨t, e⟩ := (show ∃ t, u = Value.str x t from r); subst e; exact B6 P w x t
abbrev KT (H : Hp) : List (List Key × V) -> List (List Key × Addr × Value) -> Prop := Paired fun p q => p.1 = q.1 /\ H q.2.1 = some (.tup (p.1.map kV)) /\ RelV p.2 q.2.2
theorem KT.val {H : Hp} {kvs : List (List Key × V)} {xs : List (List Key × Addr × Value)} (r : KT H kvs xs) (k : List Key) : c7 (cD kvs k) ((atKey xs k).map (·.2)) := by
 induction r with
 | nil => exact True.intro
 | @cons p q ps qs h t ih =>
  obtain ⟨h1, _, h2⟩ := h
  by_cases e : p.1 = k
  ·have e' : q.1 = k := h1.symm.trans e
   have b : atKey (q :: qs) k = some q.2 := by simp [atKey, List.find?_cons, e']
   rw [ow e, b]; exact h2
  ·have e' : ¬ q.1 = k := fun z => e (h1.trans z)
   have b : atKey (q :: qs) k = atKey qs k := by simp [atKey, List.find?_cons, e']
   rw [oy e, b]; exact ih
theorem KT.ka {H : Hp} {kvs : List (List Key × V)} {xs : List (List Key × Addr × Value)} (r : KT H kvs xs) (k : List Key) {y : V} {u : Value} (ry : RelV y u) :
 KT H (kvs.map fun kv => if kv.1 = k then (kv.1, y) else kv) (xs.map (putAt k u)) := by
 induction r with
 | nil => exact .nil
 | @cons p q ps qs h t ih =>
  rw [List.map_cons, List.map_cons]
  refine .cons ?_ ih
  obtain ⟨h1, h2, h3⟩ := h
  unfold putAt
  by_cases e : p.1 = k
  ·rw [if_pos e, if_pos (h1.symm.trans e)]; exact ⟨h1, h2, ry⟩
  ·rw [if_neg e, if_neg (fun z => e (h1.trans z))]; exact ⟨h1, h2, h3⟩
theorem KT.put {H : Hp} {kvs : List (List Key × V)} {xs : List (List Key × Addr × Value)} (r : KT H kvs xs) (k : List Key) {b : Addr} {y : V} {u : Value} (hb : H b = some (.tup (k.map kV))) (ry : RelV y u) :
 KT H (putK kvs k y) (storedH xs k b u) := by
 have e : (kvs.any fun kv => decide (kv.1 = k)) = (atKey xs k).isSome := by
  rw [yk, (r.val k).ym, Option.isSome_map]
 unfold putK storedH
 rw [e]
 by_cases q : (atKey xs k).isSome = true
 ·rw [if_pos q, if_pos q]; exact r.ka k ry
 ·rw [if_neg q, if_neg q]; exact Paired.snoc r ⟨rfl, hb, ry⟩
section
variable {P : Program} {w : World} {H : Hp} {h : Heap} {a : Addr}
end
def kc (H : Hp) (a : Addr) (y : V) (r : Option V) : Prop :=
 (∃ kvs k, Rd H a (.dK kvs) /\ y = kV k /\ r = cD kvs k) ∨ ∃ kvs k b, Rd H a (.dT kvs) /\ y = .ref b /\ H b = some (.tup (k.map kV)) /\ r = cD kvs k
def oz (H : Hp) (a : Addr) (y v : V) (H' : Hp) : Prop :=
 (∃ kvs k, H a = some (.dK kvs) /\ y = kV k /\ kvs.length < sizeLine /\ H' = upd H a (.dK (putK kvs k v))) ∨
 ∃ kvs k b, H a = some (.dT kvs) /\ y = .ref b /\ H b = some (.tup (k.map kV)) /\ kvs.length < sizeLine /\ H' = upd H a (.dT (putK kvs k v))
theorem kc.k {H : Hp} {a : Addr} {kvs : List (Key × V)} {k : Key} (e : H a = some (.dK kvs)) : kc H a (kV k) (cD kvs k) := .inl ⟨kvs, k, .inl e, rfl, rfl⟩
theorem kc.t {H : Hp} {a b : Addr} {kvs : List (List Key × V)} {k : List Key} (e : H a = some (.dT kvs)) (eb : H b = some (.tup (k.map kV))) : kc H a (.ref b) (cD kvs k) := .inr ⟨kvs, k, b, .inl e, rfl, eb, rfl⟩
theorem oz.k {H : Hp} {a : Addr} {kvs : List (Key × V)} {k : Key} {v : V} (e : H a = some (.dK kvs)) (hl : kvs.length < sizeLine) : oz H a (kV k) v (upd H a (.dK (putK kvs k v))) := .inl ⟨kvs, k, e, rfl, hl, rfl⟩
theorem oz.t {H : Hp} {a b : Addr} {kvs : List (List Key × V)} {k : List Key} {v : V} (e : H a = some (.dT kvs)) (eb : H b = some (.tup (k.map kV))) (hl : kvs.length < sizeLine) :
 oz H a (.ref b) v (upd H a (.dT (putK kvs k v))) := .inr ⟨kvs, k, b, e, rfl, eb, hl, rfl⟩
section
variable {X : Cx} {pins : List (Addr × Obj)} {σ : St} {H : Hp} {s : Shared} {a : Addr} {y v : V} {u r : Value} {o : Option V} {A : Around} {E : Value -> Shared -> Prop}
end
section
variable {X : Cx} {pins : List (Addr × Obj)} {σ : St} {H : Hp} {s : Shared} {a : Addr} {kvs : List (Key × V)} {k : Key} {u : Value} {A : Around} {E : Value -> Shared -> Prop}
end
def yo (i : Expr) : Prop := ∀ ov iv, subscripted i false ov iv = operate [ov, iv] (getItem ov iv)
theorem F0 {prog : Program} {w : World} {A : Around} {E : Value -> Shared -> Prop} {s : Shared} {env : Env} {value slice : Expr} {pos : Pos} {T id : String} {Q : Value -> Shared -> Prop}
 (hl : typeLookup (.type T) "__getitem__" = pure (some (.builtin id))) (hs : yo slice)
 (h : wpAny (model prog w) A (eval value env) (fun o s₁ => wpAny (model prog w) A (eval slice env) (fun i s₂ => s₂.TypeIs o T /\ wpAny (model prog w) A (getItem o i) Q E s₂) E s₁) E s) :
 wpAny (model prog w) A (eval (.Subscript value slice pos) env) Q E s := by
 refine Subscript_ (wpAny_mono h (fun o s₁ h₁ => wpAny_mono h₁ (fun i s₂ h₂ => ?_) fun _ _ x => x) fun _ _ x => x)
 obtain ⟨hT, h₂⟩ := h₂
 unfold subscriptTail
 refine wpAny_bind ?_
 rw [getitemInPython_of_ne hT.not_modules]
 refine wpAny_bind (wpAny_specialOf hT hl ?_)
 have fin : wpAny (model prog w) A (subscripted slice false o i) (fun r s₃ => wpAny (model prog w) A (letTemporaryGo value o r >>= fun _ => pure r) Q E s₃) E s₂ := by
  rw [hs o i]
  exact wpAny_operating (wpAny_mono h₂ (fun r s₃ h₃ => wpAny_bind (wpAny_letTemporaryGo (wpAny_pure h₃))) fun _ _ x => x)
 first
  | exact wpAny_pure (wpAny_bind fin)
  | exact wpAny_bind (wpAny_pure (wpAny_bind fin))
  | exact wpAny_bind fin
section
variable {X : Cx} {o i e value : Expr} {pos pos' C8 : Pos} {td ty tv : TE}
end
section
variable {X : Cx} {pos : Pos}
end
section
variable {X : Cx} {pins : List (Addr × Obj)} {σ : St} {H : Hp} {s : Shared} {a : Addr} {y d : V} {u r : Value} {o : Option V} {A : Around} {E : Value -> Shared -> Prop}
end
section
variable {X : Cx} {o e f : Expr} {apos dQ : Pos} {td ty tx : TE}
end
section
variable {X : Cx} {pins : List (Addr × Obj)} {σ : St} {H : Hp} {s : Shared} {a : Addr} {kvs : List (Key × V)} {A : Around} {E : Value -> Shared -> Prop}
end
section
variable {X : Cx} {pins : List (Addr × Obj)} {σ : St} {H : Hp} {s : Shared} {a : Addr} {y : V} {u : Value} {A : Around} {E : Value -> Shared -> Prop}
end
end L2
namespace L2
open PySem PySem.Spec PyProof.Rows
section
variable {κ : Type} [DecidableEq κ]
theorem yp : ∀ {l : List κ} {k : κ}, l.Nodup -> ¬ k ∈ l -> (l ++ [k]).Nodup
 | [], k, _, _ => by simp
 | a :: r, k, h, hk => by
  obtain ⟨h1, h2⟩ := List.nodup_cons.mp h
  show (a :: (r ++ [k])).Nodup
  refine List.nodup_cons.mpr ⟨fun m => ?_, yp h2 fun m => hk (List.mem_cons.mpr (Or.inr m))⟩
  rcases List.mem_append.mp m with q | q
  ·exact h1 q
  ·exact hk (List.mem_cons.mpr (Or.inl (List.mem_singleton.mp q).symm))
end
end L2
namespace Gz
open PySem PySem.Spec PyProof.Rows L2
def bits (bs : List Int) : Prop := ∀ x ∈ bs, x = 0 ∨ x = 1
abbrev Lk := Option (List Int)
def kd (xs : List Addr) (H : Hp) (v : V) : Lk -> Prop
 | none => v = .non
 | some bs => ∃ l, v = .ref l /\ l ∉ xs /\ H l = some (.lst (bs.map V.int))
abbrev IsL := kd []
theorem kd.put {xs : List Addr} {H : Hp} {v : V} {k : Lk} {c : Addr} {o : HO} (h : kd xs H v k) (hc : c ∈ xs) : kd xs (upd H c o) v k := by
 cases k with
 | none => exact h
 | some bs => obtain ⟨l, a, b, e⟩ := h; exact ⟨l, a, b, by rw [aG (show l ≠ c from fun z => b (by rw [z]; exact hc))]; exact e⟩
theorem kd.l {xs : List Addr} {H : Hp} {v : V} {k : Lk} (h : kd xs H v k) : IsL H v k := by
 cases k with
 | none => exact h
 | some bs => obtain ⟨l, a, b, c⟩ := h; exact ⟨l, a, (fun z => nomatch z), c⟩
end Gz
namespace Gz
open PySem PySem.Spec PyProof.Rows L2
local macro_rules | `(tactic| walk_at "om") => `(tactic| ((try simp only [PySem.Addr] at *); lia))
section
variable {κ : Type} [DecidableEq κ]
end
section
variable {prog : Program} {w : World} {K : Type} [DecidableEq K] {knd : HeapKind prog w K} {A : Around} {E : Value -> Shared -> Prop} {s : Shared}
end
def jf (h : Heap) (d : Addr) (es : Array DictEntry) (ep : Nat) : Prop := ∃ o, h.get? d = some o /\ o.ExactDict /\ o.data = .dict es ep
theorem jf.at {h h' : Heap} {d : Addr} {es : Array DictEntry} {ep : Nat} (x : jf h d es ep) (e : ∀ o, h.get? d = some o -> h'.get? d = some o) : jf h' d es ep := let ⟨o, ho, r⟩ := x; ⟨o, e o ho, r⟩
theorem jf.lt {h : Heap} {d : Addr} {es : Array DictEntry} {ep : Nat} (x : jf h d es ep) : d < h.objs.size := let ⟨_, ho, _⟩ := x; Heap.lt_size ho
theorem jf.ty {s : Shared} {d : Addr} {es : Array DictEntry} {ep : Nat} (x : jf s.heap d es ep) : s.TypeIs (.ref d) "dict" := let ⟨o, ho, hc, _⟩ := x; ⟨o, ho, hc.1⟩
section
variable {prog : Program} {w : World} {A : Around} {E : Value -> Shared -> Prop} {s : Shared} {d it : Addr} {es : Array DictEntry} {i ep : Nat}
end
section
variable {prog : Program} {w : World} {A : Around} {E : Value -> Shared -> Prop} {s : Shared}
def qU (h : Heap) (vs : List Value) (eG : List (List Int)) (i : Nat) : Prop := ∃ (p : Addr) (o : Obj) (aj : List Value) (m : Nat), vs[i]? = some (.ref p) /\ h.get? p = some o /\ o.cls = .type "tuple" /\ o.data = .seq aj.toArray m /\ IntsAre aj (eG.getD i []) /\ aj ≠ []
theorem qU.keep {h h' : Heap} {vs : List Value} {eG : List (List Int)} {i : Nat} (x : qU h vs eG i) (k : ∀ b o, h.get? b = some o -> (∀ n xs, o ≠ seqObj "list" xs n) -> h'.get? b = some o) : qU h' vs eG i := by
 obtain ⟨p, o, aj, m, h1, h2, h3, r⟩ := x
 exact ⟨p, o, aj, m, h1, k p o h2 (fun n xs z => by rw [z] at h3; exact absurd (Value.type.inj h3) (by decide)), h3, r⟩
end
section
variable {X : Cx} {pins : List (Addr × Obj)} {σ : L2.St} {H : Hp} {s : Shared} {p : Addr} {kvs : List (List Key × V)}
end
section
variable {X : Cx} {pins : List (Addr × Obj)} {σ : L2.St} {H : Hp} {s : Shared} {p b : Addr} {kvs : List (List Key × V)} {k : List Key} {A : Around} {E : Value -> Shared -> Prop}
end
section
variable {X : Cx} {o e f : Expr} {td ty tx : TE} {apos dQ : Pos}
end
section
variable {prog : Program} {w : World} {K : Type} [DecidableEq K] {knd : KeyKind prog w K} {A : Around} {E : Value -> Shared -> Prop} {s : Shared} {o d : Addr} {es : Array DictEntry} {ep : Nat}
end
end Gz
namespace Gz
open PySem PySem.Spec PyProof.Rows L2
local macro_rules | `(tactic| walk_at "om") => `(tactic| ((try simp only [PySem.Addr] at *); lia))
section
variable {prog : Program} {w : World} {A : Around} {E : Value -> Shared -> Prop} {s : Shared}
end
noncomputable abbrev KD (prog : Program) (w : World) := tupleKind (gy prog w)
abbrev Row := Addr × List Key × Addr × Value
section
variable {prog : Program} {w : World} {A : Around} {E : Value -> Shared -> Prop} {s : Shared}
theorem F1 {h h' : Heap} {k : List Key} {a : Addr} (x : (KD prog w).is h k a) (e : ∀ o, h.get? a = some o -> h'.get? a = some o) : (KD prog w).is h' k a :=
 let ⟨o, aj, n, h1, r⟩ := x; ⟨o, aj, n, e o h1, r⟩
def qV (prog : Program) (w : World) (h : Heap) (r : Row) : Prop := (∃ o m, h.get? r.1 = some o /\ o.cls = .type "tuple" /\ o.data = .seq #[.ref r.2.2.1, r.2.2.2] m) /\ (KD prog w).is h r.2.1 r.2.2.1
theorem qV.keep {h h' : Heap} {r : Row} (x : qV prog w h r) (e1 : ∀ o, h.get? r.1 = some o -> h'.get? r.1 = some o) (e2 : ∀ o, h.get? r.2.2.1 = some o -> h'.get? r.2.2.1 = some o) : qV prog w h' r :=
 let ⟨⟨o, m, a, b⟩, c⟩ := x; ⟨⟨o, m, e1 o a, b⟩, F1 c e2⟩
end
section
variable {X : Cx} {pins : List (Addr × Obj)} {σ : L2.St} {H : Hp} {s : Shared}
end
end Gz
namespace Gz
open PySem PySem.Spec PyProof.Rows L2
local macro_rules | `(tactic| walk_at "om") => `(tactic| ((try simp only [PySem.Addr] at *); lia))
def qW (B : Heap) (l : List Env) (x : Addr) (cls a0 mk : Value) (h : Heap) : Prop := B.StaysIn h /\ B.get? x = none /\ h.FunFrames B l /\ h.TracedAtW B x cls a0 mk
section
variable {M : Model} {A : Around} {E : Value -> Shared -> Prop} {s : Shared} {B : Heap} {l outer : List Env} {env : Env} {L x C : Addr} {cls a0 mk : Value} {Q : Unit -> Shared -> Prop}
theorem qW.but {h h' : Heap} {ob : Obj} (fl : qW B l x cls a0 mk h) (hC : h.get? C = some ob) (hn : ∀ us, ob.data ≠ .fields us) (hB : B.get? C = none) (hl : C ∉ aN l) (sb : Heap.SameBut C h h') : qW B l x cls a0 mk h' := by
 obtain ⟨f1, f2, f3, ox, us, T, oT, ts, e1, e2, e3, e4, e5, e6, e7, e8, e9⟩ := fl
 have nx : x ≠ C := fun z => by rw [z, hC] at e1; cases e1; exact hn _ e3
 have nT : T ≠ C := fun z => by rw [z, hC] at e7; cases e7; exact hn _ e8
 have all : ∀ (l : List Env), C ∉ aN l -> h.FunFrames B l -> h'.FunFrames B l := by
  intro l
  induction l with
  | nil => intro _ _; trivial
  | cons env r ih =>
   intro hs hl
   obtain ⟨hk, ⟨L, o, hf, hn, ho, hd⟩, hr⟩ := hl
   unfold aN at hs
   rw [List.filterMap_cons, hf] at hs
   exact ⟨hk, ⟨L, o, hf, hn, (sb.2 L fun z => hs (by rw [z]; exact List.mem_cons_self)).trans ho, hd⟩, ih (fun z => hs (List.mem_cons_of_mem _ z)) hr⟩
 exact ⟨fun b o z => (sb.2 b fun y => by rw [y, hB] at z; cases z).trans (f1 b o z), f2, all l hl f3, ox, us, T, oT, ts, (sb.2 x nx).trans e1, e2, e3, e4, e5, e6, (sb.2 T nT).trans e7, e8, e9⟩
end
section
variable {P : Program} {w : World} {K : PySem.W.Frag} {mg : Str -> Option Value} {base : Heap} {N : List Str} {qual : Str} {scope : Scope} {f : Addr} {cd : Value} {A : Around} {outer : List Env} {s : Shared} {H : Hp} {E : XK}
end
section
variable {X : Cx} {pins : List (Addr × Obj)} {σ : L2.St} {H2 : Hp} {s2 : Shared} {x : Str} {px pos : Pos} {elt iter : Expr} {ifs : List Expr} {scope : Scope} {cl : List (Str × Addr)} {fr : List Nat} {ys : List Str} {tt : TT} {te : TE}
end
section
variable {X : Cx} {F : Value -> Shared -> Prop} {pins pn : List (Addr × Obj)} {σ : L2.St} {H : Hp} {s : Shared} {A' : Around}
end
end Gz
namespace Gz
open PySem PySem.Spec PyProof.Rows L2
noncomputable def jV (ks : List P2) (r : Int) (i : Nat) : Bool := decide ((cZ ks i).1 <= r) && decide (r <= (cZ ks (i + 1)).1)
def bJ (ks : List P2) (r : En) : Prop := ∀ n, r = some n -> hit ks n 1
end Gz
namespace Gz
open PySem PySem.Spec PyProof.Rows L2
local macro_rules | `(tactic| walk_at "om") => `(tactic| ((try simp only [PySem.Addr] at *); lia))
abbrev Tb := List (P2 × S2)
noncomputable def eH (i j : Int) : List Key := [.inl i, .inl j]
theorem oA {a b : P2} (h : eH a.1 a.2 = eH b.1 b.2) : a = b := by
 unfold eH at h
 injection h with h1 h2
 injection h2 with h2 _
 exact Prod.ext (Sum.inl.inj h1) (Sum.inl.inj h2)
noncomputable def jg (tb : Tb) (s : P2) : Option S2 := (tb.find? fun r => decide (r.1 = s)).map (·.2)
noncomputable def oB (tb : Tb) (s : P2) (w : S2) : Tb := if (tb.any fun r => decide (r.1 = s)) = true then tb.map (fun r => if r.1 = s then (r.1, w) else r) else tb ++ [(s, w)]
noncomputable def qX (tb : Tb) (s : P2) : Tb := tb.filter fun r => decide (r.1 ≠ s)
def bz (H : Hp) : List (List Key × V) -> Tb -> Prop
 | [], [] => True
 | kv :: kvs, r :: tb => (kv.1 = eH r.1.1 r.1.2 /\ bI H kv.2 r.2.1 r.2.2) /\ bz H kvs tb
 | _, _ => False
section
variable {H H' : Hp} {kvs : List (List Key × V)} {tb : Tb}
theorem bz.len : ∀ {kvs : List (List Key × V)} {tb : Tb}, bz H kvs tb -> kvs.length = tb.length
 | [], [], _ => rfl
 | _ :: kvs, _ :: tb, h => congrArg (· + 1) (bz.len (kvs := kvs) (tb := tb) h.2)
 | [], _ :: _, h => h.elim
 | _ :: _, [], h => h.elim
theorem bz.imp (f : ∀ v a b, bI H v a b -> bI H' v a b) : ∀ {kvs : List (List Key × V)} {tb : Tb}, bz H kvs tb -> bz H' kvs tb
 | [], [], _ => trivial
 | _ :: kvs, _ :: tb, h => ⟨⟨h.1.1, f _ _ _ h.1.2⟩, bz.imp f (kvs := kvs) (tb := tb) h.2⟩
 | [], _ :: _, h => h.elim
 | _ :: _, [], h => h.elim
theorem bz.app : ∀ {kvs qY : List (List Key × V)} {tb gf : Tb}, bz H kvs tb -> bz H qY gf -> bz H (kvs ++ qY) (tb ++ gf)
 | [], _, [], _, _, h => h
 | _ :: kvs, qY, _ :: tb, gf, h, h' => ⟨h.1, bz.app (kvs := kvs) (tb := tb) h.2 h'⟩
 | [], _, _ :: _, _, h, _ => h.elim
 | _ :: _, _, [], _, h, _ => h.elim
theorem bz.any (s : P2) : ∀ {kvs : List (List Key × V)} {tb : Tb}, bz H kvs tb -> (kvs.any fun kv => decide (kv.1 = eH s.1 s.2)) = tb.any fun r => decide (r.1 = s)
 | [], [], _ => rfl
 | kv :: kvs, r :: tb, h => by
  rw [List.any_cons, List.any_cons, bz.any s (kvs := kvs) (tb := tb) h.2, h.1.1]
  congr 1
  by_cases e : r.1 = s
  ·rw [e, decide_eq_true rfl, decide_eq_true rfl]
  ·rw [decide_eq_false e, decide_eq_false fun z => e (oA z)]
 | [], _ :: _, h => h.elim
 | _ :: _, [], h => h.elim
theorem bz.val (s : P2) : ∀ {kvs : List (List Key × V)} {tb : Tb}, bz H kvs tb -> (jg tb s = none -> cD kvs (eH s.1 s.2) = none) /\ ∀ w, jg tb s = some w -> ∃ v, cD kvs (eH s.1 s.2) = some v /\ bI H v w.1 w.2
 | [], [], _ => ⟨fun _ => rfl, fun w h => by cases h⟩
 | kv :: kvs, r :: tb, h => by
  have ih := bz.val s (kvs := kvs) (tb := tb) h.2
  by_cases e : r.1 = s
  ·have e1 : jg (r :: tb) s = some r.2 := by simp [jg, List.find?_cons, e]
   rw [e1, ow (h.1.1.trans (by rw [e]))]
   exact ⟨fun z => (by cases z), fun w z => (by cases z; exact ⟨_, rfl, h.1.2⟩)⟩
  ·have e1 : jg (r :: tb) s = jg tb s := by simp [jg, List.find?_cons, e]
   rw [e1, oy (fun z => e (oA (h.1.1.symm.trans z)))]
   exact ih
 | [], _ :: _, h => h.elim
 | _ :: _, [], h => h.elim
theorem bz.ka {s : P2} {v : V} {w : S2} (hv : bI H v w.1 w.2) : ∀ {kvs : List (List Key × V)} {tb : Tb}, bz H kvs tb -> bz H (kvs.map fun kv => if kv.1 = eH s.1 s.2 then (kv.1, v) else kv) (tb.map fun r => if r.1 = s then (r.1, w) else r)
 | [], [], _ => trivial
 | kv :: kvs, r :: tb, h => by
  rw [List.map_cons, List.map_cons]
  refine ⟨?_, bz.ka hv (kvs := kvs) (tb := tb) h.2⟩
  by_cases e : r.1 = s
  ·rw [if_pos e, if_pos (h.1.1.trans (by rw [e]))]; exact ⟨h.1.1, hv⟩
  ·rw [if_neg e, if_neg (fun z => e (oA (h.1.1.symm.trans z)))]; exact h.1
 | [], _ :: _, h => h.elim
 | _ :: _, [], h => h.elim
theorem bz.put {s : P2} {v : V} {w : S2} (h : bz H kvs tb) (hv : bI H v w.1 w.2) : bz H (putK kvs (eH s.1 s.2) v) (oB tb s w) := by
 unfold putK oB
 rw [h.any s]
 split
 ·exact h.ka hv
 ·exact h.app ⟨⟨rfl, hv⟩, trivial⟩
theorem bz.drop {s : P2} : ∀ {kvs : List (List Key × V)} {tb : Tb}, bz H kvs tb -> bz H (ou kvs (eH s.1 s.2)) (qX tb s)
 | [], [], _ => trivial
 | kv :: kvs, r :: tb, h => by
  have ih := bz.drop (s := s) (kvs := kvs) (tb := tb) h.2
  unfold ou qX at *
  rw [List.filter_cons, List.filter_cons]
  by_cases e : r.1 = s
  ·have e2 : kv.1 = eH s.1 s.2 := h.1.1.trans (by rw [e])
   rw [if_neg (by simp [e2]), if_neg (by simp [e])]; exact ih
  ·have e2 : ¬ kv.1 = eH s.1 s.2 := fun z => e (oA (h.1.1.symm.trans z))
   rw [if_pos (by simp [e2]), if_pos (by simp [e])]; exact ⟨h.1, ih⟩
 | [], _ :: _, h => h.elim
 | _ :: _, [], h => h.elim
end
def TabAt (H : Hp) (p : Addr) (tb : Tb) : Prop := ∃ kvs, H p = some (.dT kvs) /\ bz H kvs tb
def Fr (H H' : Hp) : Prop := ∀ b o, (∀ kvs, o ≠ HO.dT kvs) -> H b = some o -> H' b = some o
def fL (ps : List Addr) (H H' : Hp) : Prop := ∀ b o, b ∉ ps -> H b = some o -> H' b = some o
def qZ (H : Hp) (ps : List Addr) : Prop := ∀ p ∈ ps, ∃ kvs, H p = some (.dT kvs)
section
variable {H H' H2 : Hp} {ps qs : List Addr} {p q : Addr} {tb : Tb}
theorem Fr.trans (a : Fr H H') (b : Fr H' H2) : Fr H H2 := fun c o h e => b c o h (a c o h e)
theorem Fr.refl (H : Hp) : Fr H H := fun _ _ _ e => e
theorem _root_.L2.ai.fr (s : ai H H') : Fr H H' := fun b o _ e => s b o e
theorem _root_.L2.ai.but (s : ai H H') : fL ps H H' := fun b o _ e => s b o e
theorem fL.trans (a : fL ps H H') (b : fL ps H' H2) : fL ps H H2 := fun c o h e => b c o h (a c o h e)
theorem SameBut.but (a : SameBut p H H') (h : p ∈ ps) : fL ps H H' := fun c o z e => a c o (fun y => z (y ▸ h)) e
theorem fL.fr (a : fL ps H H') (d : qZ H ps) : Fr H H' := fun b o ho e => by
 by_cases hb : b ∈ ps
 ·obtain ⟨kvs, hk⟩ := d b hb
  rw [hk] at e
  exact absurd (Option.some.inj e).symm (ho kvs)
 ·exact a b o hb e
theorem F2 {kvs : List (List Key × V)} (h : H p = some (.dT kvs)) : qZ H [p] := fun b hb => ⟨kvs, (List.mem_singleton.mp hb) ▸ h⟩
theorem SameBut.fr {kvs : List (List Key × V)} (a : SameBut p H H') (h : H p = some (.dT kvs)) : Fr H H' := fL.fr (SameBut.but a (.head _)) (F2 h)
theorem bI.fr {v : V} {a b : En} (h : bI H v a b) (f : Fr H H') : bI H' v a b := let ⟨p, e, hp⟩ := h; ⟨p, e, f _ _ (fun _ z => nomatch z) hp⟩
theorem jb.fr {v : V} {a : P2} (h : jb H v a) (f : Fr H H') : jb H' v a := let ⟨p, e, hp⟩ := h; ⟨p, e, f _ _ (fun _ z => nomatch z) hp⟩
theorem TabAt.fr (h : TabAt H p tb) (f : Fr H H') (e : ∀ kvs, H p = some (.dT kvs) -> H' p = some (.dT kvs)) : TabAt H' p tb := let ⟨kvs, a, b⟩ := h; ⟨kvs, e _ a, b.imp fun _ _ _ z => z.fr f⟩
theorem TabAt.but (h : TabAt H p tb) (b : fL ps H H') (d : qZ H ps) (hp : p ∉ ps) : TabAt H' p tb := h.fr (b.fr d) fun _ e => b _ _ hp e
theorem TabAt.ne (h : TabAt H p tb) (hq : H q = none) : p ≠ q := fun z => by obtain ⟨kvs, a, _⟩ := h; rw [z, hq] at a; cases a
end
def oE (e t : Int) (s : P2) : Prop := (0 <= s.1 /\ s.1 < e) /\ 0 <= s.2 /\ s.2 < t
instance (e t : Int) (s : P2) : Decidable (oE e t s) := by unfold oE; infer_instance
def gI (e t : Int) (tb : Tb) : Prop := (tb.map (·.1)).Nodup /\ ∀ r ∈ tb, oE e t r.1
theorem gI.put {e t : Int} {tb : Tb} {s : P2} {w : S2} (h : gI e t tb) (hs : oE e t s) : gI e t (oB tb s w) := by
 unfold oB
 split
 ·refine ⟨?_, fun r hr => ?_⟩
  ·have : (tb.map fun r => if r.1 = s then (r.1, w) else r).map (·.1) = tb.map (·.1) := by
    rw [List.map_map]
    refine List.map_congr_left fun r _ => ?_
    show (if r.1 = s then (r.1, w) else r).1 = r.1
    split <;> rfl
   rw [this]; exact h.1
  ·obtain ⟨x, hx, rfl⟩ := List.mem_map.mp hr
   have := h.2 x hx
   split <;> exact this
 ·rename_i z
  refine ⟨?_, fun r hr => ?_⟩
  ·rw [List.map_append]
   refine yp h.1 fun y => z ?_
   obtain ⟨x, hx, e⟩ := List.mem_map.mp y
   rw [List.any_eq_true]
   exact ⟨x, hx, by simpa using e⟩
  ·rcases List.mem_append.mp hr with y | y
   ·exact h.2 r y
   ·rw [List.mem_singleton.mp y]; exact hs
theorem gI.drop {e t : Int} {tb : Tb} {s : P2} (h : gI e t tb) : gI e t (qX tb s) :=
 ⟨h.1.sublist ((List.filter_sublist).map _), fun r hr => h.2 r (List.mem_filter.mp hr).1⟩
theorem gI.nil {e t : Int} : gI e t [] := ⟨List.nodup_nil, fun r h => by cases h⟩
def q8 (H : Hp) (v : V) (r : P2 × S2) : Prop := ∃ a w, v = .ref a /\ H a = some (.tup [.int r.1.1, .int r.1.2, w]) /\ bI H w r.2.1 r.2.2
theorem q8.fr {H H' : Hp} {v : V} {r : P2 × S2} (h : q8 H v r) (s : Fr H H') : q8 H' v r := let ⟨a, w, e, ha, hw⟩ := h; ⟨a, w, e, s _ _ (fun _ z => nomatch z) ha, hw.fr s⟩
end Gz
namespace Gz
open PySem PySem.Spec PyProof.Rows L2
theorem q9 {H : Hp} : ∀ {xs : List V} {ss : List S2}, cL H xs ss ↔ aA (fun x s => bI H x s.1 s.2) xs ss
 | [], [] => Iff.rfl
 | _ :: _, _ :: _ => and_congr Iff.rfl q9
 | [], _ :: _ => Iff.rfl
 | _ :: _, [] => Iff.rfl
abbrev Pa := Str × Int × S2
def fh (H : Hp) (v : V) (p : Pa) : Prop := ∃ (t q : Addr), v = .ref t /\ H t = some (.tup [.str p.1, .int p.2.1, .ref q]) /\ H q = some (.tup [ev p.2.2.1, ev p.2.2.2])
theorem fh.same {H H' : Hp} {v : V} {p : Pa} (h : fh H v p) (s : ai H H') : fh H' v p := let ⟨t, q, e, a, b⟩ := h; ⟨t, q, e, s _ _ a, s _ _ b⟩
abbrev da (H : Hp) : List V -> List Pa -> Prop := aA (fh H)
theorem da.same {H H' : Hp} {xs : List V} {ps : List Pa} (h : da H xs ps) (s : ai H H') : da H' xs ps := aA.imp (fun _ _ r => r.same s) h
theorem fh.fr {H : Hp} {v : V} {p : Pa} {r : Addr} {ys : List V} {o : HO} (h : fh H v p) (hr : H r = some (.lst ys)) : fh (upd H r o) v p := by
 obtain ⟨t, q, e, a, b⟩ := h
 have h1 : t ≠ r := fun z => by rw [z, hr] at a; cases a
 have h2 : q ≠ r := fun z => by rw [z, hr] at b; cases b
 exact ⟨t, q, e, by rw [aG h1]; exact a, by rw [aG h2]; exact b⟩
theorem da.put {H : Hp} {xs : List V} {ps : List Pa} {r : Addr} {ys : List V} {o : HO} (h : da H xs ps) (hr : H r = some (.lst ys)) : da (upd H r o) xs ps := aA.imp (fun _ _ x => x.fr hr) h
noncomputable def hasB (n : Int) (k : Str) (t : Int) : Bool := if k = "step" then decide (0 <= t /\ t < n) && decide (0 <= t + 1 /\ t + 1 < n) else decide (k = "at") && decide (0 <= t /\ t < n)
def fj (n : Int) (ps : List Pa) : Prop := ∀ p ∈ ps, hasB n p.1 p.2.1 = true
theorem ra {n t : Int} : hasB n "step" t = true ↔ 0 <= t /\ t + 1 < n := by
 unfold hasB
 rw [if_pos rfl]
 simp only [Bool.and_eq_true, decide_eq_true_eq]
 lia
theorem F3 {n t : Int} {k : Str} (h : k ≠ "step") : hasB n k t = true ↔ k = "at" /\ 0 <= t /\ t < n := by
 unfold hasB
 rw [if_neg h]
 simp only [Bool.and_eq_true, decide_eq_true_eq]
structure Gd (n : Nat) (d : PyData) : Prop where
 eqv : PyData.eqv d d = true
 lay : d.canLay0 = true
 dep : d.depth <= n
theorem Gd.of {n : Nat} {d : PyData} (h : eF n d = true) : Gd n d := let ⟨a, b, c⟩ := ya d h; ⟨a, b, c⟩
theorem Gd.str {x : Str} (h : PyData.strOk x = true) : Gd 0 (.str x) := ⟨by simp [PyData.eqv], by simpa [PyData.canLay0] using h, Nat.le_refl _⟩
theorem Gd.int (i : Int) : Gd 0 (.int i) := .of rfl
theorem Gd.all : ∀ {ds : List PyData} {n : Nat}, (∀ d ∈ ds, Gd n d) -> PyData.eqvAll ds ds = true /\ PyData.canLayAll0 ds = true /\ PyData.depthAll ds <= n
 | [], n, _ => ⟨rfl, rfl, Nat.zero_le _⟩
 | d :: ds, n, h => by
  obtain ⟨a, b, c⟩ := h d (.head _)
  obtain ⟨a', b', c'⟩ := Gd.all (ds := ds) fun x hx => h x (.tail _ hx)
  exact ⟨by simp only [PyData.eqvAll, a, a', Bool.and_self], by simp only [PyData.canLayAll0, b, b', Bool.and_self], by simp only [PyData.depthAll]; lia⟩
theorem Gd.lst {ds : List PyData} {n : Nat} (h : ∀ d ∈ ds, Gd n d) : Gd (n + 1) (.list ds) := by
 obtain ⟨a, b, c⟩ := Gd.all h
 exact ⟨by simpa only [PyData.eqv] using a, by simpa only [PyData.canLay0] using b, by simp only [PyData.depth]; lia⟩
theorem Gd.tup {ds : List PyData} {n : Nat} (h : ∀ d ∈ ds, Gd n d) : Gd (n + 1) (.tuple ds) := by
 obtain ⟨a, b, c⟩ := Gd.all h
 exact ⟨by simpa only [PyData.eqv] using a, by simpa only [PyData.canLay0] using b, by simp only [PyData.depth]; lia⟩
end Gz
namespace Gz
open PySem PySem.Spec PyProof.Rows L2
end Gz
namespace Gz
open PySem PySem.Spec PyProof.Rows L2
end Gz
namespace Gz
open PySem PySem.Spec PyProof.Rows L2
end Gz
namespace Gz
open PySem L2
theorem c6 {H : Hp} {x dx C : Addr} {fs : List (Str × V)} (hx : H x = none) (hd : H dx = none) (hn : dx ≠ x) : ai H (upd (upd H dx (.own x)) x (.ins C dx fs)) :=
 (ak hd).trans (ak (by rw [aG (Ne.symm hn)]; exact hx))
end Gz
namespace Gz
open PySem PySem.Spec PyProof.Rows L2
noncomputable def fo : S2 -> List S2
 | (none, none) => []
 | (some l, none) => [(none, some (l - 1))]
 | (none, some h) => [(some (h + 1), none)]
 | (some l, some h) => [(none, some (l - 1)), (some (h + 1), none)]
noncomputable def bQ (ps : List Pa) : List (List Pa) := ps.flatMap fun p => (fo p.2.2).map fun o => [((p.1, p.2.1, o) : Pa)]
noncomputable def bC (i j : Int) (s : S2) : List Pa := (List.range (j + 1 - i).toNat).map fun k => ("at", i + (k : Nat), s)
def yq (H : Hp) (v : V) (ps : List Pa) : Prop := ∃ l xs, v = .ref l /\ H l = some (.lst xs) /\ da H xs ps
def lR (l : Addr) (H : Hp) (v : V) (ps : List Pa) : Prop := ∃ c xs, v = .ref c /\ c ≠ l /\ H c = some (.lst xs) /\ da H xs ps
theorem lR.put {l : Addr} {H : Hp} {v : V} {ps : List Pa} {ys : List V} {o : HO} (h : lR l H v ps) (hl : H l = some (.lst ys)) : lR l (upd H l o) v ps := let ⟨c, xs, e, n, a, b⟩ := h; ⟨c, xs, e, n, by rw [aG n]; exact a, b.put hl⟩
theorem lR.cl {l : Addr} {H : Hp} {v : V} {ps : List Pa} (h : lR l H v ps) : yq H v ps := let ⟨c, xs, e, _, a, b⟩ := h; ⟨c, xs, e, a, b⟩
def bX (H0 H : Hp) (v : V) (ps : List Pa) : Prop := ∃ c xs, v = .ref c /\ H0 c = none /\ H c = some (.lst xs) /\ da H xs ps
theorem bX.same {H0 H H' : Hp} {v : V} {ps : List Pa} (h : bX H0 H v ps) (s : ai H H') : bX H0 H' v ps := let ⟨c, xs, e, n, a, b⟩ := h; ⟨c, xs, e, n, s _ _ a, b.same s⟩
theorem bX.back {H0 H1 H : Hp} {v : V} {ps : List Pa} (h : bX H1 H v ps) (s : ai H0 H1) : bX H0 H v ps := let ⟨c, xs, e, n, a, b⟩ := h; ⟨c, xs, e, s.free n, a, b⟩
theorem bX.cl {H0 H : Hp} {v : V} {ps : List Pa} (h : bX H0 H v ps) : yq H v ps := let ⟨c, xs, e, _, a, b⟩ := h; ⟨c, xs, e, a, b⟩
def eI (H0 : Hp) (l : Addr) (H : Hp) (v : V) (ps : List Pa) : Prop := ∃ c xs, v = .ref c /\ c ≠ l /\ H0 c = none /\ H c = some (.lst xs) /\ da H xs ps
theorem eI.same {H0 : Hp} {l : Addr} {H H' : Hp} {v : V} {ps : List Pa} (h : eI H0 l H v ps) (s : ai H H') : eI H0 l H' v ps := let ⟨c, xs, e, m, n, a, b⟩ := h; ⟨c, xs, e, m, n, s _ _ a, b.same s⟩
theorem eI.put {H0 : Hp} {l : Addr} {H : Hp} {v : V} {ps : List Pa} {ys : List V} {o : HO} (h : eI H0 l H v ps) (hl : H l = some (.lst ys)) : eI H0 l (upd H l o) v ps := let ⟨c, xs, e, m, n, a, b⟩ := h; ⟨c, xs, e, m, n, by rw [aG m]; exact a, b.put hl⟩
theorem eI.yr {H0 : Hp} {l : Addr} {H : Hp} {v : V} {ps : List Pa} (h : eI H0 l H v ps) : bX H0 H v ps := let ⟨c, xs, e, _, n, a, b⟩ := h; ⟨c, xs, e, n, a, b⟩
def Kp (P : Addr -> Prop) (H H' : Hp) : Prop := ∀ a o, ¬ P a -> H a = some o -> H' a = some o
theorem Kp.refl {P : Addr -> Prop} {H : Hp} : Kp P H H := fun _ _ _ h => h
theorem Kp.put {P : Addr -> Prop} {H H1 : Hp} {c : Addr} {o : HO} (h : Kp P H H1) (hc : P c) : Kp P H (upd H1 c o) := fun a o n e => by
 have ne : a ≠ c := fun z => by rw [z] at n; exact n hc
 rw [aG ne]
 exact h a o n e
theorem F4 {ps : List Pa} {i : Nat} {p : Pa} (h : ps[i]? = some p) : bQ (ps.take (i + 1)) = bQ (ps.take i) ++ (fo p.2.2).map fun o => [((p.1, p.2.1, o) : Pa)] := by
 unfold bQ
 rw [List.take_succ, h, List.flatMap_append]
 simp
theorem rb (s : S2) : (fo s).length <= 2 := by
 obtain ⟨a, b⟩ := s
 cases a <;> cases b <;> simp [fo]
theorem dU (i j : Int) (s : S2) : (bC i j s).length = (j + 1 - i).toNat := by
 unfold bC
 rw [List.length_map, List.length_range]
noncomputable def dW (i j : Int) (s : S2) : List Pa := (List.range (j - i).toNat).map fun k => ("step", i + (k : Nat), s)
noncomputable def gJ (i j l h : Int) : List (List Pa) := (List.range (j - i).toNat).flatMap fun k => (bC (i + (k : Nat) + 1) j (some h, none)).map fun p => [(("at", i + (k : Nat), none, some l) : Pa), p]
theorem F5 {i j : Int} {s : S2} {p : Pa} (h : p ∈ bC i j s) : ∃ k : Nat, k < (j + 1 - i).toNat /\ p = (("at", i + (k : Int), s) : Pa) := by
 unfold bC at h
 obtain ⟨k, hk, rfl⟩ := List.mem_map.mp h
 exact ⟨k, List.mem_range.mp hk, rfl⟩
theorem F6 {i j : Int} {s : S2} {p : Pa} (h : p ∈ dW i j s) : ∃ k : Nat, k < (j - i).toNat /\ p = (("step", i + (k : Int), s) : Pa) := by
 unfold dW at h
 obtain ⟨k, hk, rfl⟩ := List.mem_map.mp h
 exact ⟨k, List.mem_range.mp hk, rfl⟩
theorem yt {α β : Type} {f : α -> List β} {c : Nat} : ∀ (l : List α), (∀ a ∈ l, (f a).length <= c) -> (l.flatMap f).length <= c * l.length
 | [], _ => by simp
 | a :: l, h => by
  have h1 := h a (.head _)
  have h2 := yt l fun b hb => h b (.tail _ hb)
  rw [List.flatMap_cons, List.length_append, List.length_cons, Nat.mul_add, Nat.mul_one]
  omega
theorem yu (ps : List Pa) : (bQ ps).length <= 2 * ps.length := yt ps fun p _ => by
 rw [List.length_map]
 exact rb _
end Gz
namespace Gz
open PySem PySem.Spec PyProof.Rows L2
local macro_rules | `(tactic| walk_at "om") => `(tactic| ((try simp only [PySem.Addr] at *); lia))
structure yw (X : Cx) (x : Str) (scope : Scope) (cl : List (Str × Addr)) (fr : List Nat) (ys : List Str) : Prop where
 clos : closureFor scope X.env = pure cl
 one : ∀ n acc, PySem.cellsFrom n scope.names acc = (x, n) :: acc
 push : ∀ h, pushCells h scope.names = h.push { cls := .type "cell", data := .cell none }
 kind : scope.kind = .function
 names : (scope.names.all fun p => p.2 != .local || scope.names.lookup p.1 == some .local) = true
 own : scope.names.lookup x = some .cell
 kinds : ((relabel scope X.env).names.all fun p => (p.2 != .cell && p.2 != .free) || p.1 == x || (cl.lookup p.1).isSome) = true
 cls : fb X cl
 aN : d8 X scope cl fr ys
 nd : (x :: ys).Nodup
 kfr : (ys.all fun y => (relabel scope X.env).names.lookup y == some .cell) = true
section
variable {X : Cx} {pins : List (Addr × Obj)} {σ : L2.St} {H2 : Hp} {s2 : Shared} {x : Str} {px pos : Pos} {elt iter : Expr} {ifs : List Expr} {scope : Scope} {cl : List (Str × Addr)} {fr : List Nat} {ys : List Str} {tt : TT} {te : TE}
theorem yw.low (S : yw X x scope cl fr ys) (I2 : Inv X pins σ H2 s2) {y : Str} {c : Addr} (e : cl.lookup y = some c) : c < s2.heap.objs.size := by
 obtain ⟨v, o, ho, _⟩ := I2.cell y c (S.cls.get y c e)
 exact Heap.lt_size ho
end
end Gz
namespace Gz
open PySem PySem.Spec PyProof.Rows L2
def gK : L2.St -> Nat -> (V -> Prop) -> Prop
 | [], _, _ => False
 | x :: _, 0, Q => match x with | some v => Q v | none => False
 | _ :: σ, n + 1, Q => gK σ n Q
def bV (x : V) (Q : Int -> Prop) : Prop := match x with | .int i => Q i | _ => False
def jh (x : V) (Q : Bool -> Prop) : Prop := match x with | .bl i => Q i | _ => False
def lS (x : V) (Q : Addr -> Prop) : Prop := match x with | .ref i => Q i | _ => False
def rf (xs : List V) (Q : V -> Prop) : Prop := match xs with | [x] => Q x | _ => False
def rg (xs : List V) (Q : V -> V -> Prop) : Prop := match xs with | [x, y] => Q x y | _ => False
def gL (x : V) (Q : Bool -> Prop) : Prop := match x with | .non => Q true | _ => Q false
def gM (x : V) (Q : Bool -> Prop) : Prop := match x with | .non => Q false | _ => Q true
section
variable {v : V} {o : Option V} {σ : L2.St} {n : Nat} {Q : V -> Prop} {i : Int} {b : Bool} {a : Addr} {QI : Int -> Prop} {QB : Bool -> Prop} {QR : Addr -> Prop} {x y : V} {Q2 : V -> V -> Prop}
theorem F7 : gK (some v :: σ) 0 Q = Q v := rfl
theorem F8 : gK (o :: σ) (n + 1) Q = gK σ n Q := rfl
theorem F9 : bV (.int i) QI = QI i := rfl
theorem Ga : jh (.bl b) QB = QB b := rfl
theorem Gb : lS (.ref a) QR = QR a := rfl
theorem Ge : rf [x] Q = Q x := rfl
theorem Gf : rg [x, y] Q2 = Q2 x y := rfl
theorem Gg : gL .non QB = QB true := rfl
theorem Gh : gL (.int i) QB = QB false := rfl
theorem Gi : gL (.bl b) QB = QB false := rfl
theorem Gj : gL (.ref a) QB = QB false := rfl
theorem Gk : gM .non QB = QB false := rfl
theorem Gm : gM (.int i) QB = QB true := rfl
theorem Gq : gM (.bl b) QB = QB true := rfl
theorem Gr : gM (.ref a) QB = QB true := rfl
theorem Gs {s : Str} : gM (.str s) QB = QB true := rfl
theorem Gu {s : Str} : gL (.str s) QB = QB false := rfl
theorem gK.ex : ∀ {σ : L2.St} {n : Nat}, gK σ n Q -> ∃ v, σ[n]? = some (some v) /\ Q v
 | [], _, h => h.elim
 | some v :: _, 0, h => ⟨v, rfl, h⟩
 | none :: _, 0, h => h.elim
 | _ :: σ, n + 1, h => gK.ex (σ := σ) (n := n) h
theorem bV.ex (h : bV x QI) : ∃ i, x = .int i /\ QI i := by cases x <;> first | exact ⟨_, rfl, h⟩ | exact h.elim
theorem jh.ex (h : jh x QB) : ∃ i, x = .bl i /\ QB i := by cases x <;> first | exact ⟨_, rfl, h⟩ | exact h.elim
theorem lS.ex (h : lS x QR) : ∃ i, x = .ref i /\ QR i := by cases x <;> first | exact ⟨_, rfl, h⟩ | exact h.elim
theorem rf.ex {xs : List V} (h : rf xs Q) : ∃ x, xs = [x] /\ Q x := by
 match xs, h with
 | [x], h => exact ⟨x, rfl, h⟩
theorem rg.ex {xs : List V} (h : rg xs Q2) : ∃ x y, xs = [x, y] /\ Q2 x y := by
 match xs, h with
 | [x, y], h => exact ⟨x, y, rfl, h⟩
theorem gM.ex (h : gM x QB) : QB (!decide (x = .non)) := by cases x <;> exact h
theorem gL.ex (h : gL x QB) : QB (decide (x = .non)) := by cases x <;> exact h
end
section
variable {X : Cx} {e a b c : Expr} {pos : Pos} {ta tb tc : TE} {op dE : CmpOp}
def Gv (t : TE) : TE := fun σ H Q => ∃ Q' : VK, (∀ v H1, Q' v H1 -> Q v H1) /\ t σ H Q'
theorem de (h : PE X e ta) : PE X e (Gv ta) := fun pins s σ H Q I ⟨Q', k, q⟩ => aw (h pins s σ H Q' I q) fun _ _ ⟨x, H1, I1, r1, q1⟩ => ⟨x, H1, I1, r1, k _ _ q1⟩
theorem lT {t' : TE} (h : PE X e ta) (k : ∀ σ H Q, t' σ H Q -> ta σ H Q) : PE X e t' := fun pins s σ H Q I q => h pins s σ H Q I (k σ H Q q)
theorem ke {t t' : TT} (h : PT X e t) (k : ∀ σ H Q, t' σ H Q -> t σ H Q) : PT X e t' := fun pins s σ H Q I q => h pins s σ H Q I (k σ H Q q)
theorem rh {f : Value -> Value -> Sem Value} {r r' : R2} (h : aT X f r) (k : ∀ x y H Q, r' x y H Q -> r x y H Q) : aT X f r' := fun pins s σ H x y v u Q I rx ry q => h pins s σ H x y v u Q I rx ry (k _ _ _ _ q)
def yx (i : Nat) : TE := fun σ H Q => gK σ i fun v => Q v H
theorem aa (i : Nat) {x : Str} {pos : Pos} (hN : X.N[i]? = some x := by rfl) (hv : nk X.env.scope x := by first | exact Or.inl rfl | exact Or.inr (Or.inl rfl) | exact Or.inr (Or.inr rfl)) (hd : (x == ("__debug__" : Str)) = false := by decide)
 (dC : (x == ("__classdict__" : Str)) = false := by decide) : PE X (.Name x pos) (yx i) := lT (pv i hN hv hd dC) fun _ _ _ h => h.ex
def lU (C : Int -> Int -> Prop) (g : Int -> Int -> V) : R2 := fun x y H Q => bV x fun i => bV y fun j => C i j /\ Q (g i j) H
def oG (g : Int -> Int -> V) : R2 := fun x y H Q => bV x fun i => bV y fun j => Q (g i j) H
def rj (g : Int -> V) : V -> Hp -> VK -> Prop := fun x H Q => bV x fun i => Q (g i) H
def rl (p : Int -> Int -> Prop) [∀ i j, Decidable (p i j)] : R2 := fun x y H Q => bV x fun i => bV y fun j => if p i j then Q (.bl true) H else Q (.bl false) H
theorem rm {f : Value -> Value -> Sem Value} {C : Int -> Int -> Prop} {g : Int -> Int -> V} (h : aT X f (rI C g)) : aT X f (lU C g) := rh h fun x y H Q q => by
 obtain ⟨i, rfl, q1⟩ := bV.ex q
 obtain ⟨j, rfl, q5⟩ := bV.ex q1
 exact ⟨i, j, rfl, rfl, q5⟩
theorem rn {f : Value -> Value -> Sem Value} {g : Int -> Int -> V} (h : aT X f (dO g)) : aT X f (oG g) := rh h fun x y H Q q => by
 obtain ⟨i, rfl, q1⟩ := bV.ex q
 obtain ⟨j, rfl, q5⟩ := bV.ex q1
 exact ⟨i, j, rfl, rfl, q5⟩
theorem rp {f : Value -> Value -> Sem Value} {p : Int -> Int -> Prop} [∀ i j, Decidable (p i j)] (h : aT X f (dO fun i j => .bl (decide (p i j)))) : aT X f (rl p) := rh h fun x y H Q q => by
 obtain ⟨i, rfl, q1⟩ := bV.ex q
 obtain ⟨j, rfl, q5⟩ := bV.ex q1
 clear q q1
 refine ⟨i, j, rfl, rfl, ?_⟩
 by_cases z : p i j
 ·rw [if_pos z] at q5; show Q (.bl (decide (p i j))) H; rw [decide_eq_true z]; exact q5
 ·rw [if_neg z] at q5; show Q (.bl (decide (p i j))) H; rw [decide_eq_false z]; exact q5
theorem Gw {f : Value -> Sem Value} {g : Int -> V} (h : jQ X f (rU g)) : jQ X f (rj g) := fun pins s σ H x v Q I rx q => h pins s σ H x v Q I rx q.ex
theorem br : aT X (binaryOp .Add) (oG fun i j => .int (i + j)) := rn CK
theorem dn : aT X (binaryOp .Sub) (oG fun i j => .int (i - j)) := rn CL
theorem lV : aT X (binaryOp .Mod) (lU (fun _ j => 0 < j) fun i j => .int (i % j)) := rm CM
theorem ji : aT X (binaryOp .Mult) (lU lB fun i j => .int (i * j)) := rm D0
theorem yy : aT X (binaryOp .Mult) (lU j9 fun i j => .int (i * j)) := rm FQ
theorem jj : jQ X (unaryOp .USub) (rj fun i => .int (-i)) := Gw CO
def yz (t : TE) : TT := fun σ H Q => t σ H fun x H' => jh x fun k => Q k H'
theorem jk (h : PE X e ta) (he : ∀ whole, isTrue e X.env whole = (do let v <- whole; standAt e.pos; holding [v] (truthy v)) := by intro _; rfl) : PT X e (yz ta) := ke (Cn (de h) he) fun σ H Q q => ⟨_, fun _ _ h => h.ex, q⟩
def kf (p : Int -> Int -> Prop) [∀ i j, Decidable (p i j)] (ta tb : TE) : TT := fun σ H Q => ta σ H fun x H1 => tb σ H1 fun y H2 => bV x fun i => bV y fun j => if p i j then Q true H2 else Q false H2
theorem yA {p : Int -> Int -> Prop} [∀ i j, Decidable (p i j)] {x y : V} {H : Hp} {Q : Bool -> Hp -> Prop} (q : bV x fun i => bV y fun j => if p i j then Q true H else Q false H) : rl p x y H (fun z H' => ∃ k, z = .bl k /\ Q k H') := by
 obtain ⟨i, rfl, q1⟩ := bV.ex q
 obtain ⟨j, rfl, q5⟩ := bV.ex q1
 clear q q1
 by_cases z : p i j
 ·rw [if_pos z] at q5; exact (show _ = _ from if_pos z).mpr ⟨_, rfl, q5⟩
 ·rw [if_neg z] at q5; exact (show _ = _ from if_neg z).mpr ⟨_, rfl, q5⟩
theorem oH {p : Int -> Int -> Prop} [∀ i j, Decidable (p i j)] (ho : aT X (compareOp op) (dO fun i j => .bl (decide (p i j)))) (ha : PE X a ta) (hb : PE X b tb) (hm : behindInMarks op b = false) : PT X (.Compare a [op] [b] pos) (kf p ta tb) :=
 ke (qa (rp ho) (de ha) (de hb) hm) fun σ H Q q => ⟨_, fun x H1 q1 => ⟨_, fun y H2 q2 => yA q2, q1⟩, q⟩
theorem rq (ha : PE X a ta) (hb : PE X b tb) : PT X (.Compare a [.Lt] [b] pos) (kf (fun i j => i < j) ta tb) := oH p9 ha hb (eV _)
theorem yB (ha : PE X a ta) (hb : PE X b tb) : PT X (.Compare a [.LtE] [b] pos) (kf (fun i j => i <= j) ta tb) := oH jR ha hb (eV _)
theorem rz (ha : PE X a ta) (hb : PE X b tb) : PT X (.Compare a [.Gt] [b] pos) (kf (fun i j => j < i) ta tb) := oH we ha hb (eV _)
theorem rA (ha : PE X a ta) (hb : PE X b tb) : PT X (.Compare a [.GtE] [b] pos) (kf (fun i j => j <= i) ta tb) := oH CP ha hb (eV _)
def eqT (x y : V) (Q : Bool -> Prop) : Prop := match x with
 | .int i => (match y with | .int j => if i = j then Q true else Q false | .non => Q false | .str _ => Q false | _ => False)
 | .str i => (match y with | .str j => if i = j then Q true else Q false | .non => Q false | .int _ => Q false | _ => False)
 | .bl i => (match y with | .bl j => if i = j then Q true else Q false | .non => Q false | _ => False)
 | .non => (match y with | .non => Q true | .int _ => Q false | .bl _ => Q false | .str _ => Q false | _ => False)
 | _ => False
def neT (x y : V) (Q : Bool -> Prop) : Prop := match x with
 | .int i => (match y with | .int j => if ¬ i = j then Q true else Q false | .non => Q true | .str _ => Q true | _ => False)
 | .str i => (match y with | .str j => if ¬ i = j then Q true else Q false | .non => Q true | .int _ => Q true | _ => False)
 | .bl i => (match y with | .bl j => if ¬ i = j then Q true else Q false | .non => Q true | _ => False)
 | .non => (match y with | .non => Q false | .int _ => Q true | .bl _ => Q true | .str _ => Q true | _ => False)
 | _ => False
section
variable {i j : Int} {x y : V} {s t : Str} {b' b1 : Bool} {Q : Bool -> Prop}
theorem Gx : eqT (.int i) (.int j) Q = if i = j then Q true else Q false := rfl
theorem Gy : eqT (.str s) (.str t) Q = if s = t then Q true else Q false := rfl
theorem GA : eqT (.bl b') (.bl b1) Q = if b' = b1 then Q true else Q false := rfl
theorem GB : eqT .non .non Q = Q true := rfl
theorem GC : eqT .non (.int j) Q = Q false := rfl
theorem GD : eqT (.int i) .non Q = Q false := rfl
theorem GF : eqT (.int i) (.str s) Q = Q false := rfl
theorem GG : eqT .non (.str s) Q = Q false := rfl
theorem GH : neT (.int i) (.int j) Q = if ¬ i = j then Q true else Q false := rfl
theorem GI : neT (.str s) (.str t) Q = if ¬ s = t then Q true else Q false := rfl
theorem GJ : neT .non .non Q = Q false := rfl
theorem GK : neT .non (.int j) Q = Q true := rfl
theorem GL : neT (.int i) .non Q = Q true := rfl
theorem yC {c : Prop} [Decidable c] {Q : Bool -> Prop} (q : if c then Q true else Q false) : Q (decide c) := by
 by_cases z : c
 ·rw [if_pos z] at q; rw [decide_eq_true z]; exact q
 ·rw [if_neg z] at q; rw [decide_eq_false z]; exact q
theorem eqT.ex (h : eqT x y Q) : fZ x y = true /\ Q (decide (x = y)) := by
 cases x <;> cases y <;> first
  | exact h.elim
  | exact ⟨rfl, h⟩
  | (refine ⟨rfl, ?_⟩; have := yC h; simpa using this)
theorem neT.ex (h : neT x y Q) : fZ x y = true /\ Q (!decide (x = y)) := by
 cases x <;> cases y <;> first
  | exact h.elim
  | exact ⟨rfl, h⟩
  | (refine ⟨rfl, ?_⟩; have := yC h; simpa using this)
end
def yD (ta tb : TE) : TT := fun σ H Q => ta σ H fun x H1 => tb σ H1 fun y H2 => eqT x y fun k => Q k H2
def yE (ta tb : TE) : TT := fun σ H Q => ta σ H fun x H1 => tb σ H1 fun y H2 => neT x y fun k => Q k H2
theorem aY (ha : PE X a ta) (hb : PE X b tb) : PT X (.Compare a [.Eq] [b] pos) (yD ta tb) :=
 ke (qa nK (de ha) (de hb) (eV _)) fun σ H Q q => ⟨_, fun x H1 q1 => ⟨_, fun y H2 q2 => ⟨(eqT.ex q2).1, _, rfl, (eqT.ex q2).2⟩, q1⟩, q⟩
theorem GN (ha : PE X a ta) (hb : PE X b tb) : PT X (.Compare a [.NotEq] [b] pos) (yE ta tb) :=
 ke (qa wc (de ha) (de hb) (eV _)) fun σ H Q q => ⟨_, fun x H1 q1 => ⟨_, fun y H2 q2 => ⟨(neT.ex q2).1, _, rfl, (neT.ex q2).2⟩, q1⟩, q⟩
def yF (ta : TE) : TT := fun σ H Q => ta σ H fun x H1 => gL x fun k => Q k H1
def GO (ta : TE) : TT := fun σ H Q => ta σ H fun x H1 => gM x fun k => Q k H1
theorem oI {j pos'} (ha : PE X a ta) : PT X (.Compare a [.Is] [.Constant .none j pos'] pos) (yF ta) := ke (vE (Cm (de ha))) fun σ H Q q => ⟨_, fun x H1 q1 => ⟨_, rfl, q1.ex⟩, q⟩
def yG (p q : Int -> Int -> Prop) [∀ i j, Decidable (p i j)] [∀ i j, Decidable (q i j)] (ta tb tc : TE) : TT := fun σ H Q => ta σ H fun x H1 => tb σ H1 fun y H2 => bV x fun i => bV y fun j => if p i j then (tc σ H2 fun z H3 => bV z fun k => if q j k then Q true H3 else Q false H3) else Q false H2
theorem GP {p q : Int -> Int -> Prop} [∀ i j, Decidable (p i j)] [∀ i j, Decidable (q i j)] (ho : aT X (compareOp op) (dO fun i j => .bl (decide (p i j)))) (cH : aT X (compareOp dE) (dO fun i j => .bl (decide (q i j)))) (ha : PE X a ta) (hb : PE X b tb) (hc : PE X c tc)
 (hm : lastMarks [op, dE] [b, c] = false := by with_unfolding_all rfl) : PT X (.Compare a [op, dE] [b, c] pos) (yG p q ta tb tc) :=
 ke (CT (rp ho) (rp cH) (de ha) (de hb) (de hc) hm) fun σ H Q q => ⟨_, fun x H1 q1 => ⟨_, fun y H2 q2 => by
  obtain ⟨i, rfl, q3⟩ := bV.ex q2
  obtain ⟨j, rfl, q5⟩ := bV.ex q3
  clear q2 q3
  by_cases z : p i j
  ·rw [if_pos z] at q5
   exact (show _ = _ from if_pos z).mpr ⟨_, rfl, _, fun w' H4 q4 => by
    obtain ⟨k, rfl, _⟩ := bV.ex q4
    exact yA (x := .int j) q4, q5⟩
  ·rw [if_neg z] at q5
   exact (show _ = _ from if_neg z).mpr ⟨_, rfl, ⟨_, rfl, q5⟩⟩, q1⟩, q⟩
variable {rest : List Expr}
def yH (ta tb : TE) : TE := fun σ H Q => ta σ H fun x H1 => jh x fun c => if c = true then tb σ H1 Q else Q (.bl false) H1
def yI (ta tb : TE) : TE := fun σ H Q => ta σ H fun x H1 => jh x fun c => if c = true then Q (.bl true) H1 else tb σ H1 Q
def yJ (ta : TE) : TE := fun σ H Q => ta σ H fun x H1 => jh x fun c => Q (.bl (!c)) H1
theorem lW (ha : PE X a ta) (hb : PE X (.BoolOp .And (b :: rest) pos) tb) : PE X (.BoolOp .And (a :: b :: rest) pos) (yH ta tb) := lT (Co (de ha) hb) fun σ H Q q => ⟨_, fun x H1 q1 => q1.ex, q⟩
theorem yK (ha : PE X a ta) (hb : PE X (.BoolOp .Or (b :: rest) pos) tb) : PE X (.BoolOp .Or (a :: b :: rest) pos) (yI ta tb) := lT (Cp (de ha) hb) fun σ H Q q => ⟨_, fun x H1 q1 => q1.ex, q⟩
theorem GQ (ha : PE X a ta) : PE X (.UnaryOp .Not a pos) (yJ ta) := lT (Cq (de ha)) fun σ H Q q => ⟨_, fun x H1 q1 => q1.ex, q⟩
def yL (K : PySem.W.Frag) (ta : TE) (f : Str) : TE := fun σ H Q => ta σ H fun x H1 => lS x fun a => ∃ C dx fs, H1 a = some (.ins C dx fs) /\ aW K C /\ ba K C f /\ ∃ v, fs.lookup f = some v /\ Q v H1
theorem aZ {f : Str} {K : PySem.W.Frag} (hK : X.K = K) (he : PE X e ta) (hb : attributeBase e f X.env (eval e X.env) = eval e X.env) : PE X (.Attribute e f pos) (yL K ta f) := by
 subst hK
 exact lT (C9 (de he) hb) fun σ H Q q => ⟨_, fun x H1 q1 => by
  obtain ⟨a, rfl, C, dx, fs, h1, h2, h3, v, h4, q2⟩ := q1.ex
  exact ⟨a, C, dx, fs, v, rfl, h1, h2, h3, h4, q2⟩, q⟩
def yM (K : PySem.W.Frag) (ta tv : TE) (f : Str) : TS := fun D σ H => tv σ H fun y H1 => ta σ H1 fun x H2 => lS x fun a => ∃ C dx fs, H2 a = some (.ins C dx fs) /\ aW K C /\ ba K C f /\ fs.length < 1000 /\
 D.nx σ (upd H2 a (.ins C dx (c9 f y fs)))
theorem eJ {o value : Expr} {f : Str} {pos' : Pos} {tv : TE} (ha : PE X o ta) (hv : PE X value tv) (hs : swapsWith value (some (.Attribute o f pos')) pos.line X.env = pure false) : PS X (.Assign [.Attribute o f pos'] value pos) (yM X.K ta tv f) := fun pins s σ H D I h =>
 Dc (de ha) (de hv) hs pins s σ H D I ⟨_, fun y H1 q1 => ⟨_, fun x H2 q2 => by
  obtain ⟨a, rfl, C, dx, fs, h⟩ := q2.ex
  exact ⟨a, C, dx, fs, rfl, h⟩, q1⟩, h⟩
end
end Gz
namespace Gz
open PySem PySem.Spec PyProof.Rows L2
section
variable {X : Cx} {K : PySem.W.Frag} {a b e : Expr} {es : List Expr} {ta tb : TE} {t : TA} {pos p : Pos}
theorem aq (ha : PE X a ta) (hb : PE X b tb) (hs : qp b := by exact fun _ _ => rfl) : PE X (.Subscript a b pos) (iQ (iX X.K) ta tb) := wW w4 ha hb hs
theorem yN (ha : PE X a ta) (hb : PE X b tb) (h : X.K = K := by rfl) (hs : qp b := by exact fun _ _ => rfl) : PE X (.Subscript a b pos) (iQ (iX K) ta tb) := wW (E2 h) ha hb hs
end
end Gz
namespace Gz
open PySem PySem.Spec PyProof.Rows L2
structure Fn (K : PySem.W.Frag) (mg : Str -> Option Value) (x : Str) (st : Stmt) (ps : List Str) where
 a : Addr
 fd : FuncData
 F : fF K x x st a fd
 m : mg x = some (.ref a)
 b : Binds K fd ps []
structure Fm (K : PySem.W.Frag) (x q : Str) (st : Stmt) (ps : List Str) where
 a : Addr
 fd : FuncData
 F : fF K x q st a fd
 b : Binds K fd ps []
inductive FA (K : PySem.W.Frag) (x q : Str) (st : Stmt) (f : Addr) : Prop
 | mk {od an : Option Addr} {sl : Array (Option Value)} {oc kV dc pm cd ct : Value} (_ : K.lookup f = some ⟨oc, od, .func (PySem.W.fnOf x q (i0 st) (dR st) (cb st) .none kV dc pm an cd ct), sl⟩) (_ : PySem.W.codeIn K cd q = true) (_ : PySem.W.keepIn K (.ref f) = true)
theorem FA.fn {K : PySem.W.Frag} {x q : Str} {st : Stmt} {f : Addr} (h : FA K x q st f) : ∃ fd, fF K x q st f fd := let ⟨l, c, k⟩ := h; ⟨_, f9 l c k⟩
section
variable {X : Cx} {e : Expr} {es : List Expr} {t : TA} {pos p : Pos}
theorem GR {CX : cJ} {k n : Nat} {ps : List Str} {sp : Sp} {x : Str} {st : Stmt} (N : Fn X.K X.mg x st ps) (F : cq X.prog X.w X.K X.mg X.base CX k N.a N.fd ps sp) (hr : aS n X.A) (hx : Passes CX X E0) (ha : PA X (e :: es) t)
 (hk : k <= n := by decide) (hg : Gl X x := by rfl) (dZ : (x == ("__debug__" : Str)) = false := by decide) (he : starEach (e :: es) X.env = (false, eval e X.env) :: starEach es X.env := by rfl) (cV : (backTo pos (starEach es X.env)).any (·.1) = false := by rfl) :
 PE X (.Call (.Name x p) (e :: es) [] pos) (lq sp [] E0 t) := cU F (hr.mono hk) hg N.m N.F.kp N.b .nil hx ha dZ he cV
end
end Gz
namespace Gz
open PySem PySem.Spec PyProof.Rows L2
theorem GS {α : Type} {n : Nat} {p : List α -> Prop} (h : ∀ u vs, vs.length = n -> p (u :: vs)) : ∀ us : List α, us.length = n + 1 -> p us
 | u :: vs, e => h u vs (Nat.succ.inj e)
theorem GU {α : Type} {p : List α -> Prop} (h : p []) : ∀ us : List α, us.length = 0 -> p us
 | [], _ => h
structure Sc (N ps : List Str) (st : Stmt) : Prop extends jT N ps (cb st) where
 b : ∀ (x q : Str) (kV doc pm : Value) (an : Option Addr) (aP ct : Value) (us : List Value), us.length = ps.length -> bindArgs (PySem.W.fnOf x q (i0 st) (dR st) (cb st) .none kV doc pm an aP ct) ⟨us, []⟩ = pure (ps.zip us)
section
variable {P : Program} {w : World} {K : PySem.W.Frag} {mg : Str -> Option Value} {base h : Heap} {x q : Str} {st : Stmt} {N ps : List Str} {k : Nat} {sp : Sp} {C : Addr}
inductive Fb (K : PySem.W.Frag) (x q : Str) (st : Stmt) (p : Addr -> Prop) : Prop
 | mk {f : Addr} {od an : Option Addr} {sl : Array (Option Value)} {oc kV dc pm cd ct : Value} (_ : p f) (_ : K.lookup f = some ⟨oc, od, .func (PySem.W.fnOf x q (i0 st) (dR st) (cb st) .none kV dc pm an cd ct), sl⟩) (_ : PySem.W.codeIn K cd q = true) (_ : PySem.W.keepIn K (.ref f) = true)
def bK (K : PySem.W.Frag) (x : Str) (f : Addr) : Prop := PySem.W.nsIn K mainGlobals x = some (some (.ref f))
def aH (K : PySem.W.Frag) (C : Addr) (x : Str) (f : Addr) : Prop := PySem.W.findIn K (.ref C) x = some (some (.ref f)) /\ PySem.W.isFn K (.ref f) = true
theorem Fb.fn (b : Fb K x x st (bK K x)) (X : K.In h) (G : h.Ns mainGlobals mg) (S : Sc N ps st) : Nonempty (Fn K mg x st ps) :=
 let ⟨a, l, c, k⟩ := b; ⟨⟨_, _, f9 l c k, PySem.W.mg_of X G a, (f9 l c k).binds (S.b x x)⟩⟩
theorem Fb.fm (b : Fb K x q st (aH K C x)) (S : Sc N ps st) : ∃ F : Fm K x q st ps, aH K C x F.a :=
 let ⟨a, l, c, k⟩ := b; ⟨⟨_, _, f9 l c k, (f9 l c k).binds (S.b x q)⟩, a⟩
theorem Fn.bt {y : Str} (F : Fn K mg x st [y]) (S : Sc N [y] st) (s : Shared) (v : Value) : BindsTo s F.fd ⟨[v], []⟩ [(y, v)] := by
 obtain ⟨oc, od, kV, doc, pm, an, aP, ct, eX, e, lk, dC⟩ := F.F.ex
 rw [e]
 exact .of_eq (S.b _ _ _ _ _ _ _ _ [v] rfl)
abbrev Ok (P : Program) (w : World) {K : PySem.W.Frag} {mg : Str -> Option Value} (base : Heap) (k : Nat) {x : Str} {st : Stmt} {ps : List Str} (F : Fn K mg x st ps) (sp : Sp) : Prop := cq P w K mg base (cB P w) k F.a F.fd ps sp
abbrev Om (P : Program) (w : World) {K : PySem.W.Frag} (mg : Str -> Option Value) (base : Heap) (k : Nat) {x q : Str} {st : Stmt} {ps : List Str} (F : Fm K x q st ps) (sp : Sp) : Prop := cq P w K mg base (cB P w) k F.a F.fd ps sp
theorem cE {F : Fn K mg x st ps} (S : Sc N ps st)
 (dF : ∀ (aP : Value) (A : Around) (outer : List Env) (s : Shared) (H : Hp) (vs : List V) (Q : VK) (E : XK), aS k (A.deeper (envOfC x (cb st) s.heap.objs.size F.a aP)) -> sp vs H Q E ->
   ∃ t, aR (cX (cB P w) P w K mg base N x (cb st) F.a aP A outer s H E).ez (dR st) t /\ t { nx := fun _ H' => Q .non H', rt := Q } (start N vs) H)
 (len : ∀ vs H Q E, sp vs H Q E -> vs.length = ps.length := by intro _ _ _ _ h; cases h; subst_vars; rfl) : Ok P w base (k + 1) F sp := okN F.F S.1 len dF
theorem fM {F : Fn K mg x st ps} (S : Sc N ps st)
 (dF : ∀ (aP : Value) (A : Around) (outer : List Env) (s : Shared) (H : Hp) (vs : List V) (Q : VK) (E : XK), aS k (A.deeper (envOfC x (cb st) s.heap.objs.size F.a aP)) -> sp vs H Q E ->
   ∃ t, aR (cX (cB P w) P w K mg base N x (cb st) F.a aP A outer s H E) (dR st) t /\ t { nx := fun _ H' => Q .non H', rt := Q } (start N vs) H)
 (len : ∀ vs H Q E, sp vs H Q E -> vs.length = ps.length := by intro _ _ _ _ h; cases h; subst_vars; rfl) : Ok P w base (k + 1) F sp := xE F.F S.1 len dF
theorem bL {F : Fm K x q st ps} (S : Sc N ps st)
 (dF : ∀ (aP : Value) (A : Around) (outer : List Env) (s : Shared) (H : Hp) (vs : List V) (Q : VK) (E : XK), aS k (A.deeper (envOfC q (cb st) s.heap.objs.size F.a aP)) -> sp vs H Q E ->
   ∃ t, aR (cX (cB P w) P w K mg base N q (cb st) F.a aP A outer s H E).ez (dR st) t /\ t { nx := fun _ H' => Q .non H', rt := Q } (start N vs) H)
 (len : ∀ vs H Q E, sp vs H Q E -> vs.length = ps.length := by intro _ _ _ _ h; cases h; subst_vars; rfl) : Om P w mg base (k + 1) F sp := okN F.F S.1 len dF
theorem gN {F : Fm K x q st ps} (S : Sc N ps st)
 (dF : ∀ (aP : Value) (A : Around) (outer : List Env) (s : Shared) (H : Hp) (vs : List V) (Q : VK) (E : XK), aS k (A.deeper (envOfC q (cb st) s.heap.objs.size F.a aP)) -> sp vs H Q E ->
   ∃ t, aR (cX (cB P w) P w K mg base N q (cb st) F.a aP A outer s H E) (dR st) t /\ t { nx := fun _ H' => Q .non H', rt := Q } (start N vs) H)
 (len : ∀ vs H Q E, sp vs H Q E -> vs.length = ps.length := by intro _ _ _ _ h; cases h; subst_vars; rfl) : Om P w mg base (k + 1) F sp := xE F.F S.1 len dF
end
section
variable {X : Cx} {x : Str} {e : Expr} {es : List Expr} {te : TE} {t : TA} {p pos pos' : Pos}
theorem aU (i : Nat) (hN : X.N.Nodup) (he : PE X e te) (hi : X.N[i]? = some x := by rfl) (hx : Loc X.env.scope x := by first | exact Or.inl rfl | exact Or.inr rfl) (hs : swapsWith e (some (.Name x pos')) pos.line X.env = pure false := by rfl) (hf : X.fn x = true ∨ X.env.scope.names.lookup x = some .local := by first | exact .inl rfl | exact .inr rfl) :
 PS X (.Assign [.Name x pos'] e pos) (nC te (fY i)) := Cy hN hi hx he hs hf
theorem jl (i : Nat) (hN : X.N.Nodup) (hi : X.N[i]? = some x := by rfl) (hx : Loc X.env.scope x := by first | exact Or.inl rfl | exact Or.inr rfl) (hf : X.fn x = true ∨ X.env.scope.names.lookup x = some .local := by first | exact .inl rfl | exact .inr rfl) : PG X (.Name x pos) (fY i) := pR hN hi hx hf
theorem aL {k n : Nat} {ps : List Str} {sp : Sp} {st : Stmt} {CX : cJ} {N : Fn X.K X.mg x st ps} (F : cq X.prog X.w X.K X.mg X.base CX k N.a N.fd ps sp) (hr : aS n X.A) (ha : PA X (e :: es) t) (hx : Passes CX X E0 := by exact cR)
 (hk : k <= n := by decide) (hg : Gl X x := by rfl) (dZ : (x == ("__debug__" : Str)) = false := by decide) (he : starEach (e :: es) X.env = (false, eval e X.env) :: starEach es X.env := by rfl) (cV : (backTo pos (starEach es X.env)).any (·.1) = false := by rfl) :
 PE X (.Call (.Name x p) (e :: es) [] pos) (lq sp [] E0 t) := GR N F hr hx ha hk hg dZ he cV
end
end Gz
namespace Gz
open PySem PySem.Spec PyProof.Rows L2
theorem _root_.L2.aS.m {j k : Nat} {A : Around} (r : aS k A) (h : j <= k := by decide) : aS j A := r.mono h
theorem aV {K : PySem.W.Frag} {H : Hp} {p : Addr} {xs : List V} {i : Int} {v : V} {Q : VK} (h : H p = some (.tup xs)) (q : Q v H) (e : cK xs i = some v := by rfl) : iX K (.ref p) (.int i) H Q := aQ (aB.of h) e q
theorem cO {X : Cx} {x : Str} {scope : Scope} {cl : List (Str × Addr)} (fr : List Nat) (ys : List Str) (a : closureFor scope X.env = pure cl := by rfl) (b : (scope.names.all fun p => p.2 != .cell) = true := by decide +kernel) (c : scope.kind = .function := by rfl)
 (d : (scope.names.all fun p => p.2 != .local || scope.names.lookup p.1 == some .local) = true := by decide +kernel) (e : scope.names.lookup x = some .local := by rfl) (f : ((relabel scope X.env).names.all fun p => (p.2 != .cell && p.2 != .free) || (cl.lookup p.1).isSome) = true := by rfl)
 (g : fb X cl := by repeat' first | exact fb.nil | refine fb.cons rfl ?_) (h : d8 X scope cl fr ys := by repeat' first | exact d8.nil | refine d8.cons rfl rfl rfl rfl ?_) (i : (x :: ys).Nodup := by decide) (j : (ys.all fun y => (relabel scope X.env).names.lookup y == some .cell) = true := by rfl) : i3 X x scope cl fr ys := ⟨a, b, c, d, e, f, g, h, i, j⟩
theorem GV {tc : TT} {t u : TS} {D : Ends} {σ : L2.St} {H : Hp} (h : ∀ B : TS, B = t -> ny tc B u D σ H) : ny tc t u D σ H := h t rfl
noncomputable abbrev aE {N ps : List Str} {st : Stmt} (_ : Sc N ps st) : List Str := ps
noncomputable abbrev Fq (K : PySem.W.Frag) (mg : Str -> Option Value) (x : Str) {N ps : List Str} {st : Stmt} (_ : Sc N ps st) := Fn K mg x st ps
abbrev yO (K : PySem.W.Frag) (x : Str) {N ps : List Str} {st : Stmt} (_ : Sc N ps st) : Prop := Fb K x x st (bK K x)
abbrev lX (K : PySem.W.Frag) (C : Addr) (x q : Str) {N ps : List Str} {st : Stmt} (_ : Sc N ps st) : Prop := Fb K x q st (aH K C x)
abbrev gO (K : PySem.W.Frag) (x q : Str) {N ps : List Str} {st : Stmt} (_ : Sc N ps st) (p : Addr -> Prop) : Prop := Fb K x q st p
noncomputable def yO.c {K : PySem.W.Frag} {mg : Str -> Option Value} {h : Heap} {x : Str} {st : Stmt} {N ps : List Str} {S : Sc N ps st} (b : yO K x S) (X : K.In h) (G : h.Ns mainGlobals mg) : Fq K mg x S := Classical.choice (Fb.fn b X G S)
section
variable {X : Cx} {x : Str} {e : Expr} {es : List Expr} {t : TA} {p pos : Pos}
end
noncomputable abbrev Fy (K : PySem.W.Frag) (_ : Addr) (x q : Str) {N ps : List Str} {st : Stmt} (_ : Sc N ps st) := Fm K x q st ps
noncomputable abbrev Fv (K : PySem.W.Frag) (x q : Str) {N ps : List Str} {st : Stmt} (_ : Sc N ps st) (_ : Addr -> Prop) := Fm K x q st ps
section
variable {K : PySem.W.Frag} {C : Addr} {x q y : Str} {N ps : List Str} {st : Stmt} {S : Sc N ps st} {p : Addr -> Prop}
theorem Fb.fx (b : Fb K x q st p) (S : Sc N ps st) : ∃ F : Fm K x q st ps, p F.a :=
 let ⟨a, l, c, k⟩ := b; ⟨⟨_, _, f9 l c k, (f9 l c k).binds (S.b x q)⟩, a⟩
noncomputable def gO.c (b : gO K x q S p) : Fv K x q S p := Classical.choose (Fb.fx b S)
noncomputable def lX.c (b : lX K C x q S) : Fy K C x q S := Classical.choose (Fb.fx b S)
theorem gO.i {b : gO K x q S p} (h : ∀ f, p f -> aH K C y f) : aH K C y (gO.c b).a := h _ (Classical.choose_spec (Fb.fx b S))
theorem lX.i {b : lX K C x q S} : aH K C x (lX.c b).a := Classical.choose_spec (Fb.fx b S)
theorem gO.j {b : gO K x q S p} {v u : Value} (h : ∀ f, p f -> PySem.W.findCls K v u y = some (.val (.ref f))) : PySem.W.findCls K v u y = some (.val (.ref (gO.c b).a)) := h _ (Classical.choose_spec (Fb.fx b S))
end
end Gz
namespace Gz
open PySem PySem.Spec PyProof.Rows L2
structure bY (P : Program) (w : World) (K : PySem.W.Frag) (mg : Str -> Option Value) (base : Heap) (A : Around) (m : Str) (x : V) (H : Hp) (Q : VK) : Prop where
 mk ::
 ex : ∃ a C dx fs f k fd ps sp, x = .ref a /\ H a = some (.ins C dx fs) /\ aW K C /\ Meth K C m f /\ fs.lookup m = none /\ cq P w K mg base (cB P w) k f fd ps sp /\ aS k A /\ Binds K fd ps [] /\ sp [.ref a] H Q E0
theorem bY.of {P : Program} {w : World} {K : PySem.W.Frag} {mg : Str -> Option Value} {base : Heap} {A : Around} {m : Str} {H : Hp} {Q : VK} {a C dx f : Addr} {fs : List (Str × V)} {k n : Nat} {fd : FuncData} {ps : List Str} {sp : Sp} (ha : H a = some (.ins C dx fs)) (hc : aW K C) (hm : Meth K C m f) (F : cq P w K mg base (cB P w) k f fd ps sp) (hr : aS n A) (hb : Binds K fd ps []) (q : sp [.ref a] H Q E0) (hl : fs.lookup m = none := by rfl) (hk : k <= n := by decide) : bY P w K mg base A m (.ref a) H Q :=
 ⟨a, C, dx, fs, f, k, fd, ps, sp, rfl, ha, hc, hm, hl, F, hr.mono hk, hb, q⟩
theorem dq {X : Cx} {R : V -> Hp -> VK -> Prop} {m : Str} {o : Expr} {apos pos : Pos} {ta : TE} {pl : Sem Bool} (hR : ∀ x H Q, R x H Q -> bY X.prog X.w X.K X.mg X.base X.A m x H Q) (he : PE X o ta)
 (ht : eval (.Call (.Attribute o m apos) [] [] pos) X.env = (do
   let ov <- eval o X.env
   standAt apos.atName
   let (f, first) <- holding [ov] (getMethod ov m pl)
   callWith pos f first (backTo pos (starEach [] X.env)) (backToKw pos (keywordEach [] X.env))) := by rfl) :
 PE X (.Call (.Attribute o m apos) [] [] pos) (fun σ H Q => ta σ H fun x H1 => R x H1 Q) := by
 intro pins s σ H Q I h
 refine PySem.W.methodCall_KW (pl := pl) (aw (he pins s σ H _ I h) fun u s1 ⟨x, H1, I1, rx, q⟩ => ?_) ht
 obtain ⟨a, C, dx, fs, f, k, fd, ps, sp, rfl, ea, c, hm, l, F, hr, hb, q⟩ := hR _ _ _ q
 obtain rfl : u = Value.ref a := rx
 refine qf I1 ea c hm l ?_
 exact PySem.W.callWith_K0 (first := [.ref a]) I1.bG hm.kp (lr (us := [.ref a]) (vs := [.ref a]) F hr hb .nil cR I1 (.cons rfl .nil) q)
end Gz
namespace Gz
open PySem PySem.Spec PyProof.Rows L2
section
variable {prog : Program} {w : World} {A : Around} {E : Value -> Shared -> Prop} {s : Shared} {l : Addr} {xs : Array (Int × Tok)}
theorem GW {Q : Value -> Shared -> Prop} (hh : A.handled = none) (hl : s.heap.IsTuple l (intItems xs)) (eE : 0 < xs.size)
 (h : ∀ v h' tk, (intItems xs)[argBest (fun i j => decide (numAt xs i > numAt xs j)) (xs.size - 1)]? = some v -> (∀ b o, s.heap.get? b = some o -> h'.get? b = some o) -> Q v { s with heap := h', toks := tk }) :
 wpAny (model prog w) A (call (.builtin "max") [.ref l]) Q E s := by
 have cp : l < s.heap.objs.size := by obtain ⟨_, e, _⟩ := hl; exact Heap.lt_size e
 refine call_max_walk (wpAny_pyIter_tuple hl ?_)
 refine ⟨_, _, _, _, _, _, _, rfl, Walks.tuple (A := A.in1) hh _ l (Nat.ne_of_lt cp) (intItems xs), ⟨⟨_, Heap.get?_push_size _ rfl, rfl, rfl⟩, hl.push _⟩, (fun b hb => ?_), by simpa [intItems] using eE, CmpOf.ints_gt (numAt xs) (fun _ _ => intItems_at), fun v h' tk hP hk => ?_⟩
 ·show b < (s.heap.push _).objs.size
  rw [Heap.size_push]
  rcases List.mem_cons.mp hb with rfl | hb
  ·exact Nat.lt_succ_self _
  ·rcases List.mem_cons.mp hb with rfl | hb
   ·exact Nat.lt_succ_of_lt cp
   ·cases hb
 ·refine h v h' tk (by simpa [intItems] using hP) fun b o e => hk b o (fun hm => ?_) (Heap.get?_push_of_some _ e)
  rcases List.mem_cons.mp hm with e1 | hm
  ·exact absurd (e1 ▸ Heap.lt_size e) (Nat.lt_irrefl _)
  ·cases hm
end
theorem yP {X : Cx} (hc : X.calm = true) : eU X (.builtin "max") (fun xs H Q => ∃ a ns, xs = [.ref a] /\ aB X.K H a (ns.map V.int) /\ ns ≠ [] /\ Q (.int (j3 ns)) H) := by
 intro pins s σ H xs us Q I r h
 obtain ⟨a, ns, rfl, hS, eE, q⟩ := h
 obtain ⟨u, rfl, ru⟩ := vals1 r
 cases ru
 obtain ⟨aj, rv, hp, _⟩ := I.tuple hS
 obtain ⟨xs, e1, e2⟩ := xX rv
 rw [e1] at hp
 have len : xs.size = ns.length := by rw [<- e2, List.length_map]; simp
 have yQ : 0 < xs.size := by rw [len]; exact List.length_pos_iff.mpr eE
 refine GW (I.ok.hd hc) hp yQ fun v h' tk hv hk => ⟨.int (j3 ns), H, I.kept hk, ?_, q⟩
 obtain ⟨t, rfl⟩ := intItems_at hv
 exact ⟨t, by rw [E8 e2 yQ]⟩
end Gz
namespace Gz
open PySem PySem.Spec PyProof.Rows L2
section
variable {X : Cx}
theorem yR : ∀ {ss : List Str} {aj : List Value}, Vals (ss.map V.str) aj -> CarriedAll aj (ss.map PyData.str)
 | [], _, r => by cases r; exact .nil
 | s :: ss, _, r => by
  cases r with
  | cons r1 r2 =>
   obtain ⟨t, rfl⟩ := r1
   exact .cons (.str _ _) (yR r2)
end
end Gz
namespace Gz
open PySem PySem.Spec PyProof.Rows L2 Builtin Builtin.Str StrLaws
noncomputable def dt (c : Nat) : Nat -> List Nat -> List Nat
 | _, [] => []
 | i, x :: xs => if x = c then i :: dt c (i + 1) xs else dt c (i + 1) xs
noncomputable def dJ (c : Nat) : List Nat -> List (List Nat)
 | [] => [[]]
 | x :: xs => if x = c then [] :: dJ c xs else match dJ c xs with
  | [] => [[x]]
  | w :: ws => (x :: w) :: ws
theorem subAt_one (s : PySem.Str) (c i : Nat) (h : i < s.cps.toList.length) : subAt s ⟨#[c]⟩ i = decide (s.cps.toList[i] = c) := by
 have hi : i < s.cps.size := by simpa using h
 have e : s.cps.extract i (i + 1) = #[s.cps[i]] := by
  apply Array.ext
  ·simp; omega
  ·intro j h1 h2
   have : j = 0 := by simp at h2; omega
   subst this
   simp
 show (s.cps.extract i (i + 1) == #[c]) = _
 rw [e]
 have ee : s.cps.toList[i] = s.cps[i] := by simp
 rw [ee]
 by_cases q : s.cps[i] = c
 ·rw [q]; simp
 ·rw [decide_eq_false q]
  have : ¬ (#[s.cps[i]] == #[c]) = true := by
   intro z
   have := eq_of_beq z
   simp at this
   exact q this
  exact Bool.eq_false_iff.mpr this
theorem GX (s : PySem.Str) (c : Nat) (l : List Nat) (hl : s.cps.toList = l) : ∀ (n i : Nat) (acc : Array Nat) (free : Nat), i + n = l.length + 1 -> free <= i -> acc.size <= i ->
 (forIn (List.range' i n) (acc, free) (occBody s ⟨#[c]⟩ l.length (l.length + 1))).run.fst.toList = acc.toList ++ dt c i (l.drop i) := by
 intro n
 induction n with
 | zero =>
  intro i acc free hi hf ha
  rw [List.drop_eq_nil_of_le (by omega)]
  simp [dt]
 | succ n ih =>
  intro i acc free hi hf ha
  rw [List.range'_succ, List.forIn_cons]
  by_cases h : i < l.length
  ·have hc : l.drop i = l[i] :: l.drop (i + 1) := List.drop_eq_getElem_cons h
   have hs : subAt s ⟨#[c]⟩ i = decide (l[i] = c) := by
    subst hl
    exact subAt_one s c i h
   rw [hc]
   by_cases q : l[i] = c
   ·have e : occBody s ⟨#[c]⟩ l.length (l.length + 1) i (acc, free) = pure (ForInStep.yield (acc.push i, i + 1)) := by
     unfold occBody
     rw [if_pos]
     ·rfl
     ·refine ⟨⟨⟨?_, hf⟩, ?_⟩, ?_⟩
      ·show acc.size < l.length + 1
       omega
      ·show i + 1 <= l.length
       omega
      ·rw [hs]; exact decide_eq_true q
    rw [e]
    show (Id.run (forIn (m := Id) (List.range' (i + 1) n) (acc.push i, i + 1) (occBody s ⟨#[c]⟩ l.length (l.length + 1)))).fst.toList = _
    rw [ih (i + 1) (acc.push i) (i + 1) (by omega) (Nat.le_refl _) (by simp; omega)]
    simp [dt, q]
   ·have e : occBody s ⟨#[c]⟩ l.length (l.length + 1) i (acc, free) = pure (ForInStep.yield (acc, free)) := by
     unfold occBody
     rw [if_neg]
     rintro ⟨_, z⟩
     rw [hs] at z
     exact q (of_decide_eq_true z)
    rw [e]
    show (Id.run (forIn (m := Id) (List.range' (i + 1) n) (acc, free) (occBody s ⟨#[c]⟩ l.length (l.length + 1)))).fst.toList = _
    rw [ih (i + 1) acc free (by omega) (by omega) (by omega)]
    simp [dt, q]
  ·have e : occBody s ⟨#[c]⟩ l.length (l.length + 1) i (acc, free) = pure (ForInStep.yield (acc, free)) := by
    unfold occBody
    rw [if_neg]
    rintro ⟨⟨_, z⟩, _⟩
    have z' : i + 1 <= l.length := z
    omega
   rw [e]
   show (Id.run (forIn (m := Id) (List.range' (i + 1) n) (acc, free) (occBody s ⟨#[c]⟩ l.length (l.length + 1)))).fst.toList = _
   rw [ih (i + 1) acc free (by omega) (by omega) (by omega), List.drop_eq_nil_of_le (by omega), List.drop_eq_nil_of_le (by omega)]
   rfl
theorem yS (s : PySem.Str) (c : Nat) : occurrences s ⟨#[c]⟩ 0 s.length (s.length + 1) = dt c 0 s.cps.toList := by
 rw [occ_eq]
 have hl : s.length = s.cps.toList.length := by show s.cps.size = _; simp
 rw [hl]
 rw [GX s c s.cps.toList rfl _ 0 #[] 0 (by omega) (Nat.le_refl _) (Nat.le_refl _)]
 simp
noncomputable def d9 (l : List Nat) (i j : Nat) : List Nat := (l.take j).drop i
theorem GY (c : Nat) (l : List Nat) : ∀ (r : List Nat) (a i : Nat), l.drop i = r -> a <= i -> i <= l.length ->
 ∃ w ws, dJ c r = w :: ws /\ ((a :: (dt c i r).map (· + 1)).zip (dt c i r ++ [l.length])).map (fun p => d9 l p.1 p.2) = (d9 l a i ++ w) :: ws := by
 intro r
 induction r with
 | nil =>
  intro a i hr ha hi
  have hL : l.length <= i := List.drop_eq_nil_iff.mp hr
  have : i = l.length := by omega
  exact ⟨[], [], rfl, by simp [dt, this]⟩
 | cons x xs ih =>
  intro a i hr ha hi
  have h : i < l.length := by
   rcases Nat.lt_or_ge i l.length with z | z
   ·exact z
   ·rw [List.drop_eq_nil_of_le z] at hr; cases hr
  have hc := List.drop_eq_getElem_cons h
  rw [hr] at hc
  obtain ⟨ex, exs⟩ := List.cons.inj hc
  by_cases q : x = c
  ·obtain ⟨w, ws, e1, e2⟩ := ih (i + 1) (i + 1) exs.symm (Nat.le_refl _) (by omega)
   refine ⟨[], w :: ws, ?_, ?_⟩
   ·show (if x = c then [] :: dJ c xs else _) = _
    rw [if_pos q, e1]
   ·have eC : dt c i (x :: xs) = i :: dt c (i + 1) xs := by show (if x = c then _ else _) = _; rw [if_pos q]
    rw [eC]
    show d9 l a i :: ((((i + 1) :: (dt c (i + 1) xs).map (· + 1)).zip (dt c (i + 1) xs ++ [l.length])).map (fun p => d9 l p.1 p.2)) = _
    rw [e2]
    have z : d9 l (i + 1) (i + 1) = [] := by unfold d9; rw [List.drop_eq_nil_iff]; simp; omega
    rw [z]
    simp
  ·obtain ⟨w, ws, e1, e2⟩ := ih a (i + 1) exs.symm (by omega) (by omega)
   refine ⟨x :: w, ws, ?_, ?_⟩
   ·show (if x = c then _ else match dJ c xs with | [] => [[x]] | w :: ws => (x :: w) :: ws) = _
    rw [if_neg q, e1]
   ·have eC : dt c i (x :: xs) = dt c (i + 1) xs := by show (if x = c then _ else _) = _; rw [if_neg q]
    rw [eC, e2]
    have z : d9 l a (i + 1) = d9 l a i ++ [x] := by
     unfold d9
     rw [List.take_succ, List.getElem?_eq_getElem h, <- ex, List.drop_append_of_le_length (by simp; omega)]
     rfl
    rw [z]
    simp
noncomputable def jm (l : List Nat) : PySem.Str := ⟨l.toArray⟩
theorem GZ (s : PySem.Str) : jm s.cps.toList = s := by cases s; simp [jm]
theorem G0 (x : PySem.Str) (c : Nat) (hc : c < 256) : Txt.split x ⟨#[c]⟩ = (dJ c x.cps.toList).map jm := by
 have hp : partsBetween x (occurrences x ⟨#[c]⟩ 0 x.length (x.length + 1)) 1 = (dJ c x.cps.toList).map jm := by
  rw [yS]
  obtain ⟨w, ws, e1, e2⟩ := GY c x.cps.toList x.cps.toList 0 0 rfl (Nat.le_refl _) (Nat.zero_le _)
  rw [e1]
  have z : d9 x.cps.toList 0 0 = [] := by simp [d9]
  rw [z, List.nil_append] at e2
  rw [<- e2, List.map_map]
  unfold partsBetween
  have hl : x.length = x.cps.toList.length := by show x.cps.size = _; simp
  rw [hl]
  apply List.map_congr_left
  rintro ⟨i, j⟩ _
  show strSub x i j = jm (d9 x.cps.toList i j)
  unfold strSub jm d9
  congr 1
  apply Array.ext'
  simp [List.drop_take]
 unfold Txt.split
 have hk : ¬ strKind x < strKind (⟨#[c]⟩ : PySem.Str) := by
  have a : strKind (⟨#[c]⟩ : PySem.Str) = 1 := by unfold Builtin.Str.strKind; simp [hc]
  have b : 1 <= strKind x := by unfold Builtin.Str.strKind; split; exact Nat.le_refl _; split <;> decide
  omega
 have one : ∀ (h : occurrences x ⟨#[c]⟩ 0 x.length (x.length + 1) = []), [x] = (dJ c x.cps.toList).map jm := by
  intro h
  rw [<- hp, h]
  unfold partsBetween
  have : strSub x 0 x.length = x := by unfold strSub; cases x; simp [Str.length]
  simp [this]
 split
 ·rename_i h
  have h' : x.length < 1 := by
   rcases (Bool.or_eq_true _ _).mp h with z | z
   ·exact of_decide_eq_true z
   ·exact absurd (of_decide_eq_true z) hk
  have hn : x.cps.toList = [] := by
   have : x.cps.size < 1 := h'
   apply List.eq_nil_of_length_eq_zero
   rw [Array.length_toList]; omega
  refine one ?_
  rw [yS, hn]
  rfl
 ·split
  ·rename_i h
   exact one (List.isEmpty_iff.mp h)
  ·exact hp
noncomputable def dM (c : Nat) : List (List Nat) -> List Nat
 | [] => []
 | [w] => w
 | w :: v :: ws => w ++ c :: dM c (v :: ws)
theorem yT (c : Nat) : ∀ w : List Nat, c ∉ w -> dJ c w = [w]
 | [], _ => rfl
 | x :: xs, h => by
  have h1 : ¬ x = c := fun z => h (z ▸ .head _)
  unfold dJ
  rw [if_neg h1, yT c xs fun z => h (.tail _ z)]
theorem yU (c : Nat) (r : List Nat) : ∀ w : List Nat, c ∉ w -> dJ c (w ++ c :: r) = w :: dJ c r
 | [], _ => by show (if c = c then _ else _) = _; rw [if_pos rfl]
 | x :: xs, h => by
  have h1 : ¬ x = c := fun z => h (z ▸ .head _)
  show (if x = c then _ else match dJ c (xs ++ c :: r) with | [] => [[x]] | w :: ws => (x :: w) :: ws) = _
  rw [if_neg h1, yU c r xs fun z => h (.tail _ z)]
theorem yV (c : Nat) : ∀ ws : List (List Nat), ws ≠ [] -> (∀ w ∈ ws, c ∉ w) -> dJ c (dM c ws) = ws
 | [], h, _ => absurd rfl h
 | [w], _, h => yT c w (h w (.head _))
 | w :: v :: ws, _, h => by
  show dJ c (w ++ c :: dM c (v :: ws)) = _
  rw [yU c _ w (h w (.head _)), yV c (v :: ws) (by simp) fun z hz => h z (.tail _ hz)]
theorem yW (c : Nat) : ∀ (ws : List PySem.Str) (a : Array Nat), (ws.foldl (fun acc p => acc ++ (⟨#[c]⟩ : PySem.Str).cps ++ p.cps) a).toList = a.toList ++ (ws.map fun w => c :: w.cps.toList).flatten
 | [], a => by simp
 | w :: ws, a => by
  rw [List.foldl_cons, yW c ws]
  simp
theorem yX (c : Nat) : ∀ (w : List Nat) (ws : List (List Nat)), dM c (w :: ws) = w ++ (ws.map fun v => c :: v).flatten
 | w, [] => by simp [dM]
 | w, v :: ws => by
  show w ++ c :: dM c (v :: ws) = _
  rw [yX c v ws]
  simp
theorem gi (c : Nat) (ws : List PySem.Str) : (Txt.join ⟨#[c]⟩ ws).cps.toList = dM c (ws.map fun w => w.cps.toList) := by
 cases ws with
 | nil => rfl
 | cons w ws =>
  show (glued ⟨#[c]⟩ (w :: ws)).cps.toList = _
  unfold glued
  show ((ws.foldl (fun acc p => acc ++ (⟨#[c]⟩ : PySem.Str).cps ++ p.cps) w.cps)).toList = _
  rw [yW, List.map_cons, yX, List.map_map]
  rfl
theorem G1 (c : Nat) (hc : c < 256) (ws : List PySem.Str) (h0 : ws ≠ []) (h : ∀ w ∈ ws, c ∉ w.cps.toList) : Txt.split (Txt.join ⟨#[c]⟩ ws) ⟨#[c]⟩ = ws := by
 rw [G0 _ c hc, gi, yV c _ (by simpa using h0) (by
  intro w hw
  obtain ⟨s, hs, rfl⟩ := List.mem_map.mp hw
  exact h s hs), List.map_map]
 conv => rhs; rw [<- List.map_id ws]
 exact List.map_congr_left fun s _ => GZ s
end Gz
namespace Gz
open PySem PySem.Spec PyProof.Rows L2 Builtin Builtin.Str StrLaws
section
variable {X : Cx}
theorem yY : ∀ (l : List (PySem.Str × Tok)), Vals ((l.map (·.1)).map V.str) (strValues l)
 | [] => .nil
 | (x, t) :: l => .cons ⟨t, rfl⟩ (yY l)
theorem G2 : nW X "str.split" (fun x xs H Q => ∃ z y, x = .str z /\ xs = [.str y] /\ (y.length == 0) = false /\ z.length + 2 <= sizeLine /\ ∀ l, H l = none -> Q (.ref l) (upd H l (.lst ((Txt.split z y).map V.str)))) := by
 intro pins s σ H x xs v us Q I rx rv h
 obtain ⟨z, y, rfl, rfl, hy, hz, q⟩ := h
 obtain ⟨u, rfl, ru⟩ := vals1 rv
 obtain ⟨t, rfl⟩ := rx
 obtain ⟨k, rfl⟩ := ru
 have hn : (partsBetween z (occurrences z y 0 z.length (z.length + 1)) y.length).length <= sizeLine := by
  have e1 := StrLaws.occ_length_le z y 0 z.length (z.length + 1)
  rw [length_partsBetween]; omega
 have fin : ∀ (l : List (PySem.Str × Tok)) (t' : Nat), l.map (·.1) = Txt.split z y -> l.length <= sizeLine -> EP X pins σ Q (.ref s.heap.objs.size) { s with heap := s.heap.push { cls := .type "list", data := .seq (strValues l).toArray }, toks := t' } := fun l t' e hl =>
  ⟨.ref s.heap.objs.size, _, I.xg (t' := t') (e ▸ yY l) (by rw [<- e, List.length_map, List.length_map]; exact hl), rfl, q _ I.fresh⟩
 cases h1 : (decide (z.length < y.length) || decide (strKind z < strKind y))
 ·cases hf : (occurrences z y 0 z.length (z.length + 1)).isEmpty
  ·refine call_meets F.slot_str_split (typeIs_str _ _ _) F.entry_str_split (F.args_str_split_2 _ _) (meets_str_split_sep z y t k h1 hy hf (by omega) hn) ?_
   show wants _ _ _ { s with toks := _, heap := s.heap.push { cls := .type "list", data := .seq (strsFrom s.toks (partsBetween z (occurrences z y 0 z.length (z.length + 1)) y.length)).toArray } }
   rw [strsFrom_eq]
   exact fin (numbered s.toks _) _ ((numbered_texts _ _).trans ((if_neg (ne_true_of_eq_false h1)).trans (if_neg (ne_true_of_eq_false hf))).symm) (by rw [<- List.length_map (f := (·.1)), numbered_texts]; exact hn)
  ·exact call_meets F.slot_str_split (typeIs_str _ _ _) F.entry_str_split (F.args_str_split_2 _ _) (meets_str_split_not_found z y t k h1 hy hf)
    (fin [(z, t)] s.toks ((if_neg (ne_true_of_eq_false h1)).trans (if_pos hf)).symm (by show 1 <= sizeLine; decide))
 ·exact call_meets F.slot_str_split (typeIs_str _ _ _) F.entry_str_split (F.args_str_split_2 _ _) (meets_str_split_cannot_occur z y t k h1)
   (fin [(z, t)] s.toks (if_pos h1).symm (by show 1 <= sizeLine; decide))
theorem lY : nW X "str.join" (fun x xs H Q => ∃ z a ss, x = .str z /\ xs = [.ref a] /\ ar X.K H a (ss.map V.str) /\ (ss.map (·.length)).sum + ss.length * z.length <= 16777216 /\ Q (.str (Txt.join z ss)) H) := by
 intro pins s σ H x xs v us Q I rx rv h
 obtain ⟨z, a, ss, rfl, rfl, hS, h1, q⟩ := h
 obtain ⟨u, rfl, ru⟩ := vals1 rv
 obtain ⟨t, rfl⟩ := rx
 cases ru
 obtain ⟨aj, r, p, _⟩ := I.list hS
 exact join_list p.isList (StrsAre.of_carried (yR r)) h1 fun t' k => ⟨.str _, H, I.tok _, ⟨_, rfl⟩, q⟩
theorem yZ : nW X "str.startswith" (fun x xs H Q => ∃ z y, x = .str z /\ xs = [.str y] /\ Q (.bl (Txt.startswith z y)) H) := by
 intro pins s σ H x xs v us Q I rx rv h
 obtain ⟨z, y, rfl, rfl, q⟩ := h
 obtain ⟨u, rfl, ru⟩ := vals1 rv
 obtain ⟨t, rfl⟩ := rx
 obtain ⟨k, rfl⟩ := ru
 exact SC.startswith ⟨.bl _, H, I, rfl, q⟩
end
end Gz
namespace Gz
open PySem PySem.Spec PyProof.Rows L2 PySem.W PySem.NumText
noncomputable def bb (n : Int) : PySem.Str := toString n
noncomputable def cM (m : Nat) : List Nat := (Nat.toDigits 10 m).map Char.toNat
theorem jn (m : Nat) : AllDigits (cM m) := by
 intro c hc
 obtain ⟨ch, et, e⟩ := List.mem_map.mp hc
 rw [<- e]
 exact digit_range (Nat.isDigit_of_mem_toDigits (by decide) (by decide) et)
theorem y0 (m : Nat) (h : ¬ m < 10) : cM m = cM (m / 10) ++ cM (m % 10) := by
 have t : Nat.toDigits 10 (m / 10) ++ Nat.toDigits 10 (m % 10) = Nat.toDigits 10 (10 * (m / 10) + m % 10) := Nat.toDigits_append_toDigits (by decide) (by omega) (Nat.mod_lt m (by decide))
 rw [Nat.div_add_mod] at t
 unfold cM
 rw [<- t, List.map_append]
theorem oJ (m : Nat) (h : m < 10) : cM m = [m + 48] := by
 unfold cM
 rw [Nat.toDigits_of_lt_base h]
 have : ∀ d : Nat, d < 10 -> (Nat.digitChar d).toNat = d + 48 := by decide
 rw [List.map_cons, this m h, List.map_nil]
theorem rB (k : Nat) : ∀ m : Nat, m < 10 ^ (k + 1) -> (cM m).length <= k + 1 := by
 induction k with
 | zero => intro m h; rw [oJ m (by omega)]; exact Nat.le_refl _
 | succ k ih =>
  intro m h
  by_cases y9 : m < 10
  ·rw [oJ m y9]; show 1 <= _; omega
  ·rw [y0 m y9, List.length_append, oJ (m % 10) (Nat.mod_lt m (by decide))]
   have := ih (m / 10) (by rw [Nat.pow_succ] at h; omega)
   show _ + 1 <= _
   omega
theorem kg (m : Nat) : ∃ d r, cM m = d :: r /\ (m ≠ 0 -> d ≠ 48) := by
 induction m using Nat.strongRecOn with
 | _ m ih =>
  by_cases h : m < 10
  ·exact ⟨m + 48, [], oJ m h, by omega⟩
  ·obtain ⟨d, r, e, hd⟩ := ih (m / 10) (by omega)
   refine ⟨d, r ++ cM (m % 10), ?_, fun _ => hd (by omega)⟩
   rw [y0 m h, e]
   rfl
theorem jo (m : Nat) : (bb (m : Int)).cps.toList = cM m := KIN.signs_num m
theorem lZ (m : Nat) : (bb (-((m + 1 : Nat) : Int))).cps.toList = 45 :: cM (m + 1) := by
 have e : bb (-((m + 1 : Nat) : Int)) = PySem.Str.ofString ("-" ++ Nat.repr (m + 1)) := rfl
 rw [e, signs_ofString]
 show ("-" ++ Nat.repr (m + 1)).toList.map Char.toNat = _
 rw [String.toList_append, List.map_append, Nat.toList_repr]
 rfl
theorem l6 (n : Int) : (∃ m : Nat, n = m) ∨ ∃ m : Nat, n = -((m + 1 : Nat) : Int) := by
 cases n with
 | ofNat m => exact .inl ⟨m, rfl⟩
 | negSucc m => exact .inr ⟨m, rfl⟩
theorem str_len (s : PySem.Str) : s.length = s.cps.toList.length := by show s.cps.size = _; simp
theorem cf {n : Int} (h : n.natAbs < 10 ^ 60) : (bb n).length <= 61 := by
 rw [str_len]
 rcases l6 n with ⟨m, rfl⟩ | ⟨m, rfl⟩
 ·rw [jo]
  exact Nat.le_trans (rB 59 m (by simpa using h)) (by decide)
 ·rw [lZ]
  have := rB 59 (m + 1) (by have := h; rw [Int.natAbs_neg, Int.natAbs_natCast] at this; exact this)
  show _ + 1 <= 61
  omega
theorem G3 {n : Int} (h : n.natAbs < 10 ^ 60) : PySem.intText? (bb n) = some n := by
 have hl := cf h
 rcases l6 n with ⟨m, rfl⟩ | ⟨m, rfl⟩
 ·obtain ⟨d, r, e, _⟩ := kg m
  have := intText_digits (x := bb (m : Int)) (by rw [jo]; exact jn m) (by rw [jo, e]; simp) (by omega)
  rw [this, jo]
  unfold cM
  rw [KIN.val_back]
 ·obtain ⟨d, r, e, _⟩ := kg (m + 1)
  have := intText_neg (x := bb (-((m + 1 : Nat) : Int))) (lZ m) (jn _) (by rw [e]; simp) (by omega)
  rw [this]
  unfold cM
  rw [KIN.val_back]
section
variable {X : Cx}
theorem G4 : eU X (.type "int") (fun xs H Q => ∃ x n, xs = [.str x] /\ PySem.intText? x = some n /\ x.length <= 640 /\ Q (.int n) H) := by
 intro pins s σ H xs us Q I r h
 obtain ⟨x, n, rfl, hn, hl, q⟩ := h
 obtain ⟨u, rfl, rx⟩ := vals1 r
 obtain ⟨t, rfl⟩ := rx
 exact KIN.call_text hn hl ⟨.int n, H, I.tok _, ⟨_, rfl⟩, q⟩
end
end Gz
namespace Gz
open PySem PySem.Spec PyProof.Rows L2
noncomputable def bZ (x : PySem.Str) : List V := x.cps.toList.map fun c => V.str ⟨#[c]⟩
theorem G5 {x : PySem.Str} {i c : Nat} (h : x.cps[i]? = some c) : (bZ x)[i]? = some (.str ⟨#[c]⟩) := by
 unfold bZ
 rw [List.getElem?_map, Array.getElem?_toList, h]
 rfl
theorem oK (x : PySem.Str) : (bZ x).length = x.cps.size := by unfold bZ; simp
noncomputable def kh (x : PySem.Str) : It := ⟨fun i _ => i < x.cps.size, fun i H v H' => H' = H /\ (bZ x)[i]? = some v, fun i _ => x.cps.size <= i⟩
def rC (te : TE) : TI := fun σ H R => te σ H fun v H1 => ∃ x, v = .str x /\ R (kh x) H1
theorem oM (x : PySem.Str) : strIterType x = "str_ascii_iterator" ∨ strIterType x = "str_iterator" := by
 unfold strIterType
 split
 ·exact .inl rfl
 ·exact .inr rfl
theorem G6 {P : Program} {w : World} {K : PySem.W.Frag} {tg : Expr} (x : PySem.Str) (t : Tok) (it : Addr) : Turn P w K tg (kh x) [it] it (fun i h => h.IsStrIter it (strIterType x) x t i) where
 mem := by simp
 obj := fun i h st b hb => by
  have e : b = it := by simpa using hb
  subst e
  obtain ⟨o, e, c, d⟩ := st
  exact ⟨o, e, fun v z => by rw [d] at z; cases z⟩
 keep := fun i h h' st k => let ⟨o, e, r⟩ := st; ⟨o, k it (by simp) o e, r⟩
 item := by
  intro X hP hw hK hc i pins s σ H E I hf st hg
  subst hP hw hK
  have hg : i < x.cps.size := hg
  obtain ⟨f0, f1, f2, f3, f4, f5⟩ := hf it (by simp)
  have ex : x.cps[i]? = some x.cps[i] := by simp [hg]
  have fin : ∀ h' : Heap, h'.IsStrIter it (strIterType x) x t (i + 1) -> Heap.SameBut it s.heap h' -> ∃ u, some (Value.str ⟨#[x.cps[i]]⟩ s.toks) = some u /\
   wpAny (model X.prog X.w) X.A (letOwnedTupleGo tg (.ref it) u) (fun _ s2 => ∃ za H', Inv X pins σ H' s2 /\ RelV za u /\ (kh x).yld i H za H' /\ s2.heap.IsStrIter it (strIterType x) x t (i + 1) /\ ∀ b ∈ [it], H' b = none) E { s with heap := h', toks := s.toks + 1 } := by
   intro h' cT sb
   have I1 : Inv X pins σ H { s with heap := h', toks := s.toks + 1 } := I.turned (t' := s.toks + 1) (fun b o hb e => (sb.2 b hb).trans e) f0 f1 f3 f4 f5
   obtain ⟨o, e, c, d⟩ := id cT
   refine ⟨_, rfl, nE (s := { s with heap := h', toks := s.toks + 1 }) e c d ?_ ⟨.str ⟨#[x.cps[i]]⟩, H, I1, ⟨_, rfl⟩, ⟨rfl, G5 ex⟩, cT, fun b hb => (hf b hb).1⟩⟩
   rcases oM x with z | z <;> rw [z] <;> decide
  rcases oM x with z | z
  ·have q := fin
   rw [z] at st q
   exact wpAny_pyNext_ascii_item st ex fun h' cT sb => by rw [z]; exact q h' cT sb
  ·have q := fin
   rw [z] at st q
   exact wpAny_pyNext_wide_item st ex fun h' cT sb => by rw [z]; exact q h' cT sb
 done := by
  intro X hP hw hK hc i pins s σ H E I hf st hg
  subst hP hw hK
  have hg : x.cps.size <= i := hg
  obtain ⟨f0, f1, f2, f3, f4, f5⟩ := hf it (by simp)
  have ex : x.cps[i]? = none := by simp [hg]
  rcases oM x with z | z
  ·rw [z] at st
   exact wpAny_pyNext_ascii_end (I.ok.hd hc) st ex fun h' eb => ⟨rfl, I.turned (t' := s.toks) (fun b o hb e => eb b o hb e) f0 f1 f3 f4 f5⟩
  ·rw [z] at st
   exact wpAny_pyNext_wide_end (I.ok.hd hc) st ex fun h' eb => ⟨rfl, I.turned (t' := s.toks) (fun b o hb e => eb b o hb e) f0 f1 f3 f4 f5⟩
 self := fun _ _ _ _ _ st h => by
  rcases oM x with z | z
  ·rw [z] at st; exact wpAny_pyIter_striter_ascii st h
  ·rw [z] at st; exact wpAny_pyIter_striter_wide st h
theorem ze {X : Cx} {tg l : Expr} {tl : TE} (hl : PE X l tl) : PI X tg l (rC tl) := by
 intro pins s σ H R I h
 refine aw (hl pins s σ H _ I h) fun v s1 ⟨y, H1, I1, r1, q1⟩ => ?_
 obtain ⟨x, e, q⟩ := q1
 subst e
 obtain ⟨t, rfl⟩ := r1
 refine wpAny_pyIter_strU ?_
 refine ⟨s1.heap.objs.size, [s1.heap.objs.size], _, _, H1, rfl, I1.kept (t' := s1.toks) fun b o e => Heap.get?_push_of_some _ e, G6 x t _, ⟨_, Heap.get?_push_size _ rfl, rfl, rfl⟩, fun b hb => ?_, q⟩
 have e : b = s1.heap.objs.size := by simpa using hb
 subst e
 exact I1.jO (Nat.le_refl _) (I1.av.fresh (Nat.le_refl _))
theorem G7 {x : PySem.Str} : n6 (kh x) (fun _ => True) (bZ x) :=
 ⟨fun i _ _ _ e => by
  have := (List.getElem?_eq_some_iff.mp e).1
  show i < x.cps.size
  rw [<- oK]; exact this, fun _ _ _ _ _ y => ⟨y.1, fun _ => y.2⟩, fun i _ _ h => by show x.cps.size <= i; rw [<- oK]; exact h⟩
section
variable {g : TG} {tb : TS} {D : Ends} {σ : L2.St} {H : Hp} {x : PySem.Str}
theorem G8 {tl : TE} : fB (rC tl) g tb D σ H = tl σ H (fun v H1 => ∃ x, v = .str x /\ FJ (kh x) g tb D σ H1) := rfl
theorem zf (Pv : Nat -> L2.St -> Hp -> Prop) (h0 : Pv 0 σ H)
 (hs : ∀ i v σ H, (bZ x)[i]? = some v -> Pv i σ H -> g v σ H fun σ2 H2 => tb { D with nx := Pv (i + 1), ct := Pv (i + 1), bk := D.nx } σ2 H2) (hd : ∀ σ H, Pv (bZ x).length σ H -> D.nx σ H) : FJ (kh x) g tb D σ H := by
 refine ⟨fun i m σ H => m = (bZ x).length - i /\ i <= (bZ x).length /\ Pv i σ H, ⟨(bZ x).length, by simp, Nat.zero_le _, h0⟩, ?_⟩
 rintro i m σ H ⟨rfl, hi, p⟩
 have hn := oK x
 by_cases cp : i < (bZ x).length
 ·refine .inr ⟨(by show i < x.cps.size; omega), Pv (i + 1), fun σ' H' p' => ⟨(bZ x).length - (i + 1), by omega, rfl, cp, p'⟩, fun v H' y => ?_⟩
  obtain ⟨e, y⟩ := y
  subst e
  exact hs i v σ _ y p
 ·have e : i = (bZ x).length := by omega
  subst e
  exact .inl ⟨(by show x.cps.size <= _; omega), hd σ H p⟩
end
end Gz
namespace Gz
open PySem PySem.Spec PyProof.Rows L2 Builtin Builtin.Str
def G9 : V -> Option Int -> Option Int -> Hp -> VK -> Prop := fun x lo hi H Q => ∃ z, x = .str z /\ z.length <= sizeLine /\ Q (.str (Txt.slice z lo hi)) H
theorem part_of {v : Value} {o : Option Int} (h : IsPart v o) : ∃ l : Option (Int × Tok), v = partValue l /\ l.map (·.1) = o := by
 cases h with
 | none => exact ⟨none, rfl, rfl⟩
 | int i t => exact ⟨some (i, t), rfl, rfl⟩
theorem Ha {X : Cx} : nV X G9 := by
 intro pins s σ H x v vl vu lo hi sl Q I rx hs pl pu h
 obtain ⟨z, rfl, hz, q⟩ := h
 obtain ⟨t, rfl⟩ := rx
 obtain ⟨l, rfl, rfl⟩ := part_of pl
 obtain ⟨u, rfl, rfl⟩ := part_of pu
 refine ⟨"str", _, F.slot_str_getitem.lookup, typeIs_str _ _ _, ?_⟩
 refine wpAny_getItem_str_slice (l := l) (u := u) (st := none) hs rfl ?_
 unfold sliceMade
 have e : slicePicked z l u none = strSliceIndices (l.map (·.1)) (u.map (·.1)) 1 z.length := rfl
 rw [e]
 unfold Txt.slice at q
 show Made.post (if ((1 : Int) == 1 && (strSliceIndices (l.map (·.1)) (u.map (·.1)) 1 z.length).length == z.length) = true then _ else _) _ s
 split
 ·rename_i c
  rw [if_pos c] at q
  exact ⟨.str z, H, I, ⟨_, rfl⟩, q⟩
 ·rename_i c
  rw [if_neg c] at q
  refine ⟨?_, .str _, H, I.tok _, ⟨_, rfl⟩, q⟩
  have := sliceIndices_le (l.map (·.1)) (u.map (·.1)) z.length
  show ((strSliceIndices (l.map (·.1)) (u.map (·.1)) 1 z.length).filterMap (z.cps[·]?)).toArray.size <= sizeLine
  rw [List.size_toArray]
  exact Nat.le_trans (List.length_filterMap_le _ _) (Nat.le_trans this hz)
end Gz
namespace Gz
open PySem PySem.Spec PyProof.Rows L2
structure rD (P : Program) (w : World) (K : PySem.W.Frag) (a : Addr) (kvs : List (Key × V)) : Prop where
 d : ∀ h : Heap, K.In h -> (a == sysModules) = false /\ ∃ vs, KV kvs vs /\ h.DictOf (gy P w) a vs
def zg (kvs : List (Key × V)) (ty : TE) : TE := fun σ H Q => ty σ H fun y H1 => ∃ k v, y = kV k /\ cD kvs k = some v /\ Q v H1
def zh (kvs : List (Key × V)) (neg : Bool) (ty : TE) : TE := fun σ H Q => ty σ H fun y H1 => ∃ k, y = kV k /\ Q (.bl (if neg then !(cD kvs k).isSome else (cD kvs k).isSome)) H1
section
variable {X : Cx} {x : Str} {i : Expr} {ty : TE} {p pos : Pos} {a : Addr} {kvs : List (Key × V)}
theorem Hb (hm : X.mg x = some (.ref a)) (D : rD X.prog X.w X.K a kvs) (hi : PE X i ty) (hs : yo i := by intro _ _; rfl) (hg : Gl X x := by rfl) (hd : (x == ("__debug__" : Str)) = false := by decide) : PE X (.Subscript (.Name x p) i pos) (zg kvs ty) := by
 intro pins s σ H Q I h
 refine F0 PySem.F.slot_dict_getitem.lookup hs (aw (k6 (v := .ref a) hg hm rfl hd pins s σ H (fun v H1 => v = .ref a /\ ty σ H1 fun y H2 => ∃ k v, y = kV k /\ cD kvs k = some v /\ Q v H2) I ⟨rfl, h⟩) fun u s1 ⟨y1, H1, I1, rx, e1, q1⟩ => aw (hi pins s1 σ H1 _ I1 q1) fun iv s2 ⟨y, H2, I2, ry, k, v, ey, l, q2⟩ => ?_)
 subst e1 ey
 obtain rfl : u = Value.ref a := rx
 obtain ⟨hsm, vs, rel, dd⟩ := D.d _ I2.bG
 obtain ⟨w', hw, ly⟩ := c7.some_of (v := v) (o := valueAt vs k) (by rw [<- l]; exact rel.val k)
 exact ⟨dd.typeIs, wpAny_getItem_of (yn ry) dd.mapOf hw ⟨v, H2, I2.tok _, ly, q2⟩⟩
theorem Hc (hm : X.mg x = some (.ref a)) (D : rD X.prog X.w X.K a kvs) (hi : PE X i ty) (hg : Gl X x := by rfl) (hd : (x == ("__debug__" : Str)) = false := by decide) : PC X .NotIn i (.Name x p) (zh kvs true ty) := by
 intro pins s σ H Q I h
 refine aw (hi pins s σ H _ I h) fun iv s1 ⟨y, H1, I1, ry, k, ey, q1⟩ => aw (k6 (v := .ref a) hg hm rfl hd pins s1 σ H1 (fun v H1 => v = .ref a /\ Q (.bl (if true then !(cD kvs k).isSome else (cD kvs k).isSome)) H1) I1 ⟨rfl, q1⟩) fun u s2 ⟨y2, H2, I2, rx, e2, q2⟩ => ?_
 subst e2 ey
 obtain rfl : u = Value.ref a := rx
 obtain ⟨hsm, vs, rel, dd⟩ := D.d _ I2.bG
 refine wpAny_notIn_of (yn ry) hsm dd.mapOf ?_
 rw [<- (rel.val k).ym]
 exact ⟨.bl _, H2, I2.tok _, rfl, q2⟩
end
end Gz
namespace Gz
open PySem PySem.Spec PyProof.Rows L2 Builtin Builtin.Str StrLaws
theorem oN {X : Cx} {pos : Pos} {x y : Str} (h : ∃ t, X.mg x = some (.str y t)) (hg : Gl X x) (hd : (x == ("__debug__" : Str)) = false := by decide) : PE X (.Name x pos) (tC (.str y)) := by
 obtain ⟨t, ht⟩ := h
 exact k6 (v := .str y) hg ht ⟨t, rfl⟩ hd
noncomputable def oO (x : PySem.Str) : Bool := x.cps.toList.all fun c => decide (48 <= c) && decide (c <= 57)
noncomputable def l7 (x : PySem.Str) : Bool := decide (1 <= x.length) && decide (x.length <= 60) && oO x
noncomputable def gj : PySem.Str := "0123456789"
theorem Hd (c : Nat) : (!(occurrences gj ⟨#[c]⟩ 0 gj.length 1).isEmpty) = (decide (48 <= c) && decide (c <= 57)) := by
 rw [found_one]
 have e : gj.cps.toList = [48, 49, 50, 51, 52, 53, 54, 55, 56, 57] := by decide +kernel
 rw [e]
 rw [Bool.eq_iff_iff]
 simp only [decide_eq_true_eq, Bool.and_eq_true, List.mem_cons, List.not_mem_nil, or_false]
 omega
theorem He (x : PySem.Str) : (x.cps.toList.map fun c => !(occurrences gj ⟨#[c]⟩ 0 gj.length 1).isEmpty).all id = oO x := by
 unfold oO
 rw [List.all_map]
 congr 1
 funext c
 exact Hd c
noncomputable def ki (x : PySem.Str) : Bool := Txt.startswith x "-"
noncomputable def cutD (x : PySem.Str) : PySem.Str := if ki x then Txt.slice x (some 1) none else x
noncomputable def jq (x : PySem.Str) : Bool := x == "0" || (l7 (cutD x) && !Txt.startswith (cutD x) "0")
theorem zi (x : PySem.Str) (c : Nat) : Txt.startswith x ⟨#[c]⟩ = decide (x.cps.toList.head? = some c) := by
 show (decide (0 + 1 <= x.length) && subAt x ⟨#[c]⟩ 0) = _
 rw [str_len]
 cases h : x.cps.toList with
 | nil => rfl
 | cons d r =>
  have h0 : 0 < x.cps.toList.length := by rw [h]; exact Nat.succ_pos _
  rw [subAt_one x c 0 h0]
  have e : x.cps.toList[0] = d := by simp only [h, List.getElem_cons_zero]
  rw [e]
  simp
theorem Hf (n : Nat) : strSliceIndices (some 1) none 1 n = (List.range (n - 1)).map (· + 1) := by
 unfold strSliceIndices sliceRange
 simp only [show ((1 : Int) > 0) = True from eq_true (by decide), if_true, show ((1 : Int) < 0) = False from eq_false (by decide), if_false]
 cases n with
 | zero => rfl
 | succ n =>
  have e1 : max (0 : Int) (min 1 ((n + 1 : Nat) : Int)) = 1 := by omega
  rw [e1]
  have e2 : (if (1 : Int) < ((n + 1 : Nat) : Int) then (((n + 1 : Nat) : Int) - 1 + 1 - 1) / 1 else 0).toNat = n := by
   split
   ·rw [Int.ediv_one]; omega
   ·omega
  rw [e2]
  apply List.map_congr_left
  intro k _
  show ((1 : Int) + 1 * (k : Int)).toNat = k + 1
  omega
theorem zj : ∀ l : List Nat, (List.range l.length).filterMap (fun i => l[i]?) = l
 | [] => rfl
 | a :: r => by
  rw [List.length_cons, List.range_succ_eq_map, List.filterMap_cons]
  show a :: _ = _
  rw [List.filterMap_map]
  congr 1
  exact zj r
theorem Hg (x : PySem.Str) : (Txt.slice x (some 1) none).cps.toList = x.cps.toList.drop 1 := by
 unfold Txt.slice
 rw [Hf, str_len, List.length_map, List.length_range]
 cases h : x.cps.toList with
 | nil => rw [if_pos (by simp), h]; rfl
 | cons d r =>
  rw [if_neg (by simp)]
  show (((List.range (r.length + 1 - 1)).map (· + 1)).filterMap (x.cps[·]?)).toArray.toList = r
  rw [List.filterMap_map]
  have : ((fun i => x.cps[i]?) ∘ fun y => y + 1) = fun i => r[i]? := by
   funext i
   show x.cps[i + 1]? = r[i]?
   rw [<- Array.getElem?_toList, h, List.getElem?_cons_succ]
  rw [this]
  exact zj r
theorem rE {x y : PySem.Str} (h : x.cps.toList = y.cps.toList) : x = y := by
 cases x; cases y
 congr 1
 exact Array.ext' h
theorem Hh (m : Nat) : (cM m).all (fun c => decide (48 <= c) && decide (c <= 57)) = true := by
 rw [List.all_eq_true]
 intro c hc
 have := jn m c hc
 simp only [Bool.and_eq_true, decide_eq_true_eq]
 exact this
theorem zk {x : PySem.Str} {m : Nat} (h : x.cps.toList = cM m) (hm : m < 10 ^ 60) : l7 x = true := by
 obtain ⟨d, r, e, _⟩ := kg m
 have hl := rB 59 m hm
 unfold l7 oO
 rw [str_len, h, Hh]
 have h1 : 1 <= (cM m).length := by rw [e]; exact Nat.succ_pos _
 simp [h1, hl]
theorem Hi {n : Int} (h : n.natAbs < 10 ^ 60) : jq (bb n) = true := by
 unfold jq
 by_cases h0 : n = 0
 ·subst h0; rfl
 ·rw [Bool.or_eq_true]
  refine .inr ?_
  have dash : ∀ x : PySem.Str, ki x = decide (x.cps.toList.head? = some 45) := fun x => zi x 45
  have zero : ∀ x : PySem.Str, Txt.startswith x "0" = decide (x.cps.toList.head? = some 48) := fun x => zi x 48
  rcases l6 n with ⟨m, rfl⟩ | ⟨m, rfl⟩
  ·obtain ⟨d, r, e, hd⟩ := kg m
   have hm : m ≠ 0 := fun z => h0 (by rw [z]; rfl)
   have hL := jo m
   have nd : ki (bb (m : Int)) = false := by
    rw [dash, hL, e]
    have : d ∈ cM m := by rw [e]; exact .head _
    have := jn m d this
    apply decide_eq_false
    intro z
    injection z with z
    omega
   have ec : cutD (bb (m : Int)) = bb (m : Int) := by unfold cutD; rw [nd]; rfl
   rw [ec, zk hL (by simpa using h), zero, hL, e]
   have := hd hm
   simp [this]
  ·obtain ⟨d, r, e, hd⟩ := kg (m + 1)
   have hL := lZ m
   have nd : ki (bb (-((m + 1 : Nat) : Int))) = true := by rw [dash, hL]; rfl
   have ec : (cutD (bb (-((m + 1 : Nat) : Int)))).cps.toList = cM (m + 1) := by
    unfold cutD
    rw [nd, if_pos rfl, Hg, hL]
    rfl
   rw [zk ec (by rw [Int.natAbs_neg, Int.natAbs_natCast] at h; exact h), zero, ec, e]
   have := hd (by omega)
   simp [this]
end Gz
namespace Gz
open PySem PySem.Spec PyProof.Rows L2
section
variable {X : Cx} {F : Value -> Shared -> Prop} {pins pn : List (Addr × Obj)} {σ : L2.St} {H : Hp} {s : Shared} {A' : Around}
end
section
variable {X : Cx} {k : Nat} {f : Addr} {fd : FuncData} {ps : List Str} {sp : Sp} {bP : List V} {ds : List Value} {E : XK} {x : Str} {p pos apos : Pos} {e tg : Expr} {es : List Expr} {t : TA} {g : TG}
end
end Gz
namespace Gz
open PySem PySem.Spec PyProof.Rows L2
def cN (row : V -> List V) (tt : TT) : TT := fun σ H Q => match σ with
 | some v :: ρ => tt ((row v).map some ++ ρ) H Q
 | _ => False
def Hj (row : V -> List V) (te : TE) : TE := fun σ H Q => match σ with
 | some v :: ρ => te ((row v).map some ++ ρ) H Q
 | _ => False
section
variable {K : PySem.W.Frag} {ρ : L2.St} {tt : TT} {te : TE} {H : Hp} {Q : VK} {a : Addr} {xs : List V} {row : V -> List V}
end
end Gz
namespace Gz
open PySem PySem.Spec PyProof.Rows L2
end Gz
namespace Gz
open PySem PySem.Spec PyProof.Rows L2
section
variable {prog : Program} {w : World} {A : Around} {E : Value -> Shared -> Prop} {s : Shared}
end
section
variable {X : Cx} {pos : Pos}
end
end Gz
namespace Gz
open PySem PySem.Spec PyProof.Rows L2
section
variable {X : Cx} {e st : Expr} {te ts : TE} {p2 pos : Pos}
end
end Gz
namespace Gz
open PySem L2 PySem.W PySem.Spec PyProof.Rows
noncomputable def pre (f : P2 -> Int) (ps : List P2) (i : Nat) : Int := ((ps.take i).map f).sum
noncomputable def l8 (ps : List P2) (i j : Nat) : Int := if i <= j then pre (·.2) ps j - pre (·.2) ps i else pre (·.1) ps j - pre (·.1) ps i
noncomputable def part (ps : List P2) (i j k : Nat) : Int := if i < j then pre (·.2) ps (min i j + k) - pre (·.2) ps i else pre (·.1) ps j - pre (·.1) ps (min i j + k)
end Gz
namespace Gz
open PySem L2
def zl (s : S2) (x : Int) : Prop := (∀ a, s.1 = some a -> a <= x) /\ ∀ b, s.2 = some b -> x <= b
def zm (w : W2) (x : Int) : Prop := ∃ s, w = some s /\ zl s x
abbrev Mk := Nat × S2
structure zo (ps : List P2) (ms : List Mk) (tp : Nat -> Option P2) : Prop where
 val : ∀ t v k, t <= ps.length -> tp t = some (v, k) -> ∃ (i : Nat) (m : Mk) (h : Int), k = (i : Int) /\ ms[i]? = some m /\ m.2.2 = some h /\ h + l8 ps m.1 t <= v
 top : ∀ m ∈ ms, ∀ h, m.2.2 = some h -> ∃ v k, tp m.1 = some (v, k) /\ v <= h
 fwd : ∀ t v k, t < ps.length -> tp t = some (v, k) -> ∃ v' k', tp (t + 1) = some (v', k') /\ v' <= v + (cZ ps t).2
 bwd : ∀ t v k, t < ps.length -> tp (t + 1) = some (v, k) -> ∃ v' k', tp t = some (v', k') /\ v' <= v - (cZ ps t).1
def rF (ps : List P2) (a b : Mk) : Prop := ∃ h l, a.2.2 = some h /\ b.2.1 = some l /\ h + l8 ps a.1 b.1 < l
noncomputable def zp (a b : P2) : Bool := decide (a.1 < b.1) || (decide (a.1 = b.1) && decide (a.2 < b.2))
noncomputable def eK (a b : P2) : P2 := if zp b a = true then b else a
noncomputable def jr : Option P2 -> Option P2 -> Option P2
 | none, b => b
 | some a, none => some a
 | some a, some b => some (eK a b)
theorem rG (a b : P2) : (eK a b = a ∨ eK a b = b) /\ (eK a b).1 <= a.1 /\ (eK a b).1 <= b.1 := by
 unfold eK zp
 split
 ·rename_i h
  simp only [Bool.or_eq_true, Bool.and_eq_true, decide_eq_true_eq] at h
  exact ⟨.inr rfl, by lia, by lia⟩
 ·rename_i h
  simp only [Bool.or_eq_true, Bool.and_eq_true, decide_eq_true_eq, not_or, not_and] at h
  exact ⟨.inl rfl, by lia, by lia⟩
theorem Hk (a b : Option P2) : jr a b = a ∨ jr a b = b := by
 rcases a with _ | a <;> rcases b with _ | b
 ·exact .inl rfl
 ·exact .inr rfl
 ·exact .inl rfl
 ·show some (eK a b) = some a ∨ some (eK a b) = some b
  rcases (rG a b).1 with h | h <;> rw [h]
  ·exact .inl rfl
  ·exact .inr rfl
def jt (a : Option P2) (v : Int) : Prop := ∃ w k, a = some (w, k) /\ w <= v
theorem Hl {a b : Option P2} {v : Int} (h : jt a v) : jt (jr a b) v := by
 obtain ⟨w, k, rfl, hw⟩ := h
 rcases b with _ | b
 ·exact ⟨w, k, rfl, hw⟩
 ·have := (rG (w, k) b).2.1
  exact ⟨(eK (w, k) b).1, (eK (w, k) b).2, rfl, by dsimp only at this; lia⟩
theorem Hm {a b : Option P2} {v : Int} (h : jt b v) : jt (jr a b) v := by
 obtain ⟨w, k, rfl, hw⟩ := h
 rcases a with _ | a
 ·exact ⟨w, k, rfl, hw⟩
 ·have := (rG a (w, k)).2.2
  exact ⟨(eK a (w, k)).1, (eK a (w, k)).2, rfl, by dsimp only at this; lia⟩
def kj (ps : List P2) (ms : List Mk) (t : Nat) (a : Option P2) : Prop := ∀ v k, a = some (v, k) -> ∃ (i : Nat) (m : Mk) (h : Int), k = (i : Int) /\ ms[i]? = some m /\ m.2.2 = some h /\ h + l8 ps m.1 t <= v
theorem kj.Hn {ps : List P2} {ms : List Mk} {t : Nat} {a b : Option P2} (ha : kj ps ms t a) (hb : kj ps ms t b) : kj ps ms t (jr a b) := by
 rcases Hk a b with h | h <;> rw [h]
 ·exact ha
 ·exact hb
theorem Ho (ps : List P2) (t : Nat) : l8 ps t t = 0 := by unfold l8; rw [if_pos (Nat.le_refl _)]; lia
noncomputable def oP (tp : Nat -> Option P2) (i : Nat) (x : Option P2) : Nat -> Option P2 := fun t => if t = i then x else tp t
theorem rH {tp : Nat -> Option P2} {i : Nat} {x : Option P2} : oP tp i x i = x := if_pos rfl
theorem zq {tp : Nat -> Option P2} {i t : Nat} {x : Option P2} (h : t ≠ i) : oP tp i x t = tp t := if_neg h
theorem Hq {tp : Nat -> Option P2} {i t : Nat} {b : Option P2} {v : Int} (h : jt (tp t) v) : jt (oP tp i (jr (tp i) b) t) v := by
 by_cases e : t = i
 ·subst e; rw [rH]; exact Hl h
 ·rw [zq e]; exact h
structure T1 (ps : List P2) (ms : List Mk) (j : Nat) (tp : Nat -> Option P2) : Prop where
 val : ∀ t, t <= ps.length -> kj ps ms t (tp t)
 top : ∀ m ∈ ms.take j, ∀ h, m.2.2 = some h -> jt (tp m.1) h
theorem T1.nil {ps : List P2} {ms : List Mk} : T1 ps ms 0 fun _ => none := ⟨fun _ _ _ _ e => (nomatch e), fun _ h => by simp at h⟩
theorem T1.put {ps : List P2} {ms : List Mk} {j : Nat} {tp : Nat -> Option P2} {m : Mk} {h : Int} (T : T1 ps ms j tp) (hm : ms[j]? = some m) (hh : m.2.2 = some h) : T1 ps ms (j + 1) (oP tp m.1 (jr (tp m.1) (some (h, (j : Int))))) := by
 have hv : kj ps ms m.1 (some (h, (j : Int))) := fun v k e => by
  cases e
  exact ⟨j, m, h, rfl, hm, hh, by rw [Ho]; lia⟩
 refine ⟨fun t ht => ?_, fun q hq x e => ?_⟩
 ·by_cases e : t = m.1
  ·subst e; rw [rH]; exact (T.val _ ht).Hn hv
  ·rw [zq e]; exact T.val t ht
 ·rw [List.take_succ, hm] at hq
  rcases List.mem_append.mp hq with z | z
  ·exact Hq (T.top q z x e)
  ·obtain rfl : q = m := by simpa using z
   rw [hh] at e
   cases e
   rw [rH]
   exact Hm ⟨h, j, rfl, Int.le_refl _⟩
theorem zo.rF {ps : List P2} {ms : List Mk} {tp : Nat -> Option P2} (T : zo ps ms tp) {b : Mk} {v k l : Int} (hb : b.1 <= ps.length) (e : tp b.1 = some (v, k)) (hl : b.2.1 = some l) (hv : v < l) : ∃ (i : Nat) (a : Mk), k = (i : Int) /\ ms[i]? = some a /\ rF ps a b := by
 obtain ⟨i, m, h, e1, e2, e3, h4⟩ := T.val _ v k hb e
 exact ⟨i, m, e1, e2, h, l, e3, hl, by lia⟩
end Gz
namespace Gz
open PySem L2
end Gz
namespace Gz
open PySem PySem.Spec PyProof.Rows L2
theorem qr {us : List Value} {ns : List Int} (h : IntsAre us ns) : Vals (ns.map V.int) us := by
 induction h with
 | nil => exact .nil
 | cons n t r ih => exact .cons ⟨t, rfl⟩ ih
abbrev Hr (H : Hp) (v : V) (s : S2) : Prop := bI H v s.1 s.2
theorem cL.all : ∀ {H : Hp} {xs : List V} {ss : List S2}, cL H xs ss -> aA (Hr H) xs ss
 | _, [], [], _ => trivial
 | _, _ :: _, _ :: _, h => ⟨h.1, cL.all h.2⟩
 | _, [], _ :: _, h => h.elim
 | _, _ :: _, [], h => h.elim
noncomputable def cellsFrom : En -> List Int -> List S2
 | lo, [] => [(lo, none)]
 | lo, z :: zs => (lo, some (z - 1)) :: cellsFrom (some z) zs
end Gz
namespace Gz
open PySem PySem.Spec PyProof.Rows L2
end Gz
namespace Gz
open PySem PySem.Spec PyProof.Rows L2
end Gz
namespace Gz
open PySem PySem.Spec PyProof.Rows L2
end Gz
namespace Gz
open PySem PySem.Spec PyProof.Rows L2
theorem je.trans {p q r : S2} (hq : yh q) (h : je p q) (h' : je q r) : je p r := by
 obtain ⟨a, b, e1, e2, h1⟩ := h
 obtain ⟨c, d, e3, e4, h2⟩ := h'
 unfold yh at hq
 rw [e2, e3] at hq
 have : b <= c := by simpa [gh] using hq
 exact ⟨a, d, e1, e4, by lia⟩
theorem eR {α : Type} {R : α -> α -> Prop} : ∀ {l : List α}, l.Pairwise R -> ∀ {p q : α}, p ∈ l -> q ∈ l -> p = q ∨ R p q ∨ R q p
 | [], _, _, _, h, _ => by cases h
 | x :: l, h, p, q, hp, hq => by
  have h1 := List.pairwise_cons.mp h
  rcases List.mem_cons.mp hp with e1 | i1 <;> rcases List.mem_cons.mp hq with e2 | i2
  ·exact .inl (e1.trans e2.symm)
  ·rw [e1]; exact .inr (.inl (h1.1 q i2))
  ·rw [e2]; exact .inr (.inr (h1.1 p i1))
  ·exact eR h1.2 i1 i2
end Gz
namespace Gz
open PySem PySem.Spec PyProof.Rows L2
local macro_rules | `(tactic| walk_at "om") => `(tactic| ((try simp only [PySem.Addr] at *); lia))
section
variable {prog : Program} {w : World} {A : Around} {E : Value -> Shared -> Prop} {s : Shared}
end
end Gz
namespace Gz
open PySem PySem.Spec PyProof.Rows L2
local macro_rules | `(tactic| walk_at "om") => `(tactic| ((try simp only [PySem.Addr] at *); lia))
section
variable {X : Cx} {pins : List (Addr × Obj)} {σ : L2.St} {H : Hp} {s : Shared} {a : Addr} {kvs : List (List Key × V)} {o : Obj} {u u' : HO}
end
theorem Hs {H : Hp} {a p : Addr} {u v w : HO} (e : H a = some u) (h : H p = some v) (ne : v ≠ u) : upd H a w p = some v := by rw [aG (kZ h e ne)]; exact h
section
variable {H H0 H1 : Hp} {a p : Addr} {kvs : List (List Key × V)} {o : Obj}
theorem Ht {xs : List V} (e : H a = some (.dT kvs)) (h : H p = some (.tup xs)) {u : HO} : upd H a u p = some (.tup xs) := Hs e h fun z => nomatch z
theorem bI.cP {v : V} {x y : En} (h : bI H v x y) (e : H a = some (.dT kvs)) {u : HO} : bI (upd H a u) v x y := let ⟨t, e1, h1⟩ := h; ⟨t, e1, Ht e h1⟩
theorem bz.cP {tb : Tb} (h : bz H kvs tb) (e : H a = some (.dT kvs)) {u : HO} : bz (upd H a u) kvs tb := h.imp fun _ _ _ z => z.cP e
end
theorem kc.z {H : Hp} {a b : Addr} {kvs : List (List Key × V)} {k : List Key} {o : Obj} (e : H a = some (.cP o (.dT kvs))) (eb : H b = some (.tup (k.map kV))) : kc H a (.ref b) (cD kvs k) := .inr ⟨kvs, k, b, .inr ⟨o, e⟩, rfl, eb, rfl⟩
end Gz
namespace Gz
open PySem PySem.Spec PyProof.Rows L2
end Gz
namespace Gz
open PySem PySem.Spec PyProof.Rows L2
section
variable {X : Cx} {pos : Pos}
end
end Gz
namespace Gz
open PySem PySem.Spec PyProof.Rows L2
end Gz
namespace Gz
open PySem PySem.Spec PyProof.Rows L2
end Gz
namespace Gz
open PySem PySem.Spec PyProof.Rows L2
abbrev Cl := (En × Nat) × (En × Nat)
noncomputable def zr (e : Int) (c : Cl) : Bool := decide (c.1.1 = some e) || decide (c.2.1 = some e)
noncomputable def wo (e : Int) (cs : List Cl) : List Cl := cs.filter fun c => !zr e c
def iV : Nat -> List Cl -> Prop
 | 0, _ => True
 | _ + 1, [] => False
 | n + 1, c :: cs => ∀ e, zr e c = true -> iV n (wo e (c :: cs))
abbrev Gp := En × List Mk
def rJ (ps : List P2) (g h : Gp) (cs : List Cl) : Prop := ∀ m ∈ g.2, ∀ n ∈ h.2, rF ps m n -> ∃ c ∈ cs, c.1.1 = g.1 /\ c.2.1 = h.1
theorem rJ.more {ps : List P2} {g h : Gp} {cs ds : List Cl} (x : rJ ps g h cs) : rJ ps g h (cs ++ ds) := fun m hm n hn hc => let ⟨c, h1, h2⟩ := x m hm n hn hc; ⟨c, List.mem_append_left _ h1, h2⟩
end Gz
namespace Gz
open PySem PySem.Spec PyProof.Rows L2
end Gz
namespace Gz
open PySem L2
end Gz
namespace Gz
open PySem PySem.Spec PyProof.Rows L2
end Gz
namespace Gz
open PySem
theorem slot1 {t : SetTable} {q : Nat} (hp : t.place = #[q]) (hd : t.dummies = #[]) (j : Nat) : t.slot j = if q = j then .live 0 else .empty := by
 unfold SetTable.slot SetTable.has
 rw [hp, hd]
 simp only [SetTable.below, SetTable.below.go, List.size_toArray, List.length_cons, List.length_nil]
 by_cases h : q < j
 ·have : q ≠ j := by lia
  simp [h, this]
 ·by_cases e : q = j <;> simp [h, e]
theorem zt {t : SetTable} {q : Nat} (hp : t.place = #[q]) (hd : t.dummies = #[]) (hm : t.mask = 7) {f : Nat -> Int} {h : Int} (hf : ∀ i, (f i == h) = false) :
 ∀ (n m : Nat) (p : SetTable.Probe), p.more = 0 -> p.j = p.i -> p.dummy = none -> p.perturb < 32 ^ n -> p.i <= 7 -> ∃ j, j ≠ q /\ SetTable.probe.go t f h (n + (m + 2)) p = some (.empty j none)
 | n, m, ⟨j, mo, i, pe, du⟩, h1, h2, h3, h4, h5 => by
  dsimp only at h1 h2 h3 h4 h5
  subst h1 h3
  obtain rfl : i = j := h2.symm
  have ad : t.advance ⟨i, 0, i, pe, none⟩ = ⟨(i * 5 + 1 + pe / 32) % 8, 0, (i * 5 + 1 + pe / 32) % 8, pe / 32, none⟩ := by
   simp [SetTable.advance, SetTable.leap, hm, SetTable.runEnd]
  have le : (i * 5 + 1 + pe / 32) % 8 <= 7 := by lia
  by_cases e : q = i
  ·cases n with
   | zero =>
    have z : (i * 5 + 1 + pe / 32) % 8 ≠ q := by lia
    refine ⟨_, z, ?_⟩
    rw [show 0 + (m + 2) = (m + 1) + 1 by lia, SetTable.probe.go, slot1 hp hd, if_pos e]
    simp only [hf, Bool.false_eq_true, if_false]
    rw [ad, SetTable.probe.go, slot1 hp hd, if_neg (Ne.symm z)]
   | succ n =>
    obtain ⟨j, j1, j2⟩ := zt hp hd hm hf n m ⟨_, 0, _, pe / 32, none⟩ rfl rfl rfl (by dsimp only; rw [Nat.pow_succ] at h4; exact Nat.div_lt_of_lt_mul (by lia)) le
    refine ⟨j, j1, ?_⟩
    rw [show n + 1 + (m + 2) = (n + (m + 2)) + 1 by lia, SetTable.probe.go, slot1 hp hd, if_pos e]
    simp only [hf, Bool.false_eq_true, if_false]
    rw [ad]; exact j2
  ·refine ⟨i, Ne.symm e, ?_⟩
   rw [show n + (m + 2) = (n + m + 1) + 1 by lia, SetTable.probe.go, slot1 hp hd, if_neg e]
structure fN (t : SetTable) (L : List (Nat × Int × Value)) : Prop where
 pl : t.place = (L.map (·.1)).toArray
 du : t.dummies = #[]
 ma : t.mask = 7
 sh : L = [] ∨ (∃ a, L = [a]) ∨ ∃ a b, L = [a, b] /\ a.1 < b.1
section
variable {t : SetTable} {L : List (Nat × Int × Value)}
theorem fN.fits (k : fN t L) : t.fits (L.map (·.2)).toArray.size = true := by
 obtain ⟨h1, h2, h3, h4⟩ := k
 rcases h4 with rfl | ⟨a, rfl⟩ | ⟨a, b, rfl, _⟩ <;> simp [SetTable.fits, SetTable.fill, h1, h2, h3]
theorem fN.zero (k : fN t L) : SetTable.below t.place 0 = 0 := by
 obtain ⟨h1, h2, h3, h4⟩ := k
 rcases h4 with rfl | ⟨a, rfl⟩ | ⟨a, b, rfl, _⟩ <;> simp [h1, SetTable.below, SetTable.below.go]
theorem fN.free (k : fN t L) (hl : L.length <= 1) (h : Int) : ∃ j, t.freeSlot h = some (j, false) /\ j ∉ L.map (·.1) := by
 obtain ⟨h1, h2, h3, h4⟩ := k
 rcases h4 with rfl | ⟨a, rfl⟩ | ⟨a, b, rfl, _⟩
 ·refine ⟨SetTable.bits h % 8, ?_, fun hx => nomatch hx⟩
  simp [SetTable.freeSlot, SetTable.probe, SetTable.turns, SetTable.probeStart, h3, SetTable.probe.go, SetTable.slot, SetTable.has, h1, h2, SetTable.below, SetTable.below.go]
 ·have bt : SetTable.bits h < 2 ^ 64 := by unfold SetTable.bits; lia
  obtain ⟨j, j1, j2⟩ := zt (q := a.1) h1 h2 h3 (f := fun _ => h + 1) (h := h) (fun _ => by simp; lia) 13 205 (t.probeStart h) (by simp [SetTable.probeStart, h3, SetTable.runEnd]) rfl rfl (Nat.lt_of_lt_of_le bt (by decide)) (by simp only [SetTable.probeStart, h3]; lia)
  refine ⟨j, ?_, by simpa using j1⟩
  unfold SetTable.freeSlot SetTable.probe SetTable.turns
  rw [h3, j2]; rfl
 ·simp at hl
theorem fN.put (k : fN t L) (hl : L.length <= 1) {j : Nat} (hj : j ∉ L.map (·.1)) (h : Int) (x : Value) :
 ∃ t' p L', t.put j = (t', p) /\ fN t' L' /\ SetTable.insertAt (L.map (·.2)).toArray p (h, x) = (L'.map (·.2)).toArray /\ t'.led = t.led /\ t'.plain = t.plain /\ t'.fill = L.length + 1 /\ L'.Perm ((j, h, x) :: L) := by
 obtain ⟨h1, h2, h3, h4⟩ := k
 rcases h4 with rfl | ⟨a, rfl⟩ | ⟨a, b, rfl, _⟩
 ·refine ⟨_, _, [(j, h, x)], rfl, ⟨?_, ?_, h3, .inr (.inl ⟨_, rfl⟩)⟩, ?_, rfl, rfl, ?_, .refl _⟩ <;> simp [SetTable.fill, SetTable.has, SetTable.insertAt, h1, h2, SetTable.below, SetTable.below.go]
 ·have hj : j ≠ a.1 := by simpa using hj
  by_cases z : a.1 < j
  ·refine ⟨_, _, [a, (j, h, x)], rfl, ⟨?_, ?_, h3, .inr (.inr ⟨_, _, rfl, z⟩)⟩, ?_, rfl, rfl, ?_, .swap _ _ _⟩ <;> simp [SetTable.fill, SetTable.has, SetTable.insertAt, h1, h2, SetTable.below, SetTable.below.go, z]
  ·refine ⟨_, _, [(j, h, x), a], rfl, ⟨?_, ?_, h3, .inr (.inr ⟨_, _, rfl, show j < a.1 by lia⟩)⟩, ?_, rfl, rfl, ?_, .refl _⟩ <;> simp [SetTable.fill, SetTable.has, SetTable.insertAt, h1, h2, SetTable.below, SetTable.below.go, z]
 ·simp at hl
end
end Gz
namespace Gz
open PySem PySem.Spec PyProof.Rows L2
section
variable {prog : Program} {w : World} {A : Around} {E : Value -> Shared -> Prop} {s : Shared} {d I : Addr} {ep : Nat} {t : SetTable}
end
section
variable {X : Cx}
end
end Gz
namespace Gz
open PySem PySem.Spec PyProof.Rows L2
def rK (h : Heap) (a : Addr) (p : P2) : Prop := ∃ o t u n, h.get? a = some o /\ o.cls = .type "tuple" /\ o.data = .seq #[.int p.1 t, .int p.2 u] n
theorem rK.keep {h h' : Heap} {a : Addr} {p : P2} (x : rK h a p) (k : ∀ o, h.get? a = some o -> h'.get? a = some o) : rK h' a p := let ⟨o, t, u, n, e, r⟩ := x; ⟨o, t, u, n, k o e, r⟩
section
variable {prog : Program} {w : World} {A : Around} {E : Value -> Shared -> Prop} {s : Shared}
end
section
variable {X : Cx}
end
end Gz
namespace Gz
open PySem PySem.Spec PyProof.Rows L2
local macro_rules | `(tactic| walk_at "om") => `(tactic| ((try simp only [PySem.Addr] at *); lia))
section
variable {prog : Program} {w : World} {A : Around} {E : Value -> Shared -> Prop} {s : Shared}
end
end Gz
namespace Gz
open PySem PySem.Spec PyProof.Rows L2
local macro_rules | `(tactic| walk_at "om") => `(tactic| ((try simp only [PySem.Addr] at *); lia))
section
variable {prog : Program} {w : World} {A : Around} {E : Value -> Shared -> Prop} {s : Shared}
end
end Gz
namespace Gz
open PySem PySem.Spec PyProof.Rows L2
section
variable {prog : Program} {w : World} {A : Around} {E : Value -> Shared -> Prop} {s : Shared}
theorem Hu {h : Heap} {S : Addr} {o : Obj} {es es' : Array (Int × Value)} {ep : Nat} {t t' : SetTable} (g1 : h.get? S = some o) (g3 : o.data = .set es ep t) :
 (h.update S (Obj.putSet es' t')).get? S = some { o with data := .set es' (ep + 1) t' } := by
 have := Heap.get?_update_self (Obj.putSet es' t') g1 (by rw [putSet_of es' t' g3]; rfl)
 rw [putSet_of es' t' g3] at this
 exact this
theorem Hv {α β : Type} {f : α -> β} : ∀ {xs : List α} {l : List β}, l.Perm (xs.map f) -> ∃ ys : List α, l = ys.map f /\ ys.Perm xs := by
 intro xs l h
 generalize hz : xs.map f = z at h
 induction h generalizing xs with
 | nil => exact ⟨[], rfl, by cases xs with | nil => exact .nil | cons => cases hz⟩
 | @cons a l1 l2 p ih =>
  cases xs with
  | nil => cases hz
  | cons x xs =>
   obtain ⟨e1, e2⟩ := List.cons.inj hz
   obtain ⟨ys, rfl, q⟩ := ih e2
   exact ⟨x :: ys, by rw [<- e1]; rfl, q.cons x⟩
 | swap a b l =>
  cases xs with
  | nil => cases hz
  | cons x xs =>
   cases xs with
   | nil => simp at hz
   | cons y xs =>
    simp only [List.map_cons, List.cons.injEq] at hz
    obtain ⟨e1, e2, e3⟩ := hz
    exact ⟨y :: x :: xs, by simp [e1, e2, e3], .swap x y xs⟩
 | trans p q Hw Hx =>
  obtain ⟨ys, e, r⟩ := Hx hz
  obtain ⟨zs, e', r'⟩ := Hw e.symm
  exact ⟨zs, e', r'.trans r⟩
end
section
variable {prog : Program} {w : World} {A : Around} {E : Value -> Shared -> Prop} {s : Shared} {S I : Addr} {o : Obj} {ep : Nat} {t : SetTable} {L : List (Nat × Int × Value)}
end
section
variable {prog : Program} {w : World} {A : Around} {E : Value -> Shared -> Prop} {s : Shared}
noncomputable abbrev ju (m : Int × PySem.Tok) : Int × Value := (hashInt m.1, .int m.1 m.2)
def zu (h : Heap) (S : Addr) (M : List (Int × PySem.Tok)) (led : Bool) : Prop :=
 ∃ o ep t L, h.get? S = some o /\ o.cls = .type "set" /\ o.data = .set (L.map (·.2)).toArray ep t /\ fN t L /\ t.led = led /\ t.plain = true /\ L.map (·.2) = M.map ju
theorem Hy (prog : Program) (w : World) {M : List (Int × PySem.Tok)} : ElemsOf (intKind prog w) (M.map ju) := fun e he => by
 obtain ⟨m, _, rfl⟩ := List.mem_map.mp he
 exact ⟨⟨m.1, by simp [intKind, Value.isInt], rfl⟩, rfl⟩
theorem add_int {S : Addr} {k : Int} {tt : PySem.Tok} {M : List (Int × PySem.Tok)} {led : Bool} {Q : Bool -> Shared -> Prop} (hS : zu s.heap S M led) (hlen : M.length < 2)
 (h0 : k ∈ M.map (·.1) -> Q false s)
 (h1 : k ∉ M.map (·.1) -> ∀ h' M', Heap.SameBut S s.heap h' -> zu h' S M' led -> M'.Perm ((k, tt) :: M) -> Q true { s with heap := h' }) :
 wpAny (model prog w) A (setAddHashed S (.int k tt) (hashInt k)) Q E s := by
 obtain ⟨o, ep, t, L, g1, g2, g3, tk, g4, g5, g7⟩ := hS
 have MX : L.length = M.length := by have := congrArg List.length g7; simpa using this
 have zv : ElemsOf (intKind prog w) (L.map (·.2)).toArray.toList := by rw [List.toList_toArray, g7]; exact Hy prog w
 unfold setAddHashed setAddHashedIn
 refine wpAny_holding (wpAny_bind (wpAny_setState_of g1 g3 tk.fits ?_))
 dsimp only
 rw [byScan_of (knd := intKind prog w) rfl (by rw [List.size_toArray, List.length_map]; unfold scanBound; lia) zv]
 simp only [if_true]
 unfold setAddByScan
 refine wpAny_bind (wpAny_bind (wpAny_rule ?_))
 refine wpAny_bind (wpAny_setScan_of (knd := intKind prog w) (k := k) (by simp [intKind, Value.isInt]) g1 g3 tk.fits zv ?_)
 rw [List.toList_toArray, g7]
 by_cases jU : k ∈ M.map (·.1)
 ·obtain ⟨m, hm, hmk⟩ := List.mem_map.mp jU
  cases hf : List.findIdx? (fun e => (intKind prog w).is k e.2) (M.map ju) with
  | none =>
   have := List.findIdx?_eq_none_iff.mp hf (ju m) (List.mem_map.mpr ⟨m, hm, rfl⟩)
   rw [<- hmk] at this
   simp [intKind, Value.isInt] at this
  | some j =>
   dsimp only
   exact wpAny_pure (wpAny_pure (h0 jU))
 ·have hf : List.findIdx? (fun e => (intKind prog w).is k e.2) (M.map ju) = none := by
   refine List.findIdx?_eq_none_iff.mpr fun e he => ?_
   obtain ⟨m, hm, rfl⟩ := List.mem_map.mp he
   simp only [intKind, Value.isInt]
   exact beq_eq_false_iff_ne.mpr fun z => jU (List.mem_map.mpr ⟨m, hm, z⟩)
  rw [hf]
  dsimp only
  obtain ⟨j, j0, j1⟩ := tk.free (by lia) (hashInt k)
  obtain ⟨t', p, L', p1, p2, p3, p5, p6, p7, hperm⟩ := tk.put (by lia) j1 (hashInt k) (Value.int k tt)
  have Hz : layNew t (M.map ju).toArray (hashInt k) (.int k tt) = ((L'.map (·.2)).toArray, t', false, false) := by
   rw [<- g7]
   unfold layNew
   rw [j0]
   dsimp only
   rw [p1, p3]
   have := p2.fits
   unfold SetTable.orStandIn
   rw [this]
   rfl
  rw [Hz]
  dsimp only
  refine wpAny_bind ?_
  show wpAny _ _ (pure ()) _ _ _
  refine wpAny_pure ?_
  rw [p6, g5]
  simp only [if_true]
  refine wpAny_bind ?_
  rw [hashByValue_scannable 8 (show (Value.int k tt).scannable = true from rfl)]
  refine wpAny_pure ?_
  rw [show plainKind (Value.int k tt) = true from rfl]
  simp only [if_true]
  have iT : (L'.map (·.2)).toArray.size <= sizeLine := by
   have := hperm.length_eq
   simp at this ⊢
   rw [this]
   exact Nat.le_trans (show _ <= 64 by lia) (by decide)
  refine wpAny_bind (wpAny_storeSet_of g1 g3 ?_ iT)
  have gS := Hu (es' := (L'.map (·.2)).toArray) (t' := t') g1 g3
  have HA := Heap.SameBut.update s.heap S (Obj.putSet (L'.map (·.2)).toArray t')
  have HB : (L'.map (·.2)).Perm (((k, tt) :: M).map ju) := by
   refine (hperm.map (·.2)).trans ?_
   simp only [List.map_cons, g7]
   exact .refl _
  have HC : t'.tooFull = false := by
   unfold SetTable.tooFull
   rw [p7, p2.ma]
   simp
   lia
  rw [HC]
  simp only [Bool.and_false, Bool.false_eq_true, if_false]
  obtain ⟨M', e1, e2⟩ := Hv HB
  exact wpAny_pure (wpAny_pure (h1 jU _ M' HA ⟨_, _, t', _, gS, g2, rfl, p2, p5.trans g4, p6.trans g5, e1⟩ e2))
end
section
variable {X : Cx}
end
end Gz
namespace Gz
open PySem PySem.Spec PyProof.Rows L2
end Gz
namespace Gz
open PySem PySem.Spec PyProof.Rows L2
def rL (sw gw : List W2) (tb : Tb) (m : Int) (L : List Int) (c : Nat -> Int) : Prop := (L.length : Int) <= m /\ (∀ (j : Nat) w, sw[j]? = some w -> zm w (c (j + 1) - c j)) /\ (∀ (j : Nat) w, gw[j]? = some w -> zm w (c j)) /\ ∀ r ∈ tb, r.1.1 ∉ L -> zl r.2 (c r.1.2.toNat)
theorem rL.of {sw gw : List W2} {tb gf : Tb} {m : Int} {L : List Int} {c : Nat -> Int} (h : rL sw gw tb m L c) (s : ∀ r ∈ gf, r ∈ tb) : rL sw gw gf m L c := ⟨h.1, h.2.1, h.2.2.1, fun r hr => h.2.2.2 r (s r hr)⟩
end Gz
namespace oQ
open PySem L2 Gz
local macro_rules | `(tactic| walk_at "gzd") => `(tactic| dsimp only [seval, Nat.reduceAdd, Nat.reduceSub, ↓reduceIte, pP, ny, nM, iQ, vX, pM, tC, vQ, vO, nC, fY, qj, nO, lp, lq, vB, vC, tB, vF, vG, vH, vK, vL, vM, vN, vP, rI, dO, rU, v5, v7, Ei, Ej, Ek, El, Em, Eb, Ec, Ed, Ee, Ef, Eg, ite_tt, ite_ff, L2.start, Eo, Ep, List.map_cons, List.map_nil, List.length_cons, List.length_nil, List.replicate, List.nil_append, List.cons_append, List.getElem?_cons_zero, List.getElem?_cons_succ, List.set_cons_zero, List.set_cons_succ, Bool.not_true, Bool.not_false, wz, wA, w9, DF, xi, Er, Es, Et, qx, Fc, FK, qy, pV, pU, xF, vU, w5, x9, pX, pW, Fx, Fz, wu, wx, qg, wD, wR, wO, wQ, w6, xk, Fp, Fs, Ft, qb, ED, x2, x4, qP, yx, F7, F8, F9, Ga, Gb, Ge, Gf, Gg, Gh, Gi, Gj, Gu, Gk, Gm, Gq, Gr, Gs, lU, oG, rj, rl, yz, kf, yD, yE, Gx, Gy, GA, GB, GC, GD, GF, GG, GH, GI, GJ, GK, GL, yF, GO, yG, yH, yI, yJ, yL, yM, FL, FN, FP, nB, pS, FZ, G8, zg, zh, rC, yj, cN, Hj])
local macro_rules | `(tactic| walk_at "gzs") => `(tactic| simp only [seval, Nat.reduceAdd, Nat.reduceSub, reduceCtorEq, ↓reduceIte, ite_tt, ite_ff, List.map_cons, List.map_nil, List.length_cons, List.length_nil, List.nil_append, List.cons_append, Option.some.injEq, V.int.injEq, V.bl.injEq, V.ref.injEq, List.cons.injEq, exists_eq_left, exists_eq_left', exists_and_left, true_and, and_true, decide_eq_true_eq, Nat.zero_add, Nat.sub_self, Nat.add_one_sub_one, decide_true, decide_false, Bool.not_eq_true', decide_eq_false_iff_not, false_and, exists_false, and_assoc, not_false_eq_true, not_true_eq_false, List.append_nil, Option.join_some])
local macro_rules | `(tactic| walk_at "gzp") => `(tactic| first | (walk_at "gzd"; repeat (first | walk_at "gzs" | walk_at "gzd")) | (walk_at "gzs"; repeat (first | walk_at "gzd" | walk_at "gzs")))
local macro_rules | `(tactic| walk_at "gz") => `(tactic| try walk_at "gzp")
local macro_rules | `(tactic| walk_at "gzn") => `(tactic| try walk_at "gzp")
local macro_rules | `(tactic| walk_at "gzc") => `(tactic| (refine ⟨⟨rfl, rfl, rfl, by decide +kernel, rfl, by decide +kernel, by decide +kernel⟩, fun _ _ _ _ _ _ _ _ => ?_⟩; (repeat (refine GS fun _ => ?_)); exact GU rfl))
def top (i : Nat) : Stmt := PySem.Challenge.pw_gaze_k71_rules_shown.main.body.getD i (.Pass ⟨0, 0, 0, 0⟩)
abbrev rM : Stmt := top 7
abbrev rN : Stmt := top 12
abbrev rO : Stmt := top 13
abbrev rP : Stmt := top 14
abbrev rQ : Stmt := top 15
abbrev rR : Stmt := top 16
abbrev rS : Stmt := top 17
abbrev rT : Stmt := top 18
abbrev rV : Stmt := top 22
abbrev rW : Stmt := top 23
abbrev rX : Stmt := top 24
abbrev rY : Stmt := top 25
abbrev rZ : Stmt := inClass (top 26) 1
abbrev r9 : Stmt := inClass (top 27) 0
abbrev sf : Stmt := inClass (top 27) 2
abbrev si : Stmt := inClass (top 27) 3
abbrev sj : Stmt := inClass (top 28) 0
abbrev sk : Stmt := inClass (top 28) 1
abbrev sq : Stmt := inClass (top 28) 2
abbrev sr : Stmt := inClass (top 28) 3
abbrev su : Stmt := inClass (top 29) 0
abbrev sv : Stmt := inClass (top 29) 1
abbrev sA : Stmt := inClass (top 29) 2
abbrev sC : Stmt := inClass (top 29) 3
abbrev sD : Stmt := inClass (top 30) 0
abbrev sE : Stmt := inClass (top 30) 1
abbrev sF : Stmt := inClass (top 30) 2
abbrev sG : Stmt := inClass (top 30) 3
abbrev sH : Stmt := inClass (top 31) 0
abbrev sI : Stmt := inClass (top 31) 1
abbrev sJ : Stmt := inClass (top 31) 2
abbrev sL : Stmt := inClass (top 31) 3
abbrev sM : Stmt := inClass (top 32) 0
abbrev sN : Stmt := inClass (top 32) 1
abbrev sO : Stmt := inClass (top 32) 2
abbrev sP : Stmt := inClass (top 32) 3
abbrev sQ : Stmt := inClass (top 32) 4
abbrev sR : Stmt := inClass (top 33) 0
abbrev sS : Stmt := inClass (top 33) 2
abbrev sT : Stmt := inClass (top 33) 3
abbrev sU : Stmt := inClass (top 33) 4
abbrev sV : Stmt := inClass (top 33) 5
abbrev sW : Stmt := inClass (top 34) 0
abbrev sX : Stmt := inClass (top 35) 0
abbrev sY : Stmt := inClass (top 35) 1
abbrev sZ : Stmt := inClass (top 35) 2
abbrev tf : Stmt := inClass (top 35) 3
abbrev tj : Stmt := inClass (top 36) 0
abbrev tm : Stmt := inClass (top 36) 1
abbrev tq : Stmt := inClass (top 36) 2
abbrev tu : Stmt := inClass (top 36) 3
abbrev tw : Stmt := inClass (top 37) 0
abbrev tD : Stmt := inClass (top 37) 2
abbrev tE : Stmt := inClass (top 37) 3
abbrev tF : Stmt := inClass (top 37) 4
abbrev tG : Stmt := inClass (top 37) 5
abbrev tH : Stmt := top 41
abbrev tI : Stmt := top 42
abbrev tJ : Stmt := top 43
abbrev tK : Stmt := top 44
abbrev tL : Stmt := top 45
abbrev tM : Stmt := top 46
abbrev tN : Stmt := top 47
abbrev tO : Stmt := top 49
abbrev tP : Stmt := top 50
abbrev tQ : Stmt := top 51
abbrev tR : Stmt := top 52
abbrev tS : Stmt := top 53
abbrev tT : Stmt := top 54
abbrev tU : Stmt := top 55
abbrev tV : Stmt := top 56
abbrev tW : Stmt := top 57
theorem tX : Sc ["lo", "hi"] ["lo", "hi"] rM := by walk_at "gzc"
theorem tY : Sc ["word"] ["word"] rN := by walk_at "gzc"
theorem oR : Sc ["word", "figures"] ["word"] rO := by walk_at "gzc"
theorem tZ : Sc ["word"] ["word"] rP := by walk_at "gzc"
theorem t4 : Sc ["form", "word"] ["form", "word"] rQ := by walk_at "gzc"
theorem t5 : Sc ["word"] ["word"] rR := by walk_at "gzc"
theorem t7 : Sc ["end"] ["end"] rS := by walk_at "gzc"
theorem t8 : Sc ["one"] ["one"] rT := by walk_at "gzc"
theorem l9 : Sc ["one", "below", "above"] ["one"] rV := by walk_at "gzc"
theorem md : Sc ["claim", "found", "part"] ["claim"] rW := by walk_at "gzc"
theorem zw : Sc ["some", "others", "found", "one"] ["some", "others"] rX := by walk_at "gzc"
theorem t9 : Sc ["first", "last", "one"] ["first", "last", "one"] rY := by walk_at "gzc"
theorem ua : Sc ["self"] ["self"] rZ := by walk_at "gzc"
theorem uc : Sc ["self", "first", "last"] ["self", "first", "last"] r9 := by walk_at "gzc"
theorem ud : Sc ["self", "one"] ["self", "one"] sf := by walk_at "gzc"
theorem ue : Sc ["self", "word", "more"] ["self", "word", "more"] si := by walk_at "gzc"
theorem uf : Sc ["self", "first", "last", "stretch"] ["self", "first", "last", "stretch"] sj := by walk_at "gzc"
theorem ug : Sc ["self"] ["self"] sk := by walk_at "gzc"
theorem uh : Sc ["self"] ["self"] sq := by walk_at "gzc"
theorem ui : Sc ["self"] ["self"] sr := by walk_at "gzc"
theorem uj : Sc ["self", "first", "last", "sill"] ["self", "first", "last", "sill"] su := by walk_at "gzc"
theorem uk : Sc ["self"] ["self"] sv := by walk_at "gzc"
theorem um : Sc ["self"] ["self"] sA := by walk_at "gzc"
theorem uo : Sc ["self"] ["self"] sC := by walk_at "gzc"
theorem uq : Sc ["self", "first", "last", "sill"] ["self", "first", "last", "sill"] sD := by walk_at "gzc"
theorem ur : Sc ["self"] ["self"] sE := by walk_at "gzc"
theorem uu : Sc ["self"] ["self"] sF := by walk_at "gzc"
theorem uv : Sc ["self"] ["self"] sG := by walk_at "gzc"
theorem uw : Sc ["self", "first", "last", "low", "high"] ["self", "first", "last", "low", "high"] sH := by walk_at "gzc"
theorem km : Sc ["self", "found", "turn", "lows"] ["self"] sI := by walk_at "gzc"
theorem ux : Sc ["self"] ["self"] sJ := by walk_at "gzc"
theorem uy : Sc ["self"] ["self"] sL := by walk_at "gzc"
theorem uz : Sc ["self", "first", "last", "stretch"] ["self", "first", "last", "stretch"] sM := by walk_at "gzc"
theorem uA : Sc ["self"] ["self"] sN := by walk_at "gzc"
theorem uB : Sc ["self"] ["self"] sO := by walk_at "gzc"
theorem uC : Sc ["self"] ["self"] sP := by walk_at "gzc"
theorem uD : Sc ["self"] ["self"] sQ := by walk_at "gzc"
theorem uE : Sc ["self", "turn"] ["self", "turn"] sR := by walk_at "gzc"
theorem uF : Sc ["self"] ["self"] sS := by walk_at "gzc"
theorem uG : Sc ["self"] ["self"] sT := by walk_at "gzc"
theorem uH : Sc ["self"] ["self"] sU := by walk_at "gzc"
theorem uI : Sc ["self"] ["self"] sV := by walk_at "gzc"
theorem uJ : Sc ["self", "one", "other"] ["self", "one", "other"] sW := by walk_at "gzc"
theorem zx : Sc ["self"] ["self"] sX := by walk_at "gzc"
theorem zy : Sc ["self"] ["self"] sY := by walk_at "gzc"
theorem me : Sc ["self", "one", "other"] ["self"] sZ := by walk_at "gzc"
theorem uK : Sc ["self"] ["self"] tf := by walk_at "gzc"
theorem zz : Sc ["self"] ["self"] tj := by walk_at "gzc"
theorem zA : Sc ["self"] ["self"] tm := by walk_at "gzc"
theorem mf : Sc ["self", "one", "other"] ["self"] tq := by walk_at "gzc"
theorem uL : Sc ["self"] ["self"] tu := by walk_at "gzc"
theorem uM : Sc ["self", "one"] ["self", "one"] tw := by walk_at "gzc"
theorem zB : Sc ["self"] ["self"] tD := by walk_at "gzc"
theorem zC : Sc ["self"] ["self"] tE := by walk_at "gzc"
theorem oU : Sc ["self", "one"] ["self"] tF := by walk_at "gzc"
theorem uN : Sc ["self"] ["self"] tG := by walk_at "gzc"
theorem uO : Sc ["words", "place", "form"] ["words", "place", "form"] tH := by walk_at "gzc"
theorem fO : Sc ["words", "place", "parts", "behind", "form", "inner"] ["words", "place"] tI := by walk_at "gzc"
theorem uP : Sc ["lo", "hi"] ["lo", "hi"] tJ := by walk_at "gzc"
theorem uQ : Sc ["word", "parts"] ["word", "parts"] tK := by walk_at "gzc"
theorem ko : Sc ["tree", "word", "parts"] ["tree"] tL := by walk_at "gzc"
theorem mh : Sc ["text", "words", "whole"] ["text"] tM := by walk_at "gzc"
theorem uR : Sc ["event"] ["event"] tN := by walk_at "gzc"
theorem uS : Sc ["_law_script", "_law_k", "_law_prime", "_law_many"] ["_law_script", "_law_k", "_law_prime", "_law_many"] tO := by walk_at "gzc"
theorem oV : Sc ["_law_script", "_law_great"] ["_law_script"] tP := by walk_at "gzc"
theorem ed : Sc ["_law_script", "_law_k", "_law_sort", "_law_turns", "_law_base_here", "_law_first", "_law_last", "_law_low", "_law_more", "_law_open_end", "_law_lo", "_law_hi"] ["_law_script", "_law_k", "_law_sort", "_law_turns", "_law_base_here"] tQ := by walk_at "gzc"
theorem mi : Sc ["_law_tree", "_law_head"] ["_law_tree"] tR := by walk_at "gzc"
theorem gk : Sc ["_law_tree", "_law_inside", "_law_left", "_law_right", "_law_many", "_law_ends"] ["_law_tree"] tS := by walk_at "gzc"
theorem kq : Sc ["_law_tree", "_law_some", "_law_part"] ["_law_tree"] tT := by walk_at "gzc"
theorem gP : Sc ["_law_script", "_law_base_here", "_law_many", "_law_some", "_law_k", "_law_deed", "_law_tree"] ["_law_script", "_law_base_here", "_law_many"] tU := by walk_at "gzc"
theorem uT : Sc ["_law_found", "_law_due"] ["_law_found", "_law_due"] tV := by walk_at "gzc"
theorem fP : Sc ["_law_script", "_law_grown", "_law_made", "_law_tree", "_law_event_here", "_law_due", "_law_event_read"] ["_law_script"] tW := by walk_at "gzc"
noncomputable def FORMS : List (Key × V) := [(.inr "over", .str "NNN"), (.inr "under", .str "NNN"), (.inr "stay", .str "NNEE"), (.inr "rose", .str "NNNN"), (.inr "pace", .str "NNEE"), (.inr "turn", .str "N"), (.inr "both", .str "RR"), (.inr "either", .str "RR"), (.inr "not", .str "R")]
structure zD (w : World) (K : PySem.W.Frag) (mg : Str -> Option Value) where
 a : Addr
 m : mg "FORMS" = some (.ref a)
 d : ∀ P : Program, rD P w K a FORMS
set_option genInjectivity false
set_option genSizeOf false
structure Tx (w : World) (K : PySem.W.Frag) (mg : Str -> Option Value) where
 mj : Fn K mg "is_crossed" rM (aE tX)
 ml : Fn K mg "is_figures" rN (aE tY)
 mm : Fn K mg "is_number" rO (aE oR)
 mn : Fn K mg "is_end" rP (aE tZ)
 mq : Fn K mg "is_formed" rQ (aE t4)
 mv : Fn K mg "end_of" rR (aE t5)
 mw : Fn K mg "shown_end" rS (aE t7)
 mx : Fn K mg "shown_ends" rT (aE t8)
 my : Fn K mg "outside" rV (aE l9)
 mz : Fn K mg "failures" rW (aE md)
 oW : Fn K mg "joined" rX (aE zw)
 mB : Fn K mg "parts_at" rY (aE t9)
 bR : Fm K "sizes" "Event.sizes" rZ (aE ua)
 ef : Fm K "__init__" "Spanned.__init__" r9 (aE uc)
 cy : Fm K "all_at" "Spanned.all_at" sf (aE ud)
 cF : Fm K "spelled" "Spanned.spelled" si (aE ue)
 gQ : Fm K "__init__" "Stayed.__init__" sj (aE uf)
 gR : Fm K "ways" "Stayed.ways" sk (aE ug)
 gT : Fm K "breaks" "Stayed.breaks" sq (aE uh)
 gU : Fm K "text" "Stayed.text" sr (aE ui)
 gW : Fm K "__init__" "Over.__init__" su (aE uj)
 gX : Fm K "ways" "Over.ways" sv (aE uk)
 gY : Fm K "breaks" "Over.breaks" sA (aE um)
 gZ : Fm K "text" "Over.text" sC (aE uo)
 g6 : Fm K "__init__" "Under.__init__" sD (aE uq)
 g8 : Fm K "ways" "Under.ways" sE (aE ur)
 g9 : Fm K "breaks" "Under.breaks" sF (aE uu)
 hJ : Fm K "text" "Under.text" sG (aE uv)
 hU : Fm K "__init__" "Rose.__init__" sH (aE uw)
 hV : Fm K "ways" "Rose.ways" sI (aE km)
 hW : Fm K "breaks" "Rose.breaks" sJ (aE ux)
 hX : Fm K "text" "Rose.text" sL (aE uy)
 hZ : Fm K "__init__" "Paced.__init__" sM (aE uz)
 gm : Fm K "all_steps" "Paced.all_steps" sN (aE uA)
 h8 : Fm K "ways" "Paced.ways" sO (aE uB)
 ia : Fm K "breaks" "Paced.breaks" sP (aE uC)
 ib : Fm K "text" "Paced.text" sQ (aE uD)
 ic : Fm K "__init__" "Turned.__init__" sR (aE uE)
 gn : Fm K "both_steps" "Turned.both_steps" sS (aE uF)
 ie : Fm K "ways" "Turned.ways" sT (aE uG)
 ig : Fm K "breaks" "Turned.breaks" sU (aE uH)
 ij : Fm K "text" "Turned.text" sV (aE uI)
 eL : Fm K "__init__" "Paired.__init__" sW (aE uJ)
 kr : Fm K "ways" "Both.ways" sX (aE zx)
 ku : Fm K "breaks" "Both.breaks" sY (aE zy)
 ik : Fm K "sizes" "Both.sizes" sZ (aE me)
 ip : Fm K "text" "Both.text" tf (aE uK)
 kx : Fm K "ways" "Either.ways" tj (aE zz)
 ky : Fm K "breaks" "Either.breaks" tm (aE zA)
 iq : Fm K "sizes" "Either.sizes" tq (aE mf)
 ir : Fm K "text" "Either.text" tu (aE uL)
 iu : Fm K "__init__" "Nay.__init__" tw (aE uM)
 kz : Fm K "ways" "Nay.ways" tD (aE zB)
 kA : Fm K "breaks" "Nay.breaks" tE (aE zC)
 iw : Fm K "sizes" "Nay.sizes" tF (aE oU)
 ix : Fm K "text" "Nay.text" tG (aE uN)
 iy : Fn K mg "end_at" tH (aE uO)
 eg : Fn K mg "tree_at" tI (aE fO)
 fq : Fn K mg "ends_as_stretch" tJ (aE uP)
 iz : Fn K mg "event_of_numbers" tK (aE uQ)
 cj : Fn K mg "event_of" tL (aE ko)
 mC : Fn K mg "read" tM (aE mh)
 mD : Fn K mg "shown" tN (aE uR)
 mE : Fn K mg "_law_draw" tO (aE uS)
 mF : Fn K mg "_law_base" tP (aE oV)
 mG : Fn K mg "_law_leaf" tQ (aE ed)
 cG : Fn K mg "_law_event" tR (aE mi)
 jv : Fn K mg "_law_counts" tS (aE gk)
 jw : Fn K mg "_law_row" tT (aE kq)
 mH : Fn K mg "_law_trees" tU (aE gP)
 mI : Fn K mg "_law_same" tV (aE uT)
 jx : Fn K mg "law" tW (aE fP)
 HD : mg "all" = none
 oX : mg "int" = none
 HE : mg "isinstance" = none
 dX : mg "len" = none
 zE : mg "max" = none
 HF : mg "min" = none
 mJ : mg "range" = none
 fQ : mg "str" = none
 HG : mg "zip" = none
 oY : Addr
 MY : mg "GazeError" = some (.ref oY)
 dN : Addr
 oZ : mg "NoEvent" = some (.ref dN)
 kB : Addr
 HH : mg "TooMany" = some (.ref kB)
 kC : Addr
 mK : mg "NoRule" = some (.ref kC)
 iA : Addr
 MZ : mg "Event" = some (.ref iA)
 cu : Addr
 mL : mg "Spanned" = some (.ref cu)
 bj : Addr
 zF : mg "Stayed" = some (.ref bj)
 bo : Addr
 zG : mg "Over" = some (.ref bo)
 bp : Addr
 zH : mg "Under" = some (.ref bp)
 bq : Addr
 zI : mg "Rose" = some (.ref bq)
 bc : Addr
 zJ : mg "Paced" = some (.ref bc)
 bS : Addr
 zK : mg "Turned" = some (.ref bS)
 dv : Addr
 M0 : mg "Paired" = some (.ref dv)
 bM : Addr
 zL : mg "Both" = some (.ref bM)
 bN : Addr
 zM : mg "Either" = some (.ref bN)
 bO : Addr
 zN : mg "Nay" = some (.ref bO)
 zO : aW K iA
 M1 : Meth K iA "sizes" bR.a
 zP : aW K cu
 zQ : ba K cu "first"
 zR : ba K cu "last"
 M3 : Meth K cu "sizes" bR.a
 zS : Mk K cu ef.a
 M4 : Meth K cu "all_at" cy.a
 M5 : Meth K cu "spelled" cF.a
 df : aW K bj
 kD : ba K bj "first"
 kE : ba K bj "last"
 kF : ba K bj "stretch"
 HI : Meth K bj "sizes" bR.a
 o3 : Mk K bj gQ.a
 zT : Meth K bj "all_at" cy.a
 HJ : Meth K bj "spelled" cF.a
 HK : Meth K bj "ways" gR.a
 HL : Meth K bj "breaks" gT.a
 HM : Meth K bj "text" gU.a
 dg : aW K bo
 kG : ba K bo "first"
 kH : ba K bo "last"
 kI : ba K bo "sill"
 HN : Meth K bo "sizes" bR.a
 o4 : Mk K bo gW.a
 zU : Meth K bo "all_at" cy.a
 HP : Meth K bo "spelled" cF.a
 HQ : Meth K bo "ways" gX.a
 HR : Meth K bo "breaks" gY.a
 HS : Meth K bo "text" gZ.a
 dh : aW K bp
 kJ : ba K bp "first"
 kK : ba K bp "last"
 kL : ba K bp "sill"
 HU : Meth K bp "sizes" bR.a
 o5 : Mk K bp g6.a
 zV : Meth K bp "all_at" cy.a
 HV : Meth K bp "spelled" cF.a
 HW : Meth K bp "ways" g8.a
 HX : Meth K bp "breaks" g9.a
 HY : Meth K bp "text" hJ.a
 cv : aW K bq
 jy : ba K bq "first"
 iB : ba K bq "last"
 kM : ba K bq "low"
 kN : ba K bq "high"
 HZ : Meth K bq "sizes" bR.a
 o6 : Mk K bq hU.a
 M6 : Meth K bq "all_at" cy.a
 Ia : Meth K bq "spelled" cF.a
 Ib : Meth K bq "ways" hV.a
 Ic : Meth K bq "breaks" hW.a
 Ie : Meth K bq "text" hX.a
 dw : aW K bc
 mM : ba K bc "first"
 mO : ba K bc "last"
 mP : ba K bc "stretch"
 Ig : Meth K bc "sizes" bR.a
 o7 : Mk K bc hZ.a
 M7 : Meth K bc "all_at" cy.a
 Ih : Meth K bc "spelled" cF.a
 Ii : Meth K bc "ways" h8.a
 Ij : Meth K bc "breaks" ia.a
 Ik : Meth K bc "text" ib.a
 zW : Meth K bc "all_steps" gm.a
 eM : aW K bS
 kO : ba K bS "turn"
 Il : Meth K bS "sizes" bR.a
 o8 : Mk K bS ic.a
 Im : Meth K bS "ways" ie.a
 Io : Meth K bS "breaks" ig.a
 Ip : Meth K bS "text" ij.a
 zX : Meth K bS "both_steps" gn.a
 zY : aW K dv
 zZ : ba K dv "one"
 z6 : ba K dv "other"
 M8 : Meth K dv "sizes" bR.a
 z7 : Mk K dv eL.a
 gp : aW K bM
 mQ : ba K bM "one"
 mR : ba K bM "other"
 Iq : Meth K bM "sizes" ik.a
 o9 : Mk K bM eL.a
 M9 : Meth K bM "ways" kr.a
 Na : Meth K bM "breaks" ku.a
 Ir : Meth K bM "text" ip.a
 gq : aW K bN
 mS : ba K bN "one"
 mT : ba K bN "other"
 Iu : Meth K bN "sizes" iq.a
 pd : Mk K bN eL.a
 Nb : Meth K bN "ways" kx.a
 Nc : Meth K bN "breaks" ky.a
 Iv : Meth K bN "text" ir.a
 jz : aW K bO
 mU : ba K bO "one"
 Iw : Meth K bO "sizes" iw.a
 pf : Mk K bO iu.a
 Nd : Meth K bO "ways" kz.a
 Nf : Meth K bO "breaks" kA.a
 Iy : Meth K bO "text" ix.a
 mV : yi K cu "__init__" ef.a
 kP : XC K dN
 jA : XC K kC
 uU : XC K kB
 z8 : ∃ t, mg "LAST_TURN" = some (.int 11 t)
 Iz : ∃ t, mg "FIGURES_AT_MOST" = some (.int 60 t)
 IA : ∃ t, mg "WORDS_AT_MOST" = some (.int 60 t)
 IB : ∃ t, mg "SIZE_AT_MOST" = some (.int 100 t)
 uV : ∃ t, mg "OPEN_END" = some (.str "*" t)
 IC : ∃ t, mg "FIGURES" = some (.str "0123456789" t)
 forms : zD w K mg
set_option genInjectivity true
set_option genSizeOf true
section
seal L2.PE L2.PS L2.aR L2.PA
variable {P : Program} {w : World} {K : PySem.W.Frag} {mg : Str -> Option Value} {base : Heap}
end
section
seal L2.PE L2.PS L2.aR L2.PA
variable {P : Program} {w : World} {K : PySem.W.Frag} {mg : Str -> Option Value} {base : Heap}
inductive ID (vs : List V) (H : Hp) (Q : VK) (aI : XK) : Prop
 | mk (a b : En) (_ : vs = [ev a, ev b]) (_ : Q (.bl (gh a b)) H)
theorem IE (T : Tx w K mg) : Ok P w base 1 T.mj ID := by
 refine cE tX ?_
 rintro _ _ _ _ _ _ _ _ _ ⟨a, b, rfl, q⟩
 refine ⟨_, (ao (ax (lW (nu (nt (aa 0))) (lW (nu (nt (aa 1))) (jN (jS (rn we) (aa 0) (aa 1) (eV _))))))), ?_⟩
 rcases a with _ | x
 ·walk_at "gz"
  exact q
 rcases b with _ | y
 ·walk_at "gz"
  exact q
 walk_at "gz"
 exact q
noncomputable def z9 : V -> V
 | .str i => .bl (!(Builtin.Str.occurrences gj i 0 gj.length 1).isEmpty)
 | v => v
theorem IF (x : PySem.Str) : ((bZ x).filter fun _ => true).map z9 = (x.cps.toList.map fun c => !(Builtin.Str.occurrences gj ⟨#[c]⟩ 0 gj.length 1).isEmpty).map V.bl := by
 rw [List.filter_eq_self.mpr fun _ _ => rfl]
 unfold bZ
 rw [List.map_map, List.map_map]
 rfl
inductive IG (vs : List V) (H : Hp) (Q : VK) (aI : XK) : Prop
 | mk (x : PySem.Str) (_ : vs = [.str x]) (_ : x.length <= 100000) (_ : ∀ H', ai H H' -> Q (.bl (l7 x)) H')
theorem IH (T : Tx w K mg) : Ok P w base 1 T.ml IG := by
 refine cE tY ?_
 rintro _ _ _ _ _ _ Q _ _ ⟨x, rfl, hx, q⟩
 refine ⟨_, (ao (ax (lW (CS jR jR ag (cQ dP (by rfl) T.dX dS (ae (aa 0) af)) (lQ T.Iz rfl)) (jN (cQ (Fo rfl) (by rfl) T.HD D8 (ae (jZ (cO [] []) rfl (ze (aa 0)) (fun C s2 H2 ex pn => ⟨i5, (jS CQ (aa 0) (oN T.IC rfl) (by with_unfolding_all rfl))⟩)) af)))))), ?_⟩
 unfold l7 at q
 walk_at "gzn"
 refine ⟨x.length, ⟨Nat.le_trans hx (by decide), rfl⟩, bB (fun h1 => bB (fun h2 => ?_) fun h2 => ?_) fun h1 => ?_⟩
 ·rw [decide_eq_true (show 1 <= x.length by lia), decide_eq_true (show x.length <= 60 by lia)] at q
  have hl : (bZ x).length <= sizeLine := by
   rw [oK]
   have : x.cps.size <= 60 := by have : x.length = x.cps.size := rfl; lia
   exact Nat.le_trans this (by decide)
  refine ⟨x, rfl, ja G7 hl (qK (p := fun _ => true) (f := z9) trivial (fun _ _ Q h => h) (fun v hv _ Q h => ?_) fun l hn => ?_)⟩
  ·unfold bZ at hv
   obtain ⟨c, _, rfl⟩ := List.mem_map.mp hv
   walk_at "gzn"
   exact ⟨_, rfl, _, rfl, h⟩
  ·rw [List.nil_append, IF]
   exact ⟨l, rfl, _, ar.of ah, by rw [He]; exact q _ (ak hn)⟩
 ·rw [decide_eq_true (show 1 <= x.length by lia), decide_eq_false (show ¬ x.length <= 60 by lia)] at q
  exact q _ (ai.refl _)
 ·rw [decide_eq_false (show ¬ 1 <= x.length by lia)] at q
  exact q _ (ai.refl _)
inductive II (vs : List V) (H : Hp) (Q : VK) (aI : XK) : Prop
 | mk (x : PySem.Str) (_ : vs = [.str x]) (_ : x.length <= 100000) (_ : ∀ H', ai H H' -> Q (.bl (jq x)) H')
theorem Aa (T : Tx w K mg) : Ok P w base 2 T.mm II := by
 refine cE oR ?_
 rintro _ _ _ _ H _ _ _ hr ⟨x, rfl, hx, q⟩
 refine ⟨_, (au (aK (aY (aa 0) aD) (ao (ax pN)) aO) (au (aU 1 oR.nd (k7 (jk (dG PySem.F.plainAttrs_str PySem.F.slot_str_startswith PySem.F.type_str_startswith yZ (aa 0) (ae aD af))) (qm Ha (aa 0) (ql ag) qk) (aa 0))) (ao (ax (lW (aL (IH T) hr (ae (aa 1) af)) (jN (GQ (dG PySem.F.plainAttrs_str PySem.F.slot_str_startswith PySem.F.type_str_startswith yZ (aa 1) (ae aD af))))))))), ?_⟩
 have ty : ∀ (y : PySem.Str) (H : Hp), nX K "str" (.str y) H := fun _ _ => rfl
 unfold jq at q
 walk_at "gzn"
 refine bB (fun h0 => ?_) fun h0 => ⟨ty _ _, x, rfl, _, rfl, ?_⟩
 ·rw [h0] at q
  exact q _ (ai.refl _)
 ·have e0 : (x == ("0" : PySem.Str)) = false := by simpa using h0
  rw [e0, Bool.false_or] at q
  unfold cutD at q
  refine bB (fun hd => ⟨x, rfl, Nat.le_trans hx (by decide), ?_⟩) fun hd => ?_
  ·rw [show ki x = true from hd] at q
   refine ⟨_, rfl, Nat.le_trans (Txt.slice_le _ _ _) hx, fun H1 s1 => ?_⟩
   walk_at "gzn"
   refine bB (fun h1 => ⟨ty _ _, _, rfl, _, rfl, ?_⟩) fun h1 => ?_
   ·rw [if_pos rfl, h1, Bool.true_and] at q
    exact q _ s1
   ·rw [if_pos rfl, Bool.eq_false_iff.mpr h1] at q
    exact q _ s1
  ·rw [show ki x = false from Bool.eq_false_iff.mpr hd] at q
   refine ⟨_, rfl, hx, fun H1 s1 => ?_⟩
   walk_at "gzn"
   refine bB (fun h1 => ⟨ty _ _, _, rfl, _, rfl, ?_⟩) fun h1 => ?_
   ·rw [if_neg (by decide), h1, Bool.true_and] at q
    exact q _ s1
   ·rw [if_neg (by decide), Bool.eq_false_iff.mpr h1] at q
    exact q _ s1
noncomputable def ph (x : PySem.Str) : Bool := x == "*" || jq x
inductive IJ (vs : List V) (H : Hp) (Q : VK) (aI : XK) : Prop
 | mk (x : PySem.Str) (_ : vs = [.str x]) (_ : x.length <= 100000) (_ : ∀ H', ai H H' -> Q (.bl (ph x)) H')
theorem IK (T : Tx w K mg) : Ok P w base 3 T.mn IJ := by
 refine cE tZ ?_
 rintro _ _ _ _ _ _ _ _ hr ⟨x, rfl, hx, q⟩
 refine ⟨_, (ao (ax (yK (jS nK (aa 0) (oN T.uV rfl) (eV _)) (jN (aL (Aa T) hr (ae (aa 0) af)))))), ?_⟩
 unfold ph at q
 walk_at "gzn"
 refine ⟨rfl, bB (fun h => ?_) fun h => ?_⟩
 ·injection h with h
  rw [h] at q
  exact q _ (ai.refl _)
 ·have e0 : (x == ("*" : PySem.Str)) = false := by
   rw [Bool.eq_false_iff]
   intro z
   exact h (by rw [eq_of_beq z])
  rw [e0, Bool.false_or] at q
  exact ⟨x, rfl, hx, q⟩
noncomputable def mW (f x : PySem.Str) : Bool := if f = "N" then jq x else (!(f == "E") || ph x)
inductive IL (vs : List V) (H : Hp) (Q : VK) (aI : XK) : Prop
 | mk (f x : PySem.Str) (_ : vs = [.str f, .str x]) (_ : x.length <= 100000) (_ : ∀ H', ai H H' -> Q (.bl (mW f x)) H')
theorem IM (T : Tx w K mg) : Ok P w base 4 T.mq IL := by
 refine cE t4 ?_
 rintro _ _ _ _ _ _ _ E hr ⟨f, x, rfl, hx, q⟩
 refine ⟨_, (au (aK (aY (aa 0) aD) (ao (ax (aL (Aa T) hr (ae (aa 1) af)))) aO) (ao (ax (yK (jS wc (aa 0) aD (eV _)) (jN (aL (IK T) hr (ae (aa 1) af))))))), ?_⟩
 unfold mW at q
 walk_at "gzn"
 refine bB (fun h => ?_) fun h => ⟨rfl, bB (fun h2 => ?_) fun h2 => ?_⟩
 ·rw [if_pos h] at q
  exact ⟨x, rfl, hx, q⟩
 ·have e0 : (f == ("E" : PySem.Str)) = false := by
   rw [Bool.eq_false_iff]
   intro z
   exact h2 (by rw [eq_of_beq z])
  rw [if_neg h, e0] at q
  exact q _ (ai.refl _)
 ·have h2 : V.str f = V.str "E" := Classical.not_not.mp h2
  injection h2 with h2
  rw [if_neg h, h2] at q
  exact ⟨x, rfl, hx, q⟩
noncomputable def ck : En -> PySem.Str
 | none => "*"
 | some n => bb n
theorem IP (n : Int) : ¬ bb n = "*" := fun z => by
 have z := congrArg (fun s : PySem.Str => s.cps.toList) z
 rcases l6 n with ⟨m, rfl⟩ | ⟨m, rfl⟩
 ·obtain ⟨d, r, e, _⟩ := kg m
  have hd := jn m d (by rw [e]; exact .head _)
  rw [show (bb (m : Int)).cps.toList = cM m from jo m, e] at z
  have : d = 42 := (List.cons.inj z).1
  lia
 ·rw [show (bb (-((m + 1 : Nat) : Int))).cps.toList = 45 :: cM (m + 1) from lZ m] at z
  have : (45 : Nat) = 42 := (List.cons.inj z).1
  lia
theorem gu {n : Int} (h : n.natAbs < 10 ^ 60) : n.natAbs.log2 < 1920 := by
 by_cases h0 : n.natAbs = 0
 ·rw [h0]; decide
 ·exact (Nat.log2_lt h0).mpr (Nat.lt_trans h (by decide +kernel))
def cS : En -> Prop
 | none => True
 | some n => n.natAbs < 10 ^ 60
inductive IQ (vs : List V) (H : Hp) (Q : VK) (aI : XK) : Prop
 | mk (e : En) (_ : vs = [.str (ck e)]) (_ : cS e) (_ : Q (ev e) H)
theorem IS (T : Tx w K mg) : Ok P w base 1 T.mv IQ := by
 refine cE t5 ?_
 rintro _ _ _ _ _ _ _ _ _ ⟨e, rfl, he, q⟩
 refine ⟨_, (ao (ax (k7 (aY (aa 0) (oN T.uV rfl)) dD (d6 G4 (by rfl) T.oX n0 (ae (aa 0) af))))), ?_⟩
 walk_at "gzn"
 cases e with
 | none => exact q
 | some n =>
  rw [if_neg (show ¬ ck (some n) = "*" from IP n)]
  exact ⟨_, rfl, n, G3 he, Nat.le_trans (cf he) (by decide), q⟩
inductive IT (vs : List V) (H : Hp) (Q : VK) (aI : XK) : Prop
 | mk (e : En) (_ : vs = [ev e]) (_ : cS e) (_ : Q (.str (ck e)) H)
theorem Ab (T : Tx w K mg) : Ok P w base 1 T.mw IT := by
 refine cE t7 ?_
 rintro _ _ _ _ _ _ _ _ _ ⟨e, rfl, he, q⟩
 refine ⟨_, (ao (ax (k7 (oI (aa 0)) (oN T.uV rfl) (d6 f6 (by rfl) T.fQ fG (ae (aa 0) af))))), ?_⟩
 cases e with
 | none =>
  walk_at "gzn"
  exact q
 | some n =>
  walk_at "gzn"
  exact ⟨gu he, q⟩
end
section
seal L2.PE L2.PS L2.aR L2.PA
variable {P : Program} {w : World} {K : PySem.W.Frag} {mg : Str -> Option Value} {base : Heap}
def a9 (i j : Int) : Prop := 0 <= i /\ i <= j /\ j <= 11
inductive IU (K : PySem.W.Frag) (N : Addr) (vs : List V) (H : Hp) (Q : VK) (E : XK) : Prop
 | mk (x C dx : Addr) (i j : Int) (_ : vs = [.ref x, .int i, .int j]) (_ : H x = some (.ins C dx [])) (_ : aW K C) (_ : ba K C "first") (_ : ba K C "last") (_ : (¬ a9 i j -> E (.ref N) none H)) (_ : (a9 i j -> Q .non (upd H x (.ins C dx [("first", .int i), ("last", .int j)]))))
theorem mX (T : Tx w K mg) : Om P w mg base 1 T.ef (IU K T.dN) := by
 refine gN uc ?_
 rintro _ _ _ _ H _ _ E _ ⟨x, C, dx, i, j, rfl, hx, hc, n1, n2, q0, q⟩
 refine ⟨_, (au (aK (iL (FX jR jR jR ag (aa 1) (aa 2) (lQ T.z8 rfl))) (ao (fI fJ rfl T.oZ T.kP rfl (ae aD af))) aO) (au (eJ (aa 0) (aa 1) rfl) (ao (eJ (aa 0) (aa 2) rfl)))), ?_⟩
 walk_at "gzn"
 have no : ∀ D σ, ¬ a9 i j -> ∀ y, qv T.dN E (nO (tC (.str y)) lp) D σ H := fun D σ z y => ⟨by show 1 <= sizeLine; decide, q0 z⟩
 refine bB (fun h1 => bB (fun h2 => bB (fun h3 => no _ _ (fun z => h3 z.2.2) _) fun h3 => ?_) fun h2 => no _ _ (fun z => h2 z.2.1) _) fun h1 => no _ _ (fun z => h1 z.1) _
 refine ⟨_, _, _, hx, hc, n1, (by show 0 < 1000; decide), _, _, _, ah, hc, n2, (by show 1 < 1000; decide), ?_⟩
 rw [iI]
 exact q ⟨h1, h2, by lia⟩
inductive IV (C N : Addr) (vs : List V) (H : Hp) (Q : VK) (E : XK) : Prop
 | mk (x dx : Addr) (i j : Int) (v : V) (_ : vs = [.ref x, .int i, .int j, v]) (_ : H x = some (.ins C dx [])) (_ : (¬ a9 i j -> E (.ref N) none H)) (_ : (a9 i j -> Q .non (upd H x (.ins C dx [("first", .int i), ("last", .int j), ("stretch", v)]))))
theorem Ac (T : Tx w K mg) : Om P w mg base 2 T.gQ (IV T.bj T.dN) := by
 refine gN uf ?_
 rintro _ _ _ _ _ _ _ _ hr ⟨x, dx, i, j, v, rfl, hx, q0, q⟩
 refine ⟨_, (au (eA (lO rfl T.mL T.mV (mX T) hr.m T.ef.b .nil bf (ae (aa 0) (ae (aa 1) (ae (aa 2) af))))) (ao (eJ (aa 0) (aa 3) rfl))), ?_⟩
 walk_at "gzn"
 refine ⟨x, T.bj, dx, i, j, rfl, hx, T.df, T.kD, T.kE, q0, fun hk => ?_⟩
 walk_at "gzn"
 refine ⟨_, _, _, ah, T.df, T.kF, (by show 2 < 1000; decide), ?_⟩
 rw [iI]
 exact q hk
inductive IW (C N : Addr) (vs : List V) (H : Hp) (Q : VK) (E : XK) : Prop
 | mk (x dx : Addr) (i j : Int) (v : V) (_ : vs = [.ref x, .int i, .int j, v]) (_ : H x = some (.ins C dx [])) (_ : (¬ a9 i j -> E (.ref N) none H)) (_ : (a9 i j -> Q .non (upd H x (.ins C dx [("first", .int i), ("last", .int j), ("sill", v)]))))
theorem Ad (T : Tx w K mg) : Om P w mg base 2 T.gW (IW T.bo T.dN) := by
 refine gN uj ?_
 rintro _ _ _ _ _ _ _ _ hr ⟨x, dx, i, j, v, rfl, hx, q0, q⟩
 refine ⟨_, (au (eA (lO rfl T.mL T.mV (mX T) hr.m T.ef.b .nil bf (ae (aa 0) (ae (aa 1) (ae (aa 2) af))))) (ao (eJ (aa 0) (aa 3) rfl))), ?_⟩
 walk_at "gzn"
 refine ⟨x, T.bo, dx, i, j, rfl, hx, T.dg, T.kG, T.kH, q0, fun hk => ?_⟩
 walk_at "gzn"
 refine ⟨_, _, _, ah, T.dg, T.kI, (by show 2 < 1000; decide), ?_⟩
 rw [iI]
 exact q hk
inductive IX (C N : Addr) (vs : List V) (H : Hp) (Q : VK) (E : XK) : Prop
 | mk (x dx : Addr) (i j : Int) (v : V) (_ : vs = [.ref x, .int i, .int j, v]) (_ : H x = some (.ins C dx [])) (_ : (¬ a9 i j -> E (.ref N) none H)) (_ : (a9 i j -> Q .non (upd H x (.ins C dx [("first", .int i), ("last", .int j), ("sill", v)]))))
theorem Ae (T : Tx w K mg) : Om P w mg base 2 T.g6 (IX T.bp T.dN) := by
 refine gN uq ?_
 rintro _ _ _ _ _ _ _ _ hr ⟨x, dx, i, j, v, rfl, hx, q0, q⟩
 refine ⟨_, (au (eA (lO rfl T.mL T.mV (mX T) hr.m T.ef.b .nil bf (ae (aa 0) (ae (aa 1) (ae (aa 2) af))))) (ao (eJ (aa 0) (aa 3) rfl))), ?_⟩
 walk_at "gzn"
 refine ⟨x, T.bp, dx, i, j, rfl, hx, T.dh, T.kJ, T.kK, q0, fun hk => ?_⟩
 walk_at "gzn"
 refine ⟨_, _, _, ah, T.dh, T.kL, (by show 2 < 1000; decide), ?_⟩
 rw [iI]
 exact q hk
inductive IY (C N : Addr) (vs : List V) (H : Hp) (Q : VK) (E : XK) : Prop
 | mk (x dx : Addr) (i j : Int) (v : V) (_ : vs = [.ref x, .int i, .int j, v]) (_ : H x = some (.ins C dx [])) (_ : (¬ a9 i j -> E (.ref N) none H)) (_ : (a9 i j -> Q .non (upd H x (.ins C dx [("first", .int i), ("last", .int j), ("stretch", v)]))))
theorem Af (T : Tx w K mg) : Om P w mg base 2 T.hZ (IY T.bc T.dN) := by
 refine gN uz ?_
 rintro _ _ _ _ _ _ _ _ hr ⟨x, dx, i, j, v, rfl, hx, q0, q⟩
 refine ⟨_, (au (eA (lO rfl T.mL T.mV (mX T) hr.m T.ef.b .nil bf (ae (aa 0) (ae (aa 1) (ae (aa 2) af))))) (ao (eJ (aa 0) (aa 3) rfl))), ?_⟩
 walk_at "gzn"
 refine ⟨x, T.bc, dx, i, j, rfl, hx, T.dw, T.mM, T.mO, q0, fun hk => ?_⟩
 walk_at "gzn"
 refine ⟨_, _, _, ah, T.dw, T.mP, (by show 2 < 1000; decide), ?_⟩
 rw [iI]
 exact q hk
inductive IZ (C N : Addr) (vs : List V) (H : Hp) (Q : VK) (E : XK) : Prop
 | mk (x dx : Addr) (i j l h : Int) (_ : vs = [.ref x, .int i, .int j, .int l, .int h]) (_ : H x = some (.ins C dx [])) (_ : (¬ (a9 i j /\ l < h) -> ∀ H', SameBut x H H' -> E (.ref N) none H')) (_ : (a9 i j /\ l < h -> Q .non (upd H x (.ins C dx [("first", .int i), ("last", .int j), ("low", .int l), ("high", .int h)]))))
theorem Ag (T : Tx w K mg) : Om P w mg base 2 T.hU (IZ T.bq T.dN) := by
 refine gN uw ?_
 rintro _ _ _ _ _ _ _ _ hr ⟨x, dx, i, j, l, h, rfl, hx, q0, q⟩
 refine ⟨_, (au (eA (lO rfl T.mL T.mV (mX T) hr.m T.ef.b .nil bf (ae (aa 0) (ae (aa 1) (ae (aa 2) af))))) (au (aK (rA (aa 3) (aa 4)) (ao (fI fJ rfl T.oZ T.kP rfl (ae aD af))) aO) (au (eJ (aa 0) (aa 3) rfl) (ao (eJ (aa 0) (aa 4) rfl))))), ?_⟩
 walk_at "gzn"
 refine ⟨x, T.bq, dx, i, j, rfl, hx, T.cv, T.jy, T.iB, fun z => q0 (fun y => z y.1) _ fun _ _ _ e => e, fun hk => ?_⟩
 walk_at "gzn"
 refine bB (fun h1 => ⟨by decide, q0 (fun y => by lia) _ fun b o hb e => by rw [aG hb]; exact e⟩) fun h1 => ?_
 refine ⟨_, _, _, ah, T.cv, T.kM, (by show 2 < 1000; decide), _, _, _, ah, T.cv, T.kN, (by show 3 < 1000; decide), ?_⟩
 rw [iI, iI]
 exact q ⟨hk, by lia⟩
inductive I0 (C N : Addr) (vs : List V) (H : Hp) (Q : VK) (E : XK) : Prop
 | mk (x dx : Addr) (i : Int) (_ : vs = [.ref x, .int i]) (_ : H x = some (.ins C dx [])) (_ : (¬ (0 < i /\ i < 11) -> E (.ref N) none H)) (_ : (0 < i /\ i < 11 -> Q .non (upd H x (.ins C dx [("turn", .int i)]))))
theorem Ah (T : Tx w K mg) : Om P w mg base 1 T.ic (I0 T.bS T.dN) := by
 refine gN uE ?_
 rintro _ _ _ _ H _ _ E _ ⟨x, dx, i, rfl, hx, q0, q⟩
 refine ⟨_, (au (aK (iL (GP p9 p9 ag (aa 1) (lQ T.z8 rfl))) (ao (fI fJ rfl T.oZ T.kP rfl (ae aD af))) aO) (ao (eJ (aa 0) (aa 1) rfl))), ?_⟩
 walk_at "gzn"
 have no : ∀ D σ, ¬ (0 < i /\ i < 11) -> ∀ y, qv T.dN E (nO (tC (.str y)) lp) D σ H := fun D σ z y => ⟨by show 1 <= sizeLine; decide, q0 z⟩
 refine bB (fun h1 => bB (fun h2 => ?_) fun h2 => no _ _ (fun z => h2 z.2) _) fun h1 => no _ _ (fun z => h1 z.1) _
 exact ⟨_, _, _, hx, T.eM, T.kO, (by show 0 < 1000; decide), q ⟨h1, h2⟩⟩
end
section
seal L2.PE L2.PS L2.aR L2.PA
variable {P : Program} {w : World} {K : PySem.W.Frag} {mg : Str -> Option Value} {base : Heap}
noncomputable def Ai (lo : En) : List S2 := match lo with | none => [] | some l => [(none, some (l - 1))]
noncomputable def Aj (hi : En) : List S2 := match hi with | none => [] | some h => [(some (h + 1), none)]
theorem I9 (lo hi : En) : fo (lo, hi) = Ai lo ++ Aj hi := by cases lo <;> cases hi <;> rfl
inductive Ja (K : PySem.W.Frag) (vs : List V) (H : Hp) (Q : VK) (aI : XK) : Prop
 | mk (p : Addr) (s : S2) (_ : vs = [.ref p]) (_ : H p = some (.tup [ev s.1, ev s.2])) (_ : ∀ l xs H', ai H H' -> H l = none -> H' l = some (.lst xs) -> cL H' xs (fo s) -> Q (.ref l) H')
theorem Jb (T : Tx w K mg) : Ok P w base 1 T.my (Ja K) := by
 refine cE l9 ?_
 rintro _ _ _ s H _ _ _ _ ⟨p, ⟨lo, hi⟩, rfl, hp, q⟩
 refine ⟨_, (au (aU 1 l9.nd (k7 (oI (aq (aa 0) ag)) (bU af) (bU (ae (aX (ae dD (ae (aC dn (aq (aa 0) ag) ag) af))) af)))) (au (aU 2 l9.nd (k7 (oI (aq (aa 0) ag)) (bU af) (bU (ae (aX (ae (aC br (aq (aa 0) ag) ag) (ae dD af))) af)))) (ao (ax (aC gE (aa 1) (aa 2)))))), ?_⟩
 replace hp : H p = some (.tup [ev lo, ev hi]) := hp
 rw [I9] at q
 refine bg (fun σ H1 => ∃ a xs, σ = [some (.ref p), some (.ref a), none] /\ ai H H1 /\ H1 a = some (.lst xs) /\ xs.length <= 1 /\ aA (fun v (s : S2) => bI H1 v s.1 s.2) xs (Ai lo)) (fun N hN => ?_) ?_
 ·clear q
  rcases lo with _ | lo
  ·walk_at "gzn"
   refine aV hp ?_
   walk_at "gzn"
   exact ⟨by decide, fun a ha => hN _ _ ⟨a, [], rfl, ak ha, ah, by decide, trivial⟩⟩
  ·walk_at "gzn"
   refine aV hp ?_
   walk_at "gzn"
   refine aV hp ?_
   walk_at "gzn"
   exact ⟨bu, fun ta uW => ⟨by decide, fun a ha => hN _ _ ⟨a, [.ref ta], rfl, (ak uW).trans (ak ha), ah, Nat.le_refl _, ⟨ta, rfl, (ak ha) _ _ ah⟩, trivial⟩⟩⟩
 rintro σ H1 ⟨a, xs, rfl, s1, ha, xl, hx⟩
 refine bg (fun σ H2 => ∃ b ys, σ = [some (.ref p), some (.ref a), some (.ref b)] /\ ai H1 H2 /\ H2 b = some (.lst ys) /\ ys.length <= 1 /\ aA (fun v (s : S2) => bI H2 v s.1 s.2) ys (Aj hi)) (fun N hN => ?_) ?_
 ·clear q
  replace hp := s1 _ _ hp
  rcases hi with _ | hi
  ·walk_at "gzn"
   refine aV hp ?_
   walk_at "gzn"
   exact ⟨by decide, fun a ha => hN _ _ ⟨a, [], rfl, ak ha, ah, by decide, trivial⟩⟩
  ·walk_at "gzn"
   refine aV hp ?_
   walk_at "gzn"
   refine aV hp ?_
   walk_at "gzn"
   exact ⟨bu, fun ta uW => ⟨by decide, fun a ha => hN _ _ ⟨a, [.ref ta], rfl, (ak uW).trans (ak ha), ah, Nat.le_refl _, ⟨ta, rfl, (ak ha) _ _ ah⟩, trivial⟩⟩⟩
 rintro σ H2 ⟨b, ys, rfl, s2, hb, yl, hy⟩
 walk_at "gzn"
 exact ⟨_, s2 _ _ ha, _, hb, Nat.le_trans (by lia : xs.length + ys.length <= 2) (by decide), fun c hc => q c _ _ (s1.trans (s2.trans (ak hc))) ((s1.trans s2).free hc) ah (q9.mpr (aA.app (hx.imp fun _ _ z => bI.same z (s2.trans (ak hc))) (hy.imp fun _ _ z => bI.same z (ak hc))))⟩
inductive Jc (K : PySem.W.Frag) (vs : List V) (H : Hp) (Q : VK) (aI : XK) : Prop
 | mk (a : Addr) (xs : List V) (ps : List Pa) (_ : vs = [.ref a]) (_ : ar K H a xs) (_ : da H xs ps) (_ : ps.length <= 100) (_ : ∀ l ys H', ai H H' -> H l = none -> H' l = some (.lst ys) -> aA (bX H H') ys (bQ ps) -> Q (.ref l) H')
inductive Jd (H : Hp) (a l : Addr) (ps : List Pa) (i : Nat) (σ : St) (H1 : Hp) : Prop
 | mk (ys : List V) (e : Option V) (_ : σ = [some (.ref a), some (.ref l), e]) (_ : ai H H1) (_ : H1 l = some (.lst ys)) (_ : aA (eI H l H1) ys (bQ (ps.take i))) (_ : ys.length <= 2 * i)
theorem mY (T : Tx w K mg) : Ok P w base 2 T.mz (Jc K) := by
 refine cE md ?_
 rintro _ _ _ s H _ Q _ hr ⟨a, xs, ps, rfl, hS, hP, hn, q⟩
 refine ⟨_, (au (aU 1 md.nd (bU af)) (au (jP PassesOwn.never rfl (nF (aa 0)) (jl 2 md.nd) (ao (eA (dG PySem.F.plainAttrs_list PySem.F.slot_list_extend PySem.F.type_list_extend xj (aa 1) (ae (jZ (cO [2] ["part"]) rfl (nF (aL (Jb T) hr (ae (aq (aa 2) ag) af))) (fun C s2 H2 ex pn => ⟨i5, (bU (ae (aX (ae (yN (K := K) (aa 1) ag) (ae (yN (K := K) (aa 1) ag) (ae (aa 0) af)))) af))⟩)) af))))) (ao (ax (aa 1))))), ?_⟩
 have hl := hP.len
 walk_at "gzn"
 refine ⟨by decide, fun l kQ => ?_⟩
 have s1 := ak (o := .lst []) kQ
 have e1 : upd H l (.lst []) l = some (.lst []) := ah
 generalize upd H l (.lst []) = H1 at s1 e1 ⊢
 refine ⟨⟨_, s1.seq hS⟩, Eu (xs := xs) (Jd H a l ps) ⟨[], _, rfl, s1, e1, trivial, Nat.zero_le _⟩ ?_ ?_ ?_⟩
 ·rintro i σ H2 _ ⟨_, _, _, s2, _⟩
  exact s2.seq hS
 ·rintro i x σ H2 hx ⟨ys, e, rfl, s2, bD, hy, hlen⟩
  obtain ⟨p, hp, tp, sp, rfl, h1, h2⟩ := hP.get hx
  have uX := s2 _ _ h1
  have Je := s2 _ _ h2
  walk_at "gzn"
  refine ⟨.inl ⟨rfl, _, ar.of bD⟩, aV uX ?_⟩
  refine ⟨sp, p.2.2, rfl, Je, fun o os H3 s3 _ ho f7 => ?_⟩
  walk_at "gzn"
  have Ak := q9.mp f7
  have Ng := Ak.len
  have Nh := rb p.2.2
  refine ⟨⟨_, ar.of ho⟩, ja qI (Nat.le_trans (by lia : os.length <= 2) (by decide)) (jc (R := fun H x (s : S2) => bI H x s.1 s.2) (R' := eI H l) (f := fun s => [((p.1, p.2.1, s) : Pa)]) (fun _ _ _ _ s' h => h.same s') (fun _ _ _ _ s' h => h.same s') Ak (bs := []) trivial (fun H' s' => ar.of (s' _ _ ho)) (fun x k _ H4 s4 r Q h => ?_) (fun x k _ H4 s4 r Q h => ?_) fun H4 zs s4 hz => ?_)⟩
  ·walk_at "gzn"
   exact h
  ·obtain ⟨xo, rfl, hxo⟩ := r
   have S4 := s3.trans s4
   walk_at "gzn"
   refine aQ (aB.of (S4 _ _ uX)) rfl (aQ (aB.of (S4 _ _ uX)) rfl ⟨by decide, fun t ht => ⟨by decide, fun c hc => ?_⟩⟩)
   have u1 := ak (o := .tup [.str p.1, .int p.2.1, .ref xo]) ht
   have u2 := ak (o := .lst [.ref t]) hc
   have cl : c ≠ l := fun z => by rw [z, u1 _ _ (S4 _ _ bD)] at hc; cases hc
   exact h _ _ (u1.trans u2) ⟨c, [.ref t], rfl, cl, (s2.trans (S4.trans u1)).free hc, ah, ⟨t, xo, rfl, u2 _ _ ah, (u1.trans u2) _ _ hxo⟩, trivial⟩
  ·intro b hb
   rw [List.nil_append] at hz
   have S4 := s3.trans s4
   have u := ak (o := .lst zs) hb
   have uY := hz.len
   rw [List.length_map] at uY
   have hi : i < xs.length := (List.getElem?_eq_some_iff.mp hx).1
   refine ⟨l, b, _, _, rfl, rfl, u _ _ (S4 _ _ bD), ah, Nat.le_trans (by lia : ys.length + zs.length <= 300) (by decide), ys ++ zs, _, rfl, eB kQ (s2.trans (S4.trans u)), ah, ?_, by rw [List.length_append]; lia⟩
   rw [F4 hp]
   have a1 := (hy.imp fun _ _ r => (r.same (S4.trans u)).put (o := .lst (ys ++ zs)) (u _ _ (S4 _ _ bD)))
   have a2 := (hz.imp fun _ _ r => (r.same u).put (o := .lst (ys ++ zs)) (u _ _ (S4 _ _ bD)))
   exact a1.app a2
 ·rintro σ H2 ⟨ys, e, rfl, s2, bD, hy, hlen⟩
  walk_at "gzn"
  rw [hl, List.take_length] at hy
  exact q l ys H2 s2 kQ bD (hy.imp fun _ _ r => r.yr)
inductive Jf (K : PySem.W.Frag) (vs : List V) (H : Hp) (Q : VK) (aI : XK) : Prop
 | mk (i j : Int) (p : Addr) (s : S2) (_ : vs = [.int i, .int j, .ref p]) (_ : H p = some (.tup [ev s.1, ev s.2])) (_ : (0 <= i /\ i <= 12)) (_ : (-1 <= j /\ j <= 11)) (_ : ∀ l xs H', ai H H' -> H l = none -> H' l = some (.lst xs) -> da H' xs (bC i j s) -> Q (.ref l) H')
theorem pj (T : Tx w K mg) : Ok P w base 1 T.mB (Jf K) := by
 refine cE t9 ?_
 rintro _ _ _ s _ _ Q _ _ ⟨i, j, p, s, rfl, hp, hi, hj, q⟩
 refine ⟨_, (ao (ax (jZ (cO [2] ["one"]) rfl (nG rfl T.mJ (ae (aa 0) (ae (aC br (aa 1) ag) af))) (fun C s2 H2 ex pn => ⟨i5, (aX (ae aD (ae (aa 0) (ae (aa 1) af))))⟩)))), ?_⟩
 walk_at "gzn"
 refine ⟨by lia, by lia, by lia, by lia, ja qJ (by rw [List.length_map, List.length_range]; exact Nat.le_trans (by lia : _ <= 20) (by decide)) (jc (R := fun _ x (k : Nat) => x = V.int (i + k)) (R' := fh) (f := fun (k : Nat) => (("at", i + (k : Int), s) : Pa)) (fun _ _ _ _ _ h => h) (fun _ _ _ _ s' h => h.same s') (aA.gA _) (bs := []) trivial (fun _ _ => trivial) (fun x k _ H2 s2 r Q h => ?_) (fun x k _ H2 s2 r Q h => ?_) fun H2 zs s2 hz => ?_)⟩
 ·walk_at "gzn"
  exact h
 ·subst r
  walk_at "gzn"
  exact ⟨by decide, fun t ht => h _ _ (ak ht) ⟨t, p, rfl, ah, (ak ht) _ _ (s2 _ _ hp)⟩⟩
 ·intro l hl
  refine q l zs _ (s2.trans (ak hl)) (s2.free hl) ah ?_
  rw [List.nil_append] at hz
  exact hz.imp fun _ _ r => r.same (ak hl)
end
section
seal L2.PE L2.PS L2.aR L2.PA
variable {P : Program} {w : World} {K : PySem.W.Frag} {mg : Str -> Option Value} {base : Heap}
inductive Jg (K : PySem.W.Frag) (vs : List V) (H : Hp) (Q : VK) (aI : XK) : Prop
 | mk (x C dx p : Addr) (fs : List (Str × V)) (i j : Int) (s : S2) (_ : vs = [.ref x, .ref p]) (_ : H x = some (.ins C dx fs)) (_ : aW K C) (_ : ba K C "first") (_ : ba K C "last") (_ : fs.lookup ("first" : Str) = some (.int i)) (_ : fs.lookup ("last" : Str) = some (.int j)) (_ : a9 i j) (_ : H p = some (.tup [ev s.1, ev s.2])) (_ : ∀ l xs H', ai H H' -> H l = none -> H' l = some (.lst xs) -> da H' xs (bC i j s) -> Q (.ref l) H')
theorem kR (T : Tx w K mg) : Om P w mg base 2 T.cy (Jg K) := by
 refine bL ud ?_
 rintro _ _ _ s _ _ _ _ hr ⟨x, C, dx, p, fs, i, j, s, rfl, hx, hc, n1, n2, l1, l2, hk, hp, q⟩
 refine ⟨_, (ao (ax (aL (pj T) hr (ae (aZ rfl (aa 0) rfl) (ae (aZ rfl (aa 0) rfl) (ae (aa 1) af)))))), ?_⟩
 obtain ⟨k1, k2, k3⟩ := hk
 walk_at "gzn"
 refine ⟨_, _, _, hx, hc, n1, _, l1, _, _, _, hx, hc, n2, _, l2, ?_⟩
 exact ⟨i, j, p, s, rfl, hp, by lia, by lia, q⟩
inductive Jh (C : Addr) (vs : List V) (H : Hp) (Q : VK) (aI : XK) : Prop
 | mk (x dx p : Addr) (i j : Int) (s : S2) (_ : vs = [.ref x]) (_ : H x = some (.ins C dx [("first", .int i), ("last", .int j), ("stretch", .ref p)])) (_ : a9 i j) (_ : H p = some (.tup [ev s.1, ev s.2])) (_ : ∀ l ys H', ai H H' -> H l = none -> H' l = some (.lst ys) -> aA (bX H H') ys [bC i j s] -> Q (.ref l) H')
theorem Ji (T : Tx w K mg) : Om P w mg base 3 T.gR (Jh T.bj) := by
 refine bL ug ?_
 rintro _ _ _ s _ _ _ _ hr ⟨x, dx, p, i, j, s, rfl, hx, hk, hp, q⟩
 refine ⟨_, (ao (ax (bU (ae (eW (aa 0) T.df T.zT (kR T) hr.m T.cy.b .nil cR (ae (aZ rfl (aa 0) rfl) af)) af)))), ?_⟩
 walk_at "gzn"
 refine ⟨_, _, hx, rfl, _, _, _, hx, T.df, T.kF, _, rfl, ?_⟩
 exact ⟨x, T.bj, dx, p, _, i, j, s, rfl, hx, T.df, T.kD, T.kE, rfl, rfl, hk, hp, fun l xs H1 s1 fl hl hP => ⟨by decide, fun c hc => q c _ _ (s1.trans (ak hc)) (s1.free hc) ah ⟨⟨l, xs, rfl, fl, (ak hc) _ _ hl, hP.same (ak hc)⟩, trivial⟩⟩⟩
inductive Jj (C : Addr) (vs : List V) (H : Hp) (Q : VK) (aI : XK) : Prop
 | mk (x dx : Addr) (i j z : Int) (_ : vs = [.ref x]) (_ : H x = some (.ins C dx [("first", .int i), ("last", .int j), ("sill", .int z)])) (_ : a9 i j) (_ : ∀ l ys H', ai H H' -> H l = none -> H' l = some (.lst ys) -> aA (bX H H') ys (bQ (bC i j (none, some (z - 1)))) -> Q (.ref l) H')
theorem Jk (T : Tx w K mg) : Om P w mg base 3 T.gX (Jj T.bo) := by
 refine bL uk ?_
 rintro _ _ _ _ _ _ _ _ hr ⟨x, dx, i, j, z, rfl, hx, hk, q⟩
 refine ⟨_, (ao (ax (aL (mY T) hr (ae (eW (aa 0) T.dg T.zU (kR T) hr.m T.cy.b .nil cR (ae (aX (ae dD (ae (aC dn (aZ rfl (aa 0) rfl) ag) af))) af)) af)))), ?_⟩
 walk_at "gzn"
 refine ⟨_, _, hx, rfl, _, _, _, hx, T.dg, T.kI, _, rfl, bu, fun t ht => ?_⟩
 have s0 := ak (o := .tup [.non, .int (z - 1)]) ht
 refine ⟨x, T.bo, dx, t, _, i, j, (none, some (z - 1)), rfl, s0 _ _ hx, T.dg, T.kG, T.kH, rfl, rfl, hk, ah, fun l xs H1 s1 _ hl hP => ?_⟩
 have hlen := dU i j (none, some (z - 1))
 obtain ⟨k1, k2, k3⟩ := id hk
 exact ⟨l, xs, _, rfl, ar.of hl, hP, by lia, fun c ys H2 s2 fc hc hy => q c ys H2 (s0.trans (s1.trans s2)) ((s0.trans s1).free fc) hc (hy.imp fun _ _ r => r.back (s0.trans s1))⟩
inductive Jl (C : Addr) (vs : List V) (H : Hp) (Q : VK) (aI : XK) : Prop
 | mk (x dx : Addr) (i j z : Int) (_ : vs = [.ref x]) (_ : H x = some (.ins C dx [("first", .int i), ("last", .int j), ("sill", .int z)])) (_ : a9 i j) (_ : ∀ l ys H', ai H H' -> H l = none -> H' l = some (.lst ys) -> aA (bX H H') ys (bQ (bC i j (some (z + 1), none))) -> Q (.ref l) H')
theorem Jm (T : Tx w K mg) : Om P w mg base 3 T.g8 (Jl T.bp) := by
 refine bL ur ?_
 rintro _ _ _ _ _ _ _ _ hr ⟨x, dx, i, j, z, rfl, hx, hk, q⟩
 refine ⟨_, (ao (ax (aL (mY T) hr (ae (eW (aa 0) T.dh T.zV (kR T) hr.m T.cy.b .nil cR (ae (aX (ae (aC br (aZ rfl (aa 0) rfl) ag) (ae dD af))) af)) af)))), ?_⟩
 walk_at "gzn"
 refine ⟨_, _, hx, rfl, _, _, _, hx, T.dh, T.kL, _, rfl, bu, fun t ht => ?_⟩
 have s0 := ak (o := .tup [.int (z + 1), .non]) ht
 refine ⟨x, T.bp, dx, t, _, i, j, (some (z + 1), none), rfl, s0 _ _ hx, T.dh, T.kJ, T.kK, rfl, rfl, hk, ah, fun l xs H1 s1 _ hl hP => ?_⟩
 have hlen := dU i j (some (z + 1), none)
 obtain ⟨k1, k2, k3⟩ := id hk
 exact ⟨l, xs, _, rfl, ar.of hl, hP, by lia, fun c ys H2 s2 fc hc hy => q c ys H2 (s0.trans (s1.trans s2)) ((s0.trans s1).free fc) hc (hy.imp fun _ _ r => r.back (s0.trans s1))⟩
inductive Jn (C : Addr) (vs : List V) (H : Hp) (Q : VK) (aI : XK) : Prop
 | mk (x dx p : Addr) (i j : Int) (s : S2) (_ : vs = [.ref x]) (_ : H x = some (.ins C dx [("first", .int i), ("last", .int j), ("stretch", .ref p)])) (_ : a9 i j) (_ : H p = some (.tup [ev s.1, ev s.2])) (_ : ∀ l xs H', ai H H' -> H l = none -> H' l = some (.lst xs) -> da H' xs (dW i j s) -> Q (.ref l) H')
theorem Al (T : Tx w K mg) : Om P w mg base 1 T.gm (Jn T.bc) := by
 refine bL uA ?_
 rintro _ _ _ s _ _ Q _ _ ⟨x, dx, p, i, j, s, rfl, hx, hk, hp, q⟩
 refine ⟨_, (ao (ax (jZ (cO [0] ["self"]) rfl (nG rfl T.mJ (ae (aZ rfl (aa 0) rfl) (ae (aZ rfl (aa 0) rfl) af))) (fun C s2 H2 ex pn => ⟨i5, (aX (ae aD (ae (aa 0) (ae (aZ (K := K) rfl (aa 1) rfl) af))))⟩)))), ?_⟩
 obtain ⟨k1, k2, k3⟩ := hk
 walk_at "gzn"
 refine ⟨_, _, _, hx, T.dw, T.mM, _, rfl, _, _, _, hx, T.dw, T.mO, _, rfl, _, rfl, _, rfl, by lia, by lia, by lia, by lia, ?_⟩
 refine ja qJ (by rw [List.length_map, List.length_range]; exact Nat.le_trans (by lia : _ <= 20) (by decide)) (jc (R := fun _ x (k : Nat) => x = V.int (i + k)) (R' := fh) (f := fun (k : Nat) => (("step", i + (k : Int), s) : Pa)) (fun _ _ _ _ _ h => h) (fun _ _ _ _ s' h => h.same s') (aA.gA _) (bs := []) trivial (fun _ _ => trivial) (fun x k _ H2 s2 r Q h => ?_) (fun y k _ H2 s2 r Q h => ?_) fun H2 zs s2 hz => ?_)
 ·walk_at "gzn"
  exact h
 ·subst r
  walk_at "gzn"
  refine ⟨_, _, _, s2 _ _ hx, T.dw, T.mP, _, rfl, by decide, fun t ht => h _ _ (ak ht) ⟨t, p, rfl, ah, (ak ht) _ _ (s2 _ _ hp)⟩⟩
 ·intro l hl
  refine q l zs _ (s2.trans (ak hl)) (s2.free hl) ah ?_
  rw [List.nil_append] at hz
  exact hz.imp fun _ _ r => r.same (ak hl)
inductive Jo (C : Addr) (vs : List V) (H : Hp) (Q : VK) (aI : XK) : Prop
 | mk (x dx p : Addr) (i j : Int) (s : S2) (_ : vs = [.ref x]) (_ : H x = some (.ins C dx [("first", .int i), ("last", .int j), ("stretch", .ref p)])) (_ : a9 i j) (_ : H p = some (.tup [ev s.1, ev s.2])) (_ : ∀ l ys H', ai H H' -> H l = none -> H' l = some (.lst ys) -> aA (bX H H') ys [dW i j s] -> Q (.ref l) H')
theorem Jp (T : Tx w K mg) : Om P w mg base 2 T.h8 (Jo T.bc) := by
 refine bL uB ?_
 rintro _ _ _ s _ _ _ _ hr ⟨x, dx, p, i, j, s, rfl, hx, hk, hp, q⟩
 refine ⟨_, (ao (ax (bU (ae (nQ (aa 0) T.dw T.zW (Al T) hr.m T.gm.b .nil cR) af)))), ?_⟩
 walk_at "gzn"
 refine ⟨_, _, hx, rfl, ?_⟩
 exact ⟨x, dx, p, i, j, s, rfl, hx, hk, hp, fun l xs H1 s1 fl hl hP => ⟨by decide, fun c hc => q c _ _ (s1.trans (ak hc)) (s1.free hc) ah ⟨⟨l, xs, rfl, fl, (ak hc) _ _ hl, hP.same (ak hc)⟩, trivial⟩⟩⟩
noncomputable def jB (t : Int) : List Pa := [("step", t - 1, some 1, none), ("step", t, none, some (-1))]
inductive Jq (C : Addr) (vs : List V) (H : Hp) (Q : VK) (aI : XK) : Prop
 | mk (x dx : Addr) (t : Int) (_ : vs = [.ref x]) (_ : H x = some (.ins C dx [("turn", .int t)])) (_ : ∀ l xs H', ai H H' -> H l = none -> H' l = some (.lst xs) -> da H' xs (jB t) -> Q (.ref l) H')
theorem Am (T : Tx w K mg) : Om P w mg base 1 T.gn (Jq T.bS) := by
 refine bL uF ?_
 rintro _ _ _ _ _ _ _ _ _ ⟨x, dx, t, rfl, hx, q⟩
 refine ⟨_, (ao (ax (bU (ae (aX (ae aD (ae (aC dn (aZ rfl (aa 0) rfl) ag) (ae (aX (ae ag (ae dD af))) af)))) (ae (aX (ae aD (ae (aZ rfl (aa 0) rfl) (ae (aX (ae dD (ae (iR jj ag) af))) af)))) af))))), ?_⟩
 walk_at "gzn"
 refine ⟨_, _, _, hx, T.eM, T.kO, _, rfl, bu, fun a ha => ⟨by decide, fun b hb => ?_⟩⟩
 have sa := ak (o := .tup [.int 1, .non]) ha
 have sb := ak (o := .tup [.str "step", .int (t - 1), .ref a]) hb
 refine ⟨_, _, _, (sa.trans sb) _ _ hx, T.eM, T.kO, _, rfl, bu, fun c hc => ⟨by decide, fun d hd => ⟨by decide, fun e he => ?_⟩⟩⟩
 have sc := ak (o := .tup [.non, .int (-1)]) hc
 have sd := ak (o := .tup [.str "step", .int t, .ref c]) hd
 have se := ak (o := .lst [.ref b, .ref d]) he
 have zd := sd.trans se
 have zc := sc.trans zd
 have zb := sb.trans zc
 exact q e _ _ (sa.trans zb) ((sa.trans (sb.trans (sc.trans sd))).free he) ah ⟨⟨b, a, rfl, zc _ _ ah, zb _ _ ah⟩, ⟨d, c, rfl, se _ _ ah, zd _ _ ah⟩, trivial⟩
inductive Jr (C : Addr) (vs : List V) (H : Hp) (Q : VK) (aI : XK) : Prop
 | mk (x dx : Addr) (t : Int) (_ : vs = [.ref x]) (_ : H x = some (.ins C dx [("turn", .int t)])) (_ : ∀ l ys H', ai H H' -> H l = none -> H' l = some (.lst ys) -> aA (bX H H') ys [jB t] -> Q (.ref l) H')
theorem Js (T : Tx w K mg) : Om P w mg base 2 T.ie (Jr T.bS) := by
 refine bL uG ?_
 rintro _ _ _ _ _ _ _ _ hr ⟨x, dx, t, rfl, hx, q⟩
 refine ⟨_, (ao (ax (bU (ae (nQ (aa 0) T.eM T.zX (Am T) hr.m T.gn.b .nil cR) af)))), ?_⟩
 walk_at "gzn"
 refine ⟨_, _, hx, rfl, ?_⟩
 exact ⟨x, dx, t, rfl, hx, fun l xs H1 s1 fl hl hP => ⟨by decide, fun c hc => q c _ _ (s1.trans (ak hc)) (s1.free hc) ah ⟨⟨l, xs, rfl, fl, (ak hc) _ _ hl, hP.same (ak hc)⟩, trivial⟩⟩⟩
noncomputable def pk (i j l h : Int) (n : Nat) : List (List Pa) := (List.range n).flatMap fun k => (bC (i + (k : Nat) + 1) j (some h, none)).map fun p => [(("at", i + (k : Nat), none, some l) : Pa), p]
theorem Jt (i j l h : Int) (n : Nat) : pk i j l h (n + 1) = pk i j l h n ++ (bC (i + (n : Nat) + 1) j (some h, none)).map fun p => [(("at", i + (n : Nat), none, some l) : Pa), p] := by
 unfold pk
 rw [List.range_succ, List.flatMap_append]
 simp
inductive Ju (H : Hp) (x r : Addr) (i j l h : Int) (n : Nat) (σ : St) (H1 : Hp) : Prop
 | mk (ys : List V) (e1 e2 : Option V) (_ : σ = [some (.ref x), some (.ref r), e1, e2]) (_ : ai H H1) (_ : H1 r = some (.lst ys)) (_ : aA (eI H r H1) ys (pk i j l h n)) (_ : ys.length <= 12 * n)
inductive Jv (C : Addr) (vs : List V) (H : Hp) (Q : VK) (aI : XK) : Prop
 | mk (x dx : Addr) (i j l h : Int) (_ : vs = [.ref x]) (_ : H x = some (.ins C dx [("first", .int i), ("last", .int j), ("low", .int l), ("high", .int h)])) (_ : a9 i j) (_ : ∀ r ys H', ai H H' -> H r = none -> H' r = some (.lst ys) -> aA (bX H H') ys (gJ i j l h) -> Q (.ref r) H')
theorem Jw (T : Tx w K mg) : Om P w mg base 2 T.hV (Jv T.bq) := by
 refine bL km ?_
 rintro _ _ _ s H _ Q _ hr ⟨x, dx, i, j, l, h, rfl, hx, hk, q⟩
 refine ⟨_, (au (aU 1 km.nd (bU af)) (au (jP PassesOwn.never rfl (nG rfl T.mJ (ae (aZ rfl (aa 0) rfl) (ae (aZ rfl (aa 0) rfl) af))) (jl 2 km.nd) (au (aU 3 km.nd (bU (ae (aX (ae aD (ae (aa 2) (ae (aX (ae dD (ae (aZ rfl (aa 0) rfl) af))) af)))) af))) (ao (eA (dG PySem.F.plainAttrs_list PySem.F.slot_list_extend PySem.F.type_list_extend xj (aa 1) (ae (jZ (cO [3] ["lows"]) rfl (nF (aL (pj T) hr (ae (aC br (aa 2) ag) (ae (aZ rfl (aa 0) rfl) (ae (aX (ae (aZ rfl (aa 0) rfl) (ae dD af))) af))))) (fun C s2 H2 ex pn => ⟨i5, (aC gE (aa 1) (bU (ae (aa 0) af)))⟩)) af)))))) (ao (ax (aa 1))))), ?_⟩
 obtain ⟨k1, k2, k3⟩ := id hk
 walk_at "gzn"
 refine ⟨by decide, fun r uZ => ?_⟩
 have s1 := ak (o := .lst []) uZ
 have e1 : upd H r (.lst []) r = some (.lst []) := ah
 generalize upd H r (.lst []) = H1 at s1 e1 ⊢
 refine ⟨_, _, _, s1 _ _ hx, T.cv, T.jy, _, rfl, _, _, _, s1 _ _ hx, T.cv, T.iB, _, rfl, _, rfl, _, rfl, by lia, by lia, by lia, by lia, ?_⟩
 refine xw (Ju H x r i j l h) ⟨[], _, _, rfl, s1, e1, trivial, Nat.zero_le _⟩ ?_ ?_
 ·rintro k σ H2 Ni ⟨ys, _, _, rfl, s2, ft, hy, hlen⟩
  walk_at "gzn"
  refine ⟨_, _, _, s2 _ _ hx, T.cv, T.kM, _, rfl, bu, fun a ha => ⟨by decide, fun b hb => ⟨by decide, fun lo Jx => ?_⟩⟩⟩
  have sa := ak (o := .tup [.non, .int l]) ha
  have sb := ak (o := .tup [.str "at", .int (i + (k : Int)), .ref a]) hb
  have sl := ak (o := .lst [.ref b]) Jx
  have S3 := sa.trans (sb.trans sl)
  have eb : fh (upd (upd (upd H2 a (.tup [.non, .int l])) b (.tup [.str "at", .int (i + (k : Int)), .ref a])) lo (.lst [.ref b])) (.ref b) (("at", i + (k : Int), none, some l) : Pa) := ⟨b, a, rfl, sl _ _ ah, (sb.trans sl) _ _ ah⟩
  have An : (upd (upd (upd H2 a (.tup [.non, .int l])) b (.tup [.str "at", .int (i + (k : Int)), .ref a])) lo (.lst [.ref b])) lo = some (.lst [.ref b]) := ah
  generalize upd (upd (upd H2 a (.tup [.non, .int l])) b (.tup [.str "at", .int (i + (k : Int)), .ref a])) lo (.lst [.ref b]) = H3 at S3 eb An ⊢
  walk_at "gzn"
  have mZ := S3 _ _ ft
  have jC := S3 _ _ (s2 _ _ hx)
  refine ⟨.inl ⟨rfl, _, ar.of mZ⟩, _, _, _, jC, T.cv, T.iB, _, rfl, _, _, _, jC, T.cv, T.kN, _, rfl, bu, fun c hc => ?_⟩
  have sc := ak (o := .tup [.int h, .non]) hc
  refine ⟨_, _, c, (some h, none), rfl, ah, by lia, by lia, fun g gs H4 s4 _ hg hG => ?_⟩
  have S4 := sc.trans s4
  have Jy := hG.len
  rw [dU] at Jy
  walk_at "gzn"
  refine ⟨⟨_, ar.of hg⟩, ja qI (Nat.le_trans (by lia : gs.length <= 12) (by decide)) (jc (R := fh) (R' := eI H r) (f := fun p => [(("at", i + (k : Int), none, some l) : Pa), p]) (fun _ _ _ _ s' h => h.same s') (fun _ _ _ _ s' h => h.same s') hG (bs := []) trivial (fun H' s' => ar.of (s' _ _ hg)) (fun x k _ H5 s5 r Q h => ?_) (fun y p _ H5 s5 ry Q h => ?_) fun H5 zs s5 hz => ?_)⟩
  ·walk_at "gzn"
   exact h
  ·have S5 := S4.trans s5
   walk_at "gzn"
   refine ⟨by decide, fun d hd => ?_⟩
   have sd := ak (o := .lst [y]) hd
   refine ⟨_, sd _ _ (S5 _ _ An), _, ah, (show 2 <= sizeLine by decide), fun m hm => ?_⟩
   have sm := ak (o := .lst ([.ref b] ++ [y])) hm
   have mr : m ≠ r := fun z => by rw [z, sd _ _ (S5 _ _ mZ)] at hm; cases hm
   exact h _ _ (sd.trans sm) ⟨m, [.ref b, y], rfl, mr, (s2.trans (S3.trans (S5.trans sd))).free hm, ah, (eb.same (S5.trans (sd.trans sm))), ry.same (sd.trans sm), trivial⟩
  ·intro d hd
   rw [List.nil_append] at hz
   have u := (S4.trans s5).trans (ak (o := .lst zs) hd)
   have uY := hz.len
   rw [List.length_map, dU] at uY
   refine ⟨r, d, _, _, rfl, rfl, u _ _ mZ, ah, Nat.le_trans (by lia : ys.length + zs.length <= 300) (by decide), ys ++ zs, _, _, rfl, eB uZ (s2.trans (S3.trans u)), ah, ?_, by rw [List.length_append]; lia⟩
   rw [Jt]
   have a1 := (hy.imp fun _ _ z => (z.same (S3.trans u)).put (o := .lst (ys ++ zs)) (u _ _ mZ))
   have a2 := (hz.imp fun _ _ z => (z.same (ak (o := .lst zs) hd)).put (o := .lst (ys ++ zs)) (u _ _ mZ))
   exact a1.app a2
 ·rintro σ H2 ⟨ys, _, _, rfl, s2, ft, hy, hlen⟩
  walk_at "gzn"
  exact q r ys H2 s2 uZ ft (hy.imp fun _ _ z => z.yr)
end
section
seal L2.PE L2.PS L2.aR L2.PA
variable {P : Program} {w : World} {K : PySem.W.Frag} {mg : Str -> Option Value} {base : Heap}
inductive Jz (C : Addr) (vs : List V) (H : Hp) (Q : VK) (aI : XK) : Prop
 | mk (x dx p : Addr) (i j : Int) (s : S2) (_ : vs = [.ref x]) (_ : H x = some (.ins C dx [("first", .int i), ("last", .int j), ("stretch", .ref p)])) (_ : a9 i j) (_ : H p = some (.tup [ev s.1, ev s.2])) (_ : ∀ l ys H', ai H H' -> H l = none -> H' l = some (.lst ys) -> aA (bX H H') ys (bQ (bC i j s)) -> Q (.ref l) H')
theorem JA (T : Tx w K mg) : Om P w mg base 3 T.gT (Jz T.bj) := by
 refine bL uh ?_
 rintro _ _ _ s _ _ _ _ hr ⟨x, dx, p, i, j, s, rfl, hx, hk, hp, q⟩
 refine ⟨_, (ao (ax (aL (mY T) hr (ae (eW (aa 0) T.df T.zT (kR T) hr.m T.cy.b .nil cR (ae (aZ rfl (aa 0) rfl) af)) af)))), ?_⟩
 walk_at "gzn"
 refine ⟨_, _, hx, rfl, _, _, _, hx, T.df, T.kF, _, rfl, ?_⟩
 have hlen := dU i j s
 obtain ⟨k1, k2, k3⟩ := id hk
 exact ⟨x, T.bj, dx, p, _, i, j, s, rfl, hx, T.df, T.kD, T.kE, rfl, rfl, hk, hp, fun l xs H1 s1 _ hl hP => ⟨l, xs, _, rfl, ar.of hl, hP, by lia, fun c ys H2 s2 fc hc hy => q c ys H2 (s1.trans s2) (s1.free fc) hc (hy.imp fun _ _ r => r.back s1)⟩⟩
inductive JB (C : Addr) (vs : List V) (H : Hp) (Q : VK) (aI : XK) : Prop
 | mk (x dx : Addr) (i j z : Int) (_ : vs = [.ref x]) (_ : H x = some (.ins C dx [("first", .int i), ("last", .int j), ("sill", .int z)])) (_ : a9 i j) (_ : ∀ l ys H', ai H H' -> H l = none -> H' l = some (.lst ys) -> aA (bX H H') ys [bC i j (none, some (z - 1))] -> Q (.ref l) H')
theorem JC (T : Tx w K mg) : Om P w mg base 3 T.gY (JB T.bo) := by
 refine bL um ?_
 rintro _ _ _ _ _ _ _ _ hr ⟨x, dx, i, j, z, rfl, hx, hk, q⟩
 refine ⟨_, (ao (ax (bU (ae (eW (aa 0) T.dg T.zU (kR T) hr.m T.cy.b .nil cR (ae (aX (ae dD (ae (aC dn (aZ rfl (aa 0) rfl) ag) af))) af)) af)))), ?_⟩
 walk_at "gzn"
 refine ⟨_, _, hx, rfl, _, _, _, hx, T.dg, T.kI, _, rfl, bu, fun t ht => ?_⟩
 have s0 := ak (o := .tup [.non, .int (z - 1)]) ht
 exact ⟨x, T.bo, dx, t, _, i, j, (none, some (z - 1)), rfl, s0 _ _ hx, T.dg, T.kG, T.kH, rfl, rfl, hk, ah, fun l xs H1 s1 fl hl hP => ⟨by decide, fun c hc => q c _ _ (s0.trans (s1.trans (ak hc))) ((s0.trans s1).free hc) ah ⟨⟨l, xs, rfl, s0.free fl, (ak hc) _ _ hl, hP.same (ak hc)⟩, trivial⟩⟩⟩
inductive JD (C : Addr) (vs : List V) (H : Hp) (Q : VK) (aI : XK) : Prop
 | mk (x dx : Addr) (i j z : Int) (_ : vs = [.ref x]) (_ : H x = some (.ins C dx [("first", .int i), ("last", .int j), ("sill", .int z)])) (_ : a9 i j) (_ : ∀ l ys H', ai H H' -> H l = none -> H' l = some (.lst ys) -> aA (bX H H') ys [bC i j (some (z + 1), none)] -> Q (.ref l) H')
theorem JE (T : Tx w K mg) : Om P w mg base 3 T.g9 (JD T.bp) := by
 refine bL uu ?_
 rintro _ _ _ _ _ _ _ _ hr ⟨x, dx, i, j, z, rfl, hx, hk, q⟩
 refine ⟨_, (ao (ax (bU (ae (eW (aa 0) T.dh T.zV (kR T) hr.m T.cy.b .nil cR (ae (aX (ae (aC br (aZ rfl (aa 0) rfl) ag) (ae dD af))) af)) af)))), ?_⟩
 walk_at "gzn"
 refine ⟨_, _, hx, rfl, _, _, _, hx, T.dh, T.kL, _, rfl, bu, fun t ht => ?_⟩
 have s0 := ak (o := .tup [.int (z + 1), .non]) ht
 exact ⟨x, T.bp, dx, t, _, i, j, (some (z + 1), none), rfl, s0 _ _ hx, T.dh, T.kJ, T.kK, rfl, rfl, hk, ah, fun l xs H1 s1 fl hl hP => ⟨by decide, fun c hc => q c _ _ (s0.trans (s1.trans (ak hc))) ((s0.trans s1).free hc) ah ⟨⟨l, xs, rfl, s0.free fl, (ak hc) _ _ hl, hP.same (ak hc)⟩, trivial⟩⟩⟩
theorem Ao (i j : Int) (s : S2) : (dW i j s).length = (j - i).toNat := by
 unfold dW
 rw [List.length_map, List.length_range]
inductive JF (C : Addr) (vs : List V) (H : Hp) (Q : VK) (aI : XK) : Prop
 | mk (x dx p : Addr) (i j : Int) (s : S2) (_ : vs = [.ref x]) (_ : H x = some (.ins C dx [("first", .int i), ("last", .int j), ("stretch", .ref p)])) (_ : a9 i j) (_ : H p = some (.tup [ev s.1, ev s.2])) (_ : ∀ l ys H', ai H H' -> H l = none -> H' l = some (.lst ys) -> aA (bX H H') ys (bQ (dW i j s)) -> Q (.ref l) H')
theorem JG (T : Tx w K mg) : Om P w mg base 3 T.ia (JF T.bc) := by
 refine bL uC ?_
 rintro _ _ _ s _ _ _ _ hr ⟨x, dx, p, i, j, s, rfl, hx, hk, hp, q⟩
 refine ⟨_, (ao (ax (aL (mY T) hr (ae (nQ (aa 0) T.dw T.zW (Al T) hr.m T.gm.b .nil cR) af)))), ?_⟩
 walk_at "gzn"
 refine ⟨_, _, hx, rfl, ?_⟩
 have hlen := Ao i j s
 obtain ⟨k1, k2, k3⟩ := id hk
 exact ⟨x, dx, p, i, j, s, rfl, hx, hk, hp, fun l xs H1 s1 _ hl hP => ⟨l, xs, _, rfl, ar.of hl, hP, by lia, fun c ys H2 s2 fc hc hy => q c ys H2 (s1.trans s2) (s1.free fc) hc (hy.imp fun _ _ r => r.back s1)⟩⟩
inductive JH (C : Addr) (vs : List V) (H : Hp) (Q : VK) (aI : XK) : Prop
 | mk (x dx : Addr) (t : Int) (_ : vs = [.ref x]) (_ : H x = some (.ins C dx [("turn", .int t)])) (_ : ∀ l ys H', ai H H' -> H l = none -> H' l = some (.lst ys) -> aA (bX H H') ys (bQ (jB t)) -> Q (.ref l) H')
theorem JI (T : Tx w K mg) : Om P w mg base 3 T.ig (JH T.bS) := by
 refine bL uH ?_
 rintro _ _ _ _ _ _ _ _ hr ⟨x, dx, t, rfl, hx, q⟩
 refine ⟨_, (ao (ax (aL (mY T) hr (ae (nQ (aa 0) T.eM T.zX (Am T) hr.m T.gn.b .nil cR) af)))), ?_⟩
 walk_at "gzn"
 refine ⟨_, _, hx, rfl, ?_⟩
 exact ⟨x, dx, t, rfl, hx, fun l xs H1 s1 _ hl hP => ⟨l, xs, _, rfl, ar.of hl, hP, (show 2 <= 100 by decide), fun c ys H2 s2 fc hc hy => q c ys H2 (s1.trans s2) (s1.free fc) hc (hy.imp fun _ _ r => r.back s1)⟩⟩
noncomputable def iC (i j l h : Int) : List (List Pa) := (List.range (j + 1 - i).toNat).map fun k => bC i (i + (k : Nat) - 1) (some (l + 1), none) ++ bC (i + (k : Nat) + 1) j (none, some (h - 1))
inductive JJ (C : Addr) (vs : List V) (H : Hp) (Q : VK) (aI : XK) : Prop
 | mk (x dx : Addr) (i j l h : Int) (_ : vs = [.ref x]) (_ : H x = some (.ins C dx [("first", .int i), ("last", .int j), ("low", .int l), ("high", .int h)])) (_ : a9 i j) (_ : ∀ r ys H', ai H H' -> H r = none -> H' r = some (.lst ys) -> aA (bX H H') ys (iC i j l h) -> Q (.ref r) H')
theorem JK (T : Tx w K mg) : Om P w mg base 2 T.hW (JJ T.bq) := by
 refine bL ux ?_
 rintro _ _ _ s H _ Q _ hr ⟨x, dx, i, j, l, h, rfl, hx, hk, q⟩
 refine ⟨_, (ao (ax (jZ (cO [0] ["self"]) rfl (nG rfl T.mJ (ae (aZ rfl (aa 0) rfl) (ae (aC br (aZ rfl (aa 0) rfl) ag) af))) (fun C s2 H2 ex pn => ⟨i5, (aC gE (aL (pj T) hr (ae (aZ (K := K) rfl (aa 1) rfl) (ae (aC dn (aa 0) ag) (ae (aX (ae (aC br (aZ (K := K) rfl (aa 1) rfl) ag) (ae dD af))) af)))) (aL (pj T) hr (ae (aC br (aa 0) ag) (ae (aZ (K := K) rfl (aa 1) rfl) (ae (aX (ae dD (ae (aC dn (aZ (K := K) rfl (aa 1) rfl) ag) af))) af)))))⟩)))), ?_⟩
 obtain ⟨k1, k2, k3⟩ := id hk
 walk_at "gzn"
 refine ⟨_, _, _, hx, T.cv, T.jy, _, rfl, _, _, _, hx, T.cv, T.iB, _, rfl, _, rfl, by lia, by lia, by lia, by lia, ?_⟩
 refine ja qJ (by rw [List.length_map, List.length_range]; exact Nat.le_trans (by lia : _ <= 20) (by decide)) (jc (R := fun _ x (k : Nat) => x = V.int (i + k)) (R' := bX H) (f := fun (k : Nat) => bC i (i + (k : Int) - 1) (some (l + 1), none) ++ bC (i + (k : Int) + 1) j (none, some (h - 1))) (fun _ _ _ _ _ h => h) (fun _ _ _ _ s' h => h.same s') (aA.gA _) (bs := []) trivial (fun _ _ => trivial) (fun x k _ H2 s2 r Q h => ?_) (fun y k Ap H2 s2 r Q hq => ?_) fun H2 zs s2 hz => ?_)
 ·walk_at "gzn"
  exact h
 ·subst r
  have Ap := List.mem_range.mp Ap
  walk_at "gzn"
  have eN := s2 _ _ hx
  refine ⟨_, _, _, eN, T.cv, T.jy, _, rfl, _, _, _, eN, T.cv, T.kM, _, rfl, bu, fun a ha => ?_⟩
  have sa := ak (o := .tup [.int (l + 1), .non]) ha
  refine ⟨_, _, a, (some (l + 1), none), rfl, ah, by lia, by lia, fun g gs H3 s3 _ hg hG => ?_⟩
  have jC := (sa.trans s3) _ _ eN
  walk_at "gzn"
  refine ⟨_, _, _, jC, T.cv, T.iB, _, rfl, _, _, _, jC, T.cv, T.kN, _, rfl, bu, fun b hb => ?_⟩
  have sb := ak (o := .tup [.non, .int (h - 1)]) hb
  refine ⟨_, _, b, (none, some (h - 1)), rfl, ah, by lia, by lia, fun d ds H4 s4 _ hd hD => ?_⟩
  have S4 := sb.trans s4
  have l1 := hG.len
  have l2 := hD.len
  rw [dU] at l1 l2
  walk_at "gzn"
  refine ⟨gs, S4 _ _ hg, ds, hd, Nat.le_trans (by lia : gs.length + ds.length <= 40) (by decide), fun c hc => ?_⟩
  have sc := ak (o := .lst (gs ++ ds)) hc
  exact hq _ _ ((sa.trans s3).trans (S4.trans sc)) ⟨c, gs ++ ds, rfl, (s2.trans ((sa.trans s3).trans S4)).free hc, ah, aA.app (da.same hG (S4.trans sc)) (da.same hD sc)⟩
 ·intro c hc
  refine q c zs _ (s2.trans (ak hc)) (s2.free hc) ah ?_
  rw [List.nil_append] at hz
  exact hz.imp fun _ _ r => r.same (ak hc)
end
section
seal L2.PE L2.PS L2.aR L2.PA
variable {P : Program} {w : World} {K : PySem.W.Frag} {mg : Str -> Option Value} {base : Heap}
inductive Tr where
 | stay (i j : Int) (l h : En) | over (i j s : Int) | under (i j s : Int) | rose (i j l h : Int) | pace (i j : Int) (l h : En) | turn (t : Int)
noncomputable def u4 : Tr -> List V
 | .stay i j l h => [.str "stay", .int i, .int j, ev l, ev h]
 | .over i j s => [.str "over", .int i, .int j, .int s]
 | .under i j s => [.str "under", .int i, .int j, .int s]
 | .rose i j l h => [.str "rose", .int i, .int j, .int l, .int h]
 | .pace i j l h => [.str "pace", .int i, .int j, ev l, ev h]
 | .turn t => [.str "turn", .int t]
def dY : Tr -> Prop
 | .stay i j l h => a9 i j
 | .over i j s => a9 i j
 | .under i j s => a9 i j
 | .rose i j l h => a9 i j /\ l < h
 | .pace i j l h => a9 i j
 | .turn t => 0 < t /\ t < 11
noncomputable def Aq : Tr -> Int
 | .stay i j l h => j
 | .over i j s => j
 | .under i j s => j
 | .rose i j l h => j
 | .pace i j l h => j
 | .turn t => t + 1
noncomputable def iD : Tr -> List (List Pa)
 | .stay i j l h => [bC i j (l, h)]
 | .over i j s => bQ (bC i j (none, some (s - 1)))
 | .under i j s => bQ (bC i j (some (s + 1), none))
 | .rose i j l h => gJ i j l h
 | .pace i j l h => [dW i j (l, h)]
 | .turn t => [jB t]
noncomputable def iE : Tr -> List (List Pa)
 | .stay i j l h => bQ (bC i j (l, h))
 | .over i j s => [bC i j (none, some (s - 1))]
 | .under i j s => [bC i j (some (s + 1), none)]
 | .rose i j l h => iC i j l h
 | .pace i j l h => bQ (dW i j (l, h))
 | .turn t => bQ (jB t)
def dy (T : Tx w K mg) (H : Hp) (x : Addr) : Tr -> Prop
 | .stay i j l h => ∃ dx p, H x = some (.ins T.bj dx [("first", .int i), ("last", .int j), ("stretch", .ref p)]) /\ H p = some (.tup [ev l, ev h])
 | .over i j s => ∃ dx, H x = some (.ins T.bo dx [("first", .int i), ("last", .int j), ("sill", .int s)])
 | .under i j s => ∃ dx, H x = some (.ins T.bp dx [("first", .int i), ("last", .int j), ("sill", .int s)])
 | .rose i j l h => ∃ dx, H x = some (.ins T.bq dx [("first", .int i), ("last", .int j), ("low", .int l), ("high", .int h)])
 | .pace i j l h => ∃ dx p, H x = some (.ins T.bc dx [("first", .int i), ("last", .int j), ("stretch", .ref p)]) /\ H p = some (.tup [ev l, ev h])
 | .turn t => ∃ dx, H x = some (.ins T.bS dx [("turn", .int t)])
theorem dy.same {T : Tx w K mg} {H H' : Hp} {x : Addr} {tr : Tr} (h : dy T H x tr) (s : ai H H') : dy T H' x tr := by
 cases tr
 case stay => obtain ⟨dx, p, a, b⟩ := h; exact ⟨dx, p, s _ _ a, s _ _ b⟩
 case pace => obtain ⟨dx, p, a, b⟩ := h; exact ⟨dx, p, s _ _ a, s _ _ b⟩
 all_goals (obtain ⟨dx, a⟩ := h; exact ⟨dx, s _ _ a⟩)
inductive pq (T : Tx w K mg) (f : Tr -> List (List Pa)) (x : V) (H : Hp) (Q : VK) : Prop
 | mk (a : Addr) (tr : Tr) (_ : x = .ref a) (_ : dy T H a tr) (_ : dY tr) (_ : ∀ l ys H', ai H H' -> H l = none -> H' l = some (.lst ys) -> aA (bX H H') ys (f tr) -> Q (.ref l) H')
theorem JL (T : Tx w K mg) {A : Around} {n : Nat} (hr : aS n A) (hn : 3 <= n := by decide) (x : V) (H : Hp) (Q : VK) (h : pq T iD x H Q) : bY P w K mg base A "ways" x H Q := by
 obtain ⟨x, tr, rfl, he, hg, cont⟩ := h
 replace hr := hr.mono hn
 cases tr with
 | stay i j l h =>
  obtain ⟨dx, p, hx, hp⟩ := id he
  exact .of hx T.df T.HK (Ji T) hr T.gR.b ⟨x, dx, p, i, j, (l, h), rfl, hx, hg, hp, cont⟩
 | over i j s =>
  obtain ⟨dx, hx⟩ := id he
  exact .of hx T.dg T.HQ (Jk T) hr T.gX.b ⟨x, dx, i, j, s, rfl, hx, hg, cont⟩
 | under i j s =>
  obtain ⟨dx, hx⟩ := id he
  exact .of hx T.dh T.HW (Jm T) hr T.g8.b ⟨x, dx, i, j, s, rfl, hx, hg, cont⟩
 | rose i j l h =>
  obtain ⟨dx, hx⟩ := id he
  exact .of hx T.cv T.Ib (Jw T) hr T.hV.b ⟨x, dx, i, j, l, h, rfl, hx, hg.1, cont⟩
 | pace i j l h =>
  obtain ⟨dx, p, hx, hp⟩ := id he
  exact .of hx T.dw T.Ii (Jp T) hr T.h8.b ⟨x, dx, p, i, j, (l, h), rfl, hx, hg, hp, cont⟩
 | turn t =>
  obtain ⟨dx, hx⟩ := id he
  exact .of hx T.eM T.Im (Js T) hr T.ie.b ⟨x, dx, t, rfl, hx, cont⟩
theorem JM (T : Tx w K mg) {H : Hp} {x : Addr} {tr : Tr} (he : dy T H x tr) (hg : dY tr) (Q : VK) (cont : ∀ l ys H', ai H H' -> H l = none -> H' l = some (.lst ys) -> aA (bX H H') ys (iD tr) -> Q (.ref l) H') : pq T iD (.ref x) H Q := ⟨x, tr, rfl, he, hg, cont⟩
theorem JN (T : Tx w K mg) {A : Around} {n : Nat} (hr : aS n A) (hn : 3 <= n := by decide) (x : V) (H : Hp) (Q : VK) (h : pq T iE x H Q) : bY P w K mg base A "breaks" x H Q := by
 obtain ⟨x, tr, rfl, he, hg, cont⟩ := h
 replace hr := hr.mono hn
 cases tr with
 | stay i j l h =>
  obtain ⟨dx, p, hx, hp⟩ := id he
  exact .of hx T.df T.HL (JA T) hr T.gT.b ⟨x, dx, p, i, j, (l, h), rfl, hx, hg, hp, cont⟩
 | over i j s =>
  obtain ⟨dx, hx⟩ := id he
  exact .of hx T.dg T.HR (JC T) hr T.gY.b ⟨x, dx, i, j, s, rfl, hx, hg, cont⟩
 | under i j s =>
  obtain ⟨dx, hx⟩ := id he
  exact .of hx T.dh T.HX (JE T) hr T.g9.b ⟨x, dx, i, j, s, rfl, hx, hg, cont⟩
 | rose i j l h =>
  obtain ⟨dx, hx⟩ := id he
  exact .of hx T.cv T.Ic (JK T) hr T.hW.b ⟨x, dx, i, j, l, h, rfl, hx, hg.1, cont⟩
 | pace i j l h =>
  obtain ⟨dx, p, hx, hp⟩ := id he
  exact .of hx T.dw T.Ij (JG T) hr T.ia.b ⟨x, dx, p, i, j, (l, h), rfl, hx, hg, hp, cont⟩
 | turn t =>
  obtain ⟨dx, hx⟩ := id he
  exact .of hx T.eM T.Io (JI T) hr T.ig.b ⟨x, dx, t, rfl, hx, cont⟩
theorem JO (T : Tx w K mg) {H : Hp} {x : Addr} {tr : Tr} (he : dy T H x tr) (hg : dY tr) (Q : VK) (cont : ∀ l ys H', ai H H' -> H l = none -> H' l = some (.lst ys) -> aA (bX H H') ys (iE tr) -> Q (.ref l) H') : pq T iE (.ref x) H Q := ⟨x, tr, rfl, he, hg, cont⟩
end
section
seal L2.PE L2.PS L2.aR L2.PA
variable {P : Program} {w : World} {K : PySem.W.Frag} {mg : Str -> Option Value} {base : Heap}
inductive JP (T : Tx w K mg) (vs : List V) (H : Hp) (Q : VK) (aI : XK) : Prop
 | mk (x : Addr) (tr : Tr) (_ : vs = [.ref x]) (_ : dy T H x tr) (_ : dY tr) (_ : ∀ p H', ai H H' -> H' p = some (.tup [.int (iD tr).length, .int (iE tr).length]) -> Q (.ref p) H')
theorem kS (T : Tx w K mg) : Om P w mg base 10 T.bR (JP T) := by
 refine bL ua ?_
 rintro _ _ _ _ _ _ _ _ hr ⟨x, tr, rfl, he, hg, q⟩
 refine ⟨_, (ao (ax (aX (ae (cQ dP (by rfl) T.dX dS (ae (dq (JL T hr) (aa 0)) af)) (ae (cQ dP (by rfl) T.dX dS (ae (dq (JN T hr) (aa 0)) af)) af))))), ?_⟩
 walk_at "gzn"
 refine JM T he hg _ fun l ys H1 s1 _ hl hy => ?_
 walk_at "gzn"
 refine ⟨_, d7 (ar.of hl), ?_⟩
 walk_at "gzn"
 refine JO T (he.same s1) hg _ fun m zs H2 s2 _ hm hz => ?_
 walk_at "gzn"
 refine ⟨_, d7 (ar.of hm), bu, fun p hp => q p _ (s1.trans (s2.trans (ak hp))) ?_⟩
 rw [ah, hy.len, hz.len]
inductive JQ (T : Tx w K mg) (x : V) (H : Hp) (Q : VK) : Prop
 | mk (a : Addr) (tr : Tr) (_ : x = .ref a) (_ : dy T H a tr) (_ : dY tr) (_ : ∀ p H', ai H H' -> H' p = some (.tup [.int (iD tr).length, .int (iE tr).length]) -> Q (.ref p) H')
theorem JR (T : Tx w K mg) {A : Around} {n : Nat} (hr : aS n A) (hn : 10 <= n := by decide) (x : V) (H : Hp) (Q : VK) (h : JQ T x H Q) : bY P w K mg base A "sizes" x H Q := by
 obtain ⟨x, tr, rfl, he, hg, cont⟩ := h
 replace hr := hr.mono hn
 cases tr with
 | stay i j l h =>
  obtain ⟨dx, p, hx, hp⟩ := id he
  exact .of hx T.df T.HI (kS T) hr T.bR.b ⟨x, _, rfl, he, hg, cont⟩
 | over i j s =>
  obtain ⟨dx, hx⟩ := id he
  exact .of hx T.dg T.HN (kS T) hr T.bR.b ⟨x, _, rfl, he, hg, cont⟩
 | under i j s =>
  obtain ⟨dx, hx⟩ := id he
  exact .of hx T.dh T.HU (kS T) hr T.bR.b ⟨x, _, rfl, he, hg, cont⟩
 | rose i j l h =>
  obtain ⟨dx, hx⟩ := id he
  exact .of hx T.cv T.HZ (kS T) hr T.bR.b ⟨x, _, rfl, he, hg, cont⟩
 | pace i j l h =>
  obtain ⟨dx, p, hx, hp⟩ := id he
  exact .of hx T.dw T.Ig (kS T) hr T.bR.b ⟨x, _, rfl, he, hg, cont⟩
 | turn t =>
  obtain ⟨dx, hx⟩ := id he
  exact .of hx T.eM T.Il (kS T) hr T.bR.b ⟨x, _, rfl, he, hg, cont⟩
end
section
seal L2.PE L2.PS L2.aR L2.PA
variable {P : Program} {w : World} {K : PySem.W.Frag} {mg : Str -> Option Value} {base : Heap}
theorem yu (ps : List Pa) : (bQ ps).length <= 2 * ps.length := by
 unfold bQ
 rw [List.length_flatMap]
 have : ∀ l : List Pa, (l.map fun p => ((fo p.2.2).map fun o => [((p.1, p.2.1, o) : Pa)]).length).sum <= 2 * l.length := by
  intro l
  induction l with
  | nil => exact Nat.le_refl _
  | cons p l ih =>
   rw [List.map_cons, List.sum_cons, List.length_map, List.length_cons]
   have := rb p.2.2
   lia
 exact this ps
theorem pw {i j : Int} {s : S2} {p : Pa} (h : p ∈ bC i j s) : p.1 = "at" /\ i <= p.2.1 /\ p.2.1 <= j := by
 unfold bC at h
 obtain ⟨k, hk, rfl⟩ := List.mem_map.mp h
 have := List.mem_range.mp hk
 exact ⟨rfl, by show i <= i + (k : Int); lia, by show i + (k : Int) <= j; lia⟩
theorem u5 {t : Int} {ps : List Pa} (h : ∀ p ∈ ps, p.1 = "at" /\ 0 <= p.2.1 /\ p.2.1 < t) : fj t ps := fun p hp => by
 obtain ⟨e, h1, h2⟩ := h p hp
 rw [e]
 exact (F3 (show (Str.ofString "at") ≠ Str.ofString "step" by decide)).mpr ⟨rfl, h1, h2⟩
theorem JS {i j l h t : Int} (hk : a9 i j) (hj : j < t) : ∀ ps ∈ iC i j l h, ps.length <= 900 /\ fj t ps := fun ps hp => by
 obtain ⟨k0, k1, k2⟩ := hk
 unfold iC at hp
 obtain ⟨k, hk, rfl⟩ := List.mem_map.mp hp
 have := List.mem_range.mp hk
 refine ⟨by rw [List.length_append, dU, dU]; lia, u5 fun p hp => ?_⟩
 rcases List.mem_append.mp hp with z | z
 ·obtain ⟨a, b, c⟩ := pw z; exact ⟨a, by lia, by lia⟩
 ·obtain ⟨a, b, c⟩ := pw z; exact ⟨a, by lia, by lia⟩
theorem JT {i j l h t : Int} (hk : a9 i j) (hj : j < t) : ∀ ps ∈ gJ i j l h, ps.length <= 900 /\ fj t ps := fun ps hp => by
 obtain ⟨k0, k1, k2⟩ := hk
 unfold gJ at hp
 obtain ⟨k, hk, hq⟩ := List.mem_flatMap.mp hp
 obtain ⟨p0, JU, rfl⟩ := List.mem_map.mp hq
 have := List.mem_range.mp hk
 obtain ⟨a, b, c⟩ := pw JU
 refine ⟨(show 2 <= 900 by decide), u5 fun p hp => ?_⟩
 rcases List.mem_cons.mp hp with rfl | z
 ·exact ⟨rfl, by show 0 <= i + (k : Int); lia, by show i + (k : Int) < t; lia⟩
 ·rw [List.mem_singleton.mp z]; exact ⟨a, by lia, by lia⟩
theorem Ar {n : Nat} : ∀ {l : List Nat}, (∀ x ∈ l, x <= n) -> l.sum <= n * l.length
 | [], _ => Nat.le_refl _
 | x :: l, h => by
  have a := h x (.head _)
  have b := Ar fun y hy => h y (.tail _ hy)
  rw [List.sum_cons, List.length_cons, Nat.mul_succ]
  lia
theorem JV {i j l h : Int} (hk : a9 i j) : (gJ i j l h).length <= 200 := by
 obtain ⟨k0, k1, k2⟩ := hk
 unfold gJ
 rw [List.length_flatMap]
 refine Nat.le_trans (Ar (n := 11) fun x hx => ?_) ?_
 ·obtain ⟨k, hk, rfl⟩ := List.mem_map.mp hx
  rw [List.length_map, dU]
  have := List.mem_range.mp hk
  lia
 ·rw [List.length_map, List.length_range]
  lia
theorem u6 {i j t : Int} {s : S2} (h : 0 <= i) (hj : j < t) : fj t (bC i j s) := u5 fun p hp => by obtain ⟨a, b, c⟩ := pw hp; exact ⟨a, by lia, by lia⟩
theorem JW {i j t : Int} {s : S2} (h : 0 <= i) (hj : j < t) : fj t (dW i j s) := fun p hp => by
 unfold dW at hp
 obtain ⟨k, hk, rfl⟩ := List.mem_map.mp hp
 have := List.mem_range.mp hk
 exact ra.mpr ⟨by lia, by lia⟩
theorem JX {k t : Int} (h : 0 < k) (hj : k + 1 < t) : fj t (jB k) := fun p hp => by
 unfold jB at hp
 rcases List.mem_cons.mp hp with rfl | z
 ·exact ra.mpr ⟨by lia, by lia⟩
 ·rw [List.mem_singleton.mp z]
  exact ra.mpr ⟨by lia, by lia⟩
theorem m3 {t : Int} {ps : List Pa} (h : fj t ps) (hl : ps.length <= 60) : (∀ qs ∈ bQ ps, qs.length <= 900 /\ fj t qs) /\ (∀ qs ∈ [ps], qs.length <= 900 /\ fj t qs) /\ (bQ ps).length <= 200 /\ [ps].length <= 200 := by
 refine ⟨fun qs hq => ?_, fun qs hq => ?_, ?_, (show 1 <= 200 by decide)⟩
 ·unfold bQ at hq
  obtain ⟨p, hp, hq⟩ := List.mem_flatMap.mp hq
  obtain ⟨o, _, rfl⟩ := List.mem_map.mp hq
  refine ⟨(show 1 <= 900 by decide), fun z hz => ?_⟩
  rw [List.mem_singleton.mp hz]
  exact h p hp
 ·rw [List.mem_singleton.mp hq]
  exact ⟨by lia, h⟩
 ·have := yu ps
  lia
theorem JY {t : Int} {tr : Tr} (hg : dY tr) (hj : Aq tr < t) : (∀ ps ∈ iE tr, ps.length <= 900 /\ fj t ps) /\ (∀ ps ∈ iD tr, ps.length <= 900 /\ fj t ps) /\ (iE tr).length <= 200 /\ (iD tr).length <= 200 := by
 cases tr with
 | stay i j l h =>
  obtain ⟨k0, k1, k2⟩ := id hg
  replace hj : j < t := hj
  exact m3 (u6 (s := (l, h)) k0 hj) (by rw [dU]; lia)
 | over i j s =>
  obtain ⟨k0, k1, k2⟩ := id hg
  replace hj : j < t := hj
  obtain ⟨a, b, c, d⟩ := m3 (u6 (s := (none, some (s - 1))) k0 hj) (by rw [dU]; lia)
  exact ⟨b, a, d, c⟩
 | under i j s =>
  obtain ⟨k0, k1, k2⟩ := id hg
  replace hj : j < t := hj
  obtain ⟨a, b, c, d⟩ := m3 (u6 (s := (some (s + 1), none)) k0 hj) (by rw [dU]; lia)
  exact ⟨b, a, d, c⟩
 | rose i j l h =>
  refine ⟨JS hg.1 hj, JT hg.1 hj, ?_, JV hg.1⟩
  show (iC i j l h).length <= 200
  obtain ⟨⟨_, _, _⟩, _⟩ := hg
  unfold iC
  rw [List.length_map, List.length_range]
  lia
 | pace i j l h =>
  obtain ⟨k0, k1, k2⟩ := id hg
  replace hj : j < t := hj
  exact m3 (JW (s := (l, h)) k0 hj) (by rw [Ao]; lia)
 | turn k => exact m3 (JX hg.1 hj) (show 2 <= 60 by decide)
end
section
seal L2.PE L2.PS L2.aR L2.PA
variable {P : Program} {w : World} {K : PySem.W.Frag} {mg : Str -> Option Value} {base : Heap}
inductive Rt where
 | leaf (t : Tr) | nay (a : Rt) | both (a b : Rt) | either (a b : Rt)
noncomputable def ay : Rt -> Nat
 | .leaf _ => 0
 | .nay a => ay a + 1
 | .both a b => ay a + ay b + 1
 | .either a b => ay a + ay b + 1
noncomputable def aM : Rt -> Int × Int
 | .leaf t => ((iD t).length, (iE t).length)
 | .nay a => ((aM a).2, (aM a).1)
 | .both a b => ((aM a).1 * (aM b).1, (aM a).2 + (aM b).2)
 | .either a b => ((aM a).1 + (aM b).1, (aM a).2 * (aM b).2)
def bJ : Rt -> Prop
 | .leaf t => dY t
 | .nay a => bJ a
 | .both a b => bJ a /\ bJ b /\ (aM (.both a b)).1 <= 100 /\ (aM (.both a b)).2 <= 100
 | .either a b => bJ a /\ bJ b /\ (aM (.either a b)).1 <= 100 /\ (aM (.either a b)).2 <= 100
def bA (T : Tx w K mg) (H : Hp) : V -> Rt -> Prop
 | v, .leaf t => ∃ x, v = .ref x /\ dy T H x t
 | v, .nay a => ∃ x dx c, v = .ref x /\ H x = some (.ins T.bO dx [("one", c)]) /\ bA T H c a
 | v, .both a b => ∃ x dx c d, v = .ref x /\ H x = some (.ins T.bM dx [("one", c), ("other", d)]) /\ bA T H c a /\ bA T H d b
 | v, .either a b => ∃ x dx c d, v = .ref x /\ H x = some (.ins T.bN dx [("one", c), ("other", d)]) /\ bA T H c a /\ bA T H d b
theorem bA.same {T : Tx w K mg} {H H' : Hp} (s : ai H H') : ∀ {rt : Rt} {v : V}, bA T H v rt -> bA T H' v rt
 | .leaf _, _, h => let ⟨x, e, h⟩ := h; ⟨x, e, h.same s⟩
 | .nay _, _, h => let ⟨x, dx, c, e, h, a⟩ := h; ⟨x, dx, c, e, s _ _ h, bA.same s a⟩
 | .both _ _, _, h => let ⟨x, dx, c, d, e, h, a, b⟩ := h; ⟨x, dx, c, d, e, s _ _ h, bA.same s a, bA.same s b⟩
 | .either _ _, _, h => let ⟨x, dx, c, d, e, h, a, b⟩ := h; ⟨x, dx, c, d, e, s _ _ h, bA.same s a, bA.same s b⟩
theorem eh : ∀ {rt : Rt}, bJ rt -> 0 <= (aM rt).1 /\ (aM rt).1 <= 200 /\ 0 <= (aM rt).2 /\ (aM rt).2 <= 200
 | .leaf t, h => by
  obtain ⟨_, _, h1, h2⟩ := JY (t := Aq t + 1) h (Int.lt_succ _)
  exact ⟨Int.natCast_nonneg _, Int.ofNat_le.mpr h2, Int.natCast_nonneg _, Int.ofNat_le.mpr h1⟩
 | .nay a, h => let ⟨p, q, r, s⟩ := eh (rt := a) h; ⟨r, s, p, q⟩
 | .both a b, h => by
  obtain ⟨ha, hb, h1, h2⟩ := h
  obtain ⟨p1, _, p2, _⟩ := eh ha
  obtain ⟨q1, _, q2, _⟩ := eh hb
  exact ⟨Int.mul_nonneg p1 q1, by lia, Int.add_nonneg p2 q2, by lia⟩
 | .either a b, h => by
  obtain ⟨ha, hb, h1, h2⟩ := h
  obtain ⟨p1, _, p2, _⟩ := eh ha
  obtain ⟨q1, _, q2, _⟩ := eh hb
  exact ⟨Int.add_nonneg p1 q1, by lia, Int.mul_nonneg p2 q2, by lia⟩
inductive pz (T : Tx w K mg) (N : Nat) (x : V) (H : Hp) (Q : VK) : Prop
 | mk (rt : Rt) (_ : bA T H x rt) (_ : bJ rt) (_ : ay rt < N) (_ : ∀ p H', ai H H' -> H' p = some (.tup [.int (aM rt).1, .int (aM rt).2]) -> Q (.ref p) H')
inductive JZ (T : Tx w K mg) (N : Nat) (vs : List V) (H : Hp) (Q : VK) (aI : XK) : Prop
 | mk (x dx : Addr) (c : V) (a : Rt) (_ : vs = [.ref x]) (_ : H x = some (.ins T.bO dx [("one", c)])) (_ : bA T H c a) (_ : bJ a) (_ : ay a < N) (_ : ∀ p H', ai H H' -> H' p = some (.tup [.int (aM a).2, .int (aM a).1]) -> Q (.ref p) H')
theorem J0 (T : Tx w K mg) (N : Nat) (ih : ∀ {A : Around} {n : Nat}, aS n A -> N + 10 <= n -> ∀ x H Q, pz T N x H Q -> bY P w K mg base A "sizes" x H Q) : Om P w mg base (N + 10 + 1) T.iw (JZ T N) := by
 refine bL oU ?_
 rintro _ _ _ _ H _ _ _ hr ⟨x, dx, c, a, rfl, hx, hc, ga, hN, q⟩
 refine ⟨_, (au (aU 1 oU.nd (dq (fun x H Q => ih hr (Nat.le_refl _) x H Q) (aZ rfl (aa 0) rfl))) (ao (ax (aX (ae (aq (aa 1) ag) (ae (aq (aa 1) ag) af)))))), ?_⟩
 refine bg (fun σ H1 => ∃ p, σ = [some (.ref x), some (.ref p)] /\ ai H H1 /\ H1 p = some (.tup [.int (aM a).1, .int (aM a).2])) (fun N hN => ?_) ?_
 ·walk_at "gzn"
  exact ⟨_, _, _, hx, T.jz, T.mU, _, rfl, a, hc, ga, by assumption, fun p H1 s1 hp => hN _ _ ⟨p, rfl, s1, hp⟩⟩
 rintro σ H1 ⟨p, rfl, s1, hp⟩
 walk_at "gzn"
 refine aQ (aB.of hp) rfl (aQ (aB.of hp) rfl ⟨bu, fun r hr => q r _ (s1.trans (ak hr)) ah⟩)
inductive J1 (T : Tx w K mg) (N : Nat) (vs : List V) (H : Hp) (Q : VK) (aI : XK) : Prop
 | mk (x dx : Addr) (c d : V) (a b : Rt) (_ : vs = [.ref x]) (_ : H x = some (.ins T.bM dx [("one", c), ("other", d)])) (_ : bA T H c a) (_ : bA T H d b) (_ : bJ a) (_ : bJ b) (_ : ay a < N) (_ : ay b < N) (_ : ∀ p H', ai H H' -> H' p = some (.tup [.int ((aM a).1 * (aM b).1), .int ((aM a).2 + (aM b).2)]) -> Q (.ref p) H')
theorem J5 (T : Tx w K mg) (N : Nat) (ih : ∀ {A : Around} {n : Nat}, aS n A -> N + 10 <= n -> ∀ x H Q, pz T N x H Q -> bY P w K mg base A "sizes" x H Q) : Om P w mg base (N + 10 + 1) T.ik (J1 T N) := by
 refine bL me ?_
 rintro _ _ _ _ H _ _ _ hr ⟨x, dx, c, d, a, b, rfl, hx, hc, hd, ga, gb, hA, hB, q⟩
 refine ⟨_, (au (aU 1 me.nd (dq (fun x H Q => ih hr (Nat.le_refl _) x H Q) (aZ rfl (aa 0) rfl))) (au (aU 2 me.nd (dq (fun x H Q => ih hr (Nat.le_refl _) x H Q) (aZ rfl (aa 0) rfl))) (ao (ax (aX (ae (aC ji (aq (aa 1) ag) (aq (aa 2) ag)) (ae (aC br (aq (aa 1) ag) (aq (aa 2) ag)) af))))))), ?_⟩
 obtain ⟨a1, a2, a3, a4⟩ := eh ga
 obtain ⟨b1, b2, b3, b4⟩ := eh gb
 refine bg (fun σ H1 => ∃ p1, σ = [some (.ref x), some (.ref p1), none] /\ ai H H1 /\ H1 p1 = some (.tup [.int (aM a).1, .int (aM a).2])) (fun N hN => ?_) ?_
 ·walk_at "gzn"
  exact ⟨_, _, _, hx, T.gp, T.mQ, _, rfl, a, hc, ga, hA, fun p H1 s1 hp => hN _ _ ⟨p, rfl, s1, hp⟩⟩
 rintro σ H1 ⟨p1, rfl, s1, fu⟩
 refine bg (fun σ H2 => ∃ p2, σ = [some (.ref x), some (.ref p1), some (.ref p2)] /\ ai H1 H2 /\ H2 p2 = some (.tup [.int (aM b).1, .int (aM b).2])) (fun N hN => ?_) ?_
 ·walk_at "gzn"
  exact ⟨_, _, _, s1 _ _ hx, T.gp, T.mR, _, rfl, b, hd.same s1, gb, hB, fun p H2 s2 hp => hN _ _ ⟨p, rfl, s2, hp⟩⟩
 rintro σ H2 ⟨p2, rfl, s2, jD⟩
 replace fu := s2 _ _ fu
 walk_at "gzn"
 refine aV fu (aV jD ?_)
 walk_at "gzn"
 exact ⟨gF (by lia) (by lia), aQ (aB.of fu) rfl (aQ (aB.of jD) rfl ⟨bu, fun p hp => q p _ (s1.trans (s2.trans (ak hp))) ah⟩)⟩
inductive J6 (T : Tx w K mg) (N : Nat) (vs : List V) (H : Hp) (Q : VK) (aI : XK) : Prop
 | mk (x dx : Addr) (c d : V) (a b : Rt) (_ : vs = [.ref x]) (_ : H x = some (.ins T.bN dx [("one", c), ("other", d)])) (_ : bA T H c a) (_ : bA T H d b) (_ : bJ a) (_ : bJ b) (_ : ay a < N) (_ : ay b < N) (_ : ∀ p H', ai H H' -> H' p = some (.tup [.int ((aM a).1 + (aM b).1), .int ((aM a).2 * (aM b).2)]) -> Q (.ref p) H')
theorem J9 (T : Tx w K mg) (N : Nat) (ih : ∀ {A : Around} {n : Nat}, aS n A -> N + 10 <= n -> ∀ x H Q, pz T N x H Q -> bY P w K mg base A "sizes" x H Q) : Om P w mg base (N + 10 + 1) T.iq (J6 T N) := by
 refine bL mf ?_
 rintro _ _ _ _ H _ _ _ hr ⟨x, dx, c, d, a, b, rfl, hx, hc, hd, ga, gb, hA, hB, q⟩
 refine ⟨_, (au (aU 1 mf.nd (dq (fun x H Q => ih hr (Nat.le_refl _) x H Q) (aZ rfl (aa 0) rfl))) (au (aU 2 mf.nd (dq (fun x H Q => ih hr (Nat.le_refl _) x H Q) (aZ rfl (aa 0) rfl))) (ao (ax (aX (ae (aC br (aq (aa 1) ag) (aq (aa 2) ag)) (ae (aC ji (aq (aa 1) ag) (aq (aa 2) ag)) af))))))), ?_⟩
 obtain ⟨a1, a2, a3, a4⟩ := eh ga
 obtain ⟨b1, b2, b3, b4⟩ := eh gb
 refine bg (fun σ H1 => ∃ p1, σ = [some (.ref x), some (.ref p1), none] /\ ai H H1 /\ H1 p1 = some (.tup [.int (aM a).1, .int (aM a).2])) (fun N hN => ?_) ?_
 ·walk_at "gzn"
  exact ⟨_, _, _, hx, T.gq, T.mS, _, rfl, a, hc, ga, hA, fun p H1 s1 hp => hN _ _ ⟨p, rfl, s1, hp⟩⟩
 rintro σ H1 ⟨p1, rfl, s1, fu⟩
 refine bg (fun σ H2 => ∃ p2, σ = [some (.ref x), some (.ref p1), some (.ref p2)] /\ ai H1 H2 /\ H2 p2 = some (.tup [.int (aM b).1, .int (aM b).2])) (fun N hN => ?_) ?_
 ·walk_at "gzn"
  exact ⟨_, _, _, s1 _ _ hx, T.gq, T.mT, _, rfl, b, hd.same s1, gb, hB, fun p H2 s2 hp => hN _ _ ⟨p, rfl, s2, hp⟩⟩
 rintro σ H2 ⟨p2, rfl, s2, jD⟩
 replace fu := s2 _ _ fu
 walk_at "gzn"
 refine aV fu (aV jD ?_)
 walk_at "gzn"
 exact aQ (aB.of fu) rfl (aQ (aB.of jD) rfl ⟨gF (by lia) (by lia), bu, fun p hp => q p _ (s1.trans (s2.trans (ak hp))) ah⟩)
theorem Ka (T : Tx w K mg) : ∀ N : Nat, ∀ {A : Around} {n : Nat}, aS n A -> N + 10 <= n -> ∀ x H Q, pz T N x H Q -> bY P w K mg base A "sizes" x H Q := by
 intro N
 induction N with
 | zero =>
  rintro A n hr hn v H Q ⟨rt, _, _, h, _⟩
  exact absurd h (Nat.not_lt_zero _)
 | succ N ih =>
  rintro A n hr hn v H Q ⟨rt, hv, hg, hh, q⟩
  cases rt with
  | leaf t =>
   obtain ⟨x, rfl, he⟩ := hv
   exact JR T hr (by lia) _ _ _ ⟨x, t, rfl, he, hg, q⟩
  | nay a =>
   obtain ⟨x, dx, c, rfl, hx, hc⟩ := hv
   exact bY.of (hk := by lia) hx T.jz T.Iw (J0 T N ih) hr T.iw.b ⟨x, dx, c, a, rfl, hx, hc, hg, Nat.lt_of_succ_lt_succ hh, q⟩
  | both a b =>
   obtain ⟨x, dx, c, e, rfl, hx, hc, he⟩ := hv
   have hh : ay a + ay b + 1 < N + 1 := hh
   exact bY.of (hk := by lia) hx T.gp T.Iq (J5 T N ih) hr T.ik.b ⟨x, dx, c, e, a, b, rfl, hx, hc, he, hg.1, hg.2.1, by lia, by lia, q⟩
  | either a b =>
   obtain ⟨x, dx, c, e, rfl, hx, hc, he⟩ := hv
   have hh : ay a + ay b + 1 < N + 1 := hh
   exact bY.of (hk := by lia) hx T.gq T.Iu (J9 T N ih) hr T.iq.b ⟨x, dx, c, e, a, b, rfl, hx, hc, he, hg.1, hg.2.1, by lia, by lia, q⟩
end
section
seal L2.PE L2.PS L2.aR L2.PA
variable {P : Program} {w : World} {K : PySem.W.Frag} {mg : Str -> Option Value} {base : Heap}
noncomputable def cN : Tr -> List PySem.Str
 | .stay i j l h => ["stay", bb i, bb j, ck l, ck h]
 | .over i j s => ["over", bb i, bb j, bb s]
 | .under i j s => ["under", bb i, bb j, bb s]
 | .rose i j l h => ["rose", bb i, bb j, bb l, bb h]
 | .pace i j l h => ["pace", bb i, bb j, ck l, ck h]
 | .turn t => ["turn", bb t]
def u7 : Tr -> Prop
 | .stay i j l h => cS l /\ cS h
 | .over i j s => s.natAbs < 10 ^ 60
 | .under i j s => s.natAbs < 10 ^ 60
 | .rose i j l h => l.natAbs < 10 ^ 60 /\ h.natAbs < 10 ^ 60
 | .pace i j l h => cS l /\ cS h
 | .turn _ => True
noncomputable def BL : PySem.Str := " "
theorem u9 {B : Nat} : ∀ {ss : List PySem.Str}, (∀ s ∈ ss, s.length <= B) -> (ss.map fun x => x.length).sum <= ss.length * B
 | [], _ => by simp
 | s :: ss, h => by
  have h1 := h s (.head _)
  have h2 := u9 (ss := ss) fun x hx => h x (.tail _ hx)
  rw [List.map_cons, List.sum_cons, List.length_cons, Nat.succ_mul]
  lia
theorem m4 {B n : Nat} {ss : List PySem.Str} (h : ∀ s ∈ ss, s.length <= B) (hn : ss.length <= n) (hb : n * (B + 1) <= 16777216) : (ss.map fun x => x.length).sum + ss.length * BL.length <= 16777216 := by
 have h1 := u9 h
 have h2 : ss.length * (B + 1) <= n * (B + 1) := Nat.mul_le_mul_right _ hn
 have h3 : BL.length = 1 := by decide
 rw [h3]
 rw [Nat.mul_succ] at h2
 lia
theorem gv {e : En} (h : cS e) : (ck e).length <= 61 := by
 cases e with
 | none => decide
 | some n => exact cf h
inductive Kb (vs : List V) (H : Hp) (Q : VK) (aI : XK) : Prop
 | mk (p : Addr) (l h : En) (_ : vs = [.ref p]) (_ : H p = some (.tup [ev l, ev h])) (_ : cS l) (_ : cS h) (_ : ∀ m H', ai H H' -> H' m = some (.lst [.str (ck l), .str (ck h)]) -> Q (.ref m) H')
theorem As (T : Tx w K mg) : Ok P w base 2 T.mx Kb := by
 refine cE t8 ?_
 rintro _ _ _ _ _ _ _ _ hr ⟨p, l, h, rfl, hp, hl, hh, q⟩
 refine ⟨_, (ao (ax (bU (ae (aL (Ab T) hr (ae (aq (aa 0) ag) af)) (ae (aL (Ab T) hr (ae (aq (aa 0) ag) af)) af))))), ?_⟩
 walk_at "gzn"
 exact aQ (aB.of hp) rfl ⟨l, rfl, hl, aQ (aB.of hp) rfl ⟨h, rfl, hh, bu, fun m hm => q m _ (ak hm) ah⟩⟩
inductive Kc (K : PySem.W.Frag) (vs : List V) (H : Hp) (Q : VK) (aI : XK) : Prop
 | mk (x C dx m : Addr) (fs : List (Str × V)) (i j : Int) (wd : PySem.Str) (ms : List PySem.Str) (_ : vs = [.ref x, .str wd, .ref m]) (_ : H x = some (.ins C dx fs)) (_ : aW K C) (_ : ba K C "first") (_ : ba K C "last") (_ : fs.lookup ("first" : Str) = some (V.int i)) (_ : fs.lookup ("last" : Str) = some (V.int j)) (_ : H m = some (.lst (ms.map V.str))) (_ : a9 i j) (_ : wd.length <= 10) (_ : ms.length <= 2) (_ : (∀ s ∈ ms, s.length <= 61)) (_ : ∀ H', ai H H' -> Q (.str (Txt.join BL ([wd, bb i, bb j] ++ ms))) H')
theorem m5 (T : Tx w K mg) : Om P w mg base 1 T.cF (Kc K) := by
 refine bL ue ?_
 rintro _ _ _ s _ _ _ _ hr ⟨x, C, dx, m, fs, i, j, wd, ms, rfl, hx, hc, n1, n2, l1, l2, hm, hk, hw, hl, hb, q⟩
 refine ⟨_, (ao (ax (dG PySem.F.plainAttrs_str PySem.F.slot_str_join PySem.F.type_str_join lY aD (ae (aC gE (bU (ae (aa 1) (ae (d6 f6 (by rfl) T.fQ fG (ae (aZ rfl (aa 0) rfl) af)) (ae (d6 f6 (by rfl) T.fQ fG (ae (aZ rfl (aa 0) rfl) af)) af)))) (aa 2)) af)))), ?_⟩
 obtain ⟨k0, k1, k2⟩ := id hk
 have hi : i.natAbs < 10 ^ 60 := Nat.lt_of_lt_of_le (show i.natAbs < 12 by lia) (by decide)
 have hj : j.natAbs < 10 ^ 60 := Nat.lt_of_lt_of_le (show j.natAbs < 12 by lia) (by decide)
 walk_at "gzn"
 refine ⟨rfl, _, _, _, hx, hc, n1, _, l1, i, rfl, gu hi, _, _, _, hx, hc, n2, _, l2, j, rfl, gu hj, by decide, fun p hp => ⟨_, ah, _, ak hp _ _ hm, ?_, fun r hr => ?_⟩⟩
 ·rw [List.length_map]
  exact Nat.le_trans (show 3 + ms.length <= 5 by lia) (by decide)
 ·refine ⟨BL, rfl, [wd, bb i, bb j] ++ ms, ar.of (by rw [List.map_append]; exact ah), m4 (B := 61) (n := 5) (fun s hs => ?_) (by rw [List.length_append]; show 3 + ms.length <= 5; lia) (by decide), q _ ((ak hp).trans (ak hr))⟩
  simp only [List.cons_append, List.nil_append, List.mem_cons] at hs
  rcases hs with rfl | rfl | rfl | hs
  ·lia
  ·exact cf hi
  ·exact cf hj
  ·exact hb s hs
end
section
seal L2.PE L2.PS L2.aR L2.PA
variable {P : Program} {w : World} {K : PySem.W.Frag} {mg : Str -> Option Value} {base : Heap}
theorem Kd (a b : PySem.Str) : Txt.join BL [a, b] = a ++ BL ++ b := rE (by
 rw [show BL = (⟨#[32]⟩ : PySem.Str) from rfl, gi, PySem.W.KT.app_list, PySem.W.KT.app_list]
 show a.cps.toList ++ 32 :: b.cps.toList = _
 simp)
inductive Ke (T : Tx w K mg) (vs : List V) (H : Hp) (Q : VK) (aI : XK) : Prop
 | mk (x : Addr) (i j : Int) (l h : En) (_ : vs = [.ref x]) (_ : dy T H x (.stay i j l h)) (_ : a9 i j) (_ : cS l) (_ : cS h) (_ : ∀ H', ai H H' -> Q (.str (Txt.join BL (cN (.stay i j l h)))) H')
theorem Kf (T : Tx w K mg) : Om P w mg base 3 T.gU (Ke T) := by
 refine bL ui ?_
 rintro _ _ _ s _ _ _ _ hr ⟨x, i, j, l, h, rfl, ⟨dx, p, hx, hp⟩, hk, hl, hh, q⟩
 refine ⟨_, (ao (ax (eW (aa 0) T.df T.HJ (m5 T) hr.m T.cF.b .nil cR (ae aD (ae (aL (As T) hr (ae (aZ rfl (aa 0) rfl) af)) af))))), ?_⟩
 walk_at "gzn"
 exact ⟨_, _, hx, rfl, _, _, _, hx, T.df, T.kF, _, rfl, p, l, h, rfl, hp, hl, hh, fun m H1 s1 hm => ⟨x, T.bj, dx, m, _, i, j, _, [ck l, ck h], rfl, s1 _ _ hx, T.df, T.kD, T.kE, rfl, rfl, hm, hk, by decide, by show 2 <= 2; decide, fun s hs => by
  simp only [List.mem_cons, List.not_mem_nil, or_false] at hs
  rcases hs with rfl | rfl
  ·exact gv hl
  ·exact gv hh, fun H2 s2 => q _ (s1.trans s2)⟩⟩
inductive Kg (T : Tx w K mg) (vs : List V) (H : Hp) (Q : VK) (aI : XK) : Prop
 | mk (x : Addr) (i j : Int) (l h : En) (_ : vs = [.ref x]) (_ : dy T H x (.pace i j l h)) (_ : a9 i j) (_ : cS l) (_ : cS h) (_ : ∀ H', ai H H' -> Q (.str (Txt.join BL (cN (.pace i j l h)))) H')
theorem Kh (T : Tx w K mg) : Om P w mg base 3 T.ib (Kg T) := by
 refine bL uD ?_
 rintro _ _ _ s _ _ _ _ hr ⟨x, i, j, l, h, rfl, ⟨dx, p, hx, hp⟩, hk, hl, hh, q⟩
 refine ⟨_, (ao (ax (eW (aa 0) T.dw T.Ih (m5 T) hr.m T.cF.b .nil cR (ae aD (ae (aL (As T) hr (ae (aZ rfl (aa 0) rfl) af)) af))))), ?_⟩
 walk_at "gzn"
 exact ⟨_, _, hx, rfl, _, _, _, hx, T.dw, T.mP, _, rfl, p, l, h, rfl, hp, hl, hh, fun m H1 s1 hm => ⟨x, T.bc, dx, m, _, i, j, _, [ck l, ck h], rfl, s1 _ _ hx, T.dw, T.mM, T.mO, rfl, rfl, hm, hk, by decide, by show 2 <= 2; decide, fun s hs => by
  simp only [List.mem_cons, List.not_mem_nil, or_false] at hs
  rcases hs with rfl | rfl
  ·exact gv hl
  ·exact gv hh, fun H2 s2 => q _ (s1.trans s2)⟩⟩
inductive Ki (T : Tx w K mg) (vs : List V) (H : Hp) (Q : VK) (aI : XK) : Prop
 | mk (x : Addr) (i j s : Int) (_ : vs = [.ref x]) (_ : dy T H x (.over i j s)) (_ : a9 i j) (_ : s.natAbs < 10 ^ 60) (_ : ∀ H', ai H H' -> Q (.str (Txt.join BL (cN (.over i j s)))) H')
theorem Kj (T : Tx w K mg) : Om P w mg base 2 T.gZ (Ki T) := by
 refine bL uo ?_
 rintro _ _ _ s _ _ _ _ hr ⟨x, i, j, s, rfl, ⟨dx, hx⟩, hk, bs, q⟩
 refine ⟨_, (ao (ax (eW (aa 0) T.dg T.HP (m5 T) hr.m T.cF.b .nil cR (ae aD (ae (bU (ae (d6 f6 (by rfl) T.fQ fG (ae (aZ rfl (aa 0) rfl) af)) af)) af))))), ?_⟩
 walk_at "gzn"
 refine ⟨_, _, hx, rfl, _, _, _, hx, T.dg, T.kI, _, rfl, _, rfl, gu bs, by decide, fun m hm => ?_⟩
 exact ⟨x, T.bo, dx, m, _, i, j, _, [bb s], rfl, ak hm _ _ hx, T.dg, T.kG, T.kH, rfl, rfl, ah, hk, by decide, by show 1 <= 2; decide, fun s hs => by
  simp only [List.mem_cons, List.not_mem_nil, or_false] at hs
  subst hs
  exact cf bs, fun H2 s2 => q _ ((ak hm).trans s2)⟩
inductive Kk (T : Tx w K mg) (vs : List V) (H : Hp) (Q : VK) (aI : XK) : Prop
 | mk (x : Addr) (i j s : Int) (_ : vs = [.ref x]) (_ : dy T H x (.under i j s)) (_ : a9 i j) (_ : s.natAbs < 10 ^ 60) (_ : ∀ H', ai H H' -> Q (.str (Txt.join BL (cN (.under i j s)))) H')
theorem Kl (T : Tx w K mg) : Om P w mg base 2 T.hJ (Kk T) := by
 refine bL uv ?_
 rintro _ _ _ s _ _ _ _ hr ⟨x, i, j, s, rfl, ⟨dx, hx⟩, hk, bs, q⟩
 refine ⟨_, (ao (ax (eW (aa 0) T.dh T.HV (m5 T) hr.m T.cF.b .nil cR (ae aD (ae (bU (ae (d6 f6 (by rfl) T.fQ fG (ae (aZ rfl (aa 0) rfl) af)) af)) af))))), ?_⟩
 walk_at "gzn"
 refine ⟨_, _, hx, rfl, _, _, _, hx, T.dh, T.kL, _, rfl, _, rfl, gu bs, by decide, fun m hm => ?_⟩
 exact ⟨x, T.bp, dx, m, _, i, j, _, [bb s], rfl, ak hm _ _ hx, T.dh, T.kJ, T.kK, rfl, rfl, ah, hk, by decide, by show 1 <= 2; decide, fun s hs => by
  simp only [List.mem_cons, List.not_mem_nil, or_false] at hs
  subst hs
  exact cf bs, fun H2 s2 => q _ ((ak hm).trans s2)⟩
inductive Km (T : Tx w K mg) (vs : List V) (H : Hp) (Q : VK) (aI : XK) : Prop
 | mk (x : Addr) (i j l h : Int) (_ : vs = [.ref x]) (_ : dy T H x (.rose i j l h)) (_ : a9 i j) (_ : l.natAbs < 10 ^ 60) (_ : h.natAbs < 10 ^ 60) (_ : ∀ H', ai H H' -> Q (.str (Txt.join BL (cN (.rose i j l h)))) H')
theorem Kn (T : Tx w K mg) : Om P w mg base 2 T.hX (Km T) := by
 refine bL uy ?_
 rintro _ _ _ s _ _ _ _ hr ⟨x, i, j, l, h, rfl, ⟨dx, hx⟩, hk, bl, bh, q⟩
 refine ⟨_, (ao (ax (eW (aa 0) T.cv T.Ia (m5 T) hr.m T.cF.b .nil cR (ae aD (ae (bU (ae (d6 f6 (by rfl) T.fQ fG (ae (aZ rfl (aa 0) rfl) af)) (ae (d6 f6 (by rfl) T.fQ fG (ae (aZ rfl (aa 0) rfl) af)) af))) af))))), ?_⟩
 walk_at "gzn"
 refine ⟨_, _, hx, rfl, _, _, _, hx, T.cv, T.kM, _, rfl, _, rfl, gu bl, _, _, _, hx, T.cv, T.kN, _, rfl, _, rfl, gu bh, by decide, fun m hm => ?_⟩
 exact ⟨x, T.bq, dx, m, _, i, j, _, [bb l, bb h], rfl, ak hm _ _ hx, T.cv, T.jy, T.iB, rfl, rfl, ah, hk, by decide, by show 2 <= 2; decide, fun s hs => by
  simp only [List.mem_cons, List.not_mem_nil, or_false] at hs
  rcases hs with rfl | rfl
  ·exact cf bl
  ·exact cf bh, fun H2 s2 => q _ ((ak hm).trans s2)⟩
end
section
seal L2.PE L2.PS L2.aR L2.PA
variable {P : Program} {w : World} {K : PySem.W.Frag} {mg : Str -> Option Value} {base : Heap}
theorem Ko (t : PySem.Str) : ("turn " : PySem.Str) ++ t = Txt.join BL ["turn", t] := by
 rw [Kd]
 exact congrArg (· ++ t) (show ("turn " : PySem.Str) = ("turn" : PySem.Str) ++ BL by decide +kernel)
inductive Kq (T : Tx w K mg) (vs : List V) (H : Hp) (Q : VK) (aI : XK) : Prop
 | mk (x : Addr) (t : Int) (_ : vs = [.ref x]) (_ : dy T H x (.turn t)) (_ : 0 < t) (_ : t < 11) (_ : Q (.str (Txt.join BL (cN (.turn t)))) H)
theorem Kr (T : Tx w K mg) : Om P w mg base 1 T.ij (Kq T) := by
 refine bL uI ?_
 rintro _ _ _ _ _ _ _ _ _ ⟨x, t, rfl, ⟨dx, hx⟩, h1, h2, q⟩
 refine ⟨_, (ao (ax (aC wg aD (d6 f6 (by rfl) T.fQ fG (ae (aZ rfl (aa 0) rfl) af))))), ?_⟩
 have ht : t.natAbs < 10 ^ 60 := Nat.lt_of_lt_of_le (show t.natAbs < 12 by lia) (by decide)
 walk_at "gzn"
 refine ⟨_, _, _, hx, T.eM, T.kO, _, rfl, _, rfl, gu ht, _, rfl, bb t, rfl, Nat.le_trans (Nat.add_le_add (show ("turn " : PySem.Str).length <= 5 by decide) (cf ht)) (by decide), ?_⟩
 rw [Ko]
 exact q
noncomputable def az : Rt -> List PySem.Str
 | .leaf t => cN t
 | .nay a => "not" :: az a
 | .both a b => "both" :: (az a ++ az b)
 | .either a b => "either" :: (az a ++ az b)
def ej : Rt -> Prop
 | .leaf t => u7 t
 | .nay a => ej a
 | .both a b => ej a /\ ej b
 | .either a b => ej a /\ ej b
noncomputable def bW (rt : Rt) : PySem.Str := Txt.join BL (az rt)
theorem kT : ∀ rt : Rt, az rt ≠ []
 | .leaf t => by cases t <;> simp [az, cN]
 | .nay _ => by simp [az]
 | .both _ _ => by simp [az]
 | .either _ _ => by simp [az]
theorem va (c : Nat) : ∀ (as bs : List (List Nat)), as ≠ [] -> bs ≠ [] -> dM c (as ++ bs) = dM c as ++ c :: dM c bs
 | [], _, h, _ => absurd rfl h
 | [a], b :: bs, _, _ => rfl
 | [_], [], _, h => absurd rfl h
 | a :: a2 :: as, bs, _, hb => by
  show a ++ c :: dM c ((a2 :: as) ++ bs) = (a ++ c :: dM c (a2 :: as)) ++ c :: dM c bs
  rw [va c (a2 :: as) bs (by simp) hb]
  simp
theorem join_cons {w : PySem.Str} {ws : List PySem.Str} (h : ws ≠ []) : Txt.join BL (w :: ws) = w ++ BL ++ Txt.join BL ws := rE (by
 rw [show BL = (⟨#[32]⟩ : PySem.Str) from rfl, gi, PySem.W.KT.app_list, PySem.W.KT.app_list, gi]
 rw [show (w :: ws).map (fun w => w.cps.toList) = [w.cps.toList] ++ ws.map (fun w => w.cps.toList) from rfl, va 32 _ _ (by simp) (by simpa using h)]
 show w.cps.toList ++ 32 :: _ = _
 simp)
theorem Ks {as bs : List PySem.Str} (ha : as ≠ []) (hb : bs ≠ []) : Txt.join BL (as ++ bs) = Txt.join BL [Txt.join BL as, Txt.join BL bs] := rE (by
 rw [show BL = (⟨#[32]⟩ : PySem.Str) from rfl, gi, gi, List.map_append, va 32 _ _ (by simpa using ha) (by simpa using hb)]
 show _ = (Txt.join _ as).cps.toList ++ 32 :: (Txt.join _ bs).cps.toList
 rw [gi, gi])
theorem Au {w : PySem.Str} {as bs : List PySem.Str} (ha : as ≠ []) (hb : bs ≠ []) : Txt.join BL [w, Txt.join BL as, Txt.join BL bs] = Txt.join BL (w :: (as ++ bs)) := by
 rw [join_cons (by simp), <- Ks ha hb, join_cons (by simpa using fun h : as = [] => absurd h ha)]
theorem Av (c : Nat) : ∀ ws : List (List Nat), (dM c ws).length <= (ws.map fun w => w.length).sum + ws.length
 | [] => Nat.le_refl _
 | [w] => by show w.length <= w.length + 0 + 1; lia
 | w :: v :: ws => by
  have := Av c (v :: ws)
  show (w ++ c :: dM c (v :: ws)).length <= _
  rw [List.length_append, List.length_cons, List.map_cons, List.sum_cons, List.length_cons]
  lia
theorem eO {i : Int} (h0 : 0 <= i) (h1 : i <= 11) : i.natAbs < 10 ^ 60 := Nat.lt_of_lt_of_le (show i.natAbs < 12 by lia) (by decide)
theorem iF : ∀ {rt : Rt}, bJ rt -> ej rt -> ∀ s ∈ az rt, s.length <= 61
 | .leaf t, hg, hs => by
  cases t with
  | stay i j l h =>
   obtain ⟨k0, k1, k2⟩ := hg
   obtain ⟨a, b⟩ := hs
   intro s h
   simp only [az, cN, List.mem_cons, List.not_mem_nil, or_false] at h
   rcases h with rfl | rfl | rfl | rfl | rfl
   ·decide
   ·exact cf (eO k0 (by lia))
   ·exact cf (eO (by lia) k2)
   ·exact gv a
   ·exact gv b
  | pace i j l h =>
   obtain ⟨k0, k1, k2⟩ := hg
   obtain ⟨a, b⟩ := hs
   intro s h
   simp only [az, cN, List.mem_cons, List.not_mem_nil, or_false] at h
   rcases h with rfl | rfl | rfl | rfl | rfl
   ·decide
   ·exact cf (eO k0 (by lia))
   ·exact cf (eO (by lia) k2)
   ·exact gv a
   ·exact gv b
  | over i j z =>
   obtain ⟨k0, k1, k2⟩ := hg
   intro s h
   simp only [az, cN, List.mem_cons, List.not_mem_nil, or_false] at h
   rcases h with rfl | rfl | rfl | rfl
   ·decide
   ·exact cf (eO k0 (by lia))
   ·exact cf (eO (by lia) k2)
   ·exact cf hs
  | under i j z =>
   obtain ⟨k0, k1, k2⟩ := hg
   intro s h
   simp only [az, cN, List.mem_cons, List.not_mem_nil, or_false] at h
   rcases h with rfl | rfl | rfl | rfl
   ·decide
   ·exact cf (eO k0 (by lia))
   ·exact cf (eO (by lia) k2)
   ·exact cf hs
  | rose i j l z =>
   obtain ⟨⟨k0, k1, k2⟩, _⟩ := hg
   obtain ⟨a, b⟩ := hs
   intro s h
   simp only [az, cN, List.mem_cons, List.not_mem_nil, or_false] at h
   rcases h with rfl | rfl | rfl | rfl | rfl
   ·decide
   ·exact cf (eO k0 (by lia))
   ·exact cf (eO (by lia) k2)
   ·exact cf a
   ·exact cf b
  | turn t =>
   obtain ⟨k0, k1⟩ := hg
   intro s h
   simp only [az, cN, List.mem_cons, List.not_mem_nil, or_false] at h
   rcases h with rfl | rfl
   ·decide
   ·exact cf (eO (by lia) (by lia))
 | .nay a, hg, hs => fun s h => by
  rcases List.mem_cons.mp h with rfl | h
  ·decide
  ·exact iF (rt := a) hg hs s h
 | .both a b, hg, hs => fun s h => by
  rcases List.mem_cons.mp h with rfl | h
  ·decide
  ·rcases List.mem_append.mp h with h | h
   ·exact iF hg.1 hs.1 s h
   ·exact iF hg.2.1 hs.2 s h
 | .either a b, hg, hs => fun s h => by
  rcases List.mem_cons.mp h with rfl | h
  ·decide
  ·rcases List.mem_append.mp h with h | h
   ·exact iF hg.1 hs.1 s h
   ·exact iF hg.2.1 hs.2 s h
theorem text_len {rt : Rt} (hg : bJ rt) (hs : ej rt) (hn : (az rt).length <= 60) : (bW rt).length <= 3720 := by
 unfold bW
 rw [str_len, show BL = (⟨#[32]⟩ : PySem.Str) from rfl, gi]
 have h1 := Av 32 ((az rt).map fun w => w.cps.toList)
 have h2 := u9 (iF hg hs)
 rw [List.map_map, List.length_map] at h1
 have e : ((az rt).map ((fun w : List Nat => w.length) ∘ fun w : PySem.Str => w.cps.toList)) = (az rt).map fun x => x.length := List.map_congr_left fun x _ => (str_len x).symm
 rw [e] at h1
 lia
end
section
seal L2.PE L2.PS L2.aR L2.PA
variable {P : Program} {w : World} {K : PySem.W.Frag} {mg : Str -> Option Value} {base : Heap}
def en (rt : Rt) : Prop := bJ rt /\ ej rt /\ (az rt).length <= 60
inductive pA (T : Tx w K mg) (N : Nat) (x : V) (H : Hp) (Q : VK) : Prop
 | mk (rt : Rt) (_ : bA T H x rt) (_ : en rt) (_ : ay rt < N) (_ : ∀ H', ai H H' -> Q (.str (bW rt)) H')
theorem Kt (t : PySem.Str) : ("not " : PySem.Str) ++ t = ("not" : PySem.Str) ++ BL ++ t := congrArg (· ++ t) (show ("not " : PySem.Str) = ("not" : PySem.Str) ++ BL by decide +kernel)
inductive Ku (T : Tx w K mg) (N : Nat) (vs : List V) (H : Hp) (Q : VK) (aI : XK) : Prop
 | mk (x dx : Addr) (c : V) (a : Rt) (_ : vs = [.ref x]) (_ : H x = some (.ins T.bO dx [("one", c)])) (_ : bA T H c a) (_ : en a) (_ : ay a < N) (_ : ∀ H', ai H H' -> Q (.str (bW (.nay a))) H')
theorem Kv (T : Tx w K mg) (N : Nat) (ih : ∀ {A : Around} {n : Nat}, aS n A -> N + 3 <= n -> ∀ x H Q, pA T N x H Q -> bY P w K mg base A "text" x H Q) : Om P w mg base (N + 3 + 1) T.ix (Ku T N) := by
 refine bL uN ?_
 rintro _ _ _ _ _ _ _ _ hr ⟨x, dx, c, a, rfl, hx, hc, ha, hN, q⟩
 refine ⟨_, (ao (ax (aC wg aD (dq (fun x H Q => ih hr (Nat.le_refl _) x H Q) (aZ rfl (aa 0) rfl))))), ?_⟩
 walk_at "gzn"
 refine ⟨_, _, _, hx, T.jz, T.mU, _, rfl, a, hc, ha, hN, fun H1 s1 => ⟨_, rfl, _, rfl, ?_, ?_⟩⟩
 ·exact Nat.le_trans (Nat.add_le_add (show ("not " : PySem.Str).length <= 4 by decide) (text_len ha.1 ha.2.1 ha.2.2)) (by decide)
 ·rw [Kt, show bW a = Txt.join BL (az a) from rfl, <- join_cons (kT a)]
  exact q _ s1
inductive Kw (T : Tx w K mg) (N : Nat) (vs : List V) (H : Hp) (Q : VK) (aI : XK) : Prop
 | mk (x dx : Addr) (c d : V) (a b : Rt) (_ : vs = [.ref x]) (_ : H x = some (.ins T.bM dx [("one", c), ("other", d)])) (_ : bA T H c a) (_ : bA T H d b) (_ : en a) (_ : en b) (_ : ay a < N) (_ : ay b < N) (_ : ∀ H', ai H H' -> Q (.str (bW (.both a b))) H')
theorem Kx (T : Tx w K mg) (N : Nat) (ih : ∀ {A : Around} {n : Nat}, aS n A -> N + 3 <= n -> ∀ x H Q, pA T N x H Q -> bY P w K mg base A "text" x H Q) : Om P w mg base (N + 3 + 1) T.ip (Kw T N) := by
 refine bL uK ?_
 rintro _ _ _ s _ _ _ _ hr ⟨x, dx, c, d, a, b, rfl, hx, hc, hd, ha, hb, hA, hB, q⟩
 refine ⟨_, (ao (ax (dG PySem.F.plainAttrs_str PySem.F.slot_str_join PySem.F.type_str_join lY aD (ae (bU (ae aD (ae (dq (fun x H Q => ih hr (Nat.le_refl _) x H Q) (aZ rfl (aa 0) rfl)) (ae (dq (fun x H Q => ih hr (Nat.le_refl _) x H Q) (aZ rfl (aa 0) rfl)) af)))) af)))), ?_⟩
 walk_at "gzn"
 refine ⟨rfl, _, _, _, hx, T.gp, T.mQ, _, rfl, a, hc, ha, hA, fun H1 s1 => ?_⟩
 walk_at "gzn"
 refine ⟨_, _, _, s1 _ _ hx, T.gp, T.mR, _, rfl, b, hd.same s1, hb, hB, fun H2 s2 => ?_⟩
 walk_at "gzn"
 refine ⟨by decide, fun l hl => ⟨BL, rfl, ["both", bW a, bW b], ar.of ah, m4 (B := 3720) (n := 3) (fun s hs => ?_) (by show 3 <= 3; decide) (by decide), ?_⟩⟩
 ·simp only [List.mem_cons, List.not_mem_nil, or_false] at hs
  rcases hs with rfl | rfl | rfl
  ·decide
  ·exact text_len ha.1 ha.2.1 ha.2.2
  ·exact text_len hb.1 hb.2.1 hb.2.2
 ·rw [show bW a = Txt.join BL (az a) from rfl, show bW b = Txt.join BL (az b) from rfl, Au (kT a) (kT b)]
  exact q _ (s1.trans (s2.trans (ak hl)))
inductive Ky (T : Tx w K mg) (N : Nat) (vs : List V) (H : Hp) (Q : VK) (aI : XK) : Prop
 | mk (x dx : Addr) (c d : V) (a b : Rt) (_ : vs = [.ref x]) (_ : H x = some (.ins T.bN dx [("one", c), ("other", d)])) (_ : bA T H c a) (_ : bA T H d b) (_ : en a) (_ : en b) (_ : ay a < N) (_ : ay b < N) (_ : ∀ H', ai H H' -> Q (.str (bW (.either a b))) H')
theorem Kz (T : Tx w K mg) (N : Nat) (ih : ∀ {A : Around} {n : Nat}, aS n A -> N + 3 <= n -> ∀ x H Q, pA T N x H Q -> bY P w K mg base A "text" x H Q) : Om P w mg base (N + 3 + 1) T.ir (Ky T N) := by
 refine bL uL ?_
 rintro _ _ _ s _ _ _ _ hr ⟨x, dx, c, d, a, b, rfl, hx, hc, hd, ha, hb, hA, hB, q⟩
 refine ⟨_, (ao (ax (dG PySem.F.plainAttrs_str PySem.F.slot_str_join PySem.F.type_str_join lY aD (ae (bU (ae aD (ae (dq (fun x H Q => ih hr (Nat.le_refl _) x H Q) (aZ rfl (aa 0) rfl)) (ae (dq (fun x H Q => ih hr (Nat.le_refl _) x H Q) (aZ rfl (aa 0) rfl)) af)))) af)))), ?_⟩
 walk_at "gzn"
 refine ⟨rfl, _, _, _, hx, T.gq, T.mS, _, rfl, a, hc, ha, hA, fun H1 s1 => ?_⟩
 walk_at "gzn"
 refine ⟨_, _, _, s1 _ _ hx, T.gq, T.mT, _, rfl, b, hd.same s1, hb, hB, fun H2 s2 => ?_⟩
 walk_at "gzn"
 refine ⟨by decide, fun l hl => ⟨BL, rfl, ["either", bW a, bW b], ar.of ah, m4 (B := 3720) (n := 3) (fun s hs => ?_) (by show 3 <= 3; decide) (by decide), ?_⟩⟩
 ·simp only [List.mem_cons, List.not_mem_nil, or_false] at hs
  rcases hs with rfl | rfl | rfl
  ·decide
  ·exact text_len ha.1 ha.2.1 ha.2.2
  ·exact text_len hb.1 hb.2.1 hb.2.2
 ·rw [show bW a = Txt.join BL (az a) from rfl, show bW b = Txt.join BL (az b) from rfl, Au (kT a) (kT b)]
  exact q _ (s1.trans (s2.trans (ak hl)))
theorem vc (T : Tx w K mg) : ∀ N : Nat, ∀ {A : Around} {n : Nat}, aS n A -> N + 3 <= n -> ∀ x H Q, pA T N x H Q -> bY P w K mg base A "text" x H Q := by
 intro N
 induction N with
 | zero =>
  rintro A n hr hn v H Q ⟨rt, _, _, h, _⟩
  exact absurd h (Nat.not_lt_zero _)
 | succ N ih =>
  rintro A n hr hn v H Q ⟨rt, hv, ho, hh, q⟩
  obtain ⟨hg, hs, hl⟩ := id ho
  cases rt with
  | leaf t =>
   obtain ⟨x, rfl, he⟩ := hv
   cases t with
   | stay i j l h =>
    obtain ⟨dx, p, hx, hp⟩ := id he
    exact bY.of (hk := by lia) hx T.df T.HM (Kf T) hr T.gU.b ⟨x, i, j, l, h, rfl, he, hg, hs.1, hs.2, q⟩
   | over i j s =>
    obtain ⟨dx, hx⟩ := id he
    exact bY.of (hk := by lia) hx T.dg T.HS (Kj T) hr T.gZ.b ⟨x, i, j, s, rfl, he, hg, hs, q⟩
   | under i j s =>
    obtain ⟨dx, hx⟩ := id he
    exact bY.of (hk := by lia) hx T.dh T.HY (Kl T) hr T.hJ.b ⟨x, i, j, s, rfl, he, hg, hs, q⟩
   | rose i j l h =>
    obtain ⟨dx, hx⟩ := id he
    exact bY.of (hk := by lia) hx T.cv T.Ie (Kn T) hr T.hX.b ⟨x, i, j, l, h, rfl, he, hg.1, hs.1, hs.2, q⟩
   | pace i j l h =>
    obtain ⟨dx, p, hx, hp⟩ := id he
    exact bY.of (hk := by lia) hx T.dw T.Ik (Kh T) hr T.ib.b ⟨x, i, j, l, h, rfl, he, hg, hs.1, hs.2, q⟩
   | turn t =>
    obtain ⟨dx, hx⟩ := id he
    exact bY.of (hk := by lia) hx T.eM T.Ip (Kr T) hr T.ij.b ⟨x, t, rfl, he, hg.1, hg.2, q _ (ai.refl _)⟩
  | nay a =>
   obtain ⟨x, dx, c, rfl, hx, hc⟩ := hv
   have hl : (az a).length + 1 <= 60 := hl
   exact bY.of (hk := by lia) hx T.jz T.Iy (Kv T N ih) hr T.ix.b ⟨x, dx, c, a, rfl, hx, hc, ⟨hg, hs, by lia⟩, Nat.lt_of_succ_lt_succ hh, q⟩
  | both a b =>
   obtain ⟨x, dx, c, e, rfl, hx, hc, he⟩ := hv
   have hh : ay a + ay b + 1 < N + 1 := hh
   have hl : (az a ++ az b).length + 1 <= 60 := hl
   rw [List.length_append] at hl
   exact bY.of (hk := by lia) hx T.gp T.Ir (Kx T N ih) hr T.ip.b ⟨x, dx, c, e, a, b, rfl, hx, hc, he, ⟨hg.1, hs.1, by lia⟩, ⟨hg.2.1, hs.2, by lia⟩, by lia, by lia, q⟩
  | either a b =>
   obtain ⟨x, dx, c, e, rfl, hx, hc, he⟩ := hv
   have hh : ay a + ay b + 1 < N + 1 := hh
   have hl : (az a ++ az b).length + 1 <= 60 := hl
   rw [List.length_append] at hl
   exact bY.of (hk := by lia) hx T.gq T.Iv (Kz T N ih) hr T.ir.b ⟨x, dx, c, e, a, b, rfl, hx, hc, he, ⟨hg.1, hs.1, by lia⟩, ⟨hg.2.1, hs.2, by lia⟩, by lia, by lia, q⟩
end
section
seal L2.PE L2.PS L2.aR L2.PA
variable {P : Program} {w : World} {K : PySem.W.Frag} {mg : Str -> Option Value} {base : Heap}
inductive KA (C : Addr) (vs : List V) (H : Hp) (Q : VK) (aI : XK) : Prop
 | mk (x dx : Addr) (v : V) (_ : vs = [.ref x, v]) (_ : H x = some (.ins C dx [])) (_ : Q .non (upd H x (.ins C dx [("one", v)])))
theorem Aw (T : Tx w K mg) : Om P w mg base 1 T.iu (KA T.bO) := by
 refine bL uM ?_
 rintro _ _ _ _ _ _ _ _ _ ⟨x, dx, v, rfl, hx, q⟩
 refine ⟨_, (ao (eJ (aa 0) (aa 1) rfl)), ?_⟩
 walk_at "gzn"
 exact ⟨_, _, _, hx, T.jz, T.mU, (by show 0 < 1000; decide), q⟩
theorem max_le {m n : Int} (h1 : m <= 100) (h2 : n <= 100) : ¬ j3 [m, n] > 100 := fun z => by
 have := (qN (ns := [m, n]) (by simp)).1
 simp only [List.mem_cons, List.not_mem_nil, or_false] at this
 lia
inductive KC (T : Tx w K mg) (vs : List V) (H : Hp) (Q : VK) (E : XK) : Prop
 | mk (H0 : Hp) (x C dx : Addr) (c d : V) (a b rt : Rt) (_ : vs = [.ref x, c, d]) (_ : H x = some (.ins C dx [])) (_ : H0 x = none) (_ : ai H0 H) (_ : ((C = T.bM /\ rt = .both a b) ∨ (C = T.bN /\ rt = .either a b))) (_ : bA T H0 c a) (_ : bA T H0 d b) (_ : bJ rt) (_ : ay rt < 64) (_ : ∀ H', ai H0 H' -> H' x = some (.ins C dx [("one", c), ("other", d)]) -> Q .non H')
theorem pB (T : Tx w K mg) : Om P w mg base 75 T.eL (KC T) := by
 refine gN uJ ?_
 rintro _ _ _ _ H _ Q _ hr ⟨H0, x, C, dx, c, d, a, b, rt, rfl, hx, fx, s0, hC, h1, h2, hg, hh, q⟩
 refine ⟨_, (au (eJ (aa 0) (aa 1) rfl) (au (eJ (aa 0) (aa 2) rfl) (ao (aK (rz (cQ (yP rfl) (by rfl) T.zE xu (ae (dq (fun x H Q h => Ka T 64 hr (by decide) x H Q h) (aa 0)) af)) (lQ T.IB rfl)) (ao (fI fJ rfl T.HH T.uU rfl (ae aD af))) aO)))), ?_⟩
 obtain ⟨cC, n1, n2⟩ : aW K C /\ ba K C "one" /\ ba K C "other" := by
  rcases hC with ⟨rfl, _⟩ | ⟨rfl, _⟩
  ·exact ⟨T.gp, T.mQ, T.mR⟩
  ·exact ⟨T.gq, T.mS, T.mT⟩
 refine bg (fun σ H1 => σ = [some (.ref x), some c, some d] /\ ai H0 H1 /\ H1 x = some (.ins C dx [("one", c)])) (fun N hN => ?_) ?_
 ·walk_at "gzn"
  exact ⟨_, _, _, hx, cC, n1, (by show 0 < 1000; decide), hN _ _ ⟨rfl, eB fx s0, ah⟩⟩
 rintro σ H1 ⟨rfl, s1, kU⟩
 refine bg (fun σ H2 => σ = [some (.ref x), some c, some d] /\ ai H0 H2 /\ H2 x = some (.ins C dx [("one", c), ("other", d)])) (fun N hN => ?_) ?_
 ·walk_at "gzn"
  exact ⟨_, _, _, kU, cC, n2, (by show 1 < 1000; decide), hN _ _ ⟨rfl, eB fx s1, ah⟩⟩
 rintro σ H2 ⟨rfl, s2, eN⟩
 have hv : bA T H2 (.ref x) rt := by
  rcases hC with ⟨rfl, rfl⟩ | ⟨rfl, rfl⟩ <;> exact ⟨x, dx, c, d, rfl, eN, h1.same s2, h2.same s2⟩
 have hz : (aM rt).1 <= 100 /\ (aM rt).2 <= 100 := by
  rcases hC with ⟨_, rfl⟩ | ⟨_, rfl⟩ <;> exact hg.2.2
 walk_at "gzn"
 refine ⟨rt, hv, hg, hh, fun p H3 s3 hp => ?_⟩
 walk_at "gzn"
 refine ⟨[_, _], aB.of hp, by simp, ?_⟩
 rw [if_neg (max_le hz.1 hz.2)]
 exact q _ (s2.trans s3) (s3 _ _ eN)
inductive KG (T : Tx w K mg) (vs : List V) (H : Hp) (Q : VK) (aI : XK) : Prop
 | mk (v : V) (rt : Rt) (_ : vs = [v]) (_ : bA T H v rt) (_ : en rt) (_ : ay rt < 64) (_ : ∀ H', ai H H' -> Q (.str (bW rt)) H')
theorem vd (T : Tx w K mg) : Ok P w base 68 T.mD (KG T) := by
 refine cE uR ?_
 rintro _ _ _ _ H _ Q _ hr ⟨v, rt, rfl, hv, ho, hh, q⟩
 refine ⟨_, (ao (ax (dq (fun x H Q h => vc T 64 hr (by decide) x H Q h) (aa 0)))), ?_⟩
 walk_at "gzn"
 exact ⟨rt, hv, ho, hh, q⟩
end
section
seal L2.PE L2.PS L2.aR L2.PA
variable {P : Program} {w : World} {K : PySem.W.Frag} {mg : Str -> Option Value} {base : Heap}
def bE (H : Hp) : V -> Rt -> Prop
 | v, .leaf t => ∃ p, v = .ref p /\ H p = some (.tup (u4 t))
 | v, .nay a => ∃ p x, v = .ref p /\ H p = some (.tup [.str "not", x]) /\ bE H x a
 | v, .both a b => ∃ p x y, v = .ref p /\ H p = some (.tup [.str "both", x, y]) /\ bE H x a /\ bE H y b
 | v, .either a b => ∃ p x y, v = .ref p /\ H p = some (.tup [.str "either", x, y]) /\ bE H x a /\ bE H y b
theorem bE.same {H H' : Hp} (s : ai H H') : ∀ {rt : Rt} {v : V}, bE H v rt -> bE H' v rt
 | .leaf _, _, h => let ⟨x, e, h⟩ := h; ⟨x, e, s _ _ h⟩
 | .nay _, _, h => let ⟨x, c, e, h, a⟩ := h; ⟨x, c, e, s _ _ h, bE.same s a⟩
 | .both _ _, _, h => let ⟨x, c, d, e, h, a, b⟩ := h; ⟨x, c, d, e, s _ _ h, bE.same s a, bE.same s b⟩
 | .either _ _, _, h => let ⟨x, c, d, e, h, a, b⟩ := h; ⟨x, c, d, e, s _ _ h, bE.same s a, bE.same s b⟩
noncomputable def cm : Tr -> PySem.Str
 | .stay _ _ _ _ => "stay" | .over _ _ _ => "over" | .under _ _ _ => "under" | .rose _ _ _ _ => "rose" | .pace _ _ _ _ => "pace" | .turn _ => "turn"
noncomputable def bw : Tr -> List En
 | .stay i j l h => [some i, some j, l, h] | .over i j s => [some i, some j, some s] | .under i j s => [some i, some j, some s] | .rose i j l h => [some i, some j, some l, some h] | .pace i j l h => [some i, some j, l, h] | .turn t => [some t]
theorem KH (t : Tr) : u4 t = .str (cm t) :: (bw t).map ev := by cases t <;> rfl
theorem m6 (t : Tr) : cN t = cm t :: (bw t).map ck := by cases t <;> rfl
theorem Ax (t : Tr) : cm t ≠ "both" /\ cm t ≠ "either" /\ cm t ≠ "not" := by cases t <;> (simp only [cm]; decide)
theorem pC {x : V} {xs : List V} : cK (x :: xs) 0 = some x := iW (j := 0) rfl
theorem Ay {t : Tr} (hg : dY t) (hs : u7 t) : ∀ o ∈ bw t, cS o := by
 have ts : ∀ {i : Int}, 0 <= i -> i <= 11 -> cS (some i) := fun h0 h1 => eO h0 h1
 intro o ho
 cases t with
 | stay i j l h =>
  obtain ⟨k0, k1, k2⟩ := hg
  simp only [bw, List.mem_cons, List.not_mem_nil, or_false] at ho
  rcases ho with rfl | rfl | rfl | rfl
  ·exact ts k0 (by lia)
  ·exact ts (by lia) k2
  ·exact hs.1
  ·exact hs.2
 | pace i j l h =>
  obtain ⟨k0, k1, k2⟩ := hg
  simp only [bw, List.mem_cons, List.not_mem_nil, or_false] at ho
  rcases ho with rfl | rfl | rfl | rfl
  ·exact ts k0 (by lia)
  ·exact ts (by lia) k2
  ·exact hs.1
  ·exact hs.2
 | rose i j l h =>
  obtain ⟨⟨k0, k1, k2⟩, _⟩ := hg
  simp only [bw, List.mem_cons, List.not_mem_nil, or_false] at ho
  rcases ho with rfl | rfl | rfl | rfl
  ·exact ts k0 (by lia)
  ·exact ts (by lia) k2
  ·exact hs.1
  ·exact hs.2
 | over i j s =>
  obtain ⟨k0, k1, k2⟩ := hg
  simp only [bw, List.mem_cons, List.not_mem_nil, or_false] at ho
  rcases ho with rfl | rfl | rfl
  ·exact ts k0 (by lia)
  ·exact ts (by lia) k2
  ·exact hs
 | under i j s =>
  obtain ⟨k0, k1, k2⟩ := hg
  simp only [bw, List.mem_cons, List.not_mem_nil, or_false] at ho
  rcases ho with rfl | rfl | rfl
  ·exact ts k0 (by lia)
  ·exact ts (by lia) k2
  ·exact hs
 | turn t =>
  obtain ⟨k0, k1⟩ := hg
  simp only [bw, List.mem_cons, List.not_mem_nil, or_false] at ho
  subst ho
  exact ts (by lia) (by lia)
def iG : Rt -> Prop
 | .leaf t => dY t
 | .nay a => iG a
 | .both a b => iG a /\ iG b
 | .either a b => iG a /\ iG b
theorem fR : ∀ {rt : Rt}, bJ rt -> iG rt
 | .leaf _, h => h
 | .nay a, h => fR (rt := a) h
 | .both _ _, h => ⟨fR h.1, fR h.2.1⟩
 | .either _ _, h => ⟨fR h.1, fR h.2.1⟩
inductive KI (H : Hp) (p l r : Addr) (t : Tr) (i : Nat) (σ : St) (H1 : Hp) : Prop
 | mk (e : Option V) (_ : σ = [some (.ref p), some (.ref l), e]) (_ : ai H H1) (_ : H1 r = some (.tup ((bw t).map ev))) (_ : H1 l = some (.lst ((cm t :: ((bw t).take i).map ck).map V.str)))
inductive ve (N : Nat) (vs : List V) (H : Hp) (Q : VK) (aI : XK) : Prop
 | mk (v : V) (rt : Rt) (_ : vs = [v]) (_ : bE H v rt) (_ : iG rt) (_ : ej rt) (_ : ay rt < N) (_ : (az rt).length <= 400) (_ : ∀ l H', ai H H' -> H' l = some (.lst ((az rt).map V.str)) -> Q (.ref l) H')
theorem KJ (T : Tx w K mg) (N : Nat) (ih : Ok P w base (N + 3) T.jw (ve N)) : Ok P w base (N + 1 + 3) T.jw (ve (N + 1)) := by
 refine cE kq ?_
 rintro _ _ _ _ H _ _ _ hr ⟨v, rt, rfl, hv, hg, hs, hh, hl, q⟩
 refine ⟨_, (au (aK (PW.pt (eR (aY (aq (aa 0) ag) aD) (fX (aY (aq (aa 0) ag) aD)))) (ao (ax (aC gE (aC gE (bU (ae (aq (aa 0) ag) af)) (aL (hk := by lia) ih hr (ae (aq (aa 0) ag) af))) (aL (hk := by lia) ih hr (ae (aq (aa 0) ag) af))))) aO) (au (aK (aY (aq (aa 0) ag) aD) (ao (ax (aC gE (bU (ae aD af)) (aL (hk := by lia) ih hr (ae (aq (aa 0) ag) af))))) aO) (au (aU 1 kq.nd (bU (ae (aq (aa 0) ag) af))) (au (jP PassesOwn.never rfl (CC (qm Dv (aa 0) (ql ag) qk)) (jl 2 kq.nd) (ao (aK (oI (aa 2)) (ao (eA (dG PySem.F.plainAttrs_list PySem.F.slot_list_append PySem.F.type_list_append lA (aa 1) (ae aD af)))) (ao (eA (dG PySem.F.plainAttrs_list PySem.F.slot_list_append PySem.F.type_list_append lA (aa 1) (ae (d6 f6 (by rfl) T.fQ fG (ae (aa 2) af)) af))))))) (ao (ax (aa 1))))))), ?_⟩
 have m7 : ∀ (m n : Nat), m <= 401 -> n <= 400 -> m + n <= sizeLine := fun m n h1 h2 => Nat.le_trans (show m + n <= 801 by lia) (by decide)
 cases rt with
 | leaf t =>
  obtain ⟨p, rfl, hp⟩ := hv
  rw [KH] at hp
  obtain ⟨e1, e2, e3⟩ := Ax t
  refine bg (fun σ H1 => σ = [some (.ref p), none, none] /\ H = H1) (fun N hN => ?_) ?_
  ·walk_at "gzn"
   refine aQ (aB.of hp) (v := .str (cm t)) pC ?_
   walk_at "gzn"
   rw [if_neg (by simpa using e1)]
   refine aQ (aB.of hp) (v := .str (cm t)) pC ?_
   walk_at "gzn"
   rw [if_neg (by simpa using e2)]
   exact hN _ _ ⟨rfl, rfl⟩
  rintro σ H1 ⟨rfl, rfl⟩
  refine bg (fun σ H1 => σ = [some (.ref p), none, none] /\ H = H1) (fun N hN => ?_) ?_
  ·walk_at "gzn"
   refine aQ (aB.of hp) (v := .str (cm t)) pC ?_
   walk_at "gzn"
   rw [if_neg (by simpa using e3)]
   exact hN _ _ ⟨rfl, rfl⟩
  rintro σ H1 ⟨rfl, rfl⟩
  refine bg (fun σ H1 => ∃ l, σ = [some (.ref p), some (.ref l), none] /\ ai H H1 /\ H l = none /\ H1 l = some (.lst [.str (cm t)])) (fun N hN => ?_) ?_
  ·walk_at "gzn"
   exact aQ (aB.of hp) (v := .str (cm t)) pC ⟨by decide, fun l fl => hN _ _ ⟨l, rfl, ak fl, fl, ah⟩⟩
  rintro σ H1 ⟨l, rfl, s1, kQ, KL⟩
  have fu := s1 _ _ hp
  walk_at "gzn"
  refine ⟨p, _, rfl, aB.of fu, ?_, fun r hr => ?_⟩
  ·intro z
   have z := z.1
   simp [HT.aJ] at z
  ·have e1 : eY (V.str (cm t) :: (bw t).map ev) (some 1) none = (bw t).map ev := FC _ 1
   rw [e1]
   have u2 := s1.trans (ak (o := .tup ((bw t).map ev)) hr)
   refine ⟨r, rfl, ⟨_, aB.of ah⟩, Ew (xs := (bw t).map ev) (KI H p l r t) ⟨none, rfl, u2, ah, ak hr _ _ KL⟩ (fun i σ H2 _ ⟨_, _, _, h, _⟩ => aB.of h) ?_ ?_⟩
   ·rintro i x σ H2 hx ⟨e, rfl, s2, ft, bD⟩
    rw [List.getElem?_map] at hx
    obtain ⟨o, ho, rfl⟩ := Option.map_eq_some_iff.mp hx
    have ei : (bw t).take (i + 1) = (bw t).take i ++ [o] := by rw [List.take_succ, ho]; rfl
    have so := Ay hg hs o (List.mem_of_getElem? ho)
    have al : (bw t).length <= 4 := by cases t <;> simp [bw]
    have ll : ((cm t :: ((bw t).take i).map ck).map V.str).length < sizeLine := by
     rw [List.length_map, List.length_cons, List.length_map, List.length_take]
     exact Nat.lt_of_lt_of_le (show min i (bw t).length + 1 < 6 by lia) (by decide)
    cases o with
    | none =>
     walk_at "gzn"
     refine ⟨.inl ⟨rfl, _, ar.of bD⟩, _, bD, ll, _, rfl, eB kQ s2, ?_, ?_⟩
     ·rw [aG (fun z => by rw [z, bD] at ft; cases ft)]
      exact ft
     ·rw [ah, ei, List.map_append, <- List.cons_append, List.map_append]
      rfl
    | some n =>
     walk_at "gzn"
     refine ⟨.inl ⟨rfl, _, ar.of bD⟩, gu so, _, bD, ll, _, rfl, eB kQ s2, ?_, ?_⟩
     ·rw [aG (fun z => by rw [z, bD] at ft; cases ft)]
      exact ft
     ·rw [ah, ei, List.map_append, <- List.cons_append, List.map_append]
      rfl
   ·rintro σ H2 ⟨e, rfl, s2, ft, bD⟩
    rw [List.length_map, List.take_length, <- m6] at bD
    walk_at "gzn"
    exact q l H2 s2 bD
 | nay a =>
  obtain ⟨p, x, rfl, hp, hx⟩ := hv
  have hl : (az a).length + 1 <= 400 := hl
  have hh : ay a + 1 < N + 1 := hh
  walk_at "gzn"
  refine aQ (aB.of hp) (v := .str "not") rfl ?_
  walk_at "gzn"
  refine aQ (aB.of hp) (v := .str "not") rfl ?_
  walk_at "gzn"
  refine aQ (aB.of hp) (v := .str "not") rfl ?_
  walk_at "gzn"
  refine ⟨by decide, fun l1 f1 => ?_⟩
  have u1 := ak (o := .lst [.str "not"]) f1
  refine aQ (aB.of (u1 _ _ hp)) (v := x) rfl ⟨x, a, rfl, hx.same u1, hg, hs, by lia, by lia, fun l2 H2 s2 h2 => ?_⟩
  walk_at "gzn"
  refine ⟨_, s2 _ _ ah, _, h2, m7 _ _ (by decide) (by rw [List.length_map]; lia), fun l3 f3 => ?_⟩
  exact q l3 _ (u1.trans (s2.trans (ak f3))) (by rw [ah]; rfl)
 | both a b =>
  obtain ⟨p, x, y, rfl, hp, hx, hy⟩ := hv
  have hl : (az a ++ az b).length + 1 <= 400 := hl
  have hh : ay a + ay b + 1 < N + 1 := hh
  rw [List.length_append] at hl
  walk_at "gzn"
  refine aQ (aB.of hp) (v := .str "both") rfl ?_
  walk_at "gzn"
  refine aQ (aB.of hp) (v := .str "both") rfl ⟨by decide, fun l1 f1 => ?_⟩
  have u1 := ak (o := .lst [.str "both"]) f1
  refine aQ (aB.of (u1 _ _ hp)) (v := x) rfl ⟨x, a, rfl, hx.same u1, hg.1, hs.1, by lia, by lia, fun l2 H2 s2 h2 => ?_⟩
  walk_at "gzn"
  refine ⟨_, s2 _ _ ah, _, h2, m7 _ _ (by decide) (by rw [List.length_map]; lia), fun l3 f3 => ?_⟩
  have u3 := ak (o := .lst ([.str "both"] ++ (az a).map V.str)) f3
  have s3 := u1.trans (s2.trans u3)
  refine aQ (aB.of (s3 _ _ hp)) (v := y) rfl ⟨y, b, rfl, hy.same s3, hg.2, hs.2, by lia, by lia, fun l4 H4 s4 h4 => ?_⟩
  walk_at "gzn"
  refine ⟨_, s4 _ _ ah, _, h4, m7 _ _ (by rw [List.length_append, List.length_map]; show 1 + _ <= 401; lia) (by rw [List.length_map]; lia), fun l5 f5 => ?_⟩
  exact q l5 _ (s3.trans (s4.trans (ak f5))) (by rw [ah, List.append_assoc, <- List.map_append]; rfl)
 | either a b =>
  obtain ⟨p, x, y, rfl, hp, hx, hy⟩ := hv
  have hl : (az a ++ az b).length + 1 <= 400 := hl
  have hh : ay a + ay b + 1 < N + 1 := hh
  rw [List.length_append] at hl
  walk_at "gzn"
  refine aQ (aB.of hp) (v := .str "either") rfl ?_
  walk_at "gzn"
  refine aQ (aB.of hp) (v := .str "either") rfl ?_
  walk_at "gzn"
  refine aQ (aB.of hp) (v := .str "either") rfl ⟨by decide, fun l1 f1 => ?_⟩
  have u1 := ak (o := .lst [.str "either"]) f1
  refine aQ (aB.of (u1 _ _ hp)) (v := x) rfl ⟨x, a, rfl, hx.same u1, hg.1, hs.1, by lia, by lia, fun l2 H2 s2 h2 => ?_⟩
  walk_at "gzn"
  refine ⟨_, s2 _ _ ah, _, h2, m7 _ _ (by decide) (by rw [List.length_map]; lia), fun l3 f3 => ?_⟩
  have u3 := ak (o := .lst ([.str "either"] ++ (az a).map V.str)) f3
  have s3 := u1.trans (s2.trans u3)
  refine aQ (aB.of (s3 _ _ hp)) (v := y) rfl ⟨y, b, rfl, hy.same s3, hg.2, hs.2, by lia, by lia, fun l4 H4 s4 h4 => ?_⟩
  walk_at "gzn"
  refine ⟨_, s4 _ _ ah, _, h4, m7 _ _ (by rw [List.length_append, List.length_map]; show 1 + _ <= 401; lia) (by rw [List.length_map]; lia), fun l5 f5 => ?_⟩
  exact q l5 _ (s3.trans (s4.trans (ak f5))) (by rw [ah, List.append_assoc, <- List.map_append]; rfl)
theorem m8 (T : Tx w K mg) : ∀ N : Nat, Ok P w base (N + 3) T.jw (ve N)
 | 0 => by
  refine cE (k := 2) kq ?_
  rintro _ _ _ _ _ _ _ _ _ ⟨_, _, rfl, _, _, _, h, _⟩
  exact absurd h (Nat.not_lt_zero _)
 | N + 1 => KJ T N (m8 T N)
end
section
seal L2.PE L2.PS L2.aR L2.PA
variable {P : Program} {w : World} {K : PySem.W.Frag} {mg : Str -> Option Value} {base : Heap}
theorem KN {f : PySem.Str} {e : En} (h : cS e) (hf : f = "E" ∨ (f = "N" /\ e ≠ none)) : mW f (ck e) = true := by
 have num : ∀ n : Int, n.natAbs < 10 ^ 60 -> jq (ck (some n)) = true := fun n h => Hi h
 rcases hf with rfl | ⟨rfl, hn⟩
 ·unfold mW
  rw [if_neg (by decide)]
  cases e with
  | none => rfl
  | some n =>
   unfold ph
   rw [num n h, Bool.or_true, Bool.or_true]
 ·unfold mW
  rw [if_pos rfl]
  cases e with
  | none => exact absurd rfl hn
  | some n => exact num n h
inductive KO (K : PySem.W.Frag) (vs : List V) (H : Hp) (Q : VK) (aI : XK) : Prop
 | mk (wl : Addr) (ws : List PySem.Str) (k : Nat) (f : PySem.Str) (e : En) (_ : vs = [.ref wl, .int k, .str f]) (_ : ar K H wl (ws.map V.str)) (_ : ws[k]? = some (ck e)) (_ : cS e) (_ : (f = "E" ∨ (f = "N" /\ e ≠ none))) (_ : ∀ H', ai H H' -> Q (ev e) H')
theorem KP (T : Tx w K mg) : Ok P w base 5 T.iy (KO K) := by
 refine fM uO ?_
 rintro _ _ _ _ _ _ _ _ hr ⟨wl, ws, k, f, e, rfl, hw, hk, he, hf, q⟩
 refine ⟨_, (au (aK (rA (aa 1) (cQ dP (by rfl) T.dX dS (ae (aa 0) af))) (ao (fI fJ rfl T.mK T.jA rfl (ae aD af))) aO) (au (aK (iL (jk (aL (IM T) hr (ae (aa 2) (ae (aq (aa 0) (aa 1)) af))))) (ao (fI fJ rfl T.mK T.jA rfl (ae aD af))) aO) (ao (ax (aL (IS T) hr (ae (aq (aa 0) (aa 1)) af)))))), ?_⟩
 have kl := (List.getElem?_eq_some_iff.mp hk).1
 have el : (ck e).length <= 100000 := Nat.le_trans (gv he) (by decide)
 have jE : cK (ws.map V.str) (k : Int) = some (.str (ck e)) := iW (by rw [List.getElem?_map, hk]; rfl)
 walk_at "gzn"
 refine ⟨_, d7 hw, ?_⟩
 rw [if_neg (by rw [List.length_map]; lia)]
 refine cc hw jE ⟨f, ck e, rfl, el, fun H1 s1 => ?_⟩
 walk_at "gzn"
 rw [if_neg (by rw [KN he hf]; decide)]
 refine cc (s1.seq hw) jE ⟨e, rfl, he, q _ s1⟩
inductive KQ (vs : List V) (H : Hp) (Q : VK) (aI : XK) : Prop
 | mk (l h : En) (_ : vs = [ev l, ev h]) (_ : gh l h = false) (_ : ∀ p H', ai H H' -> H' p = some (.tup [ev l, ev h]) -> Q (.ref p) H')
theorem Az (T : Tx w K mg) : Ok P w base 2 T.fq KQ := by
 refine fM uP ?_
 rintro _ _ _ _ _ _ _ _ hr ⟨l, h, rfl, hc, q⟩
 refine ⟨_, (au (aK (jk (aL (IE T) hr (ae (aa 0) (ae (aa 1) af)))) (ao (fI fJ rfl T.oZ T.kP rfl (ae aD af))) aO) (ao (ax (aX (ae (aa 0) (ae (aa 1) af)))))), ?_⟩
 walk_at "gzn"
 refine ⟨l, h, rfl, ?_⟩
 walk_at "gzn"
 rw [hc, if_neg (by decide)]
 exact ⟨bu, fun p hp => q p _ (ak hp) ah⟩
end
section
seal L2.PE L2.PS L2.aR L2.PA
variable {P : Program} {w : World} {K : PySem.W.Frag} {mg : Str -> Option Value} {base : Heap}
def dA (H : Hp) : V -> Rt -> Prop
 | v, .leaf t => ∃ p l, v = .ref p /\ H p = some (.tup [.str (cm t), .ref l]) /\ H l = some (.lst ((bw t).map ev))
 | v, .nay a => ∃ p l x, v = .ref p /\ H p = some (.tup [.str "not", .ref l]) /\ H l = some (.lst [x]) /\ dA H x a
 | v, .both a b => ∃ p l x y, v = .ref p /\ H p = some (.tup [.str "both", .ref l]) /\ H l = some (.lst [x, y]) /\ dA H x a /\ dA H y b
 | v, .either a b => ∃ p l x y, v = .ref p /\ H p = some (.tup [.str "either", .ref l]) /\ H l = some (.lst [x, y]) /\ dA H x a /\ dA H y b
theorem dA.same {H H' : Hp} (s : ai H H') : ∀ {rt : Rt} {v : V}, dA H v rt -> dA H' v rt
 | .leaf _, _, h => let ⟨x, l, e, h, g⟩ := h; ⟨x, l, e, s _ _ h, s _ _ g⟩
 | .nay _, _, h => let ⟨x, l, c, e, h, g, a⟩ := h; ⟨x, l, c, e, s _ _ h, s _ _ g, dA.same s a⟩
 | .both _ _, _, h => let ⟨x, l, c, d, e, h, g, a, b⟩ := h; ⟨x, l, c, d, e, s _ _ h, s _ _ g, dA.same s a, dA.same s b⟩
 | .either _ _, _, h => let ⟨x, l, c, d, e, h, g, a, b⟩ := h; ⟨x, l, c, d, e, s _ _ h, s _ _ g, dA.same s a, dA.same s b⟩
def cn (G H : Hp) : V -> Rt -> Prop
 | v, .leaf t => ∃ p l, v = .ref p /\ G l = none /\ H p = some (.tup [.str (cm t), .ref l]) /\ H l = some (.lst ((bw t).map ev))
 | v, .nay a => ∃ p l x, v = .ref p /\ G l = none /\ H p = some (.tup [.str "not", .ref l]) /\ H l = some (.lst [x]) /\ cn G H x a
 | v, .both a b => ∃ p l x y, v = .ref p /\ G l = none /\ H p = some (.tup [.str "both", .ref l]) /\ H l = some (.lst [x, y]) /\ cn G H x a /\ cn G H y b
 | v, .either a b => ∃ p l x y, v = .ref p /\ G l = none /\ H p = some (.tup [.str "either", .ref l]) /\ H l = some (.lst [x, y]) /\ cn G H x a /\ cn G H y b
theorem cn.is {G H : Hp} : ∀ {rt : Rt} {v : V}, cn G H v rt -> dA H v rt
 | .leaf _, _, h => let ⟨x, l, e, _, h, g⟩ := h; ⟨x, l, e, h, g⟩
 | .nay _, _, h => let ⟨x, l, c, e, _, h, g, a⟩ := h; ⟨x, l, c, e, h, g, cn.is a⟩
 | .both _ _, _, h => let ⟨x, l, c, d, e, _, h, g, a, b⟩ := h; ⟨x, l, c, d, e, h, g, cn.is a, cn.is b⟩
 | .either _ _, _, h => let ⟨x, l, c, d, e, _, h, g, a, b⟩ := h; ⟨x, l, c, d, e, h, g, cn.is a, cn.is b⟩
theorem cn.step {G G' H H' : Hp} (f : ∀ b, G b = none -> G' b = none) (k : ∀ b o, G b = none -> H b = some o -> H' b = some o) (t : ∀ p xs, H p = some (.tup xs) -> H' p = some (.tup xs)) : ∀ {rt : Rt} {v : V}, cn G H v rt -> cn G' H' v rt
 | .leaf _, _, h => let ⟨x, l, e, z, h, g⟩ := h; ⟨x, l, e, f _ z, t _ _ h, k _ _ z g⟩
 | .nay _, _, h => let ⟨x, l, c, e, z, h, g, a⟩ := h; ⟨x, l, c, e, f _ z, t _ _ h, k _ _ z g, cn.step f k t a⟩
 | .both _ _, _, h => let ⟨x, l, c, d, e, z, h, g, a, b⟩ := h; ⟨x, l, c, d, e, f _ z, t _ _ h, k _ _ z g, cn.step f k t a, cn.step f k t b⟩
 | .either _ _, _, h => let ⟨x, l, c, d, e, z, h, g, a, b⟩ := h; ⟨x, l, c, d, e, f _ z, t _ _ h, k _ _ z g, cn.step f k t a, cn.step f k t b⟩
noncomputable def cz : Rt -> List Rt
 | .leaf _ => [] | .nay a => [a] | .both a b => [a, b] | .either a b => [a, b]
noncomputable def eo : Rt -> PySem.Str
 | .leaf t => cm t | .nay _ => "not" | .both _ _ => "both" | .either _ _ => "either"
noncomputable def kW : Tr -> PySem.Str
 | .stay _ _ _ _ => "NNEE" | .over _ _ _ => "NNN" | .under _ _ _ => "NNN" | .rose _ _ _ _ => "NNNN" | .pace _ _ _ _ => "NNEE" | .turn _ => "N"
noncomputable def m9 : Rt -> PySem.Str
 | .leaf t => kW t | .nay _ => "R" | .both _ _ => "RR" | .either _ _ => "RR"
theorem AA (rt : Rt) : cD FORMS (.inr (eo rt)) = some (.str (m9 rt)) := by
 cases rt with
 | leaf t => cases t <;> rfl
 | _ => rfl
theorem KR (t : Tr) {i : Nat} {v : V} (h : (bZ (kW t))[i]? = some v) : ∃ f e, v = .str f /\ f ≠ "R" /\ (bw t)[i]? = some e /\ (f = "E" ∨ (f = "N" /\ e ≠ none)) := by
 have e4 : bZ "NNEE" = [.str "N", .str "N", .str "E", .str "E"] := rfl
 have e3 : bZ "NNN" = [.str "N", .str "N", .str "N"] := rfl
 have e5 : bZ "NNNN" = [.str "N", .str "N", .str "N", .str "N"] := rfl
 have e1 : bZ "N" = [.str "N"] := rfl
 have n1 : ("N" : PySem.Str) ≠ "R" := by decide
 have n2 : ("E" : PySem.Str) ≠ "R" := by decide
 cases t <;> simp only [kW, e4, e3, e5, e1] at h <;> (
  rcases i with _ | _ | _ | _ | i <;> simp only [List.getElem?_cons_zero, List.getElem?_cons_succ, List.getElem?_nil, reduceCtorEq, Option.some.injEq] at h <;> (first | (subst h; refine ⟨_, _, rfl, ?_, rfl, ?_⟩ <;> first | exact n1 | exact n2 | exact .inl rfl | exact .inr ⟨rfl, fun z => nomatch z⟩)))
theorem KS (rt : Rt) (hk : ∀ t, rt ≠ .leaf t) : bZ (m9 rt) = (cz rt).map fun _ => V.str "R" := by
 cases rt with
 | leaf t => exact absurd rfl (hk t)
 | _ => rfl
theorem AB (t : Tr) : (bZ (kW t)).length = (bw t).length := by cases t <;> rfl
theorem KU (rt : Rt) (hk : ∀ t, rt ≠ .leaf t) : az rt = eo rt :: (cz rt).flatMap az := by
 cases rt with
 | leaf t => exact absurd rfl (hk t)
 | nay a => simp [az, eo, cz]
 | both a b => simp [az, eo, cz]
 | either a b => simp [az, eo, cz]
theorem KW (rt : Rt) : ∃ r, az rt = eo rt :: r := by
 cases rt with
 | leaf t => exact ⟨_, m6 t⟩
 | nay a => exact ⟨_, rfl⟩
 | both a b => exact ⟨_, rfl⟩
 | either a b => exact ⟨_, rfl⟩
theorem KY {rt c : Rt} {N : Nat} (hc : c ∈ cz rt) (hg : bJ rt) (hs : ej rt) (hh : ay rt < N + 1) : bJ c /\ ej c /\ ay c < N := by
 cases rt with
 | leaf t => exact absurd hc List.not_mem_nil
 | nay a =>
  obtain rfl := List.mem_singleton.mp hc
  have hh : ay c + 1 < N + 1 := hh
  exact ⟨hg, hs, by lia⟩
 | both a b =>
  have hh : ay a + ay b + 1 < N + 1 := hh
  simp only [cz, List.mem_cons, List.not_mem_nil, or_false] at hc
  rcases hc with rfl | rfl
  ·exact ⟨hg.1, hs.1, by lia⟩
  ·exact ⟨hg.2.1, hs.2, by lia⟩
 | either a b =>
  have hh : ay a + ay b + 1 < N + 1 := hh
  simp only [cz, List.mem_cons, List.not_mem_nil, or_false] at hc
  rcases hc with rfl | rfl
  ·exact ⟨hg.1, hs.1, by lia⟩
  ·exact ⟨hg.2.1, hs.2, by lia⟩
theorem KZ {G H : Hp} {p l : Addr} {xs : List V} {rt : Rt} (hL : ∀ t, rt ≠ .leaf t) (gl : G l = none) (hp : H p = some (.tup [.str (eo rt), .ref l])) (hl : H l = some (.lst xs)) (hA : aA (cn G H) xs (cz rt)) : cn G H (.ref p) rt := by
 cases rt with
 | leaf t => exact absurd rfl (hL t)
 | nay a =>
  match xs, hA with
  | [x], hA => exact ⟨p, l, x, rfl, gl, hp, hl, hA.1⟩
 | both a b =>
  match xs, hA with
  | [x, y], hA => exact ⟨p, l, x, y, rfl, gl, hp, hl, hA.1, hA.2.1⟩
 | either a b =>
  match xs, hA with
  | [x, y], hA => exact ⟨p, l, x, y, rfl, gl, hp, hl, hA.1, hA.2.1⟩
theorem K0 {rs : List Rt} {i : Nat} {c : Rt} (h : rs[i]? = some c) : rs.flatMap az = (rs.take i).flatMap az ++ (az c ++ (rs.drop (i + 1)).flatMap az) := by
 have hi := (List.getElem?_eq_some_iff.mp h).1
 have e : rs = rs.take i ++ (c :: rs.drop (i + 1)) := by
  have e1 : rs.drop i = c :: rs.drop (i + 1) := by
   rw [List.drop_eq_getElem_cons hi]
   congr 1
   exact (List.getElem?_eq_some_iff.mp h).2
  rw [<- e1, List.take_append_drop]
 have e2 := congrArg (fun l => List.flatMap az l) e
 simp only [List.flatMap_append, List.flatMap_cons] at e2
 exact e2
inductive vf (K : PySem.W.Frag) (N : Nat) (vs : List V) (H : Hp) (Q : VK) (aI : XK) : Prop
 | mk (wl : Addr) (ws : List PySem.Str) (k : Nat) (rt : Rt) (rest : List PySem.Str) (_ : vs = [.ref wl, .int k]) (_ : ar K H wl (ws.map V.str)) (_ : ws.drop k = az rt ++ rest) (_ : ws.length <= 60) (_ : bJ rt) (_ : ej rt) (_ : ay rt < N) (_ : ∀ v q H', ai H H' -> H' q = some (.tup [v, .int ((k + (az rt).length : Nat) : Int)]) -> cn H H' v rt -> Q (.ref q) H')
inductive K1 (H : Hp) (wl l : Addr) (k : Nat) (t : Tr) (i : Nat) (σ : St) (H1 : Hp) : Prop
 | mk (e : Option V) (_ : σ = [some (.ref wl), some (.int k), some (.ref l), some (.int ((k + 1 + i : Nat) : Int)), e, none]) (_ : ai H H1) (_ : H1 l = some (.lst (((bw t).take i).map ev)))
inductive K2 (H : Hp) (wl l : Addr) (k : Nat) (rs : List Rt) (i : Nat) (σ : St) (H1 : Hp) : Prop
 | mk (xs : List V) (e1 e2 : Option V) (_ : σ = [some (.ref wl), some (.int k), some (.ref l), some (.int ((k + 1 + ((rs.take i).flatMap az).length : Nat) : Int)), e1, e2]) (_ : ai H H1) (_ : H1 l = some (.lst xs)) (_ : aA (cn (upd H l (.lst [])) H1) xs (rs.take i))
theorem K3 (T : Tx w K mg) (N : Nat) (ih : Ok P w base (N + 6) T.eg (vf K N)) : Ok P w base (N + 1 + 6) T.eg (vf K (N + 1)) := by
 refine fM fO ?_
 rintro _ _ _ _ H _ _ _ hr ⟨wl, ws, k, rt, rest, rfl, hw, hd, pE, hg, hs, hh, q⟩
 refine ⟨_, (au (aK (PW.pt (eR (rA (aa 1) (cQ dP (by rfl) T.dX dS (ae (aa 0) af))) (fX (vE (Hc T.forms.m (T.forms.d _) (aq (aa 0) (aa 1))))))) (ao (fI fJ rfl T.mK T.jA rfl (ae aD af))) aO) (au (aU 2 fO.nd (bU af)) (au (aU 3 fO.nd (aC br (aa 1) ag)) (au (jP PassesOwn.leaving rfl (ze (Hb T.forms.m (T.forms.d _) (aq (aa 0) (aa 1)))) (jl 4 fO.nd) (ao (aK (aY (aa 4) aD) (au (aU 5 fO.nd (cU ih (hr.mono (by lia)) rfl T.eg.m T.eg.F.kp T.eg.b .nil bf (ae (aa 0) (ae (aa 3) af)))) (au (eA (dG PySem.F.plainAttrs_list PySem.F.slot_list_append PySem.F.type_list_append lA (aa 2) (ae (aq (aa 5) ag) af))) (ao (aU 3 fO.nd (aq (aa 5) ag))))) (au (eA (dG PySem.F.plainAttrs_list PySem.F.slot_list_append PySem.F.type_list_append lA (aa 2) (ae (cU (KP T) (hr.mono (by lia)) rfl T.iy.m T.iy.F.kp T.iy.b .nil bf (ae (aa 0) (ae (aa 3) (ae (aa 4) af)))) af))) (ao (aU 3 fO.nd (aC br (aa 3) ag))))))) (ao (ax (aX (ae (aX (ae (aq (aa 0) (aa 1)) (ae (aa 2) af))) (ae (aa 3) af))))))))), ?_⟩
 obtain ⟨r0, e0⟩ := KW rt
 have hk : ws[k]? = some (eo rt) := by
  have z := congrArg (fun l => l[0]?) hd
  simp only [List.getElem?_drop, Nat.add_zero, e0, List.cons_append, List.getElem?_cons_zero] at z
  exact z
 have kl := (List.getElem?_eq_some_iff.mp hk).1
 have jE : cK (ws.map V.str) (k : Int) = some (.str (eo rt)) := iW (by rw [List.getElem?_map, hk]; rfl)
 refine bg (fun σ H1 => σ = [some (.ref wl), some (.int k), none, none, none, none] /\ H = H1) (fun N hN => ?_) ?_
 ·walk_at "gzn"
  refine ⟨_, d7 hw, ?_⟩
  rw [if_neg (by rw [List.length_map]; lia)]
  refine cc hw jE ⟨.inr (eo rt), rfl, ?_⟩
  rw [AA]
  exact hN _ _ ⟨rfl, rfl⟩
 rintro σ H1 ⟨rfl, rfl⟩
 refine bg (fun σ H1 => ∃ l, σ = [some (.ref wl), some (.int k), some (.ref l), none, none, none] /\ ai H H1 /\ H l = none /\ H1 l = some (.lst [])) (fun N hN => ?_) ?_
 ·walk_at "gzn"
  exact ⟨by decide, fun l fl => hN _ _ ⟨l, rfl, ak fl, fl, ah⟩⟩
 rintro σ H1 ⟨l, rfl, s1, fl, hl⟩
 refine bg (fun σ H2 => σ = [some (.ref wl), some (.int k), some (.ref l), some (.int ((k + 1 : Nat) : Int)), none, none] /\ H1 = H2) (fun N hN => ?_) ?_
 ·walk_at "gzn"
  exact hN _ _ ⟨rfl, rfl⟩
 rintro σ H2 ⟨rfl, rfl⟩
 walk_at "gzn"
 refine cc (s1.seq hw) jE ⟨.inr (eo rt), rfl, _, AA rt, _, rfl, ?_⟩
 by_cases hL : ∃ t, rt = .leaf t
 ·obtain ⟨t, rfl⟩ := hL
  have hd : ws.drop k = cN t ++ rest := hd
  rw [m6] at hd
  refine zf (K1 H wl l k t) ⟨none, rfl, s1, hl⟩ ?_ ?_
  ·rintro i x σ H2 hx ⟨e, rfl, s2, bD⟩
   obtain ⟨f, o, rfl, nR, ho, hf⟩ := KR t hx
   have ei : (bw t).take (i + 1) = (bw t).take i ++ [o] := by rw [List.take_succ, ho]; rfl
   have il := (List.getElem?_eq_some_iff.mp ho).1
   have so := Ay hg hs o (List.mem_of_getElem? ho)
   have al : (bw t).length <= 4 := by cases t <;> simp [bw]
   have ll : (((bw t).take i).map ev).length < sizeLine := by
    rw [List.length_map, List.length_take]
    exact Nat.lt_of_lt_of_le (show min i (bw t).length < 6 by lia) (by decide)
   have wk : ws[k + 1 + i]? = some (ck o) := by
    have z := congrArg (fun l => l[i + 1]?) hd
    simp only [List.getElem?_drop, List.cons_append, List.getElem?_cons_succ] at z
    rw [show k + 1 + i = k + (i + 1) by lia, z, List.getElem?_append_left (by rw [List.length_map]; exact il), List.getElem?_map, ho]
    rfl
   walk_at "gzn"
   rw [if_neg (by simpa using nR)]
   walk_at "gzn"
   refine ⟨.inl ⟨rfl, _, ar.of bD⟩, wl, ws, k + 1 + i, f, o, rfl, s2.seq hw, wk, so, hf, fun H3 s3 => ⟨_, s3 _ _ bD, ll, _, rfl, eB fl (s2.trans s3), ?_⟩⟩
   rw [ah, ei, List.map_append]
   rfl
  ·rintro σ H2 ⟨e, rfl, s2, bD⟩
   rw [show m9 (.leaf t) = kW t from rfl, AB, List.take_length] at bD
   walk_at "gzn"
   refine cc (s2.seq hw) jE ⟨bu, fun p hp => ⟨bu, fun r hr => ?_⟩⟩
   have u2 := ak (o := .tup [.str (eo (.leaf t)), .ref l]) hp
   refine q (.ref p) r _ (s2.trans (u2.trans (ak hr))) ?_ ⟨p, l, rfl, fl, ak hr _ _ ah, (u2.trans (ak hr)) _ _ bD⟩
   rw [ah, show az (.leaf t) = cN t from rfl, m6, show m9 (.leaf t) = kW t from rfl, AB, List.length_cons, List.length_map, show k + 1 + (bw t).length = k + ((bw t).length + 1) by lia]
 ·have hL : ∀ t, rt ≠ .leaf t := fun t z => hL ⟨t, z⟩
  have rk := KU rt hL
  have fk := KS rt hL
  have kn : (cz rt).length <= 2 := by cases rt <;> simp [cz]
  have Gn : ∀ b, upd H l (.lst []) b = none -> b ≠ l /\ H b = none := fun b z => by
   have n : b ≠ l := fun y => by rw [y, ah] at z; cases z
   rw [aG n] at z
   exact ⟨n, z⟩
  refine zf (K2 H wl l k (cz rt)) ⟨[], none, none, rfl, s1, hl, trivial⟩ ?_ ?_
  ·rintro i x σ H2 hx ⟨xs, e1, e2, rfl, s2, bD, hA⟩
   rw [fk, List.getElem?_map] at hx
   obtain ⟨c, hc, rfl⟩ := Option.map_eq_some_iff.mp hx
   have ei : (cz rt).take (i + 1) = (cz rt).take i ++ [c] := by rw [List.take_succ, hc]; rfl
   have dk : ws.drop (k + 1 + (((cz rt).take i).flatMap az).length) = az c ++ (((cz rt).drop (i + 1)).flatMap az ++ rest) := by
    have z := congrArg (fun l => l.drop (1 + (((cz rt).take i).flatMap az).length)) hd
    simp only [List.drop_drop, rk, K0 hc] at z
    rw [show k + 1 + (((cz rt).take i).flatMap az).length = k + (1 + (((cz rt).take i).flatMap az).length) by lia, z, Nat.add_comm 1, List.cons_append, List.drop_succ_cons, List.append_assoc, List.drop_left', List.append_assoc]
    rfl
   obtain ⟨cg, cs, ch⟩ := KY (List.mem_of_getElem? hc) hg hs hh
   have xl : xs.length <= 2 := by
    have := hA.len
    rw [List.length_take] at this
    lia
   walk_at "gzn"
   refine ⟨wl, ws, _, c, _, rfl, s2.seq hw, dk, pE, cg, cs, ch, fun v p H3 s3 hp hv => ?_⟩
   walk_at "gzn"
   have pF := s3 _ _ bD
   have pl : p ≠ l := fun z => by rw [z, pF] at hp; cases hp
   refine ⟨.inl ⟨rfl, _, ar.of pF⟩, aQ (aB.of hp) rfl ⟨_, pF, Nat.lt_of_le_of_lt xl (by decide), aV (by rw [aG pl]; exact hp) ?_⟩⟩
   refine ⟨_, _, _, by rw [ei, List.flatMap_append, List.length_append, List.flatMap_cons, List.flatMap_nil, List.append_nil, Nat.add_assoc], eB fl (s2.trans s3), ah, ?_⟩
   rw [ei]
   have A1 : aA (cn (upd H l (.lst [])) (upd H3 l (.lst (xs ++ [v])))) xs ((cz rt).take i) := hA.imp fun x c z => z.step (fun _ y => y) (fun b o y e => by rw [aG (Gn b y).1]; exact s3 _ _ e) fun p ys e => by rw [aG (fun z => by rw [z, bD] at e; cases e)]; exact s3 _ _ e
   refine aA.app A1 ⟨hv.step (fun b y => ?_) (fun b o y e => ?_) fun p ys e => ?_, trivial⟩
   ·have n : b ≠ l := fun z => by rw [z, bD] at y; cases y
    rw [aG n]
    exact s2.free y
   ·have n : b ≠ l := fun z => by rw [z, bD] at y; cases y
    rw [aG n]
    exact e
   ·rw [aG (fun z => by rw [z, pF] at e; cases e)]
    exact e
  ·rintro σ H2 ⟨xs, e1, e2, rfl, s2, bD, hA⟩
   rw [fk, List.length_map, List.take_length] at hA
   walk_at "gzn"
   refine cc (s2.seq hw) jE ⟨bu, fun p hp => ⟨bu, fun r hr => ?_⟩⟩
   have u2 := ak (o := .tup [.str (eo rt), .ref l]) hp
   have u3 := u2.trans (ak (o := .tup [.ref p, .int ((k + 1 + (((cz rt).take (bZ (m9 rt)).length).flatMap az).length : Nat) : Int)]) hr)
   refine q (.ref p) r _ (s2.trans u3) ?_ (KZ hL fl (ak hr _ _ ah) (u3 _ _ bD) (hA.imp fun x c z => z.step (fun b y => (Gn b y).2) (fun b o _ e => u3 _ _ e) fun p ys e => u3 _ _ e))
   rw [ah, fk, List.length_map, List.take_length, rk, List.length_cons, show k + 1 + ((cz rt).flatMap az).length = k + (((cz rt).flatMap az).length + 1) by lia]
theorem AD (T : Tx w K mg) : ∀ N : Nat, Ok P w base (N + 6) T.eg (vf K N)
 | 0 => by
  refine fM (k := 5) fO ?_
  rintro _ _ _ _ _ _ _ _ _ ⟨_, _, _, _, _, rfl, _, _, _, _, _, h, _⟩
  exact absurd h (Nat.not_lt_zero _)
 | N + 1 => K3 T N (AD T N)
end
section
seal L2.PE L2.PS L2.aR L2.PA
variable {P : Program} {w : World} {K : PySem.W.Frag} {mg : Str -> Option Value} {base : Heap}
def vg : Tr -> Prop
 | .stay _ _ l h => gh l h = false
 | .pace _ _ l h => gh l h = false
 | _ => True
inductive K4 (T : Tx w K mg) (vs : List V) (H : Hp) (Q : VK) (aI : XK) : Prop
 | mk (m : Addr) (t : Tr) (_ : vs = [.str (cm t), .ref m]) (_ : H m = some (.lst ((bw t).map ev))) (_ : dY t) (_ : vg t) (_ : ∀ x H', ai H H' -> dy T H' x t -> Q (.ref x) H')
theorem K5 (T : Tx w K mg) : Ok P w base 4 T.iz (K4 T) := by
 refine fM uQ ?_
 rintro _ _ _ s H _ _ _ hr ⟨m, t, rfl, hl, hg, hc, q⟩
 refine ⟨_, (au (aK (aY (aa 0) aD) (ao (ax (cW T.o4 (Ad T) hr.m rfl T.zG T.gW.b .nil bf (ae (aq (aa 1) ag) (ae (aq (aa 1) ag) (ae (aq (aa 1) ag) af)))))) aO) (au (aK (aY (aa 0) aD) (ao (ax (cW T.o5 (Ae T) hr.m rfl T.zH T.g6.b .nil bf (ae (aq (aa 1) ag) (ae (aq (aa 1) ag) (ae (aq (aa 1) ag) af)))))) aO) (au (aK (aY (aa 0) aD) (ao (ax (cW T.o3 (Ac T) hr.m rfl T.zF T.gQ.b .nil bf (ae (aq (aa 1) ag) (ae (aq (aa 1) ag) (ae (cU (Az T) hr.m rfl T.fq.m T.fq.F.kp T.fq.b .nil bf (ae (aq (aa 1) ag) (ae (aq (aa 1) ag) af))) af)))))) aO) (au (aK (aY (aa 0) aD) (ao (ax (cW T.o6 (Ag T) hr.m rfl T.zI T.hU.b .nil bf (ae (aq (aa 1) ag) (ae (aq (aa 1) ag) (ae (aq (aa 1) ag) (ae (aq (aa 1) ag) af))))))) aO) (au (aK (aY (aa 0) aD) (ao (ax (cW T.o7 (Af T) hr.m rfl T.zJ T.hZ.b .nil bf (ae (aq (aa 1) ag) (ae (aq (aa 1) ag) (ae (cU (Az T) hr.m rfl T.fq.m T.fq.F.kp T.fq.b .nil bf (ae (aq (aa 1) ag) (ae (aq (aa 1) ag) af))) af)))))) aO) (ao (ax (cW T.o8 (Ah T) hr.m rfl T.zK T.ic.b .nil bf (ae (aq (aa 1) ag) af))))))))), ?_⟩
 cases t with
 | stay i j l h =>
  replace hl : H m = some (.lst [.int i, .int j, ev l, ev h]) := hl
  dsimp only [cm]
  walk_at "gzn"
  repeat (refine cc (ar.of hl) rfl ?_; walk_at "gzn")
  refine ⟨l, h, rfl, hc, fun y H1 sy ey => ?_⟩
  walk_at "gzn"
  intro x dx hx cA bx
  have mk := c6 (C := T.bj) (fs := []) hx cA bx
  refine ⟨x, dx, i, j, _, rfl, ah, fun z => absurd hg z, fun hk => ⟨rfl, ?_⟩⟩
  refine q x _ (fun b o e => ?_) ⟨dx, y, ah, by rw [aG (fun z => by rw [<- z, ey] at hx; cases hx)]; exact mk _ _ ey⟩
  have e2 := (sy : ai H _) _ _ e
  rw [aG (fun z => by rw [z, hx] at e2; cases e2)]
  exact mk _ _ e2
 | pace i j l h =>
  replace hl : H m = some (.lst [.int i, .int j, ev l, ev h]) := hl
  dsimp only [cm]
  walk_at "gzn"
  repeat (refine cc (ar.of hl) rfl ?_; walk_at "gzn")
  refine ⟨l, h, rfl, hc, fun y H1 sy ey => ?_⟩
  walk_at "gzn"
  intro x dx hx cA bx
  have mk := c6 (C := T.bc) (fs := []) hx cA bx
  refine ⟨x, dx, i, j, _, rfl, ah, fun z => absurd hg z, fun hk => ⟨rfl, ?_⟩⟩
  refine q x _ (fun b o e => ?_) ⟨dx, y, ah, by rw [aG (fun z => by rw [<- z, ey] at hx; cases hx)]; exact mk _ _ ey⟩
  have e2 := (sy : ai H _) _ _ e
  rw [aG (fun z => by rw [z, hx] at e2; cases e2)]
  exact mk _ _ e2
 | over i j s =>
  replace hl : H m = some (.lst [.int i, .int j, .int s]) := hl
  dsimp only [cm]
  walk_at "gzn"
  repeat (refine cc (ar.of hl) rfl ?_; walk_at "gzn")
  intro x dx hx cA bx
  have mk := c6 (C := T.bo) (fs := []) hx cA bx
  refine ⟨x, dx, i, j, _, rfl, ah, fun z => absurd hg z, fun hk => ⟨rfl, ?_⟩⟩
  refine q x _ (fun b o e => ?_) ⟨dx, ah⟩
  have e2 := (ai.refl H : ai H _) _ _ e
  rw [aG (fun z => by rw [z, hx] at e2; cases e2)]
  exact mk _ _ e2
 | under i j s =>
  replace hl : H m = some (.lst [.int i, .int j, .int s]) := hl
  dsimp only [cm]
  walk_at "gzn"
  repeat (refine cc (ar.of hl) rfl ?_; walk_at "gzn")
  intro x dx hx cA bx
  have mk := c6 (C := T.bp) (fs := []) hx cA bx
  refine ⟨x, dx, i, j, _, rfl, ah, fun z => absurd hg z, fun hk => ⟨rfl, ?_⟩⟩
  refine q x _ (fun b o e => ?_) ⟨dx, ah⟩
  have e2 := (ai.refl H : ai H _) _ _ e
  rw [aG (fun z => by rw [z, hx] at e2; cases e2)]
  exact mk _ _ e2
 | rose i j l h =>
  replace hl : H m = some (.lst [.int i, .int j, .int l, .int h]) := hl
  dsimp only [cm]
  walk_at "gzn"
  repeat (refine cc (ar.of hl) rfl ?_; walk_at "gzn")
  intro x dx hx cA bx
  have mk := c6 (C := T.bq) (fs := []) hx cA bx
  refine ⟨x, dx, i, j, l, h, rfl, ah, fun z => absurd hg z, fun hk => ⟨rfl, ?_⟩⟩
  refine q x _ (fun b o e => ?_) ⟨dx, ah⟩
  have e2 := (ai.refl H : ai H _) _ _ e
  rw [aG (fun z => by rw [z, hx] at e2; cases e2)]
  exact mk _ _ e2
 | turn t =>
  replace hl : H m = some (.lst [.int t]) := hl
  dsimp only [cm]
  walk_at "gzn"
  repeat (refine cc (ar.of hl) rfl ?_; walk_at "gzn")
  intro x dx hx cA bx
  have mk := c6 (C := T.bS) (fs := []) hx cA bx
  refine ⟨x, dx, t, rfl, ah, fun z => absurd hg z, fun hk => ⟨rfl, ?_⟩⟩
  refine q x _ (fun b o e => ?_) ⟨dx, ah⟩
  have e2 := (ai.refl H : ai H _) _ _ e
  rw [aG (fun z => by rw [z, hx] at e2; cases e2)]
  exact mk _ _ e2
end
section
seal L2.PE L2.PS L2.aR L2.PA
variable {P : Program} {w : World} {K : PySem.W.Frag} {mg : Str -> Option Value} {base : Heap}
def eQ : Rt -> Prop
 | .leaf t => vg t
 | .nay a => eQ a
 | .both a b => eQ a /\ eQ b
 | .either a b => eQ a /\ eQ b
inductive vh (T : Tx w K mg) (N : Nat) (vs : List V) (H : Hp) (Q : VK) (aI : XK) : Prop
 | mk (v : V) (rt : Rt) (_ : vs = [v]) (_ : dA H v rt) (_ : bJ rt) (_ : eQ rt) (_ : ay rt < N) (_ : ay rt < 64) (_ : ∀ v' H', ai H H' -> bA T H' v' rt -> Q v' H')
theorem K6 (T : Tx w K mg) (N : Nat) (ih : Ok P w base (N + 77) T.cj (vh T N)) : Ok P w base (N + 1 + 77) T.cj (vh T (N + 1)) := by
 refine fM ko ?_
 rintro _ _ _ s H _ _ _ hr ⟨v, rt, rfl, hv, hg, hc, hh, h6, q⟩
 refine ⟨_, (au (aU 1 ko.nd (aq (aa 0) ag)) (au (aU 2 ko.nd (aq (aa 0) ag)) (au (aK (aY (aa 1) aD) (ao (ax (cW T.o9 (pB T) (hr.mono (by lia)) rfl T.zL T.eL.b .nil bf (ae (cU ih (hr.mono (by lia)) rfl T.cj.m T.cj.F.kp T.cj.b .nil bf (ae (aq (aa 2) ag) af)) (ae (cU ih (hr.mono (by lia)) rfl T.cj.m T.cj.F.kp T.cj.b .nil bf (ae (aq (aa 2) ag) af)) af))))) aO) (au (aK (aY (aa 1) aD) (ao (ax (cW T.pd (pB T) (hr.mono (by lia)) rfl T.zM T.eL.b .nil bf (ae (cU ih (hr.mono (by lia)) rfl T.cj.m T.cj.F.kp T.cj.b .nil bf (ae (aq (aa 2) ag) af)) (ae (cU ih (hr.mono (by lia)) rfl T.cj.m T.cj.F.kp T.cj.b .nil bf (ae (aq (aa 2) ag) af)) af))))) aO) (au (aK (aY (aa 1) aD) (ao (ax (cW T.pf (Aw T) (hr.mono (by lia)) rfl T.zN T.iu.b .nil cR (ae (cU ih (hr.mono (by lia)) rfl T.cj.m T.cj.F.kp T.cj.b .nil bf (ae (aq (aa 2) ag) af)) af)))) aO) (ao (ax (cU (K5 T) (hr.mono (by lia)) rfl T.iz.m T.iz.F.kp T.iz.b .nil bf (ae (aa 1) (ae (aa 2) af)))))))))), ?_⟩
 cases rt with
 | leaf t =>
  obtain ⟨p, m, rfl, hp, hl⟩ := hv
  obtain ⟨e1, e2, e3⟩ := Ax t
  walk_at "gzn"
  refine aV hp ?_
  walk_at "gzn"
  refine aV hp ?_
  walk_at "gzn"
  rw [if_neg (by simpa using e1), if_neg (by simpa using e2), if_neg (by simpa using e3)]
  exact ⟨m, t, rfl, hl, hg, hc, fun x H' s' hx => q _ _ s' ⟨x, rfl, hx⟩⟩
 | nay a =>
  obtain ⟨p, m, x, rfl, hp, hl, hx⟩ := hv
  have hh : ay a + 1 < N + 1 := hh
  have h6 : ay a + 1 < 64 := h6
  walk_at "gzn"
  refine aV hp ?_
  walk_at "gzn"
  refine aV hp ?_
  walk_at "gzn"
  refine cc (ar.of hl) rfl ⟨x, a, rfl, hx, hg, hc, by lia, by lia, fun v1 H1 s1 r1 => ?_⟩
  walk_at "gzn"
  intro z dz hz fv bx
  have mk := c6 (C := T.bO) (fs := []) hz fv bx
  have s2 : ai H1 (upd (upd (upd H1 dz (.own z)) z (.ins T.bO dz [])) z (.ins T.bO dz [("one", v1)])) := eB hz mk
  exact ⟨z, dz, v1, rfl, ah, rfl, q _ _ (s1.trans s2) ⟨z, dz, v1, rfl, ah, r1.same s2⟩⟩
 | both a b =>
  obtain ⟨p, m, x, y, rfl, hp, hl, hx, hy⟩ := hv
  have hh : ay a + ay b + 1 < N + 1 := hh
  have h6 : ay a + ay b + 1 < 64 := h6
  walk_at "gzn"
  refine aV hp ?_
  walk_at "gzn"
  refine aV hp ?_
  walk_at "gzn"
  refine cc (ar.of hl) rfl ⟨x, a, rfl, hx, hg.1, hc.1, by lia, by lia, fun v1 H1 s1 r1 => ?_⟩
  walk_at "gzn"
  refine cc (ar.of (s1 _ _ hl)) rfl ⟨y, b, rfl, hy.same s1, hg.2.1, hc.2, by lia, by lia, fun v2 H2 s2 r2 => ?_⟩
  walk_at "gzn"
  intro z dz hz fv bx
  have mk := c6 (C := T.bM) (fs := []) hz fv bx
  exact ⟨H2, z, T.bM, dz, v1, v2, a, b, .both a b, rfl, ah, hz, mk, .inl ⟨rfl, rfl⟩, r1.same s2, r2, hg, by show ay a + ay b + 1 < 64; lia, fun H3 s3 h3 => ⟨rfl, q _ _ (s1.trans (s2.trans s3)) ⟨z, dz, v1, v2, rfl, h3, (r1.same s2).same s3, r2.same s3⟩⟩⟩
 | either a b =>
  obtain ⟨p, m, x, y, rfl, hp, hl, hx, hy⟩ := hv
  have hh : ay a + ay b + 1 < N + 1 := hh
  have h6 : ay a + ay b + 1 < 64 := h6
  walk_at "gzn"
  refine aV hp ?_
  walk_at "gzn"
  refine aV hp ?_
  walk_at "gzn"
  refine cc (ar.of hl) rfl ⟨x, a, rfl, hx, hg.1, hc.1, by lia, by lia, fun v1 H1 s1 r1 => ?_⟩
  walk_at "gzn"
  refine cc (ar.of (s1 _ _ hl)) rfl ⟨y, b, rfl, hy.same s1, hg.2.1, hc.2, by lia, by lia, fun v2 H2 s2 r2 => ?_⟩
  walk_at "gzn"
  intro z dz hz fv bx
  have mk := c6 (C := T.bN) (fs := []) hz fv bx
  exact ⟨H2, z, T.bN, dz, v1, v2, a, b, .either a b, rfl, ah, hz, mk, .inr ⟨rfl, rfl⟩, r1.same s2, r2, hg, by show ay a + ay b + 1 < 64; lia, fun H3 s3 h3 => ⟨rfl, q _ _ (s1.trans (s2.trans s3)) ⟨z, dz, v1, v2, rfl, h3, (r1.same s2).same s3, r2.same s3⟩⟩⟩
theorem AE (T : Tx w K mg) : ∀ N : Nat, Ok P w base (N + 77) T.cj (vh T N)
 | 0 => by
  refine fM (k := 76) ko ?_
  rintro _ _ _ _ _ _ _ _ _ ⟨_, _, rfl, _, _, _, h, _⟩
  exact absurd h (Nat.not_lt_zero _)
 | N + 1 => K6 T N (AE T N)
end
section
seal L2.PE L2.PS L2.aR L2.PA
variable {P : Program} {w : World} {K : PySem.W.Frag} {mg : Str -> Option Value} {base : Heap}
theorem K7 (n : Int) : 32 ∉ (bb n).cps.toList := fun h => by
 rcases l6 n with ⟨m, rfl⟩ | ⟨m, rfl⟩
 ·rw [jo] at h
  have := jn m _ h
  lia
 ·rw [lZ] at h
  rcases List.mem_cons.mp h with h | h
  ·lia
  ·have := jn _ _ h
   lia
theorem K8 (e : En) : 32 ∉ (ck e).cps.toList := by
 cases e with
 | none => decide
 | some n => exact K7 n
theorem kX : ∀ rt : Rt, ∀ s ∈ az rt, 32 ∉ s.cps.toList
 | .leaf t => fun s h => by
  rw [show az (.leaf t) = _ from m6 t] at h
  rcases List.mem_cons.mp h with rfl | h
  ·cases t <;> (simp only [cm]; decide)
  ·obtain ⟨e, _, rfl⟩ := List.mem_map.mp h
   exact K8 e
 | .nay a => fun s h => by
  rcases List.mem_cons.mp h with rfl | h
  ·decide
  ·exact kX a s h
 | .both a b => fun s h => by
  rcases List.mem_cons.mp h with rfl | h
  ·decide
  ·rcases List.mem_append.mp h with h | h
   ·exact kX a s h
   ·exact kX b s h
 | .either a b => fun s h => by
  rcases List.mem_cons.mp h with rfl | h
  ·decide
  ·rcases List.mem_append.mp h with h | h
   ·exact kX a s h
   ·exact kX b s h
theorem fw : ∀ rt : Rt, ay rt < (az rt).length
 | .leaf t => by cases t <;> exact Nat.succ_pos _
 | .nay a => Nat.succ_lt_succ (fw a)
 | .both a b => by
  have := fw a
  have := fw b
  show ay a + ay b + 1 < (az a ++ az b).length + 1
  rw [List.length_append]
  lia
 | .either a b => by
  have := fw a
  have := fw b
  show ay a + ay b + 1 < (az a ++ az b).length + 1
  rw [List.length_append]
  lia
theorem K9 (rt : Rt) : Txt.split (bW rt) BL = az rt := G1 32 (by decide) _ (kT rt) (kX rt)
inductive La (T : Tx w K mg) (vs : List V) (H : Hp) (Q : VK) (aI : XK) : Prop
 | mk (rt : Rt) (_ : vs = [.str (bW rt)]) (_ : en rt) (_ : eQ rt) (_ : ∀ v H', ai H H' -> bA T H' v rt -> Q v H')
theorem Lb (T : Tx w K mg) : Ok P w base 142 T.mC (La T) := by
 refine fM mh ?_
 rintro _ _ _ s H _ _ _ hr ⟨rt, rfl, ⟨hg, hs, pE⟩, hc, q⟩
 refine ⟨_, (au (aU 1 mh.nd (dG PySem.F.plainAttrs_str PySem.F.slot_str_split PySem.F.type_str_split G2 (aa 0) (ae aD af))) (au (aK (rz (cQ dP (by rfl) T.dX dS (ae (aa 1) af)) (lQ T.IA rfl)) (ao (fI fJ rfl T.mK T.jA rfl (ae aD af))) aO) (au (aU 2 mh.nd (cU (AD T 64) hr.m rfl T.eg.m T.eg.F.kp T.eg.b .nil bf (ae (aa 1) (ae ag af)))) (au (aK (GN (aq (aa 2) ag) (cQ dP (by rfl) T.dX dS (ae (aa 1) af))) (ao (fI fJ rfl T.mK T.jA rfl (ae aD af))) aO) (ao (ax (cU (AE T 64) hr.m rfl T.cj.m T.cj.F.kp T.cj.b .nil bf (ae (aq (aa 2) ag) af)))))))), ?_⟩
 have hh := fw rt
 refine bg (fun σ H1 => ∃ l, σ = [some (.str (bW rt)), some (.ref l), none] /\ ai H H1 /\ H1 l = some (.lst ((az rt).map V.str))) (fun N hN => ?_) ?_
 ·walk_at "gzn"
  refine ⟨rfl, bW rt, rfl, BL, rfl, by decide, Nat.le_trans (Nat.add_le_add_right (text_len hg hs pE) 2) (by decide), fun l fl => ?_⟩
  rw [K9]
  exact hN _ _ ⟨l, rfl, ak fl, ah⟩
 rintro σ H1 ⟨l, rfl, s1, hl⟩
 have ll : ((az rt).map V.str).length = (az rt).length := List.length_map _
 refine bg (fun σ H2 => σ = [some (.str (bW rt)), some (.ref l), none] /\ H1 = H2) (fun N hN => ?_) ?_
 ·walk_at "gzn"
  refine ⟨_, d7 (ar.of hl), ?_⟩
  rw [if_neg (by rw [ll]; lia)]
  exact hN _ _ ⟨rfl, rfl⟩
 rintro σ H2 ⟨rfl, rfl⟩
 refine bg (fun σ H2 => ∃ p v, σ = [some (.str (bW rt)), some (.ref l), some (.ref p)] /\ ai H1 H2 /\ H2 p = some (.tup [v, .int (((az rt).length : Nat) : Int)]) /\ dA H2 v rt) (fun N hN => ?_) ?_
 ·walk_at "gzn"
  refine ⟨l, az rt, 0, rt, [], rfl, ar.of hl, by simp, pE, hg, hs, by lia, fun v p H2 s2 hp hv => hN _ _ ⟨p, v, rfl, s2, by rw [hp, Nat.zero_add], hv.is⟩⟩
 rintro σ H2 ⟨p, v, rfl, s2, hp, hv⟩
 refine bg (fun σ H3 => σ = [some (.str (bW rt)), some (.ref l), some (.ref p)] /\ H2 = H3) (fun N hN => ?_) ?_
 ·walk_at "gzn"
  refine aV hp ?_
  walk_at "gzn"
  refine ⟨_, d7 (ar.of (s2 _ _ hl)), ?_⟩
  rw [ll]
  walk_at "gzn"
  exact hN _ _ ⟨rfl, rfl⟩
 rintro σ H3 ⟨rfl, rfl⟩
 walk_at "gzn"
 exact aQ (aB.of hp) rfl ⟨v, rt, rfl, hv, hg, hc, by lia, by lia, fun v' H' s' qd => q _ _ (s1.trans (s2.trans s')) qd⟩
end
section
seal L2.PE L2.PS L2.aR L2.PA
variable {P : Program} {w : World} {K : PySem.W.Frag} {mg : Str -> Option Value} {base : Heap}
inductive Lc (K : PySem.W.Frag) (vs : List V) (H : Hp) (Q : VK) (aI : XK) : Prop
 | mk (a : Addr) (ns : List Int) (k pr m : Int) (_ : vs = [.ref a, .int k, .int pr, .int m]) (_ : ar K H a (ns.map V.int)) (_ : gH ns) (_ : (-1000000 <= k /\ k <= 1000000)) (_ : 0 < pr) (_ : 0 < m) (_ : ∀ p : Int, 0 <= p -> p < m -> Q (.int p) H)
theorem Ld {ns : List Int} (h : gH ns) {k : Int} (hk : -1000000 <= k /\ k <= 1000000) : j9 k k /\ j9 (lP ns k + k * k) 48271 := by
 have c := FV h k
 have k1 : Bt 64 k := Bt.small (by lia) (by lia)
 have k2 : Bt 128 (k * k) := k1.mul k1
 have n2 : Bt 64 48271 := Bt.small (by decide) (by decide)
 exact ⟨⟨k1.up (by decide), k1.up (by decide)⟩, (c.add (k2.up (by decide))).up (by decide), n2.up (by decide)⟩
theorem gx (T : Tx w K mg) : Ok P w base 1 T.mE (Lc K) := by
 refine cE uS ?_
 rintro _ _ _ _ _ _ _ _ _ ⟨a, ns, k, pr, m, rfl, hS, hn, hk, hpr, hm, q⟩
 refine ⟨_, (au (aK (aY (cQ dP (by rfl) T.dX dS (ae (aa 0) af)) ag) (ao (ax ag)) aO) (ao (ax (aC lV (aC lV (aC yy (aC br (aq (aa 0) (aC lV (aa 1) (cQ dP (by rfl) T.dX dS (ae (aa 0) af)))) (aC yy (aa 1) (aa 1))) ag) (aa 2)) (aa 3))))), ?_⟩
 walk_at "gz"
 refine ⟨_, d7 hS, ?_⟩
 rw [List.length_map]
 have pm := Ld hn hk
 refine bB (fun h => ?_) fun h => ?_
 ·exact q 0 (by decide) hm
 ·have h : 0 < (ns.length : Int) := by
   have : ns.length ≠ 0 := fun z => h (by rw [z]; rfl)
   lia
  refine ⟨_, d7 hS, ?_⟩
  rw [List.length_map]
  refine ⟨h, cc hS (FW h) ?_⟩
  walk_at "gz"
  exact ⟨pm.1, pm.2, hpr, hm, q _ (Int.emod_nonneg _ (by lia)) (Int.emod_lt_of_pos _ hm)⟩
theorem kY {n : Int} (h1 : -1000000000000000000000000000000000000000000000000000000000000 < n) (h2 : n < 1000000000000000000000000000000000000000000000000000000000000) : n.natAbs < 10 ^ 60 := by
 rw [show (10 : Nat) ^ 60 = 1000000000000000000000000000000000000000000000000000000000000 by decide +kernel]
 lia
inductive Le (K : PySem.W.Frag) (vs : List V) (H : Hp) (Q : VK) (aI : XK) : Prop
 | mk (a : Addr) (ns : List Int) (_ : vs = [.ref a]) (_ : ar K H a (ns.map V.int)) (_ : gH ns) (_ : ∀ (p : Int) (H' : Hp), ai H H' -> -999999999999999999999999999999999999999999999999999999999900 <= p -> p <= 999999999999999999999999999999999999999999999999999999999900 -> Q (.int p) H')
theorem Lf (T : Tx w K mg) : Ok P w base 2 T.mF (Le K) := by
 refine cE oV ?_
 rintro _ _ _ _ _ _ _ _ hr ⟨a, ns, rfl, hS, hn, q⟩
 refine ⟨_, (au (aK (aY (cQ dP (by rfl) T.dX dS (ae (aa 0) af)) ag) (ao (ax ag)) aO) (au (aU 1 oV.nd (aC lV (aq (aa 0) ag) (aC dn (aC v3 ag ag) ag))) (ao (ax (aq (aX (ae ag (ae (aa 1) (ae (aC dn ag (aa 1)) (ae (aC dn (aC v3 ag ag) ag) af))))) (aL (gx T) hr (ae (aa 0) (ae ag (ae ag (ae ag af)))))))))), ?_⟩
 walk_at "gzn"
 refine ⟨_, d7 hS, ?_⟩
 rw [List.length_map]
 refine bB (fun h => q _ _ (ai.refl _) (by decide) (by decide)) fun h => ?_
 have h : 0 < (ns.length : Int) := by
  have : ns.length ≠ 0 := fun z => h (by rw [z]; rfl)
  lia
 have h0 : cK (ns.map V.int) 0 = some (.int (ns.getD 0 0)) := iW (j := 0) (by rw [List.getElem?_map, List.getD_eq_getElem?_getD, List.getElem?_eq_getElem (by lia)]; rfl)
 refine cc hS h0 ?_
 walk_at "gzn"
 have e0 := Int.emod_nonneg (ns.getD 0 0) (show (999999999999999999999999999999999999999999999999999999999800 : Int) ≠ 0 by decide)
 have e1 := Int.emod_lt_of_pos (ns.getD 0 0) (show (0 : Int) < 999999999999999999999999999999999999999999999999999999999800 by decide)
 refine ⟨⟨by decide, by decide, by decide⟩, ⟨by decide, by decide, by decide⟩, by decide, fun t ht => ?_⟩
 refine ⟨a, ns, _, _, _, rfl, (ak ht).seq hS, hn, by lia, by lia, by lia, fun p p1 p2 => ?_⟩
 rcases (by lia : p = 0 ∨ p = 1 ∨ p = 2 ∨ p = 3) with rfl | rfl | rfl | rfl
 all_goals exact aQ (aB.of ah) rfl (q _ _ (ak ht) (by lia) (by lia))
end
section
seal L2.PE L2.PS L2.aR L2.PA
variable {P : Program} {w : World} {K : PySem.W.Frag} {mg : Str -> Option Value} {base : Heap}
inductive Lg (K : PySem.W.Frag) (vs : List V) (H : Hp) (Q : VK) (aI : XK) : Prop
 | mk (a : Addr) (ns : List Int) (k so b : Int) (_ : vs = [.ref a, .int k, .int so, .int 12, .int b]) (_ : ar K H a (ns.map V.int)) (_ : gH ns) (_ : (0 <= k /\ k <= 1000)) (_ : -999999999999999999999999999999999999999999999999999999999900 <= b) (_ : b <= 999999999999999999999999999999999999999999999999999999999900) (_ : ∀ r tr H', ai H H' -> H' r = some (.tup (u4 tr)) -> dY tr -> u7 tr -> vg tr -> Q (.ref r) H')
theorem Lh (T : Tx w K mg) : Ok P w base 2 T.mG (Lg K) := by
 refine cE ed ?_
 rintro _ _ _ _ H _ _ _ hr ⟨a, ns, k, so, b, rfl, hS, hn, ⟨k0, k1⟩, b0, b1, q⟩
 refine ⟨_, (au (aU 5 ed.nd (aL (gx T) hr (ae (aa 0) (ae (aa 1) (ae ag (ae (aa 3) af)))))) (au (aU 6 ed.nd (aC br (aa 5) (aL (gx T) hr (ae (aa 0) (ae (aC br (aa 1) ag) (ae ag (ae (aC dn (aa 3) (aa 5)) af))))))) (au (aU 7 ed.nd (aC dn (aL (gx T) hr (ae (aa 0) (ae (aC br (aa 1) ag) (ae ag (ae ag af))))) ag)) (au (aU 8 ed.nd (aL (gx T) hr (ae (aa 0) (ae (aC br (aa 1) ag) (ae ag (ae ag af)))))) (au (aK (aY (aa 2) ag) (ao (ax (aX (ae aD (ae (aa 5) (ae (aa 6) (ae (aC br (aa 4) (aa 7)) af))))))) aO) (au (aK (aY (aa 2) ag) (ao (ax (aX (ae aD (ae (aa 5) (ae (aa 6) (ae (aC br (aa 4) (aa 7)) af))))))) aO) (au (aK (aY (aa 2) ag) (ao (ax (aX (ae aD (ae (aa 5) (ae (aa 6) (ae (aC br (aa 4) (aa 7)) (ae (aC br (aC br (aC br (aa 4) (aa 7)) ag) (aC xt (aa 8) ag)) af)))))))) aO) (au (aK (PW.pt (vJ (aY (aa 2) ag) (vI (rz (aa 3) ag)))) (ao (ax (aX (ae aD (ae (aC br ag (aC lV (aa 5) (aC dn (aa 3) ag))) af))))) aO) (au (aU 9 ed.nd (aL (gx T) hr (ae (aa 0) (ae (aC br (aa 1) ag) (ae ag (ae ag af)))))) (au (aU 10 ed.nd (aC dn (aa 7) ag)) (au (aK (aY (aa 2) ag) (ao (aU 10 ed.nd (aC br (aa 4) (aa 7)))) aO) (au (aU 11 ed.nd (aC br (aa 10) (aa 8))) (au (aK (PW.pt (eR (aY (aa 9) ag) (fX (aY (aa 9) ag)))) (ao (aU 10 ed.nd dD)) aO) (au (aK (PW.pt (eR (aY (aa 9) ag) (fX (aY (aa 9) ag)))) (ao (aU 11 ed.nd dD)) aO) (au (aK (aY (aa 2) ag) (ao (ax (aX (ae aD (ae (aa 5) (ae (aa 6) (ae (aa 10) (ae (aa 11) af)))))))) aO) (ao (ax (aX (ae aD (ae (aa 5) (ae (aa 6) (ae (aa 10) (ae (aa 11) af))))))))))))))))))))))), ?_⟩
 refine bg (fun σ H2 => ∃ fi : Int, σ = [some (.ref a), some (.int k), some (.int so), some (.int 12), some (.int b), some (.int fi), none, none, none, none, none, none] /\ H = H2 /\ 0 <= fi /\ fi < 12) (fun N hN => ?_) ?_
 ·walk_at "gzn"
  refine ⟨a, ns, _, _, _, rfl, hS, hn, by lia, by lia, by lia, fun p p1 p2 => ?_⟩
  exact hN _ _ ⟨_, rfl, rfl, p1, p2⟩
 rintro σ _ ⟨fi, rfl, rfl, f0, f1⟩
 refine bg (fun σ H2 => ∃ la : Int, σ = [some (.ref a), some (.int k), some (.int so), some (.int 12), some (.int b), some (.int fi), some (.int la), none, none, none, none, none] /\ H = H2 /\ fi <= la /\ la < 12) (fun N hN => ?_) ?_
 ·walk_at "gzn"
  refine ⟨a, ns, _, _, _, rfl, hS, hn, by lia, by lia, by lia, fun p p1 p2 => ?_⟩
  walk_at "gzn"
  exact hN _ _ ⟨_, rfl, rfl, by lia, by lia⟩
 rintro σ _ ⟨la, rfl, rfl, l0, l1⟩
 refine bg (fun σ H2 => ∃ lo : Int, σ = [some (.ref a), some (.int k), some (.int so), some (.int 12), some (.int b), some (.int fi), some (.int la), some (.int lo), none, none, none, none] /\ H = H2 /\ -2 <= lo /\ lo <= 6) (fun N hN => ?_) ?_
 ·walk_at "gzn"
  refine ⟨a, ns, _, _, _, rfl, hS, hn, by lia, by lia, by lia, fun p p1 p2 => ?_⟩
  walk_at "gzn"
  exact hN _ _ ⟨_, rfl, rfl, by lia, by lia⟩
 rintro σ _ ⟨lo, rfl, rfl, o0, o1⟩
 refine bg (fun σ H2 => ∃ mo : Int, σ = [some (.ref a), some (.int k), some (.int so), some (.int 12), some (.int b), some (.int fi), some (.int la), some (.int lo), some (.int mo), none, none, none] /\ H = H2 /\ 0 <= mo /\ mo <= 6) (fun N hN => ?_) ?_
 ·walk_at "gzn"
  refine ⟨a, ns, _, _, _, rfl, hS, hn, by lia, by lia, by lia, fun p p1 p2 => ?_⟩
  exact hN _ _ ⟨_, rfl, rfl, by lia, by lia⟩
 rintro σ _ ⟨mo, rfl, rfl, m0, m1⟩
 refine bg (fun σ H2 => σ = [some (.ref a), some (.int k), some (.int so), some (.int 12), some (.int b), some (.int fi), some (.int la), some (.int lo), some (.int mo), none, none, none] /\ H = H2) (fun N hN => ?_) ?_
 ·walk_at "gzn"
  exact bB (fun _ => ⟨by decide, fun r hr => q r (.over fi la _) _ (ak hr) ah ⟨f0, l0, by lia⟩ (kY (by lia) (by lia)) trivial⟩) fun _ => hN _ _ ⟨rfl, rfl⟩
 rintro σ _ ⟨rfl, rfl⟩
 refine bg (fun σ H2 => σ = [some (.ref a), some (.int k), some (.int so), some (.int 12), some (.int b), some (.int fi), some (.int la), some (.int lo), some (.int mo), none, none, none] /\ H = H2) (fun N hN => ?_) ?_
 ·walk_at "gzn"
  exact bB (fun _ => ⟨by decide, fun r hr => q r (.under fi la _) _ (ak hr) ah ⟨f0, l0, by lia⟩ (kY (by lia) (by lia)) trivial⟩) fun _ => hN _ _ ⟨rfl, rfl⟩
 rintro σ _ ⟨rfl, rfl⟩
 refine bg (fun σ H2 => σ = [some (.ref a), some (.int k), some (.int so), some (.int 12), some (.int b), some (.int fi), some (.int la), some (.int lo), some (.int mo), none, none, none] /\ H = H2) (fun N hN => ?_) ?_
 ·walk_at "gzn"
  exact bB (fun _ => ⟨n3 (by decide), by decide, fun r hr => q r (.rose fi la _ _) _ (ak hr) ah ⟨⟨f0, l0, by lia⟩, by lia⟩ ⟨(kY (by lia) (by lia)), (kY (by lia) (by lia))⟩ trivial⟩) fun _ => hN _ _ ⟨rfl, rfl⟩
 rintro σ _ ⟨rfl, rfl⟩
 refine bg (fun σ H2 => σ = [some (.ref a), some (.int k), some (.int so), some (.int 12), some (.int b), some (.int fi), some (.int la), some (.int lo), some (.int mo), none, none, none] /\ H = H2) (fun N hN => ?_) ?_
 ·walk_at "gzn"
  refine bB (fun _ => ?_) fun _ => hN _ _ ⟨rfl, rfl⟩
  exact ⟨by decide, fun r hr => q r (.turn _) _ (ak hr) ah ⟨by lia, by lia⟩ trivial trivial⟩
 rintro σ _ ⟨rfl, rfl⟩
 refine bg (fun σ H2 => ∃ oe : Int, σ = [some (.ref a), some (.int k), some (.int so), some (.int 12), some (.int b), some (.int fi), some (.int la), some (.int lo), some (.int mo), some (.int oe), none, none] /\ H = H2) (fun N hN => ?_) ?_
 ·walk_at "gzn"
  refine ⟨a, ns, _, _, _, rfl, hS, hn, by lia, by lia, by lia, fun p p1 p2 => ?_⟩
  exact hN _ _ ⟨_, rfl, rfl⟩
 rintro σ _ ⟨oe, rfl, rfl⟩
 refine bg (fun σ H2 => ∃ xa : Int, σ = [some (.ref a), some (.int k), some (.int so), some (.int 12), some (.int b), some (.int fi), some (.int la), some (.int lo), some (.int mo), some (.int oe), some (.int xa), none] /\ H = H2 /\ xa = lo - 3) (fun N hN => ?_) ?_
 ·walk_at "gzn"
  exact hN _ _ ⟨_, rfl, rfl, rfl⟩
 rintro σ _ ⟨xa, rfl, rfl, ea⟩
 refine bg (fun σ H2 => ∃ xl : Int, σ = [some (.ref a), some (.int k), some (.int so), some (.int 12), some (.int b), some (.int fi), some (.int la), some (.int lo), some (.int mo), some (.int oe), some (.int xl), none] /\ H = H2 /\ -999999999999999999999999999999999999999999999999999999999900 - 5 <= xl /\ xl <= 999999999999999999999999999999999999999999999999999999999900 + 6) (fun N hN => ?_) ?_
 ·walk_at "gzn"
  exact bB (fun _ => hN _ _ ⟨_, rfl, rfl, by lia, by lia⟩) fun _ => hN _ _ ⟨_, rfl, rfl, by lia, by lia⟩
 rintro σ _ ⟨xl, rfl, rfl, x0, x1⟩
 refine bg (fun σ H2 => ∃ xh : Int, σ = [some (.ref a), some (.int k), some (.int so), some (.int 12), some (.int b), some (.int fi), some (.int la), some (.int lo), some (.int mo), some (.int oe), some (.int xl), some (.int xh)] /\ H = H2 /\ xl <= xh /\ xh <= xl + 6) (fun N hN => ?_) ?_
 ·walk_at "gzn"
  exact hN _ _ ⟨_, rfl, rfl, by lia, by lia⟩
 rintro σ _ ⟨xh, rfl, rfl, h0, h1⟩
 refine bg (fun σ H2 => ∃ x : En, σ = [some (.ref a), some (.int k), some (.int so), some (.int 12), some (.int b), some (.int fi), some (.int la), some (.int lo), some (.int mo), some (.int oe), some (ev x), some (.int xh)] /\ H = H2 /\ (x = none ∨ x = some xl)) (fun N hN => ?_) ?_
 ·walk_at "gzn"
  exact bB (fun _ => hN _ _ ⟨none, rfl, rfl, .inl rfl⟩) fun _ => bB (fun _ => hN _ _ ⟨none, rfl, rfl, .inl rfl⟩) fun _ => hN _ _ ⟨some xl, rfl, rfl, .inr rfl⟩
 rintro σ _ ⟨x, rfl, rfl, ex⟩
 refine bg (fun σ H2 => ∃ y : En, σ = [some (.ref a), some (.int k), some (.int so), some (.int 12), some (.int b), some (.int fi), some (.int la), some (.int lo), some (.int mo), some (.int oe), some (ev x), some (ev y)] /\ H = H2 /\ (y = none ∨ y = some xh)) (fun N hN => ?_) ?_
 ·walk_at "gzn"
  exact bB (fun _ => hN _ _ ⟨none, rfl, rfl, .inl rfl⟩) fun _ => bB (fun _ => hN _ _ ⟨none, rfl, rfl, .inl rfl⟩) fun _ => hN _ _ ⟨some xh, rfl, rfl, .inr rfl⟩
 rintro σ _ ⟨y, rfl, rfl, ey⟩
 have sx : cS x := by
  rcases ex with rfl | rfl
  ·trivial
  ·exact kY (by lia) (by lia)
 have sy : cS y := by
  rcases ey with rfl | rfl
  ·trivial
  ·exact kY (by lia) (by lia)
 have cr : gh x y = false := by
  rcases ex with rfl | rfl <;> rcases ey with rfl | rfl <;> first | rfl | exact decide_eq_false (by lia)
 walk_at "gzn"
 exact bB (fun _ => ⟨by decide, fun r hr => q r (.stay fi la x y) _ (ak hr) ah ⟨f0, l0, by lia⟩ ⟨sx, sy⟩ cr⟩) fun _ => ⟨by decide, fun r hr => q r (.pace fi la x y) _ (ak hr) ah ⟨f0, l0, by lia⟩ ⟨sx, sy⟩ cr⟩
end
section
seal L2.PE L2.PS L2.aR L2.PA
variable {P : Program} {w : World} {K : PySem.W.Frag} {mg : Str -> Option Value} {base : Heap}
inductive vi (T : Tx w K mg) (N : Nat) (vs : List V) (H : Hp) (Q : VK) (aI : XK) : Prop
 | mk (v : V) (rt : Rt) (_ : vs = [v]) (_ : bE H v rt) (_ : bJ rt) (_ : ay rt < N) (_ : ay rt < 64) (_ : ∀ v' H', ai H H' -> bA T H' v' rt -> Q v' H')
theorem Li (T : Tx w K mg) (N : Nat) (ih : Ok P w base (N + 77) T.cG (vi T N)) : Ok P w base (N + 1 + 77) T.cG (vi T (N + 1)) := by
 refine fM mi ?_
 rintro _ _ _ s H _ _ _ hr ⟨v, rt, rfl, hv, hg, hh, h6, q⟩
 refine ⟨_, (au (aU 1 mi.nd (aq (aa 0) ag)) (au (aK (aY (aa 1) aD) (ao (ax (cW T.o9 (pB T) (hr.mono (by lia)) rfl T.zL T.eL.b .nil bf (ae (cU ih (hr.mono (by lia)) rfl T.cG.m T.cG.F.kp T.cG.b .nil bf (ae (aq (aa 0) ag) af)) (ae (cU ih (hr.mono (by lia)) rfl T.cG.m T.cG.F.kp T.cG.b .nil bf (ae (aq (aa 0) ag) af)) af))))) aO) (au (aK (aY (aa 1) aD) (ao (ax (cW T.pd (pB T) (hr.mono (by lia)) rfl T.zM T.eL.b .nil bf (ae (cU ih (hr.mono (by lia)) rfl T.cG.m T.cG.F.kp T.cG.b .nil bf (ae (aq (aa 0) ag) af)) (ae (cU ih (hr.mono (by lia)) rfl T.cG.m T.cG.F.kp T.cG.b .nil bf (ae (aq (aa 0) ag) af)) af))))) aO) (au (aK (aY (aa 1) aD) (ao (ax (cW T.pf (Aw T) (hr.mono (by lia)) rfl T.zN T.iu.b .nil cR (ae (cU ih (hr.mono (by lia)) rfl T.cG.m T.cG.F.kp T.cG.b .nil bf (ae (aq (aa 0) ag) af)) af)))) aO) (au (aK (aY (aa 1) aD) (ao (ax (cW T.o8 (Ah T) (hr.mono (by lia)) rfl T.zK T.ic.b .nil bf (ae (aq (aa 0) ag) af)))) aO) (au (aK (aY (aa 1) aD) (ao (ax (cW T.o7 (Af T) (hr.mono (by lia)) rfl T.zJ T.hZ.b .nil bf (ae (aq (aa 0) ag) (ae (aq (aa 0) ag) (ae (aX (ae (aq (aa 0) ag) (ae (aq (aa 0) ag) af))) af)))))) aO) (au (aK (aY (aa 1) aD) (ao (ax (cW T.o3 (Ac T) (hr.mono (by lia)) rfl T.zF T.gQ.b .nil bf (ae (aq (aa 0) ag) (ae (aq (aa 0) ag) (ae (aX (ae (aq (aa 0) ag) (ae (aq (aa 0) ag) af))) af)))))) aO) (au (aK (aY (aa 1) aD) (ao (ax (cW T.o4 (Ad T) (hr.mono (by lia)) rfl T.zG T.gW.b .nil bf (ae (aq (aa 0) ag) (ae (aq (aa 0) ag) (ae (aq (aa 0) ag) af)))))) aO) (au (aK (aY (aa 1) aD) (ao (ax (cW T.o5 (Ae T) (hr.mono (by lia)) rfl T.zH T.g6.b .nil bf (ae (aq (aa 0) ag) (ae (aq (aa 0) ag) (ae (aq (aa 0) ag) af)))))) aO) (ao (ax (cW T.o6 (Ag T) (hr.mono (by lia)) rfl T.zI T.hU.b .nil bf (ae (aq (aa 0) ag) (ae (aq (aa 0) ag) (ae (aq (aa 0) ag) (ae (aq (aa 0) ag) af)))))))))))))))), ?_⟩
 cases rt with
 | leaf t =>
  obtain ⟨p, rfl, hp⟩ := hv
  have hg : dY t := hg
  cases t with
  | stay i j l h =>
   replace hp : H p = some (.tup [.str "stay", .int i, .int j, ev l, ev h]) := hp
   walk_at "gzn"
   repeat (refine aV hp ?_; walk_at "gzn")
   refine ⟨bu, fun y hy => ?_⟩
   have sy := ak (o := .tup [ev l, ev h]) hy
   have ey : upd H y (.tup [ev l, ev h]) y = some (.tup [ev l, ev h]) := ah
   intro x dx hx cA bx
   have mk := c6 (C := T.bj) (fs := []) hx cA bx
   refine ⟨x, dx, i, j, _, rfl, ah, fun z => absurd hg z, fun hk => ⟨rfl, ?_⟩⟩
   refine q (.ref x) _ (fun b o e => ?_) ⟨x, rfl, dx, y, ah, by rw [aG (fun z => by rw [<- z, ey] at hx; cases hx)]; exact mk _ _ ey⟩
   have e2 := (sy : ai H _) _ _ e
   rw [aG (fun z => by rw [z, hx] at e2; cases e2)]
   exact mk _ _ e2
  | pace i j l h =>
   replace hp : H p = some (.tup [.str "pace", .int i, .int j, ev l, ev h]) := hp
   walk_at "gzn"
   repeat (refine aV hp ?_; walk_at "gzn")
   refine ⟨bu, fun y hy => ?_⟩
   have sy := ak (o := .tup [ev l, ev h]) hy
   have ey : upd H y (.tup [ev l, ev h]) y = some (.tup [ev l, ev h]) := ah
   intro x dx hx cA bx
   have mk := c6 (C := T.bc) (fs := []) hx cA bx
   refine ⟨x, dx, i, j, _, rfl, ah, fun z => absurd hg z, fun hk => ⟨rfl, ?_⟩⟩
   refine q (.ref x) _ (fun b o e => ?_) ⟨x, rfl, dx, y, ah, by rw [aG (fun z => by rw [<- z, ey] at hx; cases hx)]; exact mk _ _ ey⟩
   have e2 := (sy : ai H _) _ _ e
   rw [aG (fun z => by rw [z, hx] at e2; cases e2)]
   exact mk _ _ e2
  | over i j s =>
   replace hp : H p = some (.tup [.str "over", .int i, .int j, .int s]) := hp
   walk_at "gzn"
   repeat (refine aV hp ?_; walk_at "gzn")
   intro x dx hx cA bx
   have mk := c6 (C := T.bo) (fs := []) hx cA bx
   refine ⟨x, dx, i, j, _, rfl, ah, fun z => absurd hg z, fun hk => ⟨rfl, ?_⟩⟩
   refine q (.ref x) _ (fun b o e => ?_) ⟨x, rfl, dx, ah⟩
   have e2 := (ai.refl H : ai H _) _ _ e
   rw [aG (fun z => by rw [z, hx] at e2; cases e2)]
   exact mk _ _ e2
  | under i j s =>
   replace hp : H p = some (.tup [.str "under", .int i, .int j, .int s]) := hp
   walk_at "gzn"
   repeat (refine aV hp ?_; walk_at "gzn")
   intro x dx hx cA bx
   have mk := c6 (C := T.bp) (fs := []) hx cA bx
   refine ⟨x, dx, i, j, _, rfl, ah, fun z => absurd hg z, fun hk => ⟨rfl, ?_⟩⟩
   refine q (.ref x) _ (fun b o e => ?_) ⟨x, rfl, dx, ah⟩
   have e2 := (ai.refl H : ai H _) _ _ e
   rw [aG (fun z => by rw [z, hx] at e2; cases e2)]
   exact mk _ _ e2
  | rose i j l h =>
   replace hp : H p = some (.tup [.str "rose", .int i, .int j, .int l, .int h]) := hp
   walk_at "gzn"
   repeat (refine aV hp ?_; walk_at "gzn")
   intro x dx hx cA bx
   have mk := c6 (C := T.bq) (fs := []) hx cA bx
   refine ⟨x, dx, i, j, l, h, rfl, ah, fun z => absurd hg z, fun hk => ⟨rfl, ?_⟩⟩
   refine q (.ref x) _ (fun b o e => ?_) ⟨x, rfl, dx, ah⟩
   have e2 := (ai.refl H : ai H _) _ _ e
   rw [aG (fun z => by rw [z, hx] at e2; cases e2)]
   exact mk _ _ e2
  | turn t =>
   replace hp : H p = some (.tup [.str "turn", .int t]) := hp
   walk_at "gzn"
   repeat (refine aV hp ?_; walk_at "gzn")
   intro x dx hx cA bx
   have mk := c6 (C := T.bS) (fs := []) hx cA bx
   refine ⟨x, dx, t, rfl, ah, fun z => absurd hg z, fun hk => ⟨rfl, ?_⟩⟩
   refine q (.ref x) _ (fun b o e => ?_) ⟨x, rfl, dx, ah⟩
   have e2 := (ai.refl H : ai H _) _ _ e
   rw [aG (fun z => by rw [z, hx] at e2; cases e2)]
   exact mk _ _ e2
 | nay a =>
  obtain ⟨p, x, rfl, hp, hx⟩ := hv
  have hh : ay a + 1 < N + 1 := hh
  have h6 : ay a + 1 < 64 := h6
  walk_at "gzn"
  refine aV hp ?_
  walk_at "gzn"
  refine aQ (aB.of hp) rfl ⟨x, a, rfl, hx, hg, by lia, by lia, fun v1 H1 s1 r1 => ?_⟩
  walk_at "gzn"
  intro z dz hz fv bx
  have mk := c6 (C := T.bO) (fs := []) hz fv bx
  have s2 : ai H1 (upd (upd (upd H1 dz (.own z)) z (.ins T.bO dz [])) z (.ins T.bO dz [("one", v1)])) := eB hz mk
  exact ⟨z, dz, v1, rfl, ah, rfl, q _ _ (s1.trans s2) ⟨z, dz, v1, rfl, ah, r1.same s2⟩⟩
 | both a b =>
  obtain ⟨p, x, y, rfl, hp, hx, hy⟩ := hv
  have hh : ay a + ay b + 1 < N + 1 := hh
  have h6 : ay a + ay b + 1 < 64 := h6
  walk_at "gzn"
  refine aV hp ?_
  walk_at "gzn"
  refine aQ (aB.of hp) rfl ⟨x, a, rfl, hx, hg.1, by lia, by lia, fun v1 H1 s1 r1 => ?_⟩
  walk_at "gzn"
  refine aQ (aB.of (s1 _ _ hp)) rfl ⟨y, b, rfl, hy.same s1, hg.2.1, by lia, by lia, fun v2 H2 s2 r2 => ?_⟩
  walk_at "gzn"
  intro z dz hz fv bx
  have mk := c6 (C := T.bM) (fs := []) hz fv bx
  exact ⟨H2, z, T.bM, dz, v1, v2, a, b, .both a b, rfl, ah, hz, mk, .inl ⟨rfl, rfl⟩, r1.same s2, r2, hg, by show ay a + ay b + 1 < 64; lia, fun H3 s3 h3 => ⟨rfl, q _ _ (s1.trans (s2.trans s3)) ⟨z, dz, v1, v2, rfl, h3, (r1.same s2).same s3, r2.same s3⟩⟩⟩
 | either a b =>
  obtain ⟨p, x, y, rfl, hp, hx, hy⟩ := hv
  have hh : ay a + ay b + 1 < N + 1 := hh
  have h6 : ay a + ay b + 1 < 64 := h6
  walk_at "gzn"
  refine aV hp ?_
  walk_at "gzn"
  refine aQ (aB.of hp) rfl ⟨x, a, rfl, hx, hg.1, by lia, by lia, fun v1 H1 s1 r1 => ?_⟩
  walk_at "gzn"
  refine aQ (aB.of (s1 _ _ hp)) rfl ⟨y, b, rfl, hy.same s1, hg.2.1, by lia, by lia, fun v2 H2 s2 r2 => ?_⟩
  walk_at "gzn"
  intro z dz hz fv bx
  have mk := c6 (C := T.bN) (fs := []) hz fv bx
  exact ⟨H2, z, T.bN, dz, v1, v2, a, b, .either a b, rfl, ah, hz, mk, .inr ⟨rfl, rfl⟩, r1.same s2, r2, hg, by show ay a + ay b + 1 < 64; lia, fun H3 s3 h3 => ⟨rfl, q _ _ (s1.trans (s2.trans s3)) ⟨z, dz, v1, v2, rfl, h3, (r1.same s2).same s3, r2.same s3⟩⟩⟩
theorem AF (T : Tx w K mg) : ∀ N : Nat, Ok P w base (N + 77) T.cG (vi T N)
 | 0 => by
  refine fM (k := 76) mi ?_
  rintro _ _ _ _ _ _ _ _ _ ⟨_, _, rfl, _, _, h, _⟩
  exact absurd h (Nat.not_lt_zero _)
 | N + 1 => Li T N (AF T N)
end
section
seal L2.PE L2.PS L2.aR L2.PA
variable {P : Program} {w : World} {K : PySem.W.Frag} {mg : Str -> Option Value} {base : Heap}
theorem Lj : ∀ n : Nat, n <= 11 -> ((List.range n).map fun k => n - k).sum = (n + 1) * n / 2 := by decide
theorem Ll {i j l h : Int} (hk : a9 i j) : ((gJ i j l h).length : Int) = (j - i + 1) * (j - i + 1 - 1) / 2 := by
 obtain ⟨k0, k1, k2⟩ := hk
 unfold gJ
 rw [List.length_flatMap]
 have e : ((List.range (j - i).toNat).map fun k : Nat => ((bC (i + (k : Nat) + 1) j (some h, none)).map fun p => [(("at", i + (k : Nat), none, some l) : Pa), p]).length) = (List.range (j - i).toNat).map fun k => (j - i).toNat - k := by
  apply List.map_congr_left
  intro k hk
  have := List.mem_range.mp hk
  rw [List.length_map, dU]
  lia
 rw [e, Lj _ (by lia)]
 obtain ⟨n, hn⟩ : ∃ n : Nat, j - i = n := ⟨(j - i).toNat, by lia⟩
 rw [hn, Int.toNat_natCast, Int.natCast_ediv]
 congr 1
 rw [Int.natCast_mul, Int.natCast_add]
 congr 1
 lia
theorem AG (ps : List Pa) (s : S2) (h : ∀ p ∈ ps, p.2.2 = s) : (bQ ps).length = ps.length * (fo s).length := by
 unfold bQ
 rw [List.length_flatMap]
 induction ps with
 | nil => simp
 | cons p ps ih =>
  rw [List.map_cons, List.sum_cons, ih fun q hq => h q (.tail _ hq), h p (.head _), List.length_map, List.length_cons, Nat.succ_mul]
  lia
noncomputable def fS : En -> Int
 | none => 0
 | some _ => 1
theorem pG (e : En) : 0 <= fS e /\ fS e <= 1 := by cases e <;> simp [fS]
theorem pH (e : En) : (if ¬ev e = V.non then (1 : Int) else 0) = fS e := by
 cases e with
 | none => exact if_neg (fun z => z rfl)
 | some n => exact if_pos (fun z => nomatch z)
theorem AH (l h : En) : ((fo (l, h)).length : Int) = fS l + fS h := by cases l <;> cases h <;> rfl
theorem vj {i j : Int} {s : S2} (hk : a9 i j) : ((bQ (bC i j s)).length : Int) = (j - i + 1) * (fo s).length := by
 obtain ⟨k0, k1, k2⟩ := hk
 rw [AG _ s fun p hp => by obtain ⟨k, _, rfl⟩ := F5 hp; rfl, Int.natCast_mul, dU]
 congr 1
 lia
theorem Lm {i j : Int} {s : S2} (hk : a9 i j) : ((bQ (dW i j s)).length : Int) = (j - i) * (fo s).length := by
 obtain ⟨k0, k1, k2⟩ := hk
 rw [AG _ s fun p hp => by obtain ⟨k, _, rfl⟩ := F6 hp; rfl, Int.natCast_mul]
 congr 1
 unfold dW
 rw [List.length_map, List.length_range]
 lia
theorem Ln {i j l h : Int} (hk : a9 i j) : ((iC i j l h).length : Int) = j - i + 1 := by
 obtain ⟨k0, k1, k2⟩ := hk
 unfold iC
 rw [List.length_map, List.length_range]
 lia
def vk : Rt -> Prop
 | .leaf t => dY t
 | .nay a => bJ a
 | .both a b => bJ a /\ bJ b
 | .either a b => bJ a /\ bJ b
theorem nc : ∀ {rt : Rt}, bJ rt -> vk rt
 | .leaf _, h => h
 | .nay _, h => h
 | .both _ _, h => ⟨h.1, h.2.1⟩
 | .either _ _, h => ⟨h.1, h.2.1⟩
inductive vm (N : Nat) (vs : List V) (H : Hp) (Q : VK) (aI : XK) : Prop
 | mk (v : V) (rt : Rt) (_ : vs = [v]) (_ : bE H v rt) (_ : vk rt) (_ : ay rt < N) (_ : ∀ l H', ai H H' -> H' l = some (.tup [.int (aM rt).1, .int (aM rt).2]) -> Q (.ref l) H')
theorem Lo (T : Tx w K mg) (N : Nat) (ih : Ok P w base (N + 1) T.jv (vm N)) : Ok P w base (N + 1 + 1) T.jv (vm (N + 1)) := by
 refine cE gk ?_
 rintro _ _ _ s H _ _ _ hr ⟨v, rt, rfl, hv, hg, hh, q⟩
 refine ⟨_, (au (aK (aY (aq (aa 0) ag) aD) (ao (ax (aX (ae ag (ae ag af))))) aO) (au (aK (aY (aq (aa 0) ag) aD) (au (aU 1 gk.nd (aL (hk := by lia) ih hr (ae (aq (aa 0) ag) af))) (ao (ax (aX (ae (aq (aa 1) ag) (ae (aq (aa 1) ag) af)))))) aO) (au (aK (PW.pt (eR (aY (aq (aa 0) ag) aD) (fX (aY (aq (aa 0) ag) aD)))) (au (aU 2 gk.nd (aL (hk := by lia) ih hr (ae (aq (aa 0) ag) af))) (au (aU 3 gk.nd (aL (hk := by lia) ih hr (ae (aq (aa 0) ag) af))) (au (aK (aY (aq (aa 0) ag) aD) (ao (ax (aX (ae (aC ji (aq (aa 2) ag) (aq (aa 3) ag)) (ae (aC br (aq (aa 2) ag) (aq (aa 3) ag)) af))))) aO) (ao (ax (aX (ae (aC br (aq (aa 2) ag) (aq (aa 3) ag)) (ae (aC ji (aq (aa 2) ag) (aq (aa 3) ag)) af)))))))) aO) (au (aU 4 gk.nd (aC br (aC dn (aq (aa 0) ag) (aq (aa 0) ag)) ag)) (au (aK (aY (aq (aa 0) ag) aD) (ao (ax (aX (ae (aC xt (aC ji (aa 4) (aC dn (aa 4) ag)) ag) (ae (aa 4) af))))) aO) (au (aK (PW.pt (eR (aY (aq (aa 0) ag) aD) (fX (aY (aq (aa 0) ag) aD)))) (ao (ax (aX (ae (aa 4) (ae ag af))))) aO) (au (aU 5 gk.nd (aC br (d6 qc (by rfl) T.oX n0 (ae (nu (nt (aq (aa 0) ag))) af)) (d6 qc (by rfl) T.oX n0 (ae (nu (nt (aq (aa 0) ag))) af)))) (ao (ax (aX (ae ag (ae (aC ji (aC dn (aa 4) (d6 qc (by rfl) T.oX n0 (ae (jS nK (aq (aa 0) ag) aD (eV _)) af))) (aa 5)) af)))))))))))), ?_⟩
 cases rt with
 | leaf t =>
  obtain ⟨p, rfl, hp⟩ := hv
  have hg : dY t := hg
  cases t with
  | stay i j l h =>
   replace hp : H p = some (.tup [.str "stay", .int i, .int j, ev l, ev h]) := hp
   have e : aM (.leaf (.stay i j l h)) = (1, (j - i + 1) * (fS l + fS h)) := Prod.ext rfl (show ((bQ (bC i j (l, h))).length : Int) = _ by rw [vj hg, AH])
   have b1 := pG l
   have b2 := pG h
   obtain ⟨k0, k1, k2⟩ := id hg
   rw [e] at q
   walk_at "gzn"
   repeat (refine aV hp ?_; walk_at "gzn")
   refine .inr (aQ (aB.of hp) rfl (.inr (aQ (aB.of hp) rfl ⟨rfl, .inr ?_⟩)))
   walk_at "gzn"
   rw [pH l, pH h, if_neg (show ¬ V.str "stay" = V.str "pace" from fun z => by injection z with z; exact absurd z (by decide)), Int.sub_zero]
   exact ⟨gF (by lia) (by lia), bu, fun r hr => q r _ (ak hr) ah⟩
  | pace i j l h =>
   replace hp : H p = some (.tup [.str "pace", .int i, .int j, ev l, ev h]) := hp
   have e : aM (.leaf (.pace i j l h)) = (1, (j - i + 1 - 1) * (fS l + fS h)) := Prod.ext rfl (show ((bQ (dW i j (l, h))).length : Int) = _ by rw [Lm hg, AH, Int.add_sub_cancel])
   have b1 := pG l
   have b2 := pG h
   obtain ⟨k0, k1, k2⟩ := id hg
   rw [e] at q
   walk_at "gzn"
   repeat (refine aV hp ?_; walk_at "gzn")
   refine .inr (aQ (aB.of hp) rfl (.inr (aQ (aB.of hp) rfl ⟨rfl, .inr ?_⟩)))
   walk_at "gzn"
   rw [pH l, pH h]
   exact ⟨gF (by lia) (by lia), bu, fun r hr => q r _ (ak hr) ah⟩
  | over i j s =>
   replace hp : H p = some (.tup [.str "over", .int i, .int j, .int s]) := hp
   have e : aM (.leaf (.over i j s)) = (j - i + 1, 1) := Prod.ext (show ((bQ (bC i j (none, some (s - 1)))).length : Int) = _ by rw [vj hg]; exact Int.mul_one _) rfl
   rw [e] at q
   walk_at "gzn"
   repeat (refine aV hp ?_; walk_at "gzn")
   exact ⟨bu, fun r hr => q r _ (ak hr) ah⟩
  | under i j s =>
   replace hp : H p = some (.tup [.str "under", .int i, .int j, .int s]) := hp
   have e : aM (.leaf (.under i j s)) = (j - i + 1, 1) := Prod.ext (show ((bQ (bC i j (some (s + 1), none))).length : Int) = _ by rw [vj hg]; exact Int.mul_one _) rfl
   rw [e] at q
   walk_at "gzn"
   repeat (refine aV hp ?_; walk_at "gzn")
   exact ⟨bu, fun r hr => q r _ (ak hr) ah⟩
  | rose i j l h =>
   replace hp : H p = some (.tup [.str "rose", .int i, .int j, .int l, .int h]) := hp
   have e : aM (.leaf (.rose i j l h)) = ((j - i + 1) * (j - i + 1 - 1) / 2, j - i + 1) := Prod.ext (Ll hg.1) (Ln hg.1)
   obtain ⟨⟨k0, k1, k2⟩, _⟩ := id hg
   rw [e] at q
   walk_at "gzn"
   repeat (refine aV hp ?_; walk_at "gzn")
   exact ⟨gF (by lia) (by lia), n3 (by decide), bu, fun r hr => q r _ (ak hr) ah⟩
  | turn t =>
   replace hp : H p = some (.tup [.str "turn", .int t]) := hp
   have e : aM (.leaf (.turn t)) = (1, 2) := rfl
   rw [e] at q
   walk_at "gzn"
   repeat (refine aV hp ?_; walk_at "gzn")
   exact ⟨bu, fun r hr => q r _ (ak hr) ah⟩
 | nay a =>
  obtain ⟨p, x, rfl, hp, hx⟩ := hv
  have hh : ay a + 1 < N + 1 := hh
  walk_at "gzn"
  repeat (refine aV hp ?_; walk_at "gzn")
  refine ⟨x, a, rfl, hx, nc hg, by lia, fun l H1 s1 hl => ?_⟩
  walk_at "gzn"
  exact aQ (aB.of hl) rfl (aQ (aB.of hl) rfl ⟨bu, fun r hr => q r _ (s1.trans (ak hr)) ah⟩)
 | both a b =>
  obtain ⟨p, x, y, rfl, hp, hx, hy⟩ := hv
  have hh : ay a + ay b + 1 < N + 1 := hh
  obtain ⟨a1, a2, a3, a4⟩ := eh hg.1
  obtain ⟨b1, b2, b3, b4⟩ := eh hg.2
  walk_at "gzn"
  repeat (refine aV hp ?_; walk_at "gzn")
  refine ⟨x, a, rfl, hx, nc hg.1, by lia, fun l1 H1 s1 h1 => ?_⟩
  walk_at "gzn"
  refine aQ (aB.of (s1 _ _ hp)) rfl ⟨y, b, rfl, hy.same s1, nc hg.2, by lia, fun l2 H2 s2 h2 => ?_⟩
  replace h1 := s2 _ _ h1
  walk_at "gzn"
  refine aV ((s1.trans s2) _ _ hp) ?_
  walk_at "gzn"
  refine aV h1 (aV h2 ?_)
  walk_at "gzn"
  exact ⟨gF (by lia) (by lia), aQ (aB.of h1) rfl (aQ (aB.of h2) rfl ⟨bu, fun r hr => q r _ (s1.trans (s2.trans (ak hr))) ah⟩)⟩
 | either a b =>
  obtain ⟨p, x, y, rfl, hp, hx, hy⟩ := hv
  have hh : ay a + ay b + 1 < N + 1 := hh
  obtain ⟨a1, a2, a3, a4⟩ := eh hg.1
  obtain ⟨b1, b2, b3, b4⟩ := eh hg.2
  walk_at "gzn"
  repeat (refine aV hp ?_; walk_at "gzn")
  refine ⟨x, a, rfl, hx, nc hg.1, by lia, fun l1 H1 s1 h1 => ?_⟩
  walk_at "gzn"
  refine aQ (aB.of (s1 _ _ hp)) rfl ⟨y, b, rfl, hy.same s1, nc hg.2, by lia, fun l2 H2 s2 h2 => ?_⟩
  replace h1 := s2 _ _ h1
  walk_at "gzn"
  refine aV ((s1.trans s2) _ _ hp) ?_
  walk_at "gzn"
  refine aV h1 (aV h2 ?_)
  walk_at "gzn"
  exact aQ (aB.of h1) rfl (aQ (aB.of h2) rfl ⟨gF (by lia) (by lia), bu, fun r hr => q r _ (s1.trans (s2.trans (ak hr))) ah⟩)
theorem AI (T : Tx w K mg) : ∀ N : Nat, Ok P w base (N + 1) T.jv (vm N)
 | 0 => by
  refine cE (k := 0) gk ?_
  rintro _ _ _ _ _ _ _ _ _ ⟨_, _, rfl, _, _, h, _⟩
  exact absurd h (Nat.not_lt_zero _)
 | N + 1 => Lo T N (AI T N)
end
section
seal L2.PE L2.PS L2.aR L2.PA
variable {P : Program} {w : World} {K : PySem.W.Frag} {mg : Str -> Option Value} {base : Heap}
theorem bE.tup {H H' : Hp} (s : ∀ p xs, H p = some (.tup xs) -> H' p = some (.tup xs)) : ∀ {rt : Rt} {v : V}, bE H v rt -> bE H' v rt
 | .leaf _, _, h => let ⟨x, e, h⟩ := h; ⟨x, e, s _ _ h⟩
 | .nay _, _, h => let ⟨x, c, e, h, a⟩ := h; ⟨x, c, e, s _ _ h, bE.tup s a⟩
 | .both _ _, _, h => let ⟨x, c, d, e, h, a, b⟩ := h; ⟨x, c, d, e, s _ _ h, bE.tup s a, bE.tup s b⟩
 | .either _ _, _, h => let ⟨x, c, d, e, h, a, b⟩ := h; ⟨x, c, d, e, s _ _ h, bE.tup s a, bE.tup s b⟩
theorem Lp {R : V -> Rt -> Prop} {xs : List V} {bT : List Rt} (h : aA R xs bT) (h2 : 2 <= xs.length) : ∃ ys x y ss r s, xs = ys ++ [x, y] /\ bT = ss ++ [r, s] /\ aA R ys ss /\ R x r /\ R y s := by
 have hd := aA.drop (xs.length - 2) h
 have ht := aA.take (xs.length - 2) h
 have e1 := (List.take_append_drop (xs.length - 2) xs).symm
 have e2 := (List.take_append_drop (xs.length - 2) bT).symm
 have l2 : (xs.drop (xs.length - 2)).length = 2 := by rw [List.length_drop]; lia
 revert hd e1 e2 l2
 generalize xs.drop (xs.length - 2) = u
 generalize bT.drop (xs.length - 2) = v
 intro hd e1 e2 l2
 match u, v, hd, l2 with
 | [x, y], [r, s], hd, _ => exact ⟨_, x, y, _, r, s, e1, e2, ht, hd.1, hd.2.1⟩
theorem jF (ys : List V) (x y : V) : (((ys ++ [x, y]).length : Nat) : Int) = (ys.length : Int) + 2 := by
 rw [List.length_append]
 rfl
theorem vn (ys : List V) (x y : V) : cK (ys ++ [x, y]) (-1) = some y := by
 unfold cK eZ
 rw [if_neg (by decide), if_pos (by rw [jF]; lia), jF, show (-1 + ((ys.length : Int) + 2)).toNat = ys.length + 1 by lia]
 show (ys ++ [x, y])[ys.length + 1]? = some y
 rw [List.getElem?_append_right (by lia), Nat.add_sub_cancel_left]
 rfl
theorem Lq (ys : List V) (x y : V) : cK (ys ++ [x, y]) (-2) = some x := by
 unfold cK eZ
 rw [if_neg (by decide), if_pos (by rw [jF]; lia), jF, show (-2 + ((ys.length : Int) + 2)).toNat = ys.length by lia]
 show (ys ++ [x, y])[ys.length]? = some x
 rw [List.getElem?_append_right (Nat.le_refl _), Nat.sub_self]
 rfl
theorem Lr (ys : List V) (x y : V) : eZ (ys ++ [x, y]).length (-1) = some (ys.length + 1) := by
 unfold eZ
 rw [if_neg (by decide), if_pos (by rw [jF]; lia), jF, show (-1 + ((ys.length : Int) + 2)).toNat = ys.length + 1 by lia]
theorem Ls (ys : List V) (x y z : V) : (ys ++ [x, y]).set (ys.length + 1) z = ys ++ [x, z] := by
 rw [List.set_append_right _ _ (by lia), Nat.add_sub_cancel_left]
 rfl
theorem Lu (ys : List V) (x y : V) : eY (ys ++ [x, y]) none (some (-2)) = ys := by
 have e : HT.aJ (ys ++ [x, y]).length (ys ++ [x, y]).length (some (-2)) = ys.length := by
  show (if (-2 : Int) < 0 then ((-2 : Int) + ((ys ++ [x, y]).length : Int)).toNat else min (-2 : Int).toNat (ys ++ [x, y]).length) = _
  rw [if_pos (by decide), jF]
  lia
 unfold eY
 rw [HT.wL, e, List.drop_zero, Nat.sub_zero, List.take_left']
 rfl
inductive AJ (H : Hp) (a : Addr) (b m : Int) (i : Nat) (σ : St) (H1 : Hp) : Prop
 | mk (l : Addr) (xs : List V) (bT : List Rt) (e1 e2 e3 : Option V) (_ : σ = [some (.ref a), some (.int b), some (.int m), some (.ref l), e1, e2, e3]) (_ : ai H H1) (_ : H l = none) (_ : H1 l = some (.lst xs)) (_ : aA (bE H1) xs bT) (_ : (∀ rt ∈ bT, en rt /\ eQ rt)) (_ : bT.length <= i) (_ : (0 < i -> bT ≠ []))
inductive Lv (K : PySem.W.Frag) (vs : List V) (H : Hp) (Q : VK) (aI : XK) : Prop
 | mk (a : Addr) (ns : List Int) (b m : Int) (_ : vs = [.ref a, .int b, .int m]) (_ : ar K H a (ns.map V.int)) (_ : gH ns) (_ : -999999999999999999999999999999999999999999999999999999999900 <= b) (_ : b <= 999999999999999999999999999999999999999999999999999999999900) (_ : 1 <= m) (_ : m <= 44) (_ : ∀ l xs bT H', ai H H' -> H' l = some (.lst xs) -> aA (bE H') xs bT -> (∀ rt ∈ bT, en rt /\ eQ rt) -> bT.length <= 44 -> bT ≠ [] -> Q (.ref l) H')
theorem Lw (T : Tx w K mg) : Ok P w base 132 T.mH (Lv K) := by
 refine cE gP ?_
 rintro _ _ _ _ H _ _ _ hr ⟨a, ns, b, m, rfl, hS, hn, b0, b1, m1, Nj, q⟩
 refine ⟨_, (au (aU 3 gP.nd (bU af)) (au (jP PassesOwn.never rfl (CD rfl T.mJ (ae (aa 2) af)) (jl 4 gP.nd) (au (aU 5 gP.nd (aL (gx T) hr (ae (aa 0) (ae (aC br ag (aa 4)) (ae ag (ae ag af)))))) (ao (aK (PW.pt (eR (rq (aa 5) ag) (fX (rq (cQ dP (by rfl) T.dX dS (ae (aa 3) af)) ag)))) (ao (eA (dG PySem.F.plainAttrs_list PySem.F.slot_list_append PySem.F.type_list_append lA (aa 3) (ae (aL (Lh T) hr (ae (aa 0) (ae (aC br ag (aC ji ag (aa 4))) (ae (aL (gx T) hr (ae (aa 0) (ae (aC br ag (aa 4)) (ae ag (ae ag af))))) (ae ag (ae (aa 1) af)))))) af)))) (ao (aK (aY (aa 5) ag) (ao (aK (rq (cQ dP (by rfl) T.dX dS (ae (aL (m8 T 128) hr (ae (aq (aa 3) (iR jj ag)) af)) af)) ag) (ao (Cw (aX (ae aD (ae (aq (aa 3) (iR jj ag)) af))) (Cv (aa 3) (iR jj ag) set_list))) aO)) (au (aU 6 gP.nd (aX (ae (aq (aX (ae aD (ae aD af))) (aL (gx T) hr (ae (aa 0) (ae (aC br ag (aa 4)) (ae ag (ae ag af)))))) (ae (aq (aa 3) (iR jj ag)) (ae (aq (aa 3) (iR jj ag)) af))))) (ao (aK (PW.pt (vJ (yB (cQ dP (by rfl) T.dX dS (ae (aL (m8 T 128) hr (ae (aa 6) af)) af)) ag) (vI (yB (cQ (yP rfl) (by rfl) T.zE xu (ae (aL (AI T 128) hr (ae (aa 6) af)) af)) ag)))) (ao (aU 3 gP.nd (aC gE (qm DD (aa 3) qk (ql (iR jj ag))) (bU (ae (aa 6) af))))) aO))))))))) (ao (ax (aa 3))))), ?_⟩
 refine bg (fun σ H1 => ∃ l, σ = [some (.ref a), some (.int b), some (.int m), some (.ref l), none, none, none] /\ ai H H1 /\ H l = none /\ H1 l = some (.lst [])) (fun N hN => ?_) ?_
 ·walk_at "gzn"
  exact ⟨by decide, fun l fl => hN _ _ ⟨l, rfl, ak fl, fl, ah⟩⟩
 rintro σ H1 ⟨l, rfl, s1, fl, hl⟩
 walk_at "gzn"
 refine ⟨by lia, by lia, xw (AJ H a b m) ⟨l, [], [], _, _, _, rfl, s1, fl, hl, trivial, fun _ h => absurd h List.not_mem_nil, Nat.le_refl _, fun h => absurd h (Nat.lt_irrefl _)⟩ ?_ ?_⟩
 ·clear hl s1 fl
  rintro i σ H1 hi ⟨l, xs, bT, e1, e2, e3, rfl, s1, fl, hl, hA, av, hlen, eE⟩
  have hx := hA.len
  refine bg (fun σ H2 => ∃ p : Int, σ = [some (.ref a), some (.int b), some (.int m), some (.ref l), some (.int (0 + (i : Int))), some (.int p), e3] /\ H1 = H2 /\ 0 <= p /\ p < 5) (fun N hN => ?_) ?_
  ·walk_at "gzn"
   exact ⟨a, ns, _, _, _, rfl, s1.seq hS, hn, by lia, by lia, by lia, fun p p1 p2 => hN _ _ ⟨p, rfl, rfl, p1, p2⟩⟩
  rintro σ _ ⟨p, rfl, rfl, p0, p5⟩
  have tp : ∀ {H2 : Hp} {o : HO}, ai H1 H2 -> ∀ p xs, H1 p = some (.tup xs) -> upd H2 l o p = some (.tup xs) := fun s2 p ys e => by
   rw [aG (fun z => by rw [z, hl] at e; cases e)]
   exact s2 _ _ e
  refine GV fun B hB => ?_
  have app : ∀ D : Ends, D.nx = AJ H a b m (i + 1) -> B D [some (.ref a), some (.int b), some (.int m), some (.ref l), some (.int (0 + (i : Int))), some (.int p), e3] H1 := fun D hD => by
   subst hB
   walk_at "gzn"
   rw [hD]
   refine ⟨.inl ⟨rfl, _, ar.of hl⟩, gF (by lia) (by lia), a, ns, _, _, _, rfl, s1.seq hS, hn, by lia, by lia, by lia, fun so Nk Nl => ?_⟩
   walk_at "gzn"
   refine ⟨a, ns, _, so, b, rfl, s1.seq hS, hn, by lia, b0, b1, fun r tr H2 s2 hr gd sm cr => ?_⟩
   refine ⟨_, s2 _ _ hl, Nat.lt_of_le_of_lt (show xs.length <= 44 by lia) (by decide), l, xs ++ [.ref r], bT ++ [.leaf tr], _, _, _, rfl, eB fl (s1.trans s2), fl, ah, ?_, fun rt h => ?_, ?_, fun _ z => by simp at z⟩
   ·refine (hA.imp fun x c z => z.tup (tp s2)).snoc ⟨r, rfl, ?_⟩
    rw [aG (fun z => by rw [z, s2 _ _ hl] at hr; cases hr)]
    exact hr
   ·rcases List.mem_append.mp h with h | h
    ·exact av rt h
    ·obtain rfl := List.mem_singleton.mp h
     exact ⟨⟨gd, sm, by show (cN tr).length <= 60; cases tr <;> simp [cN]⟩, cr⟩
   ·rw [List.length_append]
    show bT.length + 1 <= i + 1
    lia
  clear hB
  walk_at "gzn"
  refine bB (fun h2 => app _ rfl) fun h2 => ⟨_, d7 (ar.of hl), bB (fun h3 => app _ rfl) fun h3 => ?_⟩
  clear app
  obtain ⟨ys, x, y, ss, r, t, rfl, rfl, AK, kU, eN⟩ := Lp hA (by lia)
  have fy := av t (by simp)
  have jG := av r (by simp)
  have Nm := fw t
  have Nn := fw r
  have r6 := jG.1.2.2
  have t6 := fy.1.2.2
  refine bB (fun jD => cc (ar.of hl) (vn _ _ _) ⟨y, t, rfl, eN, fR fy.1.1, fy.1.2.1, by lia, by lia, fun l2 H2 s2 h2 => ⟨_, d7 (ar.of h2), bB (fun h6 => cc (ar.of (s2 _ _ hl)) (vn _ _ _) ⟨bu, fun z hz => ⟨_, ak hz _ _ (s2 _ _ hl), _, Lr _ _ _, ?_⟩⟩) fun _ => ?_⟩⟩) fun jD => ?_
  ·rw [Ls]
   rw [List.length_map] at h6
   have sz := s2.trans (ak (o := .tup [.str "not", y]) hz)
   have nz : z ≠ l := fun e => by rw [e, s2 _ _ hl] at hz; cases hz
   refine ⟨l, ys ++ [x, .ref z], ss ++ [r, .nay t], _, _, _, rfl, eB fl (s1.trans sz), fl, ah, ?_, fun rt h => ?_, ?_, fun _ z => by simp at z⟩
   ·refine aA.app (AK.imp fun x c z => z.tup (tp sz)) ⟨kU.tup (tp sz), ⟨z, y, rfl, ?_, eN.tup (tp sz)⟩, trivial⟩
    rw [aG nz, ah]
   ·simp only [List.mem_append, List.mem_cons, List.not_mem_nil, or_false] at h
    rcases h with h | rfl | rfl
    ·exact av rt (by simp [h])
    ·exact jG
    ·exact ⟨⟨fy.1.1, fy.1.2.1, by show (az t).length + 1 <= 60; lia⟩, fy.2⟩
   ·simp only [List.length_append, List.length_cons, List.length_nil] at hlen ⊢
    lia
  ·exact ⟨l, _, _, _, _, _, rfl, s1.trans s2, fl, s2 _ _ hl, hA.imp fun x c z => z.same s2, av, by lia, fun _ z => by simp at z⟩
  ·refine ⟨bu, fun z0 AL => ⟨a, ns, _, _, _, rfl, (ak AL).seq (s1.seq hS), hn, by lia, by lia, by lia, fun dr d0 d1 => ?_⟩⟩
   obtain ⟨wd, C, hw, hC⟩ : ∃ wd C, cK [V.str "both", V.str "either"] dr = some (.str wd) /\ ((wd = "both" /\ C = Rt.both r t) ∨ (wd = "either" /\ C = .either r t)) := by
    rcases (by lia : dr = 0 ∨ dr = 1) with rfl | rfl
    ·exact ⟨_, _, rfl, .inl ⟨rfl, rfl⟩⟩
    ·exact ⟨_, _, rfl, .inr ⟨rfl, rfl⟩⟩
   have fc : iG C /\ ej C /\ vk C /\ eQ C /\ ay C = ay r + ay t + 1 /\ (az C).length = (az r).length + (az t).length + 1 /\ ((aM C).1 <= 100 -> (aM C).2 <= 100 -> bJ C) := by
    rcases hC with ⟨_, rfl⟩ | ⟨_, rfl⟩ <;> exact ⟨⟨fR jG.1.1, fR fy.1.1⟩, ⟨jG.1.2.1, fy.1.2.1⟩, ⟨jG.1.1, fy.1.1⟩, ⟨jG.2, fy.2⟩, rfl, by show (az r ++ az t).length + 1 = _; rw [List.length_append], fun z1 z2 => ⟨jG.1.1, fy.1.1, z1, z2⟩⟩
   obtain ⟨Lx, AM, jL, Ly, Np, Nq, Lz⟩ := fc
   have atC : ∀ {p : Addr} {H2 : Hp}, H2 p = some (.tup [.str wd, x, y]) -> bE H2 x r -> bE H2 y t -> bE H2 (.ref p) C := fun h1 h2 h3 => by
    rcases hC with ⟨rfl, rfl⟩ | ⟨rfl, rfl⟩ <;> exact ⟨_, x, y, rfl, h1, h2, h3⟩
   have u0 := ak (o := .tup [.str "both", .str "either"]) AL
   refine aQ (aB.of ah) hw (cc (ar.of (u0 _ _ hl)) (Lq _ _ _) (cc (ar.of (u0 _ _ hl)) (vn _ _ _) ⟨by decide, fun pt LA => ?_⟩))
   have u1 := u0.trans (ak (o := .tup [.str wd, x, y]) LA)
   refine ⟨.ref pt, C, rfl, atC ah (kU.same u1) (eN.same u1), Lx, AM, by lia, by lia, fun l2 H2 s2 h2 => ⟨_, d7 (ar.of h2), bB (fun h6 => ?_) fun _ => ?_⟩⟩
   ·have AN := s2 _ _ (ah (H := upd H1 z0 (.tup [.str "both", .str "either"])) (a := pt) (o := .tup [.str wd, x, y]))
    replace u1 := u1.trans s2
    rw [List.length_map] at h6
    refine ⟨.ref pt, C, rfl, atC AN (kU.same u1) (eN.same u1), jL, by lia, fun l3 H3 s3 h3 => ⟨l3, rfl, [_, _], aB.of h3, by simp, bB (fun h9 => ?_) fun _ => ?_⟩⟩
    ·replace u1 := u1.trans s3
     have LB := s3 _ _ AN
     have h7 := (qN (ns := [(aM C).1, (aM C).2]) (by simp)).2
     have g1 := h7 _ (.head _)
     have g2 := h7 _ (.tail _ (.head _))
     have LC : en C /\ eQ C := ⟨⟨Lz (by lia) (by lia), AM, by lia⟩, Ly⟩
     refine ⟨_, ar.of (u1 _ _ hl), fun p1 f1 => ⟨by decide, fun p2 f2 => ?_⟩⟩
     rw [Lu] at f2 ⊢
     refine ⟨_, ak f2 _ _ ah, _, ah, Nat.le_trans (show ys.length + 1 <= 45 by simp only [List.length_append, List.length_cons, List.length_nil] at hlen hx; lia) (by decide), fun p3 f3 => ?_⟩
     have u2 := u1.trans ((ak f1).trans ((ak f2).trans (ak (o := .lst (ys ++ [.ref pt])) f3)))
     have u3 : ai H3 _ := (ak f1).trans ((ak f2).trans (ak (o := .lst (ys ++ [.ref pt])) f3))
     refine ⟨p3, ys ++ [.ref pt], ss ++ [C], _, _, _, rfl, s1.trans u2, ?_, ah, (AK.imp fun x c z => z.same u2).snoc (atC (u3 _ _ LB) (kU.same u2) (eN.same u2)), fun rt h => ?_, ?_, fun _ z => by simp at z⟩
     ·exact (s1.trans (u1.trans ((ak f1).trans (ak f2)))).free f3
     ·rcases List.mem_append.mp h with h | h
      ·exact av rt (by simp [h])
      ·obtain rfl := List.mem_singleton.mp h
       exact LC
     ·simp only [List.length_append, List.length_cons, List.length_nil] at hlen ⊢
      lia
    ·exact ⟨l, _, _, _, _, _, rfl, s1.trans (u1.trans s3), fl, (u1.trans s3) _ _ hl, hA.imp fun x c z => z.same (u1.trans s3), av, by lia, fun _ z => by simp at z⟩
   ·exact ⟨l, _, _, _, _, _, rfl, s1.trans (u1.trans s2), fl, (u1.trans s2) _ _ hl, hA.imp fun x c z => z.same (u1.trans s2), av, by lia, fun _ z => by simp at z⟩
 ·rintro σ H1 ⟨l, xs, bT, e1, e2, e3, rfl, s1, fl, hl, hA, av, hlen, eE⟩
  walk_at "gzn"
  exact q l xs bT H1 s1 hl hA av (by lia) (eE (by lia))
end
section
seal L2.PE L2.PS L2.aR L2.PA
variable {P : Program} {w : World} {K : PySem.W.Frag} {mg : Str -> Option Value} {base : Heap}
theorem LD {K : PySem.W.Frag} {H : Hp} {Q : VK} {x : Str} (q : Q (.bl true) H) : fH K (.str x) (.ty "str") H Q := ⟨_, _, cI.str x, (fun z => nomatch z), qt, q⟩
inductive LF (vs : List V) (H : Hp) (Q : VK) (aI : XK) : Prop
 | mk (x : PySem.Str) (_ : vs = [.str x, .str x]) (_ : Q (.bl true) H)
theorem ng (T : Tx w K mg) : Ok P w base 1 T.mI LF := by
 refine cE uT ?_
 rintro _ _ _ _ _ _ _ _ _ ⟨x, rfl, q⟩
 refine ⟨_, (ao (ax (lW (cQ Ea (by rfl) T.HE D7 (ae (aa 0) (ae (Ck (v := .ty "str") rfl T.fQ fG rfl) af))) (jN (jS nK (aa 0) (aa 1) (eV _)))))), ?_⟩
 walk_at "gzn"
 refine LD ?_
 walk_at "gzn"
 exact ⟨rfl, q⟩
end
section
seal L2.PE L2.PS L2.aR L2.PA
variable {P : Program} {w : World} {K : PySem.W.Frag} {mg : Str -> Option Value} {base : Heap}
def LG (H : Hp) (a l e : Addr) (_ : Nat) (σ : St) (H1 : Hp) : Prop := (∃ e1 e2 e3 e4, σ = [some (.ref a), some (.ref l), some (.ref e), e1, e2, e3, e4]) /\ ai H H1
inductive pI (K : PySem.W.Frag) (vs : List V) (H : Hp) (Q : VK) (aI : XK) : Prop
 | mk (a : Addr) (ns : List Int) (_ : vs = [.ref a]) (_ : ar K H a (ns.map V.int)) (_ : gH ns) (_ : ∀ H', Q (.bl true) H')
theorem LH (T : Tx w K mg) : Ok P w base 143 T.jx (pI K) := by
 refine cE fP ?_
 rintro _ _ _ s H _ Q _ hr ⟨a, ns, rfl, hS, hn, q⟩
 refine ⟨_, (au (aU 1 fP.nd (aL (Lw T) hr (ae (aa 0) (ae (aL (Lf T) hr (ae (aa 0) af)) (ae (aC br ag (cQ (CU rfl) (by rfl) T.HF D6 (ae (cQ dP (by rfl) T.dX dS (ae (aa 0) af)) (ae ag af)))) af))))) (au (E1 (i := 2) (cO [] []) rfl fP.nd rfl rfl (nF (aa 1)) (fun C s2 H2 ex pn => ⟨i5, (aL (AF T 64) hr (ae (aa 0) af))⟩)) (au (jP PassesOwn.never rfl (Fj rfl T.HG (ae (aa 1) (ae (aa 2) af))) (Cu rfl (vS (jl 3 fP.nd) (vS (jl 4 fP.nd) Ct))) (au (aU 5 fP.nd (dG PySem.F.plainAttrs_str PySem.F.slot_str_join PySem.F.type_str_join lY aD (ae (aL (m8 T 128) hr (ae (aa 3) af)) af))) (au (aU 6 fP.nd (aL (Lb T) hr (ae (aa 5) af))) (au (aK (PW.pt (eR (iL (jk (aL (ng T) hr (ae (aL (vd T) hr (ae (aa 4) af)) (ae (aa 5) af))))) (fX (iL (jk (aL (ng T) hr (ae (aL (vd T) hr (ae (aa 6) af)) (ae (aa 5) af)))))))) (ao (ax pN)) aO) (ao (aK (PW.pt (eR (iL (jk (aL (ng T) hr (ae (dq (fun x H Q h => vc T 64 hr (by decide) x H Q h) (aa 4)) (ae (aa 5) af))))) (fX (iL (jk (aL (ng T) hr (ae (dq (fun x H Q h => vc T 64 hr (by decide) x H Q h) (aa 6)) (ae (aa 5) af)))))))) (ao (ax pN)) aO)))))) (ao (ax (aL (ng T) hr (ae (aL (vd T) hr (ae (aq (aa 2) ag) af)) (ae (dG PySem.F.plainAttrs_str PySem.F.slot_str_join PySem.F.type_str_join lY aD (ae (aL (m8 T 128) hr (ae (aq (aa 1) ag) af)) af)) af)))))))), ?_⟩
 refine bg (fun σ H1 => ∃ l xs bT, σ = [some (.ref a), some (.ref l), none, none, none, none, none] /\ ai H H1 /\ H1 l = some (.lst xs) /\ aA (bE H1) xs bT /\ (∀ rt ∈ bT, en rt /\ eQ rt) /\ bT.length <= 44 /\ bT ≠ []) (fun N hN => ?_) ?_
 ·walk_at "gzn"
  refine ⟨a, ns, rfl, hS, hn, fun b H1 s1 b0 b1 => ?_⟩
  walk_at "gzn"
  refine ⟨_, d7 (s1.seq hS), ?_⟩
  rw [List.length_map]
  exact ⟨a, ns, b, _, rfl, s1.seq hS, hn, b0, b1, by split <;> lia, by split <;> lia, fun l xs bT H2 s2 hl hA av AO eE => hN _ _ ⟨l, xs, bT, rfl, s1.trans s2, hl, hA, av, AO, eE⟩⟩
 rintro σ H1 ⟨l, xs, bT, rfl, s1, hl, hA, av, AO, eE⟩
 have hx := hA.len
 have LI : (xs.length : Nat) <= 44 := by lia
 refine bg (fun σ H2 => ∃ e zs, σ = [some (.ref a), some (.ref l), some (.ref e), none, none, none, none] /\ ai H1 H2 /\ H2 e = some (.lst zs) /\ aA (bA T H2) zs bT) (fun N hN => ?_) ?_
 ·walk_at "gzn"
  refine ⟨⟨_, ar.of hl⟩, ja qI (Nat.le_trans LI (by decide)) (jc (R := bE) (R' := bA T) (f := fun rt => rt) (fun _ _ _ _ s h => h.same s) (fun _ _ _ _ s h => h.same s) hA (bs := []) trivial (fun H' s' => ar.of (s' _ _ hl)) (fun x rt _ H3 s3 h1 Q h => h) (fun x rt hm H3 s3 h1 Q h => ?_) fun H3 zs s3 hz => ?_)⟩
  ·walk_at "gzn"
   have hh := fw rt
   obtain ⟨⟨hg, hs, h6⟩, hc⟩ := av rt hm
   exact ⟨x, rt, rfl, h1, hg, by lia, by lia, fun v' H' s' hv => h _ _ s' hv⟩
  ·rw [List.nil_append, List.map_id'] at hz
   exact fun e fe => hN _ _ ⟨e, zs, rfl, s3.trans (ak fe), ah, hz.imp fun _ _ h => h.same (ak fe)⟩
 rintro σ H2 ⟨e, zs, rfl, s2, he, hB⟩
 replace hl := s2 _ _ hl
 replace hA : aA (bE H2) xs bT := hA.imp fun _ _ h => h.same s2
 have hz := hB.len
 refine bg (fun σ H3 => (∃ e1 e2 e3 e4, σ = [some (.ref a), some (.ref l), some (.ref e), e1, e2, e3, e4]) /\ ai H2 H3) (fun N hN => ?_) ?_
 ·walk_at "gzn"
  refine ⟨⟨_, ar.of hl⟩, ⟨_, ar.of he⟩, Fu (xs := xs) (ys := zs) (LG H2 a l e) ⟨⟨_, _, _, _, rfl⟩, ai.refl _⟩ (fun i σ H3 ⟨_, s3⟩ => ⟨ar.of (s3 _ _ hl), ar.of (s3 _ _ he)⟩) ?_ ?_⟩
  ·rintro i x y σ H3 p jC LJ ⟨⟨e1, e2, e3, e4, rfl⟩, s3⟩ fp
   obtain ⟨rt, hrt, hv⟩ := hA.get jC
   obtain ⟨LK, AQ, hw⟩ := hB.get LJ
   obtain rfl : rt = LK := by rw [hrt] at AQ; injection AQ
   obtain ⟨⟨hg, hs, h6⟩, hc⟩ := av rt (List.mem_of_getElem? hrt)
   have hh := fw rt
   have s4 := s3.trans (ak (o := .tup [x, y]) fp)
   have nh : en rt := ⟨hg, hs, h6⟩
   refine Fw (aB.of ah) ?_
   walk_at "gzn"
   refine ⟨rfl, x, rt, rfl, hv.same s4, fR hg, hs, by lia, by lia, fun l2 H4 s5 h5 => ⟨BL, rfl, l2, rfl, az rt, ar.of h5, m4 (iF hg hs) h6 (by decide), ?_⟩⟩
   replace s4 := s4.trans s5
   walk_at "gzn"
   refine ⟨rt, rfl, nh, hc, fun z H5 s6 iH => ?_⟩
   replace s4 := s4.trans s6
   walk_at "gzn"
   refine ⟨y, rt, rfl, hw.same s4, nh, by lia, fun H6 s7 => ?_⟩
   replace s4 := s4.trans s7
   replace iH := iH.same s7
   walk_at "gzn"
   refine ⟨bW rt, rfl, ?_⟩
   walk_at "gzn"
   refine ⟨z, rt, rfl, iH, nh, by lia, fun H7 s8 => ?_⟩
   replace s4 := s4.trans s8
   replace iH := iH.same s8
   walk_at "gzn"
   refine ⟨bW rt, rfl, ?_⟩
   walk_at "gzn"
   refine ⟨rt, hw.same s4, nh, by lia, fun H8 s9 => ?_⟩
   replace s4 := s4.trans s9
   replace iH := iH.same s9
   walk_at "gzn"
   refine ⟨bW rt, rfl, ?_⟩
   walk_at "gzn"
   refine ⟨rt, iH, nh, by lia, fun H9 LL => ?_⟩
   walk_at "gzn"
   refine ⟨bW rt, rfl, ?_⟩
   walk_at "gzn"
   exact ⟨⟨_, _, _, _, rfl⟩, s4.trans LL⟩
  ·rintro σ H3 ⟨h, s3⟩
   exact hN _ _ ⟨h, s3⟩
 rintro σ H3 ⟨⟨e1, e2, e3, e4, rfl⟩, s3⟩
 obtain ⟨rt, Nr, rfl⟩ := List.exists_cons_of_ne_nil eE
 obtain ⟨x, LM, hv⟩ := hA.at (i := 0) rfl
 obtain ⟨y, LN, hw⟩ := hB.at (i := 0) rfl
 obtain ⟨⟨hg, hs, h6⟩, hc⟩ := av rt (.head _)
 have hh := fw rt
 walk_at "gzn"
 refine cc (ar.of (s3 _ _ he)) (iW (j := 0) LN) ⟨y, rt, rfl, hw.same s3, ⟨hg, hs, h6⟩, by lia, fun H4 s4 => ?_⟩
 walk_at "gzn"
 refine ⟨rfl, cc (ar.of (s4 _ _ (s3 _ _ hl))) (iW (j := 0) LM) ⟨x, rt, rfl, (hv.same s3).same s4, fR hg, hs, by lia, by lia, fun l2 H5 s5 h5 => ⟨BL, rfl, l2, rfl, az rt, ar.of h5, m4 (iF hg hs) h6 (by decide), ?_⟩⟩⟩
 exact ⟨bW rt, rfl, q _⟩
end
theorem Fb.fp {K : PySem.W.Frag} {x q : Str} {st : Stmt} {N ps : List Str} {p : Addr -> Prop} (b : Fb K x q st p) (S : Sc N ps st) : ∃ F : Fm K x q st ps, p F.a :=
 let ⟨a, l, c, k⟩ := b; ⟨⟨_, _, f9 l c k, (f9 l c k).binds (S.b x q)⟩, a⟩
inductive FO (p : Params) : Obj -> Prop
 | mk (a0 b0 a1 b1 a2 b2 a3 b3 a4 b4 a5 b5 a6 b6 a7 b7 a8 b8 : Tok) (ep : Nat) : FO p { cls := .type "dict", data := .dict #[{ hash := PyData.keyHash p "over", key := .str "over" a0, val := .str "NNN" b0 }, { hash := PyData.keyHash p "under", key := .str "under" a1, val := .str "NNN" b1 }, { hash := PyData.keyHash p "stay", key := .str "stay" a2, val := .str "NNEE" b2 }, { hash := PyData.keyHash p "rose", key := .str "rose" a3, val := .str "NNNN" b3 }, { hash := PyData.keyHash p "pace", key := .str "pace" a4, val := .str "NNEE" b4 }, { hash := PyData.keyHash p "turn", key := .str "turn" a5, val := .str "N" b5 }, { hash := PyData.keyHash p "both", key := .str "both" a6, val := .str "RR" b6 }, { hash := PyData.keyHash p "either", key := .str "either" a7, val := .str "RR" b7 }, { hash := PyData.keyHash p "not", key := .str "not" a8, val := .str "R" b8 }] ep }
theorem LO {w : World} {K : PySem.W.Frag} {h : Heap} {mg : Str -> Option Value} {a : Value} {b : Addr} {o : Obj} (X : K.In h) (G : h.Ns mainGlobals mg) (z1 : PySem.W.nsIn K mainGlobals "FORMS" = some (some a)) (z2 : a = .ref b) (z3 : K.lookup b = some o) (z4 : FO w.params o) (z5 : (b == sysModules) = false) : Nonempty (zD w K mg) := by
 subst z2
 refine ⟨⟨b, PySem.W.mg_of X G z1, fun P => ⟨fun h' X' => ⟨z5, ?_⟩⟩⟩⟩
 obtain ⟨a0, b0, a1, b1, a2, b2, a3, b3, a4, b4, a5, b5, a6, b6, a7, b7, a8, b8, ep⟩ := z4
 have ks : ∀ (x : Str) (t : Tok), (gy P w).is (.inr x) (.str x t) = true := fun x t => vo x t
 refine ⟨[(.inr "over", .str "NNN" b0), (.inr "under", .str "NNN" b1), (.inr "stay", .str "NNEE" b2), (.inr "rose", .str "NNNN" b3), (.inr "pace", .str "NNEE" b4), (.inr "turn", .str "N" b5), (.inr "both", .str "RR" b6), (.inr "either", .str "RR" b7), (.inr "not", .str "R" b8)], ?_, _, _, _, X' _ _ z3, ⟨rfl, rfl, rfl⟩, rfl, ?_, ?_, show (FORMS.map fun x => x.1).Nodup from by decide +kernel⟩
 ·repeat' first | exact .nil | refine .cons ⟨rfl, _, rfl⟩ ?_
 ·intro e he
  have he := Array.mem_toList_iff.mpr he
  simp only [List.mem_cons, List.not_mem_nil, or_false] at he
  rcases he with rfl | rfl | rfl | rfl | rfl | rfl | rfl | rfl | rfl
  all_goals exact ⟨.inr _, ks _ _, rfl⟩
 ·repeat' first | exact .nil | refine .cons (ks _ _) rfl ?_
section
seal L2.PE L2.PS L2.aR L2.PA
variable {P : Program} {w : World} {K : PySem.W.Frag} {mg : Str -> Option Value} {base : Heap}
end
theorem LP {l : PySem.W.OpenLaw} {w : World} {K : PySem.W.Frag} {h : Heap} {mg : Str -> Option Value} {fa : Addr} (X : K.In h) (G : h.Ns mainGlobals mg) (LQ : mg "law" = some (.ref fa))
 {oY : Addr}
 {dN : Addr}
 {kB : Addr}
 {kC : Addr}
 {iA : Addr}
 {cu : Addr}
 {bj : Addr}
 {bo : Addr}
 {bp : Addr}
 {bq : Addr}
 {bc : Addr}
 {bS : Addr}
 {dv : Addr}
 {bM : Addr}
 {bN : Addr}
 {bO : Addr}
 {LR : Tok}
 {LS : Tok}
 {LU : Tok}
 {LV : Tok}
 {LW : Tok}
 {LX : Tok}
 {aF : Value} {bF : Addr} {oF : Obj}
 (LY : PySem.W.nsIn K mainGlobals "GazeError" = some (some (.ref oY)))
 (LZ : PySem.W.nsIn K mainGlobals "NoEvent" = some (some (.ref dN)))
 (L0 : PySem.W.nsIn K mainGlobals "TooMany" = some (some (.ref kB)))
 (L1 : PySem.W.nsIn K mainGlobals "NoRule" = some (some (.ref kC)))
 (L3 : PySem.W.nsIn K mainGlobals "Event" = some (some (.ref iA)))
 (L4 : PySem.W.nsIn K mainGlobals "Spanned" = some (some (.ref cu)))
 (L5 : PySem.W.nsIn K mainGlobals "Stayed" = some (some (.ref bj)))
 (L6 : PySem.W.nsIn K mainGlobals "Over" = some (some (.ref bo)))
 (L7 : PySem.W.nsIn K mainGlobals "Under" = some (some (.ref bp)))
 (L8 : PySem.W.nsIn K mainGlobals "Rose" = some (some (.ref bq)))
 (L9 : PySem.W.nsIn K mainGlobals "Paced" = some (some (.ref bc)))
 (Ma : PySem.W.nsIn K mainGlobals "Turned" = some (some (.ref bS)))
 (Mb : PySem.W.nsIn K mainGlobals "Paired" = some (some (.ref dv)))
 (Mc : PySem.W.nsIn K mainGlobals "Both" = some (some (.ref bM)))
 (Md : PySem.W.nsIn K mainGlobals "Either" = some (some (.ref bN)))
 (Me : PySem.W.nsIn K mainGlobals "Nay" = some (some (.ref bO)))
 (mj : Fb K "is_crossed" "is_crossed" rM (bK K "is_crossed"))
 (ml : Fb K "is_figures" "is_figures" rN (bK K "is_figures"))
 (mm : Fb K "is_number" "is_number" rO (bK K "is_number"))
 (mn : Fb K "is_end" "is_end" rP (bK K "is_end"))
 (mq : Fb K "is_formed" "is_formed" rQ (bK K "is_formed"))
 (mv : Fb K "end_of" "end_of" rR (bK K "end_of"))
 (mw : Fb K "shown_end" "shown_end" rS (bK K "shown_end"))
 (mx : Fb K "shown_ends" "shown_ends" rT (bK K "shown_ends"))
 (my : Fb K "outside" "outside" rV (bK K "outside"))
 (mz : Fb K "failures" "failures" rW (bK K "failures"))
 (oW : Fb K "joined" "joined" rX (bK K "joined"))
 (mB : Fb K "parts_at" "parts_at" rY (bK K "parts_at"))
 (bR : Fb K "sizes" "Event.sizes" rZ fun f => aH K iA "sizes" f /\ aH K cu "sizes" f /\ aH K bj "sizes" f /\ aH K bo "sizes" f /\ aH K bp "sizes" f /\ aH K bq "sizes" f /\ aH K bc "sizes" f /\ aH K bS "sizes" f /\ aH K dv "sizes" f)
 (ef : Fb K "__init__" "Spanned.__init__" r9 fun f => aH K cu "__init__" f /\ PySem.W.findCls K (.ref cu) (.type "type") "__init__" = some (.val (.ref f)))
 (cy : Fb K "all_at" "Spanned.all_at" sf fun f => aH K cu "all_at" f /\ aH K bj "all_at" f /\ aH K bo "all_at" f /\ aH K bp "all_at" f /\ aH K bq "all_at" f /\ aH K bc "all_at" f)
 (cF : Fb K "spelled" "Spanned.spelled" si fun f => aH K cu "spelled" f /\ aH K bj "spelled" f /\ aH K bo "spelled" f /\ aH K bp "spelled" f /\ aH K bq "spelled" f /\ aH K bc "spelled" f)
 (gQ : Fb K "__init__" "Stayed.__init__" sj (aH K bj "__init__"))
 (gR : Fb K "ways" "Stayed.ways" sk (aH K bj "ways"))
 (gT : Fb K "breaks" "Stayed.breaks" sq (aH K bj "breaks"))
 (gU : Fb K "text" "Stayed.text" sr (aH K bj "text"))
 (gW : Fb K "__init__" "Over.__init__" su (aH K bo "__init__"))
 (gX : Fb K "ways" "Over.ways" sv (aH K bo "ways"))
 (gY : Fb K "breaks" "Over.breaks" sA (aH K bo "breaks"))
 (gZ : Fb K "text" "Over.text" sC (aH K bo "text"))
 (g6 : Fb K "__init__" "Under.__init__" sD (aH K bp "__init__"))
 (g8 : Fb K "ways" "Under.ways" sE (aH K bp "ways"))
 (g9 : Fb K "breaks" "Under.breaks" sF (aH K bp "breaks"))
 (hJ : Fb K "text" "Under.text" sG (aH K bp "text"))
 (hU : Fb K "__init__" "Rose.__init__" sH (aH K bq "__init__"))
 (hV : Fb K "ways" "Rose.ways" sI (aH K bq "ways"))
 (hW : Fb K "breaks" "Rose.breaks" sJ (aH K bq "breaks"))
 (hX : Fb K "text" "Rose.text" sL (aH K bq "text"))
 (hZ : Fb K "__init__" "Paced.__init__" sM (aH K bc "__init__"))
 (gm : Fb K "all_steps" "Paced.all_steps" sN (aH K bc "all_steps"))
 (h8 : Fb K "ways" "Paced.ways" sO (aH K bc "ways"))
 (ia : Fb K "breaks" "Paced.breaks" sP (aH K bc "breaks"))
 (ib : Fb K "text" "Paced.text" sQ (aH K bc "text"))
 (ic : Fb K "__init__" "Turned.__init__" sR (aH K bS "__init__"))
 (gn : Fb K "both_steps" "Turned.both_steps" sS (aH K bS "both_steps"))
 (ie : Fb K "ways" "Turned.ways" sT (aH K bS "ways"))
 (ig : Fb K "breaks" "Turned.breaks" sU (aH K bS "breaks"))
 (ij : Fb K "text" "Turned.text" sV (aH K bS "text"))
 (eL : Fb K "__init__" "Paired.__init__" sW fun f => aH K dv "__init__" f /\ aH K bM "__init__" f /\ aH K bN "__init__" f)
 (kr : Fb K "ways" "Both.ways" sX (aH K bM "ways"))
 (ku : Fb K "breaks" "Both.breaks" sY (aH K bM "breaks"))
 (ik : Fb K "sizes" "Both.sizes" sZ (aH K bM "sizes"))
 (ip : Fb K "text" "Both.text" tf (aH K bM "text"))
 (kx : Fb K "ways" "Either.ways" tj (aH K bN "ways"))
 (ky : Fb K "breaks" "Either.breaks" tm (aH K bN "breaks"))
 (iq : Fb K "sizes" "Either.sizes" tq (aH K bN "sizes"))
 (ir : Fb K "text" "Either.text" tu (aH K bN "text"))
 (iu : Fb K "__init__" "Nay.__init__" tw (aH K bO "__init__"))
 (kz : Fb K "ways" "Nay.ways" tD (aH K bO "ways"))
 (kA : Fb K "breaks" "Nay.breaks" tE (aH K bO "breaks"))
 (iw : Fb K "sizes" "Nay.sizes" tF (aH K bO "sizes"))
 (ix : Fb K "text" "Nay.text" tG (aH K bO "text"))
 (iy : Fb K "end_at" "end_at" tH (bK K "end_at"))
 (eg : Fb K "tree_at" "tree_at" tI (bK K "tree_at"))
 (fq : Fb K "ends_as_stretch" "ends_as_stretch" tJ (bK K "ends_as_stretch"))
 (iz : Fb K "event_of_numbers" "event_of_numbers" tK (bK K "event_of_numbers"))
 (cj : Fb K "event_of" "event_of" tL (bK K "event_of"))
 (mC : Fb K "read" "read" tM (bK K "read"))
 (mD : Fb K "shown" "shown" tN (bK K "shown"))
 (mE : Fb K "_law_draw" "_law_draw" tO (bK K "_law_draw"))
 (mF : Fb K "_law_base" "_law_base" tP (bK K "_law_base"))
 (mG : Fb K "_law_leaf" "_law_leaf" tQ (bK K "_law_leaf"))
 (cG : Fb K "_law_event" "_law_event" tR (bK K "_law_event"))
 (jv : Fb K "_law_counts" "_law_counts" tS (bK K "_law_counts"))
 (jw : Fb K "_law_row" "_law_row" tT (bK K "_law_row"))
 (mH : Fb K "_law_trees" "_law_trees" tU (bK K "_law_trees"))
 (mI : Fb K "_law_same" "_law_same" tV (bK K "_law_same"))
 (jx : Fb K "law" "law" tW (bK K "law"))
 (Mf : PySem.W.nsIn K mainGlobals "all" = some none)
 (Mg : PySem.W.nsIn K mainGlobals "int" = some none)
 (Mh : PySem.W.nsIn K mainGlobals "isinstance" = some none)
 (Mi : PySem.W.nsIn K mainGlobals "len" = some none)
 (Mj : PySem.W.nsIn K mainGlobals "max" = some none)
 (Ml : PySem.W.nsIn K mainGlobals "min" = some none)
 (Mm : PySem.W.nsIn K mainGlobals "range" = some none)
 (Mn : PySem.W.nsIn K mainGlobals "str" = some none)
 (Mo : PySem.W.nsIn K mainGlobals "zip" = some none)
 (zO : aW K iA)
 (zP : aW K cu)
 (zQ : PySem.W.findIn K (.ref cu) "first" = some none)
 (zR : PySem.W.findIn K (.ref cu) "last" = some none)
 (zS : PySem.W.makesIn K cu = true) (Mp : PySem.W.keepIn K (.ref cu) = true)
 (df : aW K bj)
 (kD : PySem.W.findIn K (.ref bj) "first" = some none)
 (kE : PySem.W.findIn K (.ref bj) "last" = some none)
 (kF : PySem.W.findIn K (.ref bj) "stretch" = some none)
 (o3 : PySem.W.makesIn K bj = true) (Mq : PySem.W.keepIn K (.ref bj) = true)
 (dg : aW K bo)
 (kG : PySem.W.findIn K (.ref bo) "first" = some none)
 (kH : PySem.W.findIn K (.ref bo) "last" = some none)
 (kI : PySem.W.findIn K (.ref bo) "sill" = some none)
 (o4 : PySem.W.makesIn K bo = true) (Mr : PySem.W.keepIn K (.ref bo) = true)
 (dh : aW K bp)
 (kJ : PySem.W.findIn K (.ref bp) "first" = some none)
 (kK : PySem.W.findIn K (.ref bp) "last" = some none)
 (kL : PySem.W.findIn K (.ref bp) "sill" = some none)
 (o5 : PySem.W.makesIn K bp = true) (Ms : PySem.W.keepIn K (.ref bp) = true)
 (cv : aW K bq)
 (jy : PySem.W.findIn K (.ref bq) "first" = some none)
 (iB : PySem.W.findIn K (.ref bq) "last" = some none)
 (kM : PySem.W.findIn K (.ref bq) "low" = some none)
 (kN : PySem.W.findIn K (.ref bq) "high" = some none)
 (o6 : PySem.W.makesIn K bq = true) (Mt : PySem.W.keepIn K (.ref bq) = true)
 (dw : aW K bc)
 (mM : PySem.W.findIn K (.ref bc) "first" = some none)
 (mO : PySem.W.findIn K (.ref bc) "last" = some none)
 (mP : PySem.W.findIn K (.ref bc) "stretch" = some none)
 (o7 : PySem.W.makesIn K bc = true) (Mu : PySem.W.keepIn K (.ref bc) = true)
 (eM : aW K bS)
 (kO : PySem.W.findIn K (.ref bS) "turn" = some none)
 (o8 : PySem.W.makesIn K bS = true) (Mv : PySem.W.keepIn K (.ref bS) = true)
 (zY : aW K dv)
 (zZ : PySem.W.findIn K (.ref dv) "one" = some none)
 (z6 : PySem.W.findIn K (.ref dv) "other" = some none)
 (z7 : PySem.W.makesIn K dv = true) (Mw : PySem.W.keepIn K (.ref dv) = true)
 (gp : aW K bM)
 (mQ : PySem.W.findIn K (.ref bM) "one" = some none)
 (mR : PySem.W.findIn K (.ref bM) "other" = some none)
 (o9 : PySem.W.makesIn K bM = true) (Mx : PySem.W.keepIn K (.ref bM) = true)
 (gq : aW K bN)
 (mS : PySem.W.findIn K (.ref bN) "one" = some none)
 (mT : PySem.W.findIn K (.ref bN) "other" = some none)
 (pd : PySem.W.makesIn K bN = true) (My : PySem.W.keepIn K (.ref bN) = true)
 (jz : aW K bO)
 (mU : PySem.W.findIn K (.ref bO) "one" = some none)
 (pf : PySem.W.makesIn K bO = true) (Mz : PySem.W.keepIn K (.ref bO) = true)
 (MA : PySem.W.specialIn K (.ref cu) "__getattribute__" = some (some (.builtin "type.__getattribute__"))) (MB : PySem.W.readsIn K cu (.type "type") = true)
 (kP : XC K dN)
 (jA : XC K kC)
 (uU : XC K kB)
 (MC : PySem.W.nsIn K mainGlobals "LAST_TURN" = some (some (.int 11 LR)))
 (MD : PySem.W.nsIn K mainGlobals "FIGURES_AT_MOST" = some (some (.int 60 LS)))
 (ME : PySem.W.nsIn K mainGlobals "WORDS_AT_MOST" = some (some (.int 60 LU)))
 (MF : PySem.W.nsIn K mainGlobals "SIZE_AT_MOST" = some (some (.int 100 LV)))
 (MG : PySem.W.nsIn K mainGlobals "OPEN_END" = some (some (.str "*" LW)))
 (MH : PySem.W.nsIn K mainGlobals "FIGURES" = some (some (.str "0123456789" LX)))
 (MI : PySem.W.nsIn K mainGlobals "FORMS" = some (some aF))
 (MJ : aF = .ref bF)
 (MK : K.lookup bF = some oF)
 (ML : FO w.params oF)
 (MM : (bF == sysModules) = false)
 : ∃ fd : FuncData, (∀ (s : Shared) (v : Value), BindsTo s fd ⟨[v], []⟩ [("_law_script", v)]) /\ ∀ base : Heap, K.In base -> base.Ns mainGlobals mg -> cq l.prog w K mg base (cB l.prog w) 143 fa fd ["_law_script"] (pI K) := by
 obtain ⟨mj⟩ := mj.fn X G tX
 obtain ⟨ml⟩ := ml.fn X G tY
 obtain ⟨mm⟩ := mm.fn X G oR
 obtain ⟨mn⟩ := mn.fn X G tZ
 obtain ⟨mq⟩ := mq.fn X G t4
 obtain ⟨mv⟩ := mv.fn X G t5
 obtain ⟨mw⟩ := mw.fn X G t7
 obtain ⟨mx⟩ := mx.fn X G t8
 obtain ⟨my⟩ := my.fn X G l9
 obtain ⟨mz⟩ := mz.fn X G md
 obtain ⟨oW⟩ := oW.fn X G zw
 obtain ⟨mB⟩ := mB.fn X G t9
 obtain ⟨bR, AR, AS, AU, AV, AW, AX, AY, AZ, A0⟩ := Fb.fp bR ua
 obtain ⟨ef, A2, MN⟩ := Fb.fp ef uc
 obtain ⟨cy, A3, A4, A5, A6, A7, A8⟩ := Fb.fp cy ud
 obtain ⟨cF, A9, Ba, Bb, Bc, Be, Bf⟩ := Fb.fp cF ue
 obtain ⟨gQ, Bg⟩ := gQ.fm uf
 obtain ⟨gR, Bh⟩ := gR.fm ug
 obtain ⟨gT, Bi⟩ := gT.fm uh
 obtain ⟨gU, Bj⟩ := gU.fm ui
 obtain ⟨gW, Bk⟩ := gW.fm uj
 obtain ⟨gX, Bl⟩ := gX.fm uk
 obtain ⟨gY, Bm⟩ := gY.fm um
 obtain ⟨gZ, Bn⟩ := gZ.fm uo
 obtain ⟨g6, Bo⟩ := g6.fm uq
 obtain ⟨g8, Bp⟩ := g8.fm ur
 obtain ⟨g9, Bq⟩ := g9.fm uu
 obtain ⟨hJ, Br⟩ := hJ.fm uv
 obtain ⟨hU, Bs⟩ := hU.fm uw
 obtain ⟨hV, Bu⟩ := hV.fm km
 obtain ⟨hW, Bv⟩ := hW.fm ux
 obtain ⟨hX, Bw⟩ := hX.fm uy
 obtain ⟨hZ, Bx⟩ := hZ.fm uz
 obtain ⟨gm, By⟩ := gm.fm uA
 obtain ⟨h8, Bz⟩ := h8.fm uB
 obtain ⟨ia, BA⟩ := ia.fm uC
 obtain ⟨ib, BB⟩ := ib.fm uD
 obtain ⟨ic, BC⟩ := ic.fm uE
 obtain ⟨gn, BD⟩ := gn.fm uF
 obtain ⟨ie, BE⟩ := ie.fm uG
 obtain ⟨ig, BF⟩ := ig.fm uH
 obtain ⟨ij, BG⟩ := ij.fm uI
 obtain ⟨eL, BH, BI, BJ⟩ := Fb.fp eL uJ
 obtain ⟨kr, BK⟩ := kr.fm zx
 obtain ⟨ku, BM⟩ := ku.fm zy
 obtain ⟨ik, BN⟩ := ik.fm me
 obtain ⟨ip, BO⟩ := ip.fm uK
 obtain ⟨kx, BP⟩ := kx.fm zz
 obtain ⟨ky, BQ⟩ := ky.fm zA
 obtain ⟨iq, BR⟩ := iq.fm mf
 obtain ⟨ir, BS⟩ := ir.fm uL
 obtain ⟨iu, BU⟩ := iu.fm uM
 obtain ⟨kz, BV⟩ := kz.fm zB
 obtain ⟨kA, BW⟩ := kA.fm zC
 obtain ⟨iw, BX⟩ := iw.fm oU
 obtain ⟨ix, BY⟩ := ix.fm uN
 obtain ⟨iy⟩ := iy.fn X G uO
 obtain ⟨eg⟩ := eg.fn X G fO
 obtain ⟨fq⟩ := fq.fn X G uP
 obtain ⟨iz⟩ := iz.fn X G uQ
 obtain ⟨cj⟩ := cj.fn X G ko
 obtain ⟨mC⟩ := mC.fn X G mh
 obtain ⟨mD⟩ := mD.fn X G uR
 obtain ⟨mE⟩ := mE.fn X G uS
 obtain ⟨mF⟩ := mF.fn X G oV
 obtain ⟨mG⟩ := mG.fn X G ed
 obtain ⟨cG⟩ := cG.fn X G mi
 obtain ⟨jv⟩ := jv.fn X G gk
 obtain ⟨jw⟩ := jw.fn X G kq
 obtain ⟨mH⟩ := mH.fn X G gP
 obtain ⟨mI⟩ := mI.fn X G uT
 obtain ⟨jx⟩ := jx.fn X G fP
 obtain ⟨hforms⟩ := LO X G MI MJ MK ML MM
 cases LQ.symm.trans jx.m
 exact ⟨_, jx.bt fP, fun _ _ _ => LH (⟨mj, ml, mm, mn, mq, mv, mw, mx, my, mz, oW, mB, bR, ef, cy, cF, gQ, gR, gT, gU, gW, gX, gY, gZ, g6, g8, g9, hJ, hU, hV, hW, hX, hZ, gm, h8, ia, ib, ic, gn, ie, ig, ij, eL, kr, ku, ik, ip, kx, ky, iq, ir, iu, kz, kA, iw, ix, iy, eg, fq, iz, cj, mC, mD, mE, mF, mG, cG, jv, jw, mH, mI, jx, PySem.W.mg_none_of X G Mf, PySem.W.mg_none_of X G Mg, PySem.W.mg_none_of X G Mh, PySem.W.mg_none_of X G Mi, PySem.W.mg_none_of X G Mj, PySem.W.mg_none_of X G Ml, PySem.W.mg_none_of X G Mm, PySem.W.mg_none_of X G Mn, PySem.W.mg_none_of X G Mo, oY, PySem.W.mg_of X G LY, dN, PySem.W.mg_of X G LZ, kB, PySem.W.mg_of X G L0, kC, PySem.W.mg_of X G L1, iA, PySem.W.mg_of X G L3, cu, PySem.W.mg_of X G L4, bj, PySem.W.mg_of X G L5, bo, PySem.W.mg_of X G L6, bp, PySem.W.mg_of X G L7, bq, PySem.W.mg_of X G L8, bc, PySem.W.mg_of X G L9, bS, PySem.W.mg_of X G Ma, dv, PySem.W.mg_of X G Mb, bM, PySem.W.mg_of X G Mc, bN, PySem.W.mg_of X G Md, bO, PySem.W.mg_of X G Me, zO, ⟨AR.1, AR.2, bR.F.kp⟩, zP, zQ, zR, ⟨AS.1, AS.2, bR.F.kp⟩, ⟨zS, A2.1, A2.2, Mp⟩, ⟨A3.1, A3.2, cy.F.kp⟩, ⟨A9.1, A9.2, cF.F.kp⟩, df, kD, kE, kF, ⟨AU.1, AU.2, bR.F.kp⟩, ⟨o3, Bg.1, Bg.2, Mq⟩, ⟨A4.1, A4.2, cy.F.kp⟩, ⟨Ba.1, Ba.2, cF.F.kp⟩, ⟨Bh.1, Bh.2, gR.F.kp⟩, ⟨Bi.1, Bi.2, gT.F.kp⟩, ⟨Bj.1, Bj.2, gU.F.kp⟩, dg, kG, kH, kI, ⟨AV.1, AV.2, bR.F.kp⟩, ⟨o4, Bk.1, Bk.2, Mr⟩, ⟨A5.1, A5.2, cy.F.kp⟩, ⟨Bb.1, Bb.2, cF.F.kp⟩, ⟨Bl.1, Bl.2, gX.F.kp⟩, ⟨Bm.1, Bm.2, gY.F.kp⟩, ⟨Bn.1, Bn.2, gZ.F.kp⟩, dh, kJ, kK, kL, ⟨AW.1, AW.2, bR.F.kp⟩, ⟨o5, Bo.1, Bo.2, Ms⟩, ⟨A6.1, A6.2, cy.F.kp⟩, ⟨Bc.1, Bc.2, cF.F.kp⟩, ⟨Bp.1, Bp.2, g8.F.kp⟩, ⟨Bq.1, Bq.2, g9.F.kp⟩, ⟨Br.1, Br.2, hJ.F.kp⟩, cv, jy, iB, kM, kN, ⟨AX.1, AX.2, bR.F.kp⟩, ⟨o6, Bs.1, Bs.2, Mt⟩, ⟨A7.1, A7.2, cy.F.kp⟩, ⟨Be.1, Be.2, cF.F.kp⟩, ⟨Bu.1, Bu.2, hV.F.kp⟩, ⟨Bv.1, Bv.2, hW.F.kp⟩, ⟨Bw.1, Bw.2, hX.F.kp⟩, dw, mM, mO, mP, ⟨AY.1, AY.2, bR.F.kp⟩, ⟨o7, Bx.1, Bx.2, Mu⟩, ⟨A8.1, A8.2, cy.F.kp⟩, ⟨Bf.1, Bf.2, cF.F.kp⟩, ⟨Bz.1, Bz.2, h8.F.kp⟩, ⟨BA.1, BA.2, ia.F.kp⟩, ⟨BB.1, BB.2, ib.F.kp⟩, ⟨By.1, By.2, gm.F.kp⟩, eM, kO, ⟨AZ.1, AZ.2, bR.F.kp⟩, ⟨o8, BC.1, BC.2, Mv⟩, ⟨BE.1, BE.2, ie.F.kp⟩, ⟨BF.1, BF.2, ig.F.kp⟩, ⟨BG.1, BG.2, ij.F.kp⟩, ⟨BD.1, BD.2, gn.F.kp⟩, zY, zZ, z6, ⟨A0.1, A0.2, bR.F.kp⟩, ⟨z7, BH.1, BH.2, Mw⟩, gp, mQ, mR, ⟨BN.1, BN.2, ik.F.kp⟩, ⟨o9, BI.1, BI.2, Mx⟩, ⟨BK.1, BK.2, kr.F.kp⟩, ⟨BM.1, BM.2, ku.F.kp⟩, ⟨BO.1, BO.2, ip.F.kp⟩, gq, mS, mT, ⟨BR.1, BR.2, iq.F.kp⟩, ⟨pd, BJ.1, BJ.2, My⟩, ⟨BP.1, BP.2, kx.F.kp⟩, ⟨BQ.1, BQ.2, ky.F.kp⟩, ⟨BS.1, BS.2, ir.F.kp⟩, jz, mU, ⟨BX.1, BX.2, iw.F.kp⟩, ⟨pf, BU.1, BU.2, Mz⟩, ⟨BV.1, BV.2, kz.F.kp⟩, ⟨BW.1, BW.2, kA.F.kp⟩, ⟨BY.1, BY.2, ix.F.kp⟩, ⟨MA, MB, MN, ef.F.kp⟩, kP, jA, uU, ⟨_, PySem.W.mg_of X G MC⟩, ⟨_, PySem.W.mg_of X G MD⟩, ⟨_, PySem.W.mg_of X G ME⟩, ⟨_, PySem.W.mg_of X G MF⟩, ⟨_, PySem.W.mg_of X G MG⟩, ⟨_, PySem.W.mg_of X G MH⟩, hforms⟩ : Tx w K mg)⟩
theorem walk {l : PySem.W.OpenLaw} {q : Program} {loose : List Str} {XP : (Str -> Option Value) -> Heap -> Prop} {YP : World -> Heap -> Prop} {d : DefRec} {K : Params -> PySem.W.Frag} (hn : l.most = some 63) (MO : d.params.defaults = [])
 (hY : ∀ (w : World) (h : Heap), YP w h -> (K w.params).In h)
 (F : ∀ (w : World) (mg : Str -> Option Value) (fa : Addr) (h : Heap), (K w.params).In h -> h.Ns mainGlobals mg -> mg d.name = some (.ref fa) ->
   ∃ fd : FuncData, (∀ (s : Shared) (u : Value), BindsTo s fd ⟨[u], []⟩ [("_law_script", u)]) /\ ∀ base : Heap, (K w.params).In base -> base.Ns mainGlobals mg -> cq l.prog w (K w.params) mg base (cB l.prog w) 143 fa fd ["_law_script"] (pI (K w.params))) :
 PySem.W.WalkO q loose XP YP l.row.toRowW d [] (fun f vs => PySem.call f vs) :=
 Gz.FT (k := 143) (x := "_law_script") (CX := fun w => cB l.prog w) (sp := fun w => pI (K w.params)) hn MO ⟨rfl, by decide, by decide⟩ hY F (fun _ _ a ns hl hS => ⟨a, ns, rfl, hS, hl, fun _ => rfl⟩) fun _ _ _ _ _ z => Eh z
end oQ
local macro_rules | `(tactic| walk_at "gzin") => `(tactic| first | (show _ = _; k_is) | (refine' And.intro ?y7 ?y8; (case y7 => walk_at "gzin"); (case y8 => walk_at "gzin")))
local macro_rules | `(tactic| walk_at "gzfb") => `(tactic| (refine' Gz.Fb.mk ?y1 ?y2 ?y3 ?y4; (case y1 => first | (show _ = _; k_is) | (refine' ⟨?y5, ?y6⟩; (case y5 => k_is); (case y6 => k_is))); (case y2 => k_is); (case y3 => k_is); (case y4 => k_is)))
local macro_rules | `(tactic| walk_at "gzfi") => `(tactic| (refine' Gz.Fb.mk ?y1 ?y2 ?y3 ?y4; (case y1 => walk_at "gzin"); (case y2 => k_is); (case y3 => k_is); (case y4 => k_is)))
local macro_rules | `(tactic| walk_at "gzcl") => `(tactic| (refine' L2.aW.mk ?_ ?_ ?_ ?_ <;> k_is))
local macro_rules | `(tactic| walk_at "gzxc") => `(tactic| (refine' Gz.XC.mk ?y1 ?y2 ?y3 ?y4 ?y5 ?y6; (case y1 => k_exc); (case y2 => k_is); (case y3 => k_is); (case y4 => k_is); (case y5 => k_is); (case y6 => k_is)))
namespace PySem.W.Fast
theorem tw10665493671332068929:True:=⟨⟩
theorem tw18226028043891753734:True:=⟨⟩
theorem tw11638756528023112975:True:=⟨⟩
theorem tw13955784367883300192:True:=⟨⟩
theorem tw11675319399651552318:True:=⟨⟩
theorem tw12679756355717600533:True:=⟨⟩
theorem tw12147278129528996712:True:=⟨⟩
theorem tw4666873366339054644:True:=⟨⟩
theorem tw8073978363654439951:True:=⟨⟩
theorem tw10345769186120798513:True:=⟨⟩
theorem tw8641432497628100934:True:=⟨⟩
theorem tw13987470818511530045:True:=⟨⟩
theorem tw16156750731160836799:True:=⟨⟩
theorem tw12089235764100975699:True:=⟨⟩
theorem tw134394785277021449:True:=⟨⟩
theorem tw351392920372976733:True:=⟨⟩
theorem tw16980496408671125813:True:=⟨⟩
theorem tw9491393314251388496:True:=⟨⟩
theorem tw951826046654356815:True:=⟨⟩
theorem tw14128474403773728201:True:=⟨⟩
theorem tw2936646645012169233:True:=⟨⟩
theorem tw3185572653360987331:True:=⟨⟩
theorem tw11253196487079853381:True:=⟨⟩
theorem tw11904410325331655972:True:=⟨⟩
theorem tw9006378461681054522:True:=⟨⟩
theorem tw5824430900535992601:True:=⟨⟩
theorem tw17364105253735804161:True:=⟨⟩
theorem tw1020439087877481767:True:=⟨⟩
theorem tw18124191953352036889:True:=⟨⟩
theorem tw14095414717759196617:True:=⟨⟩
theorem tw10766309583042556473:True:=⟨⟩
theorem tw12701223756816200053:True:=⟨⟩
theorem tw13309150361244671609:True:=⟨⟩
theorem tw18145806233084752376:True:=⟨⟩
theorem tw15897874112562519640:True:=⟨⟩
theorem tw11894245644856833829:True:=⟨⟩
theorem tw7640048208064989499:True:=⟨⟩
theorem tw10262900779131049401:True:=⟨⟩
theorem tw16851666795300543898:True:=⟨⟩
theorem tw6643210580905742034:True:=⟨⟩
theorem tw7843491824798571214:True:=⟨⟩
theorem tw2186000605558908276:True:=⟨⟩
theorem tw944560660740881502:True:=⟨⟩
theorem tw15987873599492188532:True:=⟨⟩
theorem tw12359449947888610397:True:=⟨⟩
theorem tw3855187146757105630:True:=⟨⟩
theorem tw16350623139761024822:True:=⟨⟩
theorem tw11798976744435898441:True:=⟨⟩
theorem tw5396467404818886869:True:=⟨⟩
theorem tw16141951244804649338:True:=⟨⟩
theorem tw3488036548112704129:True:=⟨⟩
theorem tw7290818235267989865:True:=⟨⟩
theorem tw16501591829485328561:True:=⟨⟩
theorem tw8680613394427649862:True:=⟨⟩
theorem tw6379447096074988795:True:=⟨⟩
theorem tw8979480542328374750:True:=⟨⟩
theorem tw16914604358081890079:True:=⟨⟩
theorem tw14988836887431761603:True:=⟨⟩
theorem tw2986110103698732524:True:=⟨⟩
theorem tw7804604799851767239:True:=⟨⟩
end PySem.W.Fast
open PySem PySem.W PyProof.Rows
set_option maxRecDepth 100000 in
set_option maxHeartbeats 0 in
theorem PySem.Challenge.cw_gaze_k71_rules_shown_holds : PySem.Challenge.rw_gaze_k71_rules_shown.Holds := by
 w_on; o_law; k_head; (case hw => w_witness2)
 k_fill
 refine oQ.walk (l := PySem.Challenge.rw_gaze_k71_rules_shown) rfl rfl (fun w h Y => PySem.W.kIn_of Y) ?F
 case F =>
  intro w mg fa h KX G MP
  refine' oQ.LP KX G MP ?_ ?_ ?_ ?_ ?_ ?_ ?_ ?_ ?_ ?_ ?_ ?_ ?_ ?_ ?_ ?_ ?_ ?_ ?_ ?_ ?_ ?_ ?_ ?_ ?_ ?_ ?_ ?_ ?_ ?_ ?_ ?_ ?_ ?_ ?_ ?_ ?_ ?_ ?_ ?_ ?_ ?_ ?_ ?_ ?_ ?_ ?_ ?_ ?_ ?_ ?_ ?_ ?_ ?_ ?_ ?_ ?_ ?_ ?_ ?_ ?_ ?_ ?_ ?_ ?_ ?_ ?_ ?_ ?_ ?_ ?_ ?_ ?_ ?_ ?_ ?_ ?_ ?_ ?_ ?_ ?_ ?_ ?_ ?_ ?_ ?_ ?_ ?_ ?_ ?_ ?_ ?_ ?_ ?_ ?_ ?_ ?_ ?_ ?_ ?_ ?_ ?_ ?_ ?_ ?_ ?_ ?_ ?_ ?_ ?_ ?_ ?_ ?_ ?_ ?_ ?_ ?_ ?_ ?_ ?_ ?_ ?_ ?_ ?_ ?_ ?_ ?_ ?_ ?_ ?_ ?_ ?_ ?_ ?_ ?_ ?_ ?_ ?_ ?_ ?_ ?_ ?_ ?_ ?_ ?_ ?_ ?_ ?_ ?_ ?_ ?_ ?_ ?_ ?_ ?_ ?_ ?_ ?_ ?_ ?_ ?_ ?_ ?_ ?_ ?_ ?_ ?_ ?_ ?_ ?_ ?_ ?_ ?_
  rotate_left 25
  iterate 16 k_is
  iterate 12 walk_at "gzfb"
  iterate 4 walk_at "gzfi"
  iterate 26 walk_at "gzfb"
  walk_at "gzfi"
  iterate 29 walk_at "gzfb"
  iterate 9 k_is
  iterate 2 walk_at "gzcl"
  iterate 4 k_is
  walk_at "gzcl"
  iterate 5 k_is
  walk_at "gzcl"
  iterate 5 k_is
  walk_at "gzcl"
  iterate 5 k_is
  walk_at "gzcl"
  iterate 6 k_is
  walk_at "gzcl"
  iterate 5 k_is
  walk_at "gzcl"
  iterate 3 k_is
  walk_at "gzcl"
  iterate 4 k_is
  walk_at "gzcl"
  iterate 4 k_is
  walk_at "gzcl"
  iterate 4 k_is
  walk_at "gzcl"
  iterate 5 k_is
  iterate 3 walk_at "gzxc"
  iterate 7 k_is
  rfl
  k_is
  exact oQ.FO.mk ..
  rfl
#print axioms PySem.Challenge.cw_gaze_k71_rules_shown_holds
