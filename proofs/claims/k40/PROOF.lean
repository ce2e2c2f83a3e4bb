import PyProof.Rows.All
import Wide.All
import OpenK.AllK
import Wide.FinOn
import Lean
import PyProof.EqAt
import PyProof.EqKinds
import PyProof.TupleCall
import KE.KSortAsk
import KE.KSortTup
import KE.KRevIter
import KE.LcSums
import KE.KDictSum
import KE.KDictList
import PyProof.AttrMissHeap
import PySem.Challenge.RW_gaze_k40_liars_and_fits
set_option Elab.async false
set_option linter.all false
set_option maxRecDepth 100000
set_option maxHeartbeats 4000000
set_option exponentiation.threshold 2000
namespace L2
open PySem PySem.Spec PyProof.Rows
abbrev Key := Sum Int Str
def keyIs : Key → Value → Bool
 | .inl k, v => Value.isInt k v
 | .inr x, v => Value.isStrOf x v
def keyH (w : World) : Key → Int
 | .inl k => hashInt k
 | .inr x => hashStr w x
theorem keyIs_shape : ∀ {k : Key} {v : Value}, keyIs k v = true → (∃ i t, k = Sum.inl i ∧ v = Value.int i t) ∨ (∃ x t, k = Sum.inr x ∧ v = Value.str x t)
 | .inl i, v, h => by
  obtain ⟨t, e⟩ := Value.isInt_shape (k := i) (v := v) h
  exact .inl ⟨i, t, rfl, e⟩
 | .inr x, v, h => by
  obtain ⟨t, e⟩ := Value.isStrOf_shape (x := x) (v := v) h
  exact .inr ⟨x, t, rfl, e⟩
theorem keyIs_int (i : Int) (t : Tok) : keyIs (.inl i) (.int i t) = true := by simp [keyIs, Value.isInt]
theorem keyIs_str (x : Str) (t : Tok) : keyIs (.inr x) (.str x t) = true := by simp [keyIs, Value.isStrOf]
theorem key_ll (a b : Int) : decide ((Sum.inl a : Key) = Sum.inl b) = (a == b) := by
 by_cases e : a = b
 ·subst e; simp
 ·have h : ¬ (Sum.inl a : Key) = Sum.inl b := fun q => e (Sum.inl.inj q)
  rw [decide_eq_false h]
  exact (beq_eq_false_iff_ne.mpr e).symm
theorem key_rr (a b : Str) : decide ((Sum.inr a : Key) = Sum.inr b) = decide (a = b) := by
 by_cases e : a = b
 ·subst e; simp
 ·have h : ¬ (Sum.inr a : Key) = Sum.inr b := fun q => e (Sum.inr.inj q)
  rw [decide_eq_false h, decide_eq_false e]
theorem key_lr (a : Int) (b : Str) : decide ((Sum.inl a : Key) = Sum.inr b) = false := decide_eq_false (fun q => nomatch q)
theorem key_rl (a : Str) (b : Int) : decide ((Sum.inr a : Key) = Sum.inl b) = false := decide_eq_false (fun q => nomatch q)
def mixKind (prog : Program) (w : World) : PySem.KeyKind prog w Key where
 is := keyIs
 hash := keyH w
 inj := fun v a b ha hb => by
  rcases keyIs_shape ha with ⟨i, t, rfl, rfl⟩ | ⟨x, t, rfl, rfl⟩
  ·rcases keyIs_shape hb with ⟨j, u, rfl, e⟩ | ⟨y, u, rfl, e⟩
   ·injection e with e1 _; rw [e1]
   ·exact nomatch e
  ·rcases keyIs_shape hb with ⟨j, u, rfl, e⟩ | ⟨y, u, rfl, e⟩
   ·exact nomatch e
   ·injection e with e1 _; rw [e1]
 byValue := fun k v h => by
  rcases keyIs_shape h with ⟨i, t, rfl, rfl⟩ | ⟨x, t, rfl, rfl⟩ <;> rfl
 pyHash := fun hv h => by
  rcases keyIs_shape hv with ⟨i, t, rfl, rfl⟩ | ⟨x, t, rfl, rfl⟩
  ·exact wpAny_pyHash_int h
  ·exact wpAny_pyHash_str h
 eqBool := fun hu hv h => by
  rcases keyIs_shape hu with ⟨i, t, rfl, rfl⟩ | ⟨x, t, rfl, rfl⟩
  ·rcases keyIs_shape hv with ⟨j, u, rfl, rfl⟩ | ⟨y, u, rfl, rfl⟩
   ·rw [key_ll] at h; exact wpAny_eqBool_int h
   ·rw [key_lr] at h; exact SeqAt.EqAt.int_str i t y u _ _ _ _ h
  ·rcases keyIs_shape hv with ⟨j, u, rfl, rfl⟩ | ⟨y, u, rfl, rfl⟩
   ·rw [key_rl] at h; exact SeqAt.EqAt.str_int x t j u _ _ _ _ h
   ·rw [key_rr] at h; exact wpAny_eqBool_str h
 «strs» := fun k x t v h => by
  rcases keyIs_shape h with ⟨i, u, rfl, e⟩ | ⟨y, u, rfl, e⟩
  ·exact nomatch e
  ·injection e with e1 _
   subst e1
   cases v <;> rfl
theorem mixKind_int (prog : Program) (w : World) (i : Int) (t : Tok) : (mixKind prog w).is (.inl i) (.int i t) = true := keyIs_int i t
theorem mixKind_str (prog : Program) (w : World) (x : Str) (t : Tok) : (mixKind prog w).is (.inr x) (.str x t) = true := keyIs_str x t
end L2
namespace L2
open PySem PySem.Spec PyProof.Rows
inductive V where
 | non | bl (b : Bool) | int (i : Int) | str (x : Str) | byt (b : Array UInt8) | flt (b : UInt64) | ref (a : Addr) | ty (n : String)
 deriving DecidableEq
def RelV : V → Value → Prop
 | .non, u => u = Value.none
 | .bl b, u => u = Value.bool b
 | .int i, u => ∃ t, u = Value.int i t
 | .str x, u => ∃ t, u = Value.str x t
 | .byt b, u => ∃ t, u = Value.bytes b t
 | .flt b, u => ∃ t, u = Value.float b t
 | .ref a, u => u = Value.ref a
 | .ty n, u => u = Value.type n
abbrev Vals : List V → List Value → Prop := Paired RelV
theorem Vals.length {xs : List V} {us : List Value} (r : Vals xs us) : xs.length = us.length := Paired.length r
theorem Vals.get : ∀ {xs : List V} {us : List Value} {i : Nat} {x : V}, Vals xs us → xs[i]? = some x → ∃ u, us[i]? = some u ∧ RelV x u
 | _, _, _, _, .nil, e => by simp at e
 | _, _, 0, _, .cons r _, e => by simp at e; subst e; exact ⟨_, rfl, r⟩
 | _, _, i + 1, x, .cons _ t, e => by
  obtain ⟨u, h1, h2⟩ := Vals.get (i := i) (x := x) t (by simpa using e)
  exact ⟨u, by simpa using h1, h2⟩
theorem Vals.set {x : V} {u : Value} (r : RelV x u) : ∀ {xs : List V} {us : List Value} (i : Nat), Vals xs us → Vals (xs.set i x) (us.set i u)
 | _, _, _, .nil => .nil
 | _, _, 0, .cons _ t => .cons r t
 | _, _, i + 1, .cons q t => .cons q (Vals.set r i t)
theorem Vals.append : ∀ {xs ys : List V} {us ws : List Value}, Vals xs us → Vals ys ws → Vals (xs ++ ys) (us ++ ws)
 | _, _, _, _, .nil, s => s
 | _, _, _, _, .cons r t, s => .cons r (Vals.append t s)
theorem Vals.take : ∀ {xs : List V} {us : List Value} (n : Nat), Vals xs us → Vals (xs.take n) (us.take n)
 | _, _, 0, _ => .nil
 | _, _, _ + 1, .nil => .nil
 | _, _, n + 1, .cons r t => .cons r (Vals.take n t)
theorem Vals.drop : ∀ {xs : List V} {us : List Value} (n : Nat), Vals xs us → Vals (xs.drop n) (us.drop n)
 | _, _, 0, r => r
 | _, _, _ + 1, .nil => .nil
 | _, _, n + 1, .cons _ t => Vals.drop n t
def RelO : Option V → Option Value → Prop
 | some v, some u => RelV v u
 | none, none => True
 | _, _ => False
def KV {κ : Type} : List (κ × V) → List (κ × Value) → Prop := Paired fun (p : κ × V) (q : κ × Value) => p.1 = q.1 ∧ RelV p.2 q.2
def kV : Key → V
 | .inl i => .int i
 | .inr x => .str x
inductive HO where
 | lst (xs : List V)
 | tup (xs : List V)
 | dK (kvs : List (Key × V)) | dT (kvs : List (List Key × V))
 | set (S : Int → Bool) (n : Nat)
 | ins (C dx : Addr) (fs : List (Str × V))
 | own (x : Addr)
 | xd (fs : List (Str × V))
 | met (f x : Addr)
 | rng (lo hi : Int)
 | frz (o : Obj) (u : HO)
 | tbl (ps : Array Value)
 | ext (φ : Heap → Prop)
abbrev Hp := Addr → Option HO
def upd (H : Hp) (a : Addr) (o : HO) : Hp := fun b => if b = a then some o else H b
theorem upd_same {H : Hp} {a : Addr} {o : HO} : upd H a o a = some o := by unfold upd; rw [if_pos rfl]
theorem upd_ne {H : Hp} {a b : Addr} {o : HO} (h : b ≠ a) : upd H a o b = H b := by unfold upd; rw [if_neg h]
theorem upd_upd {H : Hp} {a : Addr} {o u : HO} : upd (upd H a o) a u = upd H a u := by
 funext b; unfold upd; split <;> rfl
theorem ne_of {H : Hp} {a b : Addr} {o u : HO} (h : H a = some o) (h' : H b = some u) (d : o ≠ u) : a ≠ b := by
 intro e; subst e; rw [h] at h'; exact d (Option.some.inj h')
theorem ne_of_none {H : Hp} {a b : Addr} {o : HO} (h : H a = some o) (h' : H b = none) : a ≠ b := by
 intro e; subst e; rw [h] at h'; cases h'
section
variable (P : Program) (w : World)
def ObjOk (H : Hp) (h : Heap) (a : Addr) : HO → Prop
 | .lst xs => xs.length ≤ sizeLine ∧ ∃ (its : List Value) (n : Nat), Vals xs its ∧ h.get? a = some { cls := .type "list", data := .seq its.toArray n }
 | .tup xs => xs.length ≤ sizeLine ∧ ∃ its : List Value, Vals xs its ∧ IsTup h a its.toArray
 | .dK kvs => kvs.length ≤ sizeLine ∧ (a == sysModules) = false ∧ ∃ vs, KV kvs vs ∧ h.DictOf (mixKind P w) a vs
 | .dT kvs => kvs.length ≤ sizeLine ∧ (a == sysModules) = false ∧ ∃ xs : List (List Key × Addr × Value),
  Paired (fun (p : List Key × V) (q : List Key × Addr × Value) => p.1 = q.1 ∧ H q.2.1 = some (.tup (p.1.map kV)) ∧ RelV p.2 q.2.2) kvs xs ∧
  ∃ o es ep, h.get? a = some o ∧ o.ExactDict ∧ o.data = .dict es ep ∧ es.toList = xs.map (entryOfKey (tupleKind (mixKind P w))) ∧ (xs.map (·.1)).Nodup
 | .set S n => h.SetOf (intKind P w) a S n
 | .ins C dx fs => H dx = some (.own a) ∧ fs.length ≤ 1000 ∧ dx ≠ a ∧ h.get? a = some (PySem.W.instObj C dx) ∧
  ∃ mA, h.Ns1 dx mA ∧ (∀ f, RelO (fs.lookup f) (mA f)) ∧ PySem.Within mA (fs.map (·.1))
 | .own _ => ∃ o, h.get? a = some o
 | .xd fs => ∃ mA, h.Ns1 a mA ∧ ∀ f, RelO (fs.lookup f) (mA f)
 | .rng lo hi => ∃ t u v, h.get? a = some { cls := .type "range", data := .fields #[.int lo t, .int hi u, .int 1 v] }
 | .frz o u => h.get? a = some o ∧ ObjOk H h a u
 | .tbl ps => h.get? a = some { cls := .none, data := .fields ps }
 | .met f x => h.get? a = some (PySem.W.methodObj (.ref f) (.ref x))
 | .ext φ => φ h ∧ (∃ o, h.get? a = some o) ∧ ∀ h1 h2 : Heap, φ h1 → (∀ o, h1.get? a = some o → h2.get? a = some o) → φ h2
def HOk (H : Hp) (h : Heap) : Prop := ∀ a o, H a = some o → ObjOk P w H h a o
end
section
variable {P : Program} {w : World} {H H' : Hp} {h h' : Heap} {a : Addr} {o : HO}
theorem ObjOk.lt (x : ObjOk P w H h a o) : a < h.objs.size := by
 cases o with
 | lst xs => obtain ⟨_, _, _, _, e⟩ := x; exact Heap.lt_size e
 | tup xs => obtain ⟨_, _, _, p⟩ := x; exact p.lt
 | dK kvs => obtain ⟨_, _, _, _, o, _, _, e, _⟩ := x; exact Heap.lt_size e
 | dT kvs => obtain ⟨_, _, _, _, o, _, _, e, _⟩ := x; exact Heap.lt_size e
 | set S n => obtain ⟨o, _, _, _, e, _⟩ := x; exact Heap.lt_size e
 | ins C dx fs => obtain ⟨_, _, _, e, _⟩ := x; exact Heap.lt_size e
 | own y => obtain ⟨_, e⟩ := x; exact Heap.lt_size e
 | xd fs => obtain ⟨_, ⟨_, _, _, e, _⟩, _⟩ := x; exact Heap.lt_size e
 | rng lo hi => obtain ⟨_, _, _, e⟩ := x; exact Heap.lt_size e
 | frz ob u => obtain ⟨e, _⟩ := x; exact Heap.lt_size e
 | tbl ps => exact Heap.lt_size (show h.get? a = some _ from x)
 | met f y => exact Heap.lt_size (show h.get? a = some _ from x)
 | ext φ => obtain ⟨_, ⟨_, e⟩, _⟩ := x; exact Heap.lt_size e
theorem Paired.mapP {α β : Type} {F G : α → β → Prop} : ∀ {l₁ : List α} {l₂ : List β}, Paired F l₁ l₂ → (∀ a b, F a b → G a b) → Paired G l₁ l₂
 | _, _, .nil, _ => .nil
 | _, _, .cons r t, f => .cons (f _ _ r) (Paired.mapP t f)
theorem ObjOk.stay (x : ObjOk P w H h a o) (k : ∀ b u, (b = a ∨ H b = some (.own a)) → h.get? b = some u → h'.get? b = some u)
 (ho : ∀ b, H b = some (.own a) → H' b = some (.own a)) (ht : ∀ b xs, H b = some (.tup xs) → H' b = some (.tup xs)) : ObjOk P w H' h' a o := by
 induction o with
 | lst xs => obtain ⟨z, its, n, r, e⟩ := x; exact ⟨z, its, n, r, k _ _ (.inl rfl) e⟩
 | tup xs => obtain ⟨z, its, r, ob, e, c⟩ := x; exact ⟨z, its, r, ob, k _ _ (.inl rfl) e, c⟩
 | dK kvs => obtain ⟨z, y, vs, r, ob, es, ep, e, c⟩ := x; exact ⟨z, y, vs, r, ob, es, ep, k _ _ (.inl rfl) e, c⟩
 | dT kvs =>
  obtain ⟨z, y, xs, r, ob, es, ep, e, c⟩ := x
  exact ⟨z, y, xs, Paired.mapP r fun p q z => ⟨z.1, ht _ _ z.2.1, z.2.2⟩, ob, es, ep, k _ _ (.inl rfl) e, c⟩
 | set S n => obtain ⟨ob, es, ep, t, e, c⟩ := x; exact ⟨ob, es, ep, t, k _ _ (.inl rfl) e, c⟩
 | ins C dx fs =>
  obtain ⟨d, z, ne, e, mA, ⟨od, es, ep, e2, c⟩, r⟩ := x
  exact ⟨ho _ d, z, ne, k _ _ (.inl rfl) e, mA, ⟨od, es, ep, k _ _ (.inr d) e2, c⟩, r⟩
 | own y => obtain ⟨ob, e⟩ := x; exact ⟨ob, k _ _ (.inl rfl) e⟩
 | xd fs => obtain ⟨mA, ⟨od, es, ep, e, c⟩, r⟩ := x; exact ⟨mA, ⟨od, es, ep, k _ _ (.inl rfl) e, c⟩, r⟩
 | rng lo hi => obtain ⟨t, u, v, e⟩ := x; exact ⟨t, u, v, k _ _ (.inl rfl) e⟩
 | frz ob u ih => obtain ⟨e, q⟩ := x; exact ⟨k _ _ (.inl rfl) e, ih q⟩
 | tbl ps =>
  have e : h.get? a = some { cls := .none, data := .fields ps } := x
  show h'.get? a = some { cls := .none, data := .fields ps }
  exact k a _ (.inl rfl) e
 | met f y =>
  have e : h.get? a = some (PySem.W.methodObj (.ref f) (.ref y)) := x
  show h'.get? a = some (PySem.W.methodObj (.ref f) (.ref y))
  exact k a _ (.inl rfl) e
 | ext φ => obtain ⟨p, ⟨o, e⟩, st⟩ := x; exact ⟨st _ _ p fun o q => k _ _ (.inl rfl) q, ⟨o, k _ _ (.inl rfl) e⟩, st⟩
theorem HOk.lt (x : HOk P w H h) (e : H a = some o) : a < h.objs.size := (x a o e).lt
theorem HOk.fresh (x : HOk P w H h) (e : h.objs.size ≤ a) : H a = none := by
 cases q : H a with
 | none => rfl
 | some u => exact absurd (Nat.lt_of_lt_of_le (x.lt q) e) (Nat.lt_irrefl _)
theorem HOk.kept (x : HOk P w H h) (k : ∀ b u, h.get? b = some u → h'.get? b = some u) : HOk P w H h' := fun a o e =>
 (x a o e).stay (fun b u _ q => k b u q) (fun _ q => q) fun _ _ q => q
theorem HOk.laid (x : HOk P w H h) (k : ∀ b u, h.get? b = some u → h'.get? b = some u) (hp : h.objs.size ≤ a) (new : ObjOk P w (upd H a o) h' a o) : HOk P w (upd H a o) h' := fun b u e => by
 have hn := x.fresh hp
 by_cases hb : b = a
 ·subst hb; rw [upd_same] at e; cases e; exact new
 ·rw [upd_ne hb] at e
  exact (x b u e).stay (fun c v _ q => k c v q) (fun c q => by rw [upd_ne (ne_of_none q hn)]; exact q) fun c xs q => by rw [upd_ne (ne_of_none q hn)]; exact q
end
def Rd (H : Hp) (a : Addr) (u : HO) : Prop := H a = some u ∨ ∃ o, H a = some (.frz o u)
theorem Rd.of {H : Hp} {a : Addr} {u : HO} (h : H a = some u) : Rd H a u := .inl h
theorem Rd.ok {P : Program} {w : World} {H : Hp} {h : Heap} {a : Addr} {u : HO} (r : Rd H a u) (x : HOk P w H h) : ObjOk P w H h a u := by
 rcases r with r | ⟨o, r⟩
 ·exact x a u r
 ·obtain ⟨_, q⟩ := x a _ r
  exact q
def Mut : Option HO → Prop
 | some (.lst _) => True
 | some (.dK _) => True
 | some (.dT _) => True
 | some (.set _ _) => True
 | some (.ins _ _ _) => True
 | some (.ext _) => True
 | _ => False
section
variable {P : Program} {w : World} {H : Hp} {h h' : Heap} {x e : Addr} {o' : HO}
theorem HOk.write (ok : HOk P w H h) (mu : Mut (H x)) (he : e = x ∨ H e = some (.own x)) (k : ∀ b u, b ≠ e → h.get? b = some u → h'.get? b = some u) (heo : ∃ u, h'.get? e = some u)
 (new : ObjOk P w (upd H x o') h' x o') : HOk P w (upd H x o') h' := fun b u q => by
 have nown : ∀ c y, H c = some (.own y) → c ≠ x := fun c y r z => by subst z; rw [r] at mu; exact mu
 have ntup : ∀ c xs, H c = some (.tup xs) → c ≠ x := fun c xs r z => by subst z; rw [r] at mu; exact mu
 by_cases hb : b = x
 ·subst hb; rw [upd_same] at q; cases q; exact new
 ·rw [upd_ne hb] at q
  by_cases hbe : b = e
  ·have q' : H b = some (.own x) := by
    rcases he with z | z
    ·exact absurd (hbe.trans z) hb
    ·rw [hbe]; exact z
   rw [q] at q'; cases q'
   obtain ⟨v, hv⟩ := heo
   exact ⟨v, by rw [hbe]; exact hv⟩
  ·refine (ok b u q).stay (fun c v hc r => k c v ?_ r) (fun c r => by rw [upd_ne (nown c b r)]; exact r) fun c xs r => by rw [upd_ne (ntup c xs r)]; exact r
   rcases hc with rfl | hc
   ·exact hbe
   ·rintro rfl
    rcases he with z | z
    ·exact nown c b hc z
    ·rw [hc] at z; cases z; exact hb rfl
end
structure Un (fs ex : List Addr) (H H' : Hp) (h h' : Heap) : Prop where
 keep : ∀ b o, h.get? b = some o → H b = none → b ∉ fs → b ∉ ex → h'.get? b = some o
 slot : ∀ b o, h.get? b = some o → H b = none → b ∈ fs → b ∉ ex → ∃ sl, h'.get? b = some { o with slots := sl }
 free : ∀ b o, h.get? b = some o → H b = none → b ∉ ex → H' b = none
 there : ∀ b o, h.get? b = some o → b ∉ ex → ∃ o', h'.get? b = some o'
 tups : ∀ b xs, H b = some (.tup xs) → H' b = some (.tup xs)
 frzs : ∀ b o u, H b = some (.frz o u) → H' b = some (.frz o u)
 tbls : ∀ b ps, H b = some (.tbl ps) → ∃ more, H' b = some (.tbl (ps ++ more))
section
variable {fs fs' ex ex' : List Addr} {H H1 H2 : Hp} {h h1 h2 h' : Heap} {a x e : Addr} {o : HO}
theorem Un.any (u : Un fs ex H H1 h h1) {b : Addr} {ob : Obj} (q : h.get? b = some ob) (n : H b = none) (hx : b ∉ ex) : ∃ sl, h1.get? b = some { ob with slots := sl } := by
 by_cases hb : b ∈ fs
 ·exact u.slot b ob q n hb hx
 ·exact ⟨ob.slots, u.keep b ob q n hb hx⟩
theorem Un.trans (a : Un fs ex H H1 h h1) (b : Un fs ex H1 H2 h1 h2) : Un fs ex H H2 h h2 where
 keep := fun c ob q n hc hx => b.keep c ob (a.keep c ob q n hc hx) (a.free c ob q n hx) hc hx
 slot := fun c ob q n hc hx => by
  obtain ⟨sl, e1⟩ := a.slot c ob q n hc hx
  obtain ⟨sl', e2⟩ := b.slot c _ e1 (a.free c ob q n hx) hc hx
  exact ⟨sl', e2⟩
 free := fun c ob q n hx => by
  obtain ⟨o', e1⟩ := a.there c ob q hx
  exact b.free c o' e1 (a.free c ob q n hx) hx
 there := fun c ob q hx => by
  obtain ⟨o', e1⟩ := a.there c ob q hx
  exact b.there c o' e1 hx
 tups := fun c xs q => b.tups c xs (a.tups c xs q)
 frzs := fun c ob xs q => b.frzs c ob xs (a.frzs c ob xs q)
 tbls := fun c ps q => by
  obtain ⟨m1, e1⟩ := a.tbls c ps q
  obtain ⟨m2, e2⟩ := b.tbls c _ e1
  exact ⟨m1 ++ m2, by rw [e2, Array.append_assoc]⟩
theorem Un.kept (k : ∀ b u, h.get? b = some u → h'.get? b = some u) : Un fs ex H H h h' :=
 ⟨fun b ob q _ _ _ => k b ob q, fun b ob q _ _ _ => ⟨ob.slots, k b ob q⟩, fun _ _ _ n _ => n, fun b ob q _ => ⟨ob, k b ob q⟩, fun _ _ q => q, fun _ _ _ q => q, fun _ ps q => ⟨#[], by rw [q]; simp⟩⟩
theorem Un.refl : Un fs ex H H h h := Un.kept fun _ _ q => q
theorem Un.laid (k : ∀ b u, h.get? b = some u → h'.get? b = some u) (hp : h.objs.size ≤ a) (hn : H a = none) : Un fs ex H (upd H a o) h h' where
 keep := fun b u q _ _ _ => k b u q
 slot := fun b u q _ _ _ => ⟨u.slots, k b u q⟩
 free := fun b u q n _ => by rw [upd_ne (Nat.ne_of_lt (Nat.lt_of_lt_of_le (Heap.lt_size q) hp))]; exact n
 there := fun b u q _ => ⟨u, k b u q⟩
 tups := fun b xs q => by rw [upd_ne (ne_of_none q hn)]; exact q
 frzs := fun b u xs q => by rw [upd_ne (ne_of_none q hn)]; exact q
 tbls := fun b ps q => ⟨#[], by rw [upd_ne (ne_of_none q hn), q]; simp⟩
theorem Un.write (mu : Mut (H x)) (he : e = x ∨ H e = some (.own x)) (k : ∀ b u, b ≠ e → h.get? b = some u → h'.get? b = some u) (heo : ∃ u, h'.get? e = some u) : Un fs ex H (upd H x o) h h' := by
 have hx : ∀ b, H b = none → b ≠ x := fun b n z => by subst z; rw [n] at mu; exact mu
 have hb : ∀ b, H b = none → b ≠ e := fun b n z => by
  subst z
  rcases he with r | r
  ·exact hx b n r
  ·rw [n] at r; cases r
 have hm : ∀ b u, H b = some u → ¬ Mut (some u) → b ≠ x := fun b u q nm z => by subst z; rw [q] at mu; exact nm mu
 refine ⟨fun b u q n _ _ => k b u (hb b n) q, fun b u q n _ _ => ⟨u.slots, k b u (hb b n) q⟩, fun b u q n _ => by rw [upd_ne (hx b n)]; exact n, fun b u q _ => ?_,
  fun b xs q => by rw [upd_ne (hm b _ q fun z => z)]; exact q, fun b u xs q => by rw [upd_ne (hm b _ q fun z => z)]; exact q, fun b ps q => ⟨#[], by rw [upd_ne (hm b _ q fun z => z), q]; simp⟩⟩
 by_cases hbe : b = e
 ·subst hbe; exact heo
 ·exact ⟨u, k b u hbe q⟩
end
def trk (h : Heap) (H : Hp) : List Addr := (List.range h.objs.size).filter fun a => (H a).isSome
def hidT (h : Heap) (H : Hp) : Heap := PySem.W.hideAll h (trk h H)
theorem hidT_size (h : Heap) (H : Hp) : (hidT h H).objs.size = h.objs.size := PySem.W.hideAll_size _ _
theorem hidT_get {h : Heap} {H : Hp} {b : Addr} {o : Obj} (e : h.get? b = some o) (n : H b = none) : (hidT h H).get? b = some o :=
 PySem.W.hideAll_get _ e fun hm => by
  have q : (H b).isSome = true := (List.mem_filter.mp hm).2
  rw [n] at q; simp at q
theorem of_hidT {h : Heap} {H : Hp} {b : Addr} {o : Obj} (e : (hidT h H).get? b = some o) : h.get? b = some o ∧ H b = none := by
 have e' : h.get? b = some o := PySem.W.of_hideAll (trk h H) e
 refine ⟨e', ?_⟩
 cases q : H b with
 | none => rfl
 | some x =>
  have hm : b ∈ trk h H := List.mem_filter.mpr ⟨List.mem_range.mpr (Heap.lt_size e'), by simp [q]⟩
  have z : (hidT h H).get? b = none := PySem.W.hideAll_none (trk h H) hm
  rw [z] at e; cases e
def allNews (g h : Heap) (L : Addr) : List (Addr × Obj) := (List.range h.objs.size).filterMap fun a => if a = L ∨ (g.get? a).isSome = true then none else (h.get? a).map fun o => (a, o)
def rest (g h : Heap) (L d : Addr) : List (Addr × Obj) := (allNews g h L).filter fun p => decide (p.1 ≠ d)
end L2
namespace L2
open PySem PySem.Spec PyProof.Rows
structure Mod (K : PySem.W.Frag) (mg : Str → Option Value) (base : Heap) : Prop where
 kin : K.In base
 glob : base.Ns mainGlobals mg
 blt : ∃ mb, base.Ns builtinsNs mb ∧ ∀ x : Str, x ≠ "__name__" → mb x = bootBuiltins x
 nolimit : base.NoLimit
structure Cx where
 prog : Program
 w : World
 K : PySem.W.Frag
 mg : Str → Option Value
 base : Heap
 A : Around
 N : List Str
 s₀ : Shared
 H₀ : Hp
 env : Env
 outer : List Env
 stack : List Env
 ex : List Addr
 fn : Str → Bool
 calm : Bool
 pn : List (Addr × Obj)
 xe : Value → Shared → Prop
def frs (l : List Env) : List Addr := l.filterMap (·.frame)
abbrev Cx.fs (X : Cx) : List Addr := frs X.outer
def Vis (sc : Scope) (x : Str) : Prop := sc.names.lookup x = some .local ∨ sc.names.lookup x = some .cell ∨ sc.names.lookup x = some .free
def Loc (sc : Scope) (x : Str) : Prop := sc.names.lookup x = some .local ∨ sc.names.lookup x = some .cell
def Look (env : Env) (h : Heap) (m : Str → Option Value) (x : Str) (u : Value) : Prop :=
 (env.kindOf x = some .local ∧ m x = some u) ∨ ((env.kindOf x = some .cell ∨ env.kindOf x = some .free) ∧ ∃ c, env.cells.lookup x = some c ∧ h.IsCell c (some u))
structure Cx.Ok (X : Cx) : Prop where
 mod : Mod X.K X.mg X.base
 kind : X.env.scope.kind = .function
 glob : X.env.globals = mainGlobals
 blt : X.env.builtins = builtinsNs
 above : X.s₀.heap.objs.size ≤ X.env.locals
 inj : ∀ x y c, X.env.cells.lookup x = some c → X.env.cells.lookup y = some c → x = y
 has : ∀ x, (X.env.kindOf x = some .cell ∨ X.env.kindOf x = some .free) → ∃ c, X.env.cells.lookup x = some c
 cab : ∀ x c, X.fn x = true → X.env.cells.lookup x = some c → X.s₀.heap.objs.size ≤ c
 hd : X.calm = true → X.A.handled = none
 frames : X.A.frames = some X.stack
 stk : X.stack = X.outer ∨ (X.stack = X.env :: X.outer ∧ X.env.frame = some X.env.locals)
 exf : ∀ b ∈ X.ex, b ≠ X.env.locals ∧ ∀ x c, X.env.cells.lookup x = some c → c ≠ b
 bs : ∀ b o, X.base.get? b = some o → X.s₀.heap.get? b = some o ∧ X.H₀ b = none
 bsz : X.base.objs.size ≤ X.s₀.heap.objs.size
 noex : ∀ b o, X.base.get? b = some o → b ∉ X.ex
 exfs : ∀ b ∈ X.ex, b ∉ X.fs
 funs : X.s₀.heap.FunFrames X.base X.outer
 frf : ∀ b ∈ X.fs, X.H₀ b = none
structure Inv (X : Cx) (pins : List (Addr × Obj)) (σ : List (Option V)) (H : Hp) (s : Shared) : Prop where
 ok : X.Ok
 os : s.os = X.s₀.os
 bare : AllBare s.gens
 base : Un X.fs X.ex X.H₀ H X.s₀.heap s.heap
 loc : ∃ m, s.heap.Ns X.env.locals m ∧ ∀ (i : Nat) (x : Str) (v : V), X.N[i]? = some x → σ[i]? = some (some v) → Vis X.env.scope x → ∃ u, RelV v u ∧ Look X.env s.heap m x u
 cell : ∀ x c, X.env.cells.lookup x = some c → ∃ v, s.heap.IsCell c v
 free : H X.env.locals = none
 freeC : ∀ x c, X.env.cells.lookup x = some c → H c = none
 pin : ∀ p ∈ X.pn ++ pins, s.heap.get? p.1 = some p.2 ∧ H p.1 = none ∧ p.1 ≠ X.env.locals ∧ p.1 ∉ X.fs ∧ ∀ v, p.2.data ≠ .cell v
 hok : HOk X.prog X.w H s.heap
 len : σ.length = X.N.length
section
variable {X : Cx} {pins : List (Addr × Obj)} {σ : List (Option V)} {H H' : Hp} {s : Shared} {h' : Heap}
theorem Cx.Ok.nofr (ok : X.Ok) {b : Addr} {o : Obj} (e : X.base.get? b = some o) : b ∉ X.fs := fun hb => by
 have := (ok.funs.mem hb).1
 rw [e] at this; cases this
theorem Inv.bs (I : Inv X pins σ H s) : ∀ b o, X.base.get? b = some o → s.heap.get? b = some o ∧ H b = none := fun b o e =>
 ⟨I.base.keep b o (I.ok.bs b o e).1 (I.ok.bs b o e).2 (I.ok.nofr e) (I.ok.noex b o e), I.base.free b o (I.ok.bs b o e).1 (I.ok.bs b o e).2 (I.ok.noex b o e)⟩
theorem Inv.bk (I : Inv X pins σ H s) : ∀ b o, X.base.get? b = some o → s.heap.get? b = some o := fun b o e => (I.bs b o e).1
theorem Inv.mod (I : Inv X pins σ H s) : Mod X.K X.mg X.base := I.ok.mod
theorem Inv.kIn (I : Inv X pins σ H s) : X.K.In s.heap := I.ok.mod.kin.keeps I.bk
theorem Inv.fr (I : Inv X pins σ H s) : ∃ m, Fr X.base X.env.locals s.heap m :=
 let ⟨m, hn, _⟩ := I.loc
 ⟨m, hn, I.bk, Nat.le_trans I.ok.bsz I.ok.above⟩
theorem Inv.lt (I : Inv X pins σ H s) : X.env.locals < s.heap.objs.size := let ⟨_, hn, _⟩ := I.loc; hn.lt
theorem Inv.sz (I : Inv X pins σ H s) : X.s₀.heap.objs.size ≤ s.heap.objs.size := Nat.le_trans I.ok.above (Nat.le_of_lt I.lt)
theorem Inv.nofs (I : Inv X pins σ H s) {a : Addr} (h : s.heap.objs.size ≤ a) : a ∉ X.fs := fun hb => by
 obtain ⟨_, o, ho, _⟩ := I.ok.funs.mem hb
 exact absurd (Nat.lt_of_lt_of_le (Heap.lt_size ho) (Nat.le_trans I.sz h)) (Nat.lt_irrefl _)
theorem Inv.cne (I : Inv X pins σ H s) : ∀ x c, X.env.cells.lookup x = some c → c ≠ X.env.locals := fun x c e z => by
 obtain ⟨v, o, ho, hd⟩ := I.cell x c e
 obtain ⟨m, ⟨o', es, ep, ho', hd', _⟩, _⟩ := I.loc
 rw [z, ho'] at ho; cases ho; rw [hd'] at hd; cases hd
theorem Inv.funs (I : Inv X pins σ H s) : s.heap.FunFrames X.base X.outer := by
 have all : ∀ (l : List Env), (∀ b ∈ frs l, b ∈ X.fs) → X.s₀.heap.FunFrames X.base l → s.heap.FunFrames X.base l := by
  intro l
  induction l with
  | nil => intro _ _; trivial
  | cons env r ih =>
   intro hs hl
   obtain ⟨hk, ⟨L, o, hf, hn, ho, hd⟩, hr⟩ := hl
   have hL : L ∈ X.fs := hs L (by unfold frs; rw [List.filterMap_cons, hf]; exact List.mem_cons_self)
   obtain ⟨sl, e⟩ := I.base.slot L o ho (I.ok.frf L hL) hL fun z => I.ok.exfs L z hL
   exact ⟨hk, ⟨L, _, hf, hn, e, hd⟩, ih (fun b hb => hs b (by unfold frs; rw [List.filterMap_cons, hf]; exact List.mem_cons_of_mem _ hb)) hr⟩
 exact all X.outer (fun _ hb => hb) I.ok.funs
theorem Inv.stack (I : Inv X pins σ H s) : s.heap.FunFrames X.base X.stack := by
 rcases I.ok.stk with e | ⟨e, hf⟩
 ·rw [e]; exact I.funs
 ·rw [e]
  obtain ⟨m, hn, _⟩ := I.loc
  refine .cons (by rw [I.ok.kind]; decide) hf hn ?_ I.funs
  exact Heap.get?_none_of_le (Nat.le_trans I.ok.bsz I.ok.above)
theorem Inv.stkSub (I : Inv X pins σ H s) : ∀ b ∈ frs X.stack, b ∈ X.env.locals :: X.fs := fun b hb => by
 rcases I.ok.stk with e | ⟨e, hf⟩
 ·rw [e] at hb; exact List.mem_cons_of_mem _ hb
 ·rw [e] at hb
  unfold frs at hb
  rw [List.filterMap_cons, hf] at hb
  exact hb
theorem Inv.stkFree (I : Inv X pins σ H s) : ∀ b ∈ frs X.stack, H b = none := fun b hb => by
 rcases List.mem_cons.mp (I.stkSub b hb) with e | hb
 ·rw [e]; exact I.free
 ·obtain ⟨_, o, ho, _⟩ := I.ok.funs.mem hb
  exact I.base.free b o ho (I.ok.frf b hb) fun z => I.ok.exfs b z hb
theorem Inv.step {g' : Array GenState} {t' : Nat} {d' : Drawn} {ch : List Addr} (I : Inv X pins σ H s)
 (hch : ∀ b ∈ ch, (b ∈ X.ex ∨ X.s₀.heap.objs.size ≤ b) ∧ b ≠ X.env.locals ∧ (∀ x c, X.env.cells.lookup x = some c → c ≠ b) ∧ ∀ p ∈ X.pn ++ pins, p.1 ≠ b)
 (keep : ∀ b o, b ≠ X.env.locals → b ∉ X.fs → b ∉ ch → s.heap.get? b = some o → H b = none → h'.get? b = some o)
 (slot : ∀ b o, b ≠ X.env.locals → b ∈ X.fs → b ∉ ch → s.heap.get? b = some o → H b = none → ∃ sl, h'.get? b = some { o with slots := sl }) (free : ∀ b o, b ∉ ch → s.heap.get? b = some o → H b = none → H' b = none)
 (there : ∀ b o, b ∉ ch → s.heap.get? b = some o → ∃ o', h'.get? b = some o')
 (tups : ∀ b xs, H b = some (.tup xs) → H' b = some (.tup xs)) (frzs : ∀ b o u, H b = some (.frz o u) → H' b = some (.frz o u)) (tbls : ∀ b ps, H b = some (.tbl ps) → ∃ more, H' b = some (.tbl (ps ++ more)))
 (ns : ∀ m, s.heap.Ns X.env.locals m → h'.Ns X.env.locals m) (hok : HOk X.prog X.w H' h') (hg : AllBare g') :
 Inv X pins σ H' { s with heap := h', gens := g', drawn := d', toks := t' } := by
 have neL : ∀ b o, X.s₀.heap.get? b = some o → b ≠ X.env.locals := fun b o e => Nat.ne_of_lt (Nat.lt_of_lt_of_le (Heap.lt_size e) I.ok.above)
 have neC : ∀ b o, X.s₀.heap.get? b = some o → b ∉ X.ex → b ∉ ch := fun b o e hx hb => by
  rcases (hch b hb).1 with z | z
  ·exact hx z
  ·exact absurd (Nat.lt_of_lt_of_le (Heap.lt_size e) z) (Nat.lt_irrefl _)
 have cellK : ∀ x c, X.env.cells.lookup x = some c → ∀ v, s.heap.IsCell c v → h'.IsCell c v := fun x c e v ⟨o, ho, hd⟩ => by
  have nch : c ∉ ch := fun z => (hch c z).2.2.1 x c e rfl
  by_cases hc : c ∈ X.fs
  ·obtain ⟨sl, q⟩ := slot c o (I.cne x c e) hc nch ho (I.freeC x c e)
   exact ⟨_, q, hd⟩
  ·exact ⟨o, keep c o (I.cne x c e) hc nch ho (I.freeC x c e), hd⟩
 refine ⟨I.ok, I.os, hg, ⟨fun b o e n hb hx => ?_, fun b o e n hb hx => ?_, fun b o e n hx => ?_, fun b o e hx => ?_, fun b xs e => tups b xs (I.base.tups b xs e), fun b o xs e => frzs b o xs (I.base.frzs b o xs e), fun b ps e => ?_⟩, ?_, fun x c e => ?_, ?_, fun x c e => ?_, fun p hp => ?_, hok, I.len⟩
 ·exact keep b o (neL b o e) hb (neC b o e hx) (I.base.keep b o e n hb hx) (I.base.free b o e n hx)
 ·obtain ⟨sl, e1⟩ := I.base.slot b o e n hb hx
  obtain ⟨sl', e2⟩ := slot b _ (neL b o e) hb (neC b o e hx) e1 (I.base.free b o e n hx)
  exact ⟨sl', e2⟩
 ·obtain ⟨o', e1⟩ := I.base.there b o e hx
  exact free b o' (neC b o e hx) e1 (I.base.free b o e n hx)
 ·obtain ⟨o', e1⟩ := I.base.there b o e hx
  exact there b o' (neC b o e hx) e1
 ·obtain ⟨m1, e1⟩ := I.base.tbls b ps e
  obtain ⟨m2, e2⟩ := tbls b _ e1
  exact ⟨m1 ++ m2, by rw [e2, Array.append_assoc]⟩
 ·obtain ⟨m, hn, hl⟩ := I.loc
  refine ⟨m, ns m hn, fun i x v e1 e2 e3 => ?_⟩
  obtain ⟨u, r, l⟩ := hl i x v e1 e2 e3
  refine ⟨u, r, ?_⟩
  rcases l with l | ⟨k, c, e, z⟩
  ·exact .inl l
  ·exact .inr ⟨k, c, e, cellK x c e _ z⟩
 ·obtain ⟨v, z⟩ := I.cell x c e
  exact ⟨v, cellK x c e v z⟩
 ·obtain ⟨m, ⟨o, _, _, ho, _⟩, _⟩ := I.loc
  exact free _ o (fun z => (hch _ z).2.1 rfl) ho I.free
 ·obtain ⟨v, o, ho, hd⟩ := I.cell x c e
  exact free c o (fun z => (hch c z).2.2.1 x c e rfl) ho (I.freeC x c e)
 ·obtain ⟨e, n, ne, nf, d⟩ := I.pin p hp
  have nch : p.1 ∉ ch := fun z => (hch p.1 z).2.2.2 p hp rfl
  exact ⟨keep p.1 p.2 ne nf nch e n, free p.1 p.2 nch e n, ne, nf, d⟩
theorem Inv.un {t' : Nat} (I : Inv X pins σ H s) (u : Un X.fs [] H H' s.heap h') (hok : HOk X.prog X.w H' h') : Inv X pins σ H' { s with heap := h', toks := t' } := by
 obtain ⟨m, ⟨o, es, ep, ho, r⟩, _⟩ := id I.loc
 obtain ⟨sl, hL⟩ := u.any ho I.free (by simp)
 exact I.step (g' := s.gens) (d' := s.drawn) (ch := []) (fun _ z => nomatch z) (fun b o _ hb _ e n => u.keep b o e n hb (by simp)) (fun b o _ hb _ e n => u.slot b o e n hb (by simp)) (fun b o _ e n => u.free b o e n (by simp)) (fun b o _ e => u.there b o e (by simp)) u.tups u.frzs u.tbls (fun m' hm => by
  obtain ⟨o', es', ep', ho', r'⟩ := hm
  rw [ho] at ho'; cases ho'
  exact ⟨_, es', ep', hL, r'⟩) hok I.bare
theorem Inv.call {g' : Array GenState} {t' : Nat} {d' : Drawn} {ch : List Addr} (I : Inv X pins σ H s) (u : Un (frs X.stack) ch H H' s.heap h') (hok : HOk X.prog X.w H' h') (hg : AllBare g')
 (hch : ∀ b ∈ ch, (b ∈ X.ex ∨ X.s₀.heap.objs.size ≤ b) ∧ b ≠ X.env.locals ∧ (∀ x c, X.env.cells.lookup x = some c → c ≠ b) ∧ ∀ p ∈ X.pn ++ pins, p.1 ≠ b) :
 Inv X pins σ H' { s with heap := h', gens := g', drawn := d', toks := t' } := by
 obtain ⟨m, ⟨o, es, ep, ho, r⟩, _⟩ := id I.loc
 obtain ⟨sl, hL⟩ := u.any ho I.free fun z => (hch _ z).2.1 rfl
 exact I.step (ch := ch) hch (fun b o hL hb hc e n => u.keep b o e n (fun z => (List.mem_cons.mp (I.stkSub b z)).elim hL hb) hc) (fun b o _ _ hc e n => u.any e n hc) (fun b o hc e n => u.free b o e n hc) (fun b o hc e => u.there b o e hc) u.tups u.frzs u.tbls (fun m' hm => by
  obtain ⟨o', es', ep', ho', r'⟩ := hm
  rw [ho] at ho'; cases ho'
  exact ⟨_, es', ep', hL, r'⟩) hok hg
theorem Inv.turned {t' : Nat} {it : Addr} (I : Inv X pins σ H s) (k : ∀ b o, b ≠ it → s.heap.get? b = some o → h'.get? b = some o) (hn : H it = none) (hL : it ≠ X.env.locals)
 (h1 : it ∈ X.ex ∨ X.s₀.heap.objs.size ≤ it) (h2 : ∀ x c, X.env.cells.lookup x = some c → c ≠ it) (h3 : ∀ p ∈ X.pn ++ pins, p.1 ≠ it) : Inv X pins σ H { s with heap := h', toks := t' } := by
 have nit : ∀ b u, H b = some u → b ≠ it := fun b u e z => by rw [z, hn] at e; cases e
 refine I.step (g' := s.gens) (d' := s.drawn) (ch := [it]) (fun b hb => ?_) (fun b o _ _ hc e _ => k b o (fun z => hc (by simp [z])) e) (fun b o _ _ hc e _ => ⟨o.slots, k b o (fun z => hc (by simp [z])) e⟩) (fun _ _ _ _ n => n)
  (fun b o hc e => ⟨o, k b o (fun z => hc (by simp [z])) e⟩) (fun _ _ e => e) (fun _ _ _ e => e) (fun b ps e => ⟨#[], by rw [e]; simp⟩) (fun m hm => ?_) (fun b u e => ?_) I.bare
 ·have e : b = it := by simpa using hb
  subst e
  exact ⟨h1, hL, h2, h3⟩
 ·obtain ⟨o, es, ep, ho, r⟩ := hm
  exact ⟨o, es, ep, k _ o (Ne.symm hL) ho, r⟩
 ·refine (I.hok b u e).stay (fun c v hc q => k c v ?_ q) (fun _ q => q) fun _ _ q => q
  rcases hc with z | z
  ·rw [z]; exact nit b u e
  ·exact nit c _ z
theorem Inv.tok (I : Inv X pins σ H s) (t : Nat) : Inv X pins σ H { s with toks := t } := I.un (h' := s.heap) (t' := t) Un.refl I.hok
theorem Inv.kept {t' : Nat} (I : Inv X pins σ H s) (k : ∀ b u, s.heap.get? b = some u → h'.get? b = some u) : Inv X pins σ H { s with heap := h', toks := t' } := I.un (Un.kept k) (I.hok.kept k)
theorem Inv.laid {a : Addr} {o : HO} {t' : Nat} (I : Inv X pins σ H s) (k : ∀ b u, s.heap.get? b = some u → h'.get? b = some u) (hp : s.heap.objs.size ≤ a) (new : ObjOk X.prog X.w (upd H a o) h' a o) :
 Inv X pins σ (upd H a o) { s with heap := h', toks := t' } := I.un (Un.laid k hp (I.hok.fresh hp)) (I.hok.laid k hp new)
theorem Inv.write {x e : Addr} {o : HO} {t' : Nat} (I : Inv X pins σ H s) (mu : Mut (H x)) (he : e = x ∨ H e = some (.own x)) (k : ∀ b u, b ≠ e → s.heap.get? b = some u → h'.get? b = some u) (heo : ∃ u, h'.get? e = some u)
 (new : ObjOk X.prog X.w (upd H x o) h' x o) : Inv X pins σ (upd H x o) { s with heap := h', toks := t' } := I.un (Un.write mu he k heo) (I.hok.write mu he k heo new)
theorem Inv.pins_of {pins' : List (Addr × Obj)} (I : Inv X pins σ H s) (h : ∀ p ∈ pins', s.heap.get? p.1 = some p.2 ∧ H p.1 = none ∧ p.1 ≠ X.env.locals ∧ p.1 ∉ X.fs ∧ ∀ v, p.2.data ≠ .cell v) : Inv X pins' σ H s :=
 ⟨I.ok, I.os, I.bare, I.base, I.loc, I.cell, I.free, I.freeC, fun p hp => (List.mem_append.mp hp).elim (fun z => I.pin p (List.mem_append_left _ z)) (h p), I.hok, I.len⟩
theorem nodup_ix {N : List Str} (hN : N.Nodup) {i j : Nat} {x : Str} (a : N[i]? = some x) (b : N[j]? = some x) : i = j := by
 obtain ⟨h1, e1⟩ := List.getElem?_eq_some_iff.mp a
 obtain ⟨h2, e2⟩ := List.getElem?_eq_some_iff.mp b
 exact (List.getElem_inj hN).mp (e1.trans e2.symm)
theorem store_ok2 {M : Model} {A : Around} {E : Value → Shared → Prop} {i : Nat} {x : Str} {v : V} {u : Value} {Q : Unit → Shared → Prop} (I : Inv X pins σ H s) (hN : X.N.Nodup) (hi : X.N[i]? = some x) (hx : Loc X.env.scope x) (r : RelV v u)
 (h : ∀ s', Inv X pins (σ.set i (some v)) H s' → (∃ a, Heap.SameBut a s.heap s'.heap ∧ (a = X.env.locals ∨ X.env.cells.lookup x = some a)) → Q () s') (hf : X.fn x = true ∨ X.env.scope.names.lookup x = some .local := by first | exact .inl rfl | exact .inr rfl | assumption) : wpAny M A (storeName X.env x u) Q E s := by
 obtain ⟨m, hn, hl⟩ := id I.loc
 have hcls : (X.env.scope.kind == .class || (X.env.scope.kind == .module && X.env.locals != X.env.globals)) = false := by rw [I.ok.kind]; rfl
 have hiσ : i < σ.length := by rw [I.len]; exact (List.getElem?_eq_some_iff.mp hi).1
 have cne := I.cne
 have tracked : ∀ {a : Addr} {h' : Heap}, (∃ o, s.heap.get? a = some o ∧ H a = none) → Heap.SameBut a s.heap h' → HOk X.prog X.w H h' := fun {a h'} ha hs b ob e => by
  obtain ⟨_, _, hfree⟩ := ha
  refine (I.hok b ob e).stay (fun c w' hc q => (hs.2 c ?_).trans q) (fun _ q => q) fun _ _ q => q
  rintro rfl
  rcases hc with rfl | hc
  ·rw [hfree] at e; cases e
  ·rw [hfree] at hc; cases hc
 rcases hx with hk | hk
 ·refine wpAny_storeName_local hk hn (fun h' hn' hs => ?_) hcls
  obtain ⟨oL, _, _, hoL, _⟩ := id hn
  refine h _ ⟨I.ok, I.os, I.bare, ⟨fun b o e n hb hx => ?_, fun b o e n hb hx => ?_, I.base.free, fun b o e hx => ?_, I.base.tups, I.base.frzs, I.base.tbls⟩, ⟨_, hn', fun j y v' e1 e2 e3 => ?_⟩, fun y c e => ?_, I.free, I.freeC, fun p hp => ?_, tracked ⟨oL, hoL, I.free⟩ hs, by simpa using I.len⟩ ⟨_, hs, .inl rfl⟩
  ·exact (hs.2 b (Nat.ne_of_lt (Nat.lt_of_lt_of_le (Heap.lt_size e) I.ok.above))).trans (I.base.keep b o e n hb hx)
  ·obtain ⟨sl, e1⟩ := I.base.slot b o e n hb hx
   exact ⟨sl, (hs.2 b (Nat.ne_of_lt (Nat.lt_of_lt_of_le (Heap.lt_size e) I.ok.above))).trans e1⟩
  ·obtain ⟨o', e1⟩ := I.base.there b o e hx
   exact ⟨o', (hs.2 b (Nat.ne_of_lt (Nat.lt_of_lt_of_le (Heap.lt_size e) I.ok.above))).trans e1⟩
  ·by_cases hj : j = i
   ·subst hj
    rw [hi] at e1; cases e1
    rw [List.getElem?_set_self hiσ] at e2
    cases e2
    exact ⟨u, r, .inl ⟨hk, by simp⟩⟩
   ·rw [List.getElem?_set_ne (Ne.symm hj)] at e2
    obtain ⟨u', r', q⟩ := hl j y v' e1 e2 e3
    refine ⟨u', r', ?_⟩
    rcases q with ⟨k, e⟩ | ⟨k, c, e, z⟩
    ·refine .inl ⟨k, ?_⟩
     have : y ≠ x := fun e => hj (nodup_ix hN e1 (e ▸ hi))
     simp [this, e]
    ·exact .inr ⟨k, c, e, z.sameBut hs (cne y c e)⟩
  ·obtain ⟨w', z⟩ := I.cell y c e
   exact ⟨w', z.sameBut hs (cne y c e)⟩
  ·obtain ⟨e, n, ne, nf, d⟩ := I.pin p hp
   exact ⟨(hs.2 p.1 ne).trans e, n, ne, nf, d⟩
 ·have hfn : X.fn x = true := by
   rcases hf with z | z
   ·exact z
   ·rw [z] at hk; cases hk
  obtain ⟨c, hc⟩ := I.ok.has x (.inl hk)
  obtain ⟨w', z⟩ := I.cell x c hc
  refine wpAny_storeName_cell I.ok.kind hk hc z (fun h' hc' hs => ?_)
  obtain ⟨oc, hoc, hocd⟩ := id z
  refine h { s with heap := h' } ⟨I.ok, I.os, I.bare, ⟨fun b o e n hb hx => ?_, fun b o e n hb hx => ?_, I.base.free, fun b o e hx => ?_, I.base.tups, I.base.frzs, I.base.tbls⟩, ⟨m, hn.sameBut hs (Ne.symm (cne x c hc)), fun j y v' e1 e2 e3 => ?_⟩, fun y c' e => ?_, I.free, I.freeC, fun p hp => ?_, tracked ⟨oc, hoc, I.freeC x c hc⟩ hs, by simpa using I.len⟩ ⟨c, hs, .inr hc⟩
  ·exact (hs.2 b (Nat.ne_of_lt (Nat.lt_of_lt_of_le (Heap.lt_size e) (I.ok.cab x c hfn hc)))).trans (I.base.keep b o e n hb hx)
  ·obtain ⟨sl, e1⟩ := I.base.slot b o e n hb hx
   exact ⟨sl, (hs.2 b (Nat.ne_of_lt (Nat.lt_of_lt_of_le (Heap.lt_size e) (I.ok.cab x c hfn hc)))).trans e1⟩
  ·obtain ⟨o', e1⟩ := I.base.there b o e hx
   exact ⟨o', (hs.2 b (Nat.ne_of_lt (Nat.lt_of_lt_of_le (Heap.lt_size e) (I.ok.cab x c hfn hc)))).trans e1⟩
  ·by_cases hj : j = i
   ·subst hj
    rw [hi] at e1; cases e1
    rw [List.getElem?_set_self hiσ] at e2
    cases e2
    exact ⟨u, r, .inr ⟨.inl hk, c, hc, hc'⟩⟩
   ·rw [List.getElem?_set_ne (Ne.symm hj)] at e2
    obtain ⟨u', r', q⟩ := hl j y v' e1 e2 e3
    refine ⟨u', r', ?_⟩
    rcases q with q | ⟨k, c', e, z'⟩
    ·exact .inl q
    ·refine .inr ⟨k, c', e, z'.sameBut hs ?_⟩
     rintro rfl
     exact hj (nodup_ix hN e1 (I.ok.inj _ _ _ e hc ▸ hi))
  ·by_cases hcc : c' = c
   ·subst hcc; exact ⟨_, hc'⟩
   ·obtain ⟨w2, z2⟩ := I.cell y c' e
    exact ⟨w2, z2.sameBut hs hcc⟩
  ·obtain ⟨e, n, ne, nf, d⟩ := I.pin p hp
   refine ⟨(hs.2 p.1 ?_).trans e, n, ne, nf, d⟩
   intro q
   rw [q, hoc] at e
   have q' : oc = p.2 := Option.some.inj e
   exact d w' (by rw [← q']; exact hocd)
theorem store_ok {M : Model} {A : Around} {E : Value → Shared → Prop} {i : Nat} {x : Str} {v : V} {u : Value} {Q : Unit → Shared → Prop} (I : Inv X pins σ H s) (hN : X.N.Nodup) (hi : X.N[i]? = some x) (hx : Loc X.env.scope x) (r : RelV v u)
 (h : ∀ s', Inv X pins (σ.set i (some v)) H s' → Q () s') (hf : X.fn x = true ∨ X.env.scope.names.lookup x = some .local := by first | exact .inl rfl | exact .inr rfl | assumption) : wpAny M A (storeName X.env x u) Q E s :=
 store_ok2 I hN hi hx r (fun s' I' _ => h s' I') hf
theorem Inv.call' {s' : Shared} {ch : List Addr} (I : Inv X pins σ H s) (ho : s'.os = s.os) (u : Un (frs X.stack) ch H H' s.heap s'.heap) (hok : HOk X.prog X.w H' s'.heap) (hg : AllBare s'.gens)
 (hch : ∀ b ∈ ch, (b ∈ X.ex ∨ X.s₀.heap.objs.size ≤ b) ∧ b ≠ X.env.locals ∧ (∀ x c, X.env.cells.lookup x = some c → c ≠ b) ∧ ∀ p ∈ X.pn ++ pins, p.1 ≠ b) : Inv X pins σ H' s' := by
 obtain ⟨h', g', d', t', o'⟩ := s'
 have e : o' = s.os := ho
 subst e
 exact I.call (g' := g') (t' := t') (d' := d') u hok hg hch
end
abbrev XK := Value → Option Addr → Hp → Prop
abbrev St := List (Option V)
abbrev VK := V → Hp → Prop
abbrev TE := St → Hp → VK → Prop
abbrev TT := St → Hp → (Bool → Hp → Prop) → Prop
abbrev TA := St → Hp → (List V → Hp → Prop) → Prop
structure Ends where
 nx : St → Hp → Prop
 rt : VK
 bk : St → Hp → Prop := fun _ _ => False
 ct : St → Hp → Prop := fun _ _ => False
abbrev TS := Ends → St → Hp → Prop
def EP (X : Cx) (pins : List (Addr × Obj)) (σ : St) (Q : VK) (u : Value) (s' : Shared) : Prop := ∃ v H', Inv X pins σ H' s' ∧ RelV v u ∧ Q v H'
def TP (X : Cx) (pins : List (Addr × Obj)) (σ : St) (Q : Bool → Hp → Prop) (b : Bool) (s' : Shared) : Prop := ∃ H', Inv X pins σ H' s' ∧ Q b H'
def AP (X : Cx) (pins : List (Addr × Obj)) (σ : St) (Q : List V → Hp → Prop) (us : List Value) (s' : Shared) : Prop := ∃ vs H', Inv X pins σ H' s' ∧ Vals vs us ∧ Q vs H'
def SP (X : Cx) (pins : List (Addr × Obj)) (D : Ends) (f : Flow) (s' : Shared) : Prop :=
 match f with
 | .next => ∃ σ' H', Inv X pins σ' H' s' ∧ D.nx σ' H'
 | .brk => ∃ σ' H', Inv X pins σ' H' s' ∧ D.bk σ' H'
 | .cont => ∃ σ' H', Inv X pins σ' H' s' ∧ D.ct σ' H'
 | .ret u => ∃ v σ' H', Inv X pins σ' H' s' ∧ RelV v u ∧ D.rt v H'
def PE (X : Cx) (e : Expr) (t : TE) : Prop :=
 ∀ (pins : List (Addr × Obj)) (s : Shared) (σ : St) (H : Hp) (Q : VK), Inv X pins σ H s → t σ H Q → wpAny (model X.prog X.w) X.A (eval e X.env) (EP X pins σ Q) X.xe s
def PT (X : Cx) (e : Expr) (t : TT) : Prop :=
 ∀ (pins : List (Addr × Obj)) (s : Shared) (σ : St) (H : Hp) (Q : Bool → Hp → Prop), Inv X pins σ H s → t σ H Q → wpAny (model X.prog X.w) X.A (isTrue e X.env (eval e X.env)) (TP X pins σ Q) X.xe s
def PW (X : Cx) (e : Expr) (t : TT) : Prop :=
 ∀ (whole : Sem Value) (pins : List (Addr × Obj)) (s : Shared) (σ : St) (H : Hp) (Q : Bool → Hp → Prop), Inv X pins σ H s → t σ H Q → wpAny (model X.prog X.w) X.A (isTrue e X.env whole) (TP X pins σ Q) X.xe s
theorem PW.pt {X : Cx} {e : Expr} {t : TT} (h : PW X e t) : PT X e t := h _
def PA (X : Cx) (es : List Expr) (t : TA) : Prop :=
 ∀ (pos : Pos) (pins : List (Addr × Obj)) (s : Shared) (σ : St) (H : Hp) (Q : List V → Hp → Prop), Inv X pins σ H s → t σ H Q → wpAny (model X.prog X.w) X.A (spliced (backTo pos (starEach es X.env))) (AP X pins σ Q) X.xe s
def PS (X : Cx) (st : Stmt) (t : TS) : Prop :=
 ∀ (pins : List (Addr × Obj)) (s : Shared) (σ : St) (H : Hp) (D : Ends), Inv X pins σ H s → t D σ H → wpAny (model X.prog X.w) X.A (exec st X.env) (SP X pins D) X.xe s
def PSs (X : Cx) (st : List Stmt) (t : TS) : Prop :=
 ∀ (pins : List (Addr × Obj)) (s : Shared) (σ : St) (H : Hp) (D : Ends), Inv X pins σ H s → t D σ H → wpAny (model X.prog X.w) X.A (execs st X.env) (SP X pins D) X.xe s
theorem thn {α : Type} {t : Sem α} {Q Q' : α → Shared → Prop} {M : Model} {A : Around} {E : Value → Shared → Prop} {s : Shared} (h : wpAny M A t Q E s) (hQ : ∀ a s, Q a s → Q' a s) : wpAny M A t Q' E s := wpAny_mono h hQ fun _ _ x => x
end L2
namespace L2
open PySem PySem.Spec PyProof.Rows
section
variable {X : Cx}
def tVar (i : Nat) : TE := fun σ H Q => ∃ v, σ[i]? = some (some v) ∧ Q v H
def tC (v : V) : TE := fun _ H Q => Q v H
theorem pe_var {i : Nat} {x : Str} {pos : Pos} (hN : X.N[i]? = some x) (hv : Vis X.env.scope x) (hd : (x == ("__debug__" : Str)) = false := by decide) (hcd : (x == ("__classdict__" : Str)) = false := by decide) : PE X (.Name x pos) (tVar i) := by
 intro pins s σ H Q I h
 obtain ⟨v, e, h⟩ := h
 obtain ⟨m, hn, hl⟩ := I.loc
 obtain ⟨u, r, l⟩ := hl i x v hN e hv
 have fin : EP X pins σ Q u s := ⟨v, H, I, r, h⟩
 rcases l with ⟨hk, hm⟩ | ⟨hk, c, hc, hcell⟩
 ·exact wpAny_Name (wpAny_loadName_local I.ok.kind hk hn hm fin) hd
 ·rcases hk with hk | hk
  ·exact wpAny_Name (wpAny_loadName_cell I.ok.kind hk hc hcell fin) hd
  ·exact wpAny_Name (wpAny_loadName_free I.ok.kind hk hc hcell fin hcd) hd
theorem pe_int {i j pos} : PE X (.Constant (.int i) j pos) (tC (.int i)) := fun _ _ _ H _ I h => wpAny_Constant_int ⟨.int i, H, I.tok _, ⟨_, rfl⟩, h⟩
theorem pe_bl {b j pos} : PE X (.Constant (.bool b) j pos) (tC (.bl b)) := fun _ _ _ H _ I h => Constant_bool ⟨.bl b, H, I, rfl, h⟩
theorem pe_non {j pos} : PE X (.Constant .none j pos) (tC .non) := fun _ _ _ H _ I h => Constant_none ⟨.non, H, I, rfl, h⟩
theorem pe_str {x j pos} : PE X (.Constant (.str x) j pos) (tC (.str x)) := fun _ _ _ H _ I h => Calls.Constant_str ⟨.str x, H, I.tok _, ⟨_, rfl⟩, h⟩
def Gl (X : Cx) (x : Str) : Prop := X.env.kindOf x = some .globalImplicit
theorem ld_glob {E : Value → Shared → Prop} {pins : List (Addr × Obj)} {s : Shared} {σ : St} {H : Hp} {x : Str} {u : Value} {pos : Pos} {Q : Value → Shared → Prop} (I : Inv X pins σ H s) (hg : Gl X x) (hm : X.mg x = some u) (h : Q u s)
 (hd : (x == ("__debug__" : Str)) = false := by decide) : wpAny (model X.prog X.w) X.A (eval (.Name x pos) X.env) Q E s :=
 Calls.Name_function_global I.ok.kind hg (Calls.loadGlobal_global (by rw [I.ok.glob]; exact I.mod.glob.keeps I.bk) hm h) hd
theorem ld_blt {E : Value → Shared → Prop} {pins : List (Addr × Obj)} {s : Shared} {σ : St} {H : Hp} {x : Str} {u : Value} {pos : Pos} {Q : Value → Shared → Prop} (I : Inv X pins σ H s) (hg : Gl X x) (hm : X.mg x = none) (hv : bootBuiltins x = some u) (h : Q u s)
 (hn : x ≠ "__name__" := by decide) (hd : (x == ("__debug__" : Str)) = false := by decide) : wpAny (model X.prog X.w) X.A (eval (.Name x pos) X.env) Q E s := by
 obtain ⟨mb, h1, h2⟩ := I.mod.blt
 exact Calls.Name_function_global I.ok.kind hg (Calls.loadGlobal_builtin (by rw [I.ok.glob]; exact I.mod.glob.keeps I.bk) hm (by rw [I.ok.blt]; exact h1.keeps I.bk) ((h2 x hn).trans hv) h) hd
theorem pe_glob {x : Str} {v : V} {u : Value} {pos : Pos} (hg : Gl X x) (hm : X.mg x = some u) (r : RelV v u) (hd : (x == ("__debug__" : Str)) = false := by decide) : PE X (.Name x pos) (tC v) :=
 fun _ _ _ H _ I h => ld_glob I hg hm ⟨v, H, I, r, h⟩ hd
theorem pe_bltn {x : Str} {v : V} {u : Value} {pos : Pos} (hg : Gl X x) (hm : X.mg x = none) (hv : bootBuiltins x = some u) (r : RelV v u) (hn : x ≠ "__name__" := by decide) (hd : (x == ("__debug__" : Str)) = false := by decide) : PE X (.Name x pos) (tC v) :=
 fun _ _ _ H _ I h => ld_blt I hg hm hv ⟨v, H, I, r, h⟩ hn hd
variable {a b : Expr} {ta tb : TE} {pos : Pos}
def PC (X : Cx) (op : CmpOp) (a b : Expr) (t : TE) : Prop :=
 ∀ (pins : List (Addr × Obj)) (s : Shared) (σ : St) (H : Hp) (Q : VK), Inv X pins σ H s → t σ H Q →
  wpAny (model X.prog X.w) X.A (eval a X.env) (fun v s₁ => wpAny (model X.prog X.w) X.A (eval b X.env) (fun u s₂ => wpAny (model X.prog X.w) X.A (compareOp op v u) (EP X pins σ Q) X.xe s₂) X.xe s₁) X.xe s
theorem nobehind (b : Expr) {op : CmpOp} (h : op ≠ .In) (h2 : op ≠ .NotIn) : behindInMarks op b = false := by
 have e1 : (op == CmpOp.In) = false := by cases op <;> first | rfl | exact absurd rfl h
 have e2 : (op == CmpOp.NotIn) = false := by cases op <;> first | rfl | exact absurd rfl h2
 cases b <;> simp [behindInMarks, e1, e2]
def tIsN (ta : TE) : TE := fun σ H Q => ta σ H fun x H1 => Q (.bl (decide (x = .non))) H1
def tNotN (ta : TE) : TE := fun σ H Q => ta σ H fun x H1 => Q (.bl (!decide (x = .non))) H1
theorem RelV.none_iff {x : V} {v : Value} (r : RelV x v) : (v == Value.none) = decide (x = .non) := by
 cases x with
 | non => cases r; rfl
 | bl _ => cases r; rfl
 | int _ => obtain ⟨t, rfl⟩ := r; rfl
 | str _ => obtain ⟨t, rfl⟩ := r; rfl
 | byt _ => obtain ⟨t, rfl⟩ := r; rfl
 | flt _ => obtain ⟨t, rfl⟩ := r; rfl
 | ref _ => cases r; rfl
 | ty _ => cases r; rfl
theorem pc_isN {j pos'} (ha : PE X a ta) : PC X .Is a (.Constant .none j pos') (tIsN ta) := by
 intro pins s σ H Q I h
 refine thn (ha pins s σ H _ I h) fun v s1 ⟨x, H1, I1, r1, q1⟩ => ?_
 exact Constant_none (is_none_gen ⟨.bl _, H1, I1, by rw [r1.none_iff]; rfl, q1⟩)
theorem pc_notN {j pos'} (ha : PE X a ta) : PC X .IsNot a (.Constant .none j pos') (tNotN ta) := by
 intro pins s σ H Q I h
 refine thn (ha pins s σ H _ I h) fun v s1 ⟨x, H1, I1, r1, q1⟩ => ?_
 exact Constant_none (isnot_none_gen ⟨.bl _, H1, I1, by rw [r1.none_iff]; rfl, q1⟩)
def tB (t : TE) : TT := fun σ H Q => t σ H fun x H1 => ∃ c, x = .bl c ∧ Q c H1
theorem pe_cmp {op : CmpOp} {t : TE} (h : PC X op a b t) (h1 : behindInMarks op b = false := by first | exact nobehind _ (by decide) (by decide) | rfl) : PE X (.Compare a [op] [b] pos) t := fun pins s σ H Q I hw => wpAny_Compare1 (h pins s σ H Q I hw) h1
theorem pt_cmp {op : CmpOp} {t : TE} (h : PC X op a b t) (h1 : behindInMarks op b = false := by first | exact nobehind _ (by decide) (by decide) | rfl) : PT X (.Compare a [op] [b] pos) (tB t) := by
 intro pins s σ H Q I hw
 refine wpAny_isTrue_Compare1 (thn (h pins s σ H _ I hw) fun v s1 h1 => thn h1 fun u s2 h2 => thn h2 fun c s3 ⟨x, H1, I1, r1, q1⟩ => ?_) h1
 obtain ⟨d, rfl, q⟩ := q1
 cases r1
 exact wpAny_truthy_bool ⟨H1, I1, q⟩
theorem pt_val {e : Expr} {t : TE} (h : PE X e t) (he : ∀ whole, isTrue e X.env whole = (do let v ← whole; standAt e.pos; holding [v] (truthy v)) := by intro _; rfl) : PT X e (tB t) := by
 intro pins s σ H Q I hw
 refine isTrue_plain (thn (h pins s σ H _ I hw) fun v s1 ⟨x, H1, I1, r1, q1⟩ => ?_) (he _)
 obtain ⟨d, rfl, q⟩ := q1
 cases r1
 exact wpAny_truthy_bool ⟨H1, I1, q⟩
variable {tA tB' : TT} {rest : List Expr}
def tAnd (t u : TT) : TT := fun σ H Q => t σ H fun c H1 => if c = true then u σ H1 Q else Q false H1
def tOr (t u : TT) : TT := fun σ H Q => t σ H fun c H1 => if c = true then Q true H1 else u σ H1 Q
def tNot (t : TT) : TT := fun σ H Q => t σ H fun c H1 => Q (!c) H1
theorem pw_and1 (ha : PT X a tA) : PW X (.BoolOp .And [a] pos) tA := by
 intro wh pins s σ H Q I h
 refine isTrue_and (thn (ha pins s σ H Q I h) fun c s1 e => ?_)
 cases c with
 | true => exact isTrue_and_nil e
 | false => exact e
theorem pw_or1 (ha : PT X a tA) : PW X (.BoolOp .Or [a] pos) tA := by
 intro wh pins s σ H Q I h
 refine isTrue_or (thn (ha pins s σ H Q I h) fun c s1 e => ?_)
 cases c with
 | false => exact isTrue_or_nil e
 | true => exact e
theorem pw_and (ha : PT X a tA) (hb : PW X (.BoolOp .And (b :: rest) pos) tB') : PW X (.BoolOp .And (a :: b :: rest) pos) (tAnd tA tB') := by
 intro wh pins s σ H Q I h
 refine isTrue_and (thn (ha pins s σ H _ I h) fun c s1 ⟨H1, I1, q1⟩ => ?_)
 cases c with
 | true => exact hb wh pins s1 σ H1 Q I1 q1
 | false => exact ⟨H1, I1, q1⟩
theorem pw_or (ha : PT X a tA) (hb : PW X (.BoolOp .Or (b :: rest) pos) tB') : PW X (.BoolOp .Or (a :: b :: rest) pos) (tOr tA tB') := by
 intro wh pins s σ H Q I h
 refine isTrue_or (thn (ha pins s σ H _ I h) fun c s1 ⟨H1, I1, q1⟩ => ?_)
 cases c with
 | true => exact ⟨H1, I1, q1⟩
 | false => exact hb wh pins s1 σ H1 Q I1 q1
theorem pt_not (ha : PT X a tA) : PT X (.UnaryOp .Not a pos) (tNot tA) := by
 intro pins s σ H Q I h
 exact isTrue_not (ha pins s σ H (fun c H1 => Q (!c) H1) I h)
def tAndV (ta tb : TE) : TE := fun σ H Q => ta σ H fun x H1 => ∃ c, x = .bl c ∧ if c = true then tb σ H1 Q else Q (.bl false) H1
def tOrV (ta tb : TE) : TE := fun σ H Q => ta σ H fun x H1 => ∃ c, x = .bl c ∧ if c = true then Q (.bl true) H1 else tb σ H1 Q
def tNotV (ta : TE) : TE := fun σ H Q => ta σ H fun x H1 => ∃ c, x = .bl c ∧ Q (.bl (!c)) H1
theorem pe_one {op} {t : TE} (h : PE X a t) : PE X (.BoolOp op [a] pos) t := fun pins s σ H Q I hw => BoolOp_one (h pins s σ H Q I hw)
theorem pe_and (ha : PE X a ta) (hb : PE X (.BoolOp .And (b :: rest) pos) tb) : PE X (.BoolOp .And (a :: b :: rest) pos) (tAndV ta tb) := by
 intro pins s σ H Q I h
 refine BoolOp_and (thn (ha pins s σ H _ I h) fun v s1 ⟨x, H1, I1, r1, q1⟩ => ?_)
 obtain ⟨c, rfl, q1⟩ := q1
 cases r1
 refine wpAny_truthy_bool ?_
 cases c with
 | true => exact hb pins s1 σ H1 Q I1 q1
 | false => exact ⟨.bl false, H1, I1, rfl, q1⟩
theorem pe_or (ha : PE X a ta) (hb : PE X (.BoolOp .Or (b :: rest) pos) tb) : PE X (.BoolOp .Or (a :: b :: rest) pos) (tOrV ta tb) := by
 intro pins s σ H Q I h
 refine BoolOp_or (thn (ha pins s σ H _ I h) fun v s1 ⟨x, H1, I1, r1, q1⟩ => ?_)
 obtain ⟨c, rfl, q1⟩ := q1
 cases r1
 refine wpAny_truthy_bool ?_
 cases c with
 | false => exact hb pins s1 σ H1 Q I1 q1
 | true => exact ⟨.bl true, H1, I1, rfl, q1⟩
theorem pe_not (ha : PE X a ta) : PE X (.UnaryOp .Not a pos) (tNotV ta) := by
 intro pins s σ H Q I h
 refine UnaryOp_ (thn (ha pins s σ H _ I h) fun v s1 ⟨x, H1, I1, r1, q1⟩ => ?_)
 obtain ⟨c, rfl, q1⟩ := q1
 cases r1
 exact not_of (wpAny_truthy_bool ⟨.bl (!c), H1, I1, rfl, q1⟩)
def tIf (t : TT) (ta tb : TE) : TE := fun σ H Q => t σ H fun c H1 => if c = true then ta σ H1 Q else tb σ H1 Q
end
end L2
namespace L2
open PySem PySem.Spec PyProof.Rows
def SqL (K : PySem.W.Frag) (H : Hp) (a : Addr) (xs : List V) : Prop :=
 Rd H a (.lst xs) ∨
  ∃ (o : Obj) (its : Array Value) (n : Nat), K.lookup a = some o ∧ o.cls = .type "list" ∧ o.dict = none ∧ o.data = .seq its n ∧ its.size ≤ sizeLine ∧ Vals xs its.toList
def SqT (K : PySem.W.Frag) (H : Hp) (a : Addr) (xs : List V) : Prop :=
 Rd H a (.tup xs) ∨
  ∃ (o : Obj) (its : Array Value) (n : Nat), K.lookup a = some o ∧ o.cls = .type "tuple" ∧ o.data = .seq its n ∧ its.size ≤ sizeLine ∧ Vals xs its.toList
def absV : Value → Option V
 | .none => some .non
 | .bool b => some (.bl b)
 | .int i _ => some (.int i)
 | .str x _ => some (.str x)
 | .bytes b _ => some (.byt b)
 | .float b _ => some (.flt b)
 | .ref a => some (.ref a)
 | .type n => some (.ty n)
 | _ => none
theorem RelV.abs {x : V} {u : Value} (r : RelV x u) : absV u = some x := by
 cases x with
 | non => cases r; rfl
 | bl _ => cases r; rfl
 | int _ => obtain ⟨t, rfl⟩ := r; rfl
 | str _ => obtain ⟨t, rfl⟩ := r; rfl
 | byt _ => obtain ⟨t, rfl⟩ := r; rfl
 | flt _ => obtain ⟨t, rfl⟩ := r; rfl
 | ref _ => cases r; rfl
 | ty _ => cases r; rfl
theorem RelV.inj {x y : V} {u : Value} (r : RelV x u) (q : RelV y u) : x = y := Option.some.inj (r.abs.symm.trans q.abs)
theorem Vals.inj : ∀ {xs ys : List V} {us : List Value}, Vals xs us → Vals ys us → xs = ys
 | _, _, _, .nil, .nil => rfl
 | _, _, _, .cons r t, .cons r' t' => by rw [r.inj r', Vals.inj t t']
section
variable {X : Cx} {pins : List (Addr × Obj)} {σ : St} {H : Hp} {s : Shared} {a : Addr} {xs ys : List V}
theorem SqL.of {K : PySem.W.Frag} (h : H a = some (.lst xs)) : SqL K H a xs := .inl (.inl h)
theorem SqT.of {K : PySem.W.Frag} (h : H a = some (.tup xs)) : SqT K H a xs := .inl (.inl h)
theorem Inv.list (I : Inv X pins σ H s) (h : SqL X.K H a xs) : ∃ its : List Value, Vals xs its ∧ PlainL s.heap a its.toArray ∧ xs.length ≤ sizeLine := by
 rcases h with h | ⟨o, its, n, hk, hc, hd, hs, hz, r⟩
 ·obtain ⟨z, its, n, r, e⟩ := h.ok I.hok
  exact ⟨its, r, ⟨_, n, e, rfl, rfl, rfl⟩, z⟩
 ·refine ⟨its.toList, r, ⟨o, n, I.kIn a o hk, hc, hd, by simpa using hs⟩, ?_⟩
  have e := r.length
  simp only [Array.length_toList] at e
  omega
theorem Inv.tuple (I : Inv X pins σ H s) (h : SqT X.K H a xs) : ∃ its : List Value, Vals xs its ∧ IsTup s.heap a its.toArray ∧ xs.length ≤ sizeLine := by
 rcases h with h | ⟨o, its, n, hk, hc, hs, hz, r⟩
 ·obtain ⟨z, its, r, p⟩ := h.ok I.hok
  exact ⟨its, r, p, z⟩
 ·refine ⟨its.toList, r, ⟨o, I.kIn a o hk, hc, n, by simpa using hs⟩, ?_⟩
  have e := r.length
  simp only [Array.length_toList] at e
  omega
theorem Inv.list_inj (I : Inv X pins σ H s) (h : SqL X.K H a xs) (h' : SqL X.K H a ys) : xs = ys := by
 obtain ⟨its, r, ⟨o, n, e, _, _, d⟩, _⟩ := I.list h
 obtain ⟨its', r', ⟨o', n', e', _, _, d'⟩, _⟩ := I.list h'
 rw [e] at e'; cases e'
 rw [d] at d'
 injection d' with d1 _
 have : its = its' := by simpa using congrArg Array.toList d1
 subst this
 exact r.inj r'
theorem Inv.tuple_inj (I : Inv X pins σ H s) (h : SqT X.K H a xs) (h' : SqT X.K H a ys) : xs = ys := by
 obtain ⟨its, r, ⟨o, e, _, n, d⟩, _⟩ := I.tuple h
 obtain ⟨its', r', ⟨o', e', _, n', d'⟩, _⟩ := I.tuple h'
 rw [e] at e'; cases e'
 rw [d] at d'
 injection d' with d1 _
 have : its = its' := by simpa using congrArg Array.toList d1
 subst this
 exact r.inj r'
end
abbrev Cx.wish (X : Cx) (E : Value → Shared → Prop) : Cx := { X with xe := E }
abbrev Cx.nox (X : Cx) : Cx := X.wish fun _ _ => False
theorem Cx.Ok.wish {X : Cx} (ok : X.Ok) (E : Value → Shared → Prop) : (X.wish E).Ok :=
 ⟨ok.mod, ok.kind, ok.glob, ok.blt, ok.above, ok.inj, ok.has, ok.cab, ok.hd, ok.frames, ok.stk, ok.exf, ok.bs, ok.bsz, ok.noex, ok.exfs, ok.funs, ok.frf⟩
theorem Cx.Ok.unwish {X : Cx} {E : Value → Shared → Prop} (ok : (X.wish E).Ok) : X.Ok :=
 ⟨ok.mod, ok.kind, ok.glob, ok.blt, ok.above, ok.inj, ok.has, ok.cab, ok.hd, ok.frames, ok.stk, ok.exf, ok.bs, ok.bsz, ok.noex, ok.exfs, ok.funs, ok.frf⟩
section
variable {X : Cx} {pins : List (Addr × Obj)} {σ : St} {H : Hp} {s : Shared} {E : Value → Shared → Prop}
theorem Inv.wish (I : Inv X pins σ H s) (E : Value → Shared → Prop) : Inv (X.wish E) pins σ H s := ⟨I.ok.wish E, I.os, I.bare, I.base, I.loc, I.cell, I.free, I.freeC, I.pin, I.hok, I.len⟩
theorem Inv.unwish (I : Inv (X.wish E) pins σ H s) : Inv X pins σ H s := ⟨I.ok.unwish, I.os, I.bare, I.base, I.loc, I.cell, I.free, I.freeC, I.pin, I.hok, I.len⟩
theorem SP.unwish {D : Ends} {f : Flow} {s' : Shared} (h : SP (X.wish E) pins D f s') : SP X pins D f s' := by
 cases f with
 | next => obtain ⟨σ', H', I, q⟩ := h; exact ⟨σ', H', I.unwish, q⟩
 | brk => obtain ⟨σ', H', I, q⟩ := h; exact ⟨σ', H', I.unwish, q⟩
 | cont => obtain ⟨σ', H', I, q⟩ := h; exact ⟨σ', H', I.unwish, q⟩
 | ret u => obtain ⟨v, σ', H', I, r, q⟩ := h; exact ⟨v, σ', H', I.unwish, r, q⟩
theorem PE.nox {e : Expr} {t : TE} (h : PE X.nox e t) : PE X e t := fun pins s σ H Q I hw =>
 wpAny_mono (h pins s σ H Q (I.wish _) hw) (fun _ _ ⟨v, H', I', r, q⟩ => ⟨v, H', I'.unwish, r, q⟩) fun _ _ z => False.elim z
theorem PT.nox {e : Expr} {t : TT} (h : PT X.nox e t) : PT X e t := fun pins s σ H Q I hw =>
 wpAny_mono (h pins s σ H Q (I.wish _) hw) (fun _ _ ⟨H', I', q⟩ => ⟨H', I'.unwish, q⟩) fun _ _ z => False.elim z
theorem PSs.nox {st : List Stmt} {t : TS} (h : PSs X.nox st t) : PSs X st t := fun pins s σ H D I hw =>
 wpAny_mono (h pins s σ H D (I.wish _) hw) (fun _ _ q => q.unwish) fun _ _ z => False.elim z
end
section
variable {X : Cx} {st : Stmt} {rest : List Stmt} {t u : TS} {e : Expr} {te : TE} {pos : Pos}
def tNext : TS := fun D σ H => D.nx σ H
def tSeq (t u : TS) : TS := fun D σ H => t { D with nx := u D } σ H
theorem pss_nil : PSs X [] tNext := fun _ _ σ H _ I h => wpAny_execs_nil ⟨σ, H, I, h⟩
theorem pss_cons (h1 : PS X st t) (h2 : PSs X rest u) : PSs X (st :: rest) (tSeq t u) := by
 intro pins s σ H D I h
 refine wpAny_execs_cons (thn (h1 pins s σ H { D with nx := u D } I h) fun f s1 q => ?_)
 cases f with
 | next =>
  obtain ⟨σ', H', I', q⟩ := q
  exact h2 pins s1 σ' H' D I' q
 | ret v => exact q
 | brk => exact q
 | cont => exact q
theorem pss_one (h1 : PS X st t) : PSs X [st] t := by
 intro pins s σ H D I h
 refine wpAny_execs_cons (thn (h1 pins s σ H D I h) fun f s1 q => ?_)
 cases f with
 | next => exact wpAny_execs_nil q
 | ret v => exact q
 | brk => exact q
 | cont => exact q
theorem Inv.quiet {pins : List (Addr × Obj)} {σ : St} {H : Hp} {s : Shared} (I : Inv X pins σ H s) : interactive X.env = false := by simp [interactive, I.ok.kind]
def tDrop (te : TE) : TS := fun D σ H => te σ H fun _ H1 => D.nx σ H1
theorem ps_expr (he : PE X e te) (hs : swapsWith e none pos.line X.env = pure false := by rfl) : PS X (.Expr e pos) (tDrop te) := by
 intro pins s σ H D I h
 exact wpAny_Expr_any (thn (he pins s σ H _ I h) fun v s1 ⟨x, H1, I1, r1, q1⟩ => ⟨σ, H1, I1, q1⟩) I.quiet hs
def tRet (te : TE) : TS := fun D σ H => te σ H D.rt
theorem ps_ret (he : PE X e te) : PS X (.Return (some e) pos) (tRet te) := by
 intro pins s σ H D I h
 exact wpAny_Return_some (thn (he pins s σ H _ I h) fun v s1 ⟨x, H1, I1, r1, q1⟩ => ⟨x, σ, H1, I1, r1, q1⟩)
def tIfS (c : TT) (t u : TS) : TS := fun D σ H => c σ H fun b H1 => if b = true then t D σ H1 else u D σ H1
theorem ps_if {c : Expr} {a b : List Stmt} {tc : TT} (hc : PT X c tc) (ha : PSs X a t) (hb : PSs X b u) : PS X (.If c a b pos) (tIfS tc t u) := by
 intro pins s σ H D I h
 refine wpAny_If (thn (hc pins s σ H _ I h) fun d s1 ⟨H1, I1, q1⟩ => ?_)
 cases d with
 | true => exact ha pins s1 σ H1 D I1 q1
 | false => exact hb pins s1 σ H1 D I1 q1
end
abbrev TG := V → St → Hp → (St → Hp → Prop) → Prop
abbrev TGs := List V → St → Hp → (St → Hp → Prop) → Prop
def PG (X : Cx) (target : Expr) (t : TG) : Prop :=
 ∀ (pins : List (Addr × Obj)) (s : Shared) (σ : St) (H : Hp) (v : V) (u : Value) (Q : St → Hp → Prop), Inv X pins σ H s → RelV v u → t v σ H Q →
  wpAny (model X.prog X.w) X.A (assign target X.env u) (fun _ s' => ∃ σ' H', Inv X pins σ' H' s' ∧ Q σ' H') X.xe s
def PGs (X : Cx) (ts : List Expr) (t : TGs) : Prop :=
 ∀ (pins : List (Addr × Obj)) (s : Shared) (σ : St) (H : Hp) (vs : List V) (us : List Value) (Q : St → Hp → Prop), Inv X pins σ H s → Vals vs us → t vs σ H Q →
  wpAny (model X.prog X.w) X.A (assignInOrder ((assignEach ts X.env).map (·.2)) us) (fun _ s' => ∃ σ' H', Inv X pins σ' H' s' ∧ Q σ' H') X.xe s
abbrev TSet := V → V → V → Hp → (Hp → Prop) → Prop
section
variable {X : Cx} {pos : Pos}
def gName (i : Nat) : TG := fun v σ H Q => Q (σ.set i (some v)) H
theorem pg_name {i : Nat} {x : Str} (hN : X.N.Nodup) (hi : X.N[i]? = some x) (hx : Loc X.env.scope x) (hf : X.fn x = true ∨ X.env.scope.names.lookup x = some .local := by first | exact .inl rfl | exact .inr rfl | assumption) : PG X (.Name x pos) (gName i) := by
 intro pins s σ H v u Q I r h
 exact wpAny_assign_Name (store_ok I hN hi hx r (fun s' I' => ⟨_, H, I', h⟩) hf)
def gNil : TGs := fun vs σ H Q => vs = [] ∧ Q σ H
def gCons (t : TG) (u : TGs) : TGs := fun vs σ H Q => ∃ v r, vs = v :: r ∧ t v σ H fun σ' H' => u r σ' H' Q
theorem pgs_nil : PGs X [] gNil := by
 intro pins s σ H vs us Q I r h
 obtain ⟨e, h⟩ := h
 subst e
 cases r
 exact assignInOrder_nil ⟨σ, H, I, h⟩
theorem pgs_cons {e : Expr} {es : List Expr} {t : TG} {u : TGs} (h1 : PG X e t) (h2 : PGs X es u)
 (hs : (assignEach (e :: es) X.env).map (·.2) = assign e X.env :: (assignEach es X.env).map (·.2) := by rfl) : PGs X (e :: es) (gCons t u) := by
 intro pins s σ H vs us Q I r h
 obtain ⟨v, vr, e1, h⟩ := h
 subst e1
 cases r with
 | cons r rr =>
  rw [hs]
  refine assignInOrder_cons (thn (h1 pins s σ H _ _ _ I r h) fun _ s1 ⟨σ1, H1, I1, q1⟩ => ?_)
  exact h2 pins s1 σ1 H1 _ _ Q I1 rr q1
def gTup (K : PySem.W.Frag) (n : Nat) (t : TGs) : TG := fun v σ H Q => ∃ a xs, v = .ref a ∧ SqT K H a xs ∧ xs.length = n ∧ t xs σ H Q
theorem pg_tup {es : List Expr} {k : Nat} {t : TGs} {n : Nat} (hc : X.calm = true) (h : PGs X es t)
 (hn : (assignEach es X.env).length = n := by rfl) (hst : (assignEach es X.env).findIdx? (·.1) = none := by rfl) : PG X (.Tuple es k pos) (gTup X.K n t) := by
 intro pins s σ H v u Q I r hw
 obtain ⟨a, xs, e1, hq, hl, hw⟩ := hw
 subst e1
 cases r
 obtain ⟨its, rv, ht, hz⟩ := I.tuple hq
 refine assign_Tuple_tuple (I.ok.hd hc) ht (by simp [hn, ← hl, rv.length]) hst fun h' hx => ?_
 have I1 : Inv X pins σ H { s with heap := h' } := I.kept (t' := s.toks) fun b o e => hx b o (Nat.ne_of_lt (Heap.lt_size e)) e
 exact h pins _ σ H xs _ Q I1 (by simpa using rv) hw
def gSub (to ti : TE) (t : TSet) : TG := fun v σ H Q => to σ H fun o H1 => ti σ H1 fun i H2 => t o i v H2 fun H3 => Q σ H3
def tAsg (te : TE) (g : TG) : TS := fun D σ H => te σ H fun x H1 => g x σ H1 D.nx
theorem ps_set {i : Nat} {x : Str} {e : Expr} {te : TE} {pos' : Pos} (hN : X.N.Nodup) (hi : X.N[i]? = some x) (hx : Loc X.env.scope x) (he : PE X e te) (hs : swapsWith e (some (.Name x pos')) pos.line X.env = pure false := by rfl) (hf : X.fn x = true ∨ X.env.scope.names.lookup x = some .local := by first | exact .inl rfl | exact .inr rfl | assumption) :
 PS X (.Assign [.Name x pos'] e pos) (tAsg te (gName i)) := by
 intro pins s σ H D I h
 refine wpAny_Assign_Name (thn (he pins s σ H _ I h) fun v s1 ⟨y, H1, I1, r1, q1⟩ => ?_) hs
 exact store_ok I1 hN hi hx r1 (fun s2 I2 => ⟨_, H1, I2, q1⟩) hf
end
section
variable {X : Cx} {pos : Pos}
end
structure It where
 go : Nat → Hp → Prop
 yld : Nat → Hp → V → Hp → Prop
 stop : Nat → Hp → Prop
def FpOk (X : Cx) (pins : List (Addr × Obj)) (H : Hp) (b : Addr) : Prop :=
 H b = none ∧ b ≠ X.env.locals ∧ b ∉ X.fs ∧ (b ∈ X.ex ∨ X.s₀.heap.objs.size ≤ b) ∧ (∀ x c, X.env.cells.lookup x = some c → c ≠ b) ∧ ∀ p ∈ X.pn ++ pins, p.1 ≠ b
theorem Inv.fpOk {X : Cx} {pins : List (Addr × Obj)} {σ : St} {H H' : Hp} {s : Shared} {b : Addr} (I : Inv X pins σ H s) (hb : s.heap.objs.size ≤ b) (hn : H' b = none) : FpOk X pins H' b := by
 refine ⟨hn, Nat.ne_of_gt (Nat.lt_of_lt_of_le I.lt hb), I.nofs hb, .inr (Nat.le_trans I.sz hb), fun x c e z => ?_, fun p hp z => ?_⟩
 ·obtain ⟨v, q⟩ := I.cell x c e
  exact absurd (Nat.lt_of_lt_of_le q.lt (by rw [z]; exact hb)) (Nat.lt_irrefl _)
 ·exact absurd (Nat.lt_of_lt_of_le (Heap.lt_size (I.pin p hp).1) (by rw [z]; exact hb)) (Nat.lt_irrefl _)
structure Turn (P : Program) (w : World) (K : PySem.W.Frag) (tg : Expr) (J : It) (fp : List Addr) (it : Addr) (tn : Nat → Heap → Prop) : Prop where
 mem : it ∈ fp
 obj : ∀ i h, tn i h → ∀ b ∈ fp, ∃ o, h.get? b = some o ∧ ∀ v, o.data ≠ .cell v
 keep : ∀ i h h', tn i h → (∀ b ∈ fp, ∀ o, h.get? b = some o → h'.get? b = some o) → tn i h'
 item : ∀ (X : Cx), X.prog = P → X.w = w → X.K = K → X.calm = true → ∀ (i : Nat) (pins : List (Addr × Obj)) (s : Shared) (σ : St) (H : Hp) (E : Value → Shared → Prop), Inv X pins σ H s → (∀ b ∈ fp, FpOk X pins H b) → tn i s.heap → J.go i H →
  wpAny (model P w) X.A (pyNext (.ref it)) (fun r s1 => ∃ u, r = some u ∧
   wpAny (model P w) X.A (letOwnedTupleGo tg (.ref it) u) (fun _ s2 => ∃ x H', Inv X pins σ H' s2 ∧ RelV x u ∧ J.yld i H x H' ∧ tn (i + 1) s2.heap ∧ ∀ b ∈ fp, H' b = none) E s1) E s
 done : ∀ (X : Cx), X.prog = P → X.w = w → X.K = K → X.calm = true → ∀ (i : Nat) (pins : List (Addr × Obj)) (s : Shared) (σ : St) (H : Hp) (E : Value → Shared → Prop), Inv X pins σ H s → (∀ b ∈ fp, FpOk X pins H b) → tn i s.heap → J.stop i H →
  wpAny (model P w) X.A (pyNext (.ref it)) (fun r s1 => r = none ∧ Inv X pins σ H s1) E s
 self : ∀ (A : Around) (i : Nat) (s : Shared) (Q : Value → Shared → Prop) (E : Value → Shared → Prop), tn i s.heap → Q (.ref it) s → wpAny (model P w) A (pyIter (.ref it)) Q E s
abbrev TI := St → Hp → (It → Hp → Prop) → Prop
def PIE (X : Cx) (pins : List (Addr × Obj)) (σ : St) (tg : Expr) (R : It → Hp → Prop) (itv : Value) (s2 : Shared) : Prop :=
 ∃ (it : Addr) (fp : List Addr) (tn : Nat → Heap → Prop) (J : It) (H' : Hp), itv = .ref it ∧ Inv X pins σ H' s2 ∧ Turn X.prog X.w X.K tg J fp it tn ∧ tn 0 s2.heap ∧ (∀ b ∈ fp, FpOk X pins H' b) ∧ R J H'
def PI (X : Cx) (tg iter : Expr) (wi : TI) : Prop :=
 ∀ (pins : List (Addr × Obj)) (s : Shared) (σ : St) (H : Hp) (R : It → Hp → Prop), Inv X pins σ H s → wi σ H R →
  wpAny (model X.prog X.w) X.A (eval iter X.env) (fun v s1 => wpAny (model X.prog X.w) X.A (pyIter v) (PIE X pins σ tg R) X.xe s1) X.xe s
theorem go_of {M : Model} {A : Around} {E : Value → Shared → Prop} {s : Shared} {tg : Expr} {it : Addr} {u : Value} {o : Obj} {n : String} {vs : Array Value} {Q : Unit → Shared → Prop} (ho : s.heap.get? it = some o) (hc : o.cls = .type n) (hd : o.data = .fields vs)
 (hn : ["enumerate", "zip", "dict_itemiterator", "dict_reverseitemiterator", "odict_iterator", "itertools.zip_longest", "itertools.pairwise"].contains n = false) (hQ : Q () s) : wpAny M A (letOwnedTupleGo tg (.ref it) u) Q E s := by
 unfold letOwnedTupleGo
 cases tg <;> first
  | exact wpAny_pure hQ
  | (cases u <;> first
      | exact wpAny_pure hQ
      | (refine wpAny_bind (wpAny_load ho ?_)
         rw [hc, hd]
         show wpAny M A (if (["enumerate", "zip", "dict_itemiterator", "dict_reverseitemiterator", "odict_iterator", "itertools.zip_longest", "itertools.pairwise"].contains n && vs[0]? == some (rawInt _)) = true then _ else _) Q E s
         rw [if_neg (by intro h; rw [hn, Bool.false_and] at h; cases h)]
         exact wpAny_pure hQ))
def Itl (K : PySem.W.Frag) (a : Addr) : It :=
 ⟨fun i H => ∃ xs x, SqL K H a xs ∧ xs[i]? = some x, fun i H x H' => H' = H ∧ ∀ xs, SqL K H a xs → xs[i]? = some x, fun i H => ∃ xs, SqL K H a xs ∧ xs.length ≤ i⟩
def Itt (K : PySem.W.Frag) (a : Addr) : It :=
 ⟨fun i H => ∃ xs x, SqT K H a xs ∧ xs[i]? = some x, fun i H x H' => H' = H ∧ ∀ xs, SqT K H a xs → xs[i]? = some x, fun i H => ∃ xs, SqT K H a xs ∧ xs.length ≤ i⟩
def Itr (lo : Int) (n : Nat) : It := ⟨fun i _ => i < n, fun i H x H' => H' = H ∧ x = .int (lo + i), fun i _ => n ≤ i⟩
theorem turn_list {P : Program} {w : World} {K : PySem.W.Frag} {tg : Expr} (a it : Addr) : Turn P w K tg (Itl K a) [it] it (fun i h => h.IsListIter it a i) where
 mem := by simp
 obj := fun i h st b hb => by
  have e : b = it := by simpa using hb
  subst e
  obtain ⟨o, e, c, d⟩ := st
  exact ⟨o, e, fun v z => by rw [d] at z; cases z⟩
 keep := fun i h h' st k => st.at fun o e => k it (by simp) o e
 item := by
  intro X hP hw hK hc i pins s σ H E I hf st hg
  subst hP hw hK
  obtain ⟨xs, x, hq, hx⟩ := hg
  obtain ⟨its, rv, p, hz⟩ := I.list hq
  obtain ⟨u, hu, ru⟩ := rv.get hx
  obtain ⟨f0, f1, f2, f3, f4, f5⟩ := hf it (by simp)
  refine wpAny_pyNext_list_item st p.isList (x := u) (by simpa using hu) fun h' st' sb => ?_
  have I1 : Inv X pins σ H { s with heap := h' } := I.turned (t' := s.toks) (fun b o hb e => (sb.2 b hb).trans e) f0 f1 f3 f4 f5
  obtain ⟨o, e, c, d⟩ := id st'
  exact ⟨u, rfl, go_of (s := { s with heap := h' }) e c d (by decide) ⟨x, H, I1, ru, ⟨rfl, fun ys hy => by rw [I.list_inj hy hq]; exact hx⟩, st', fun b hb => (hf b hb).1⟩⟩
 done := by
  intro X hP hw hK hc i pins s σ H E I hf st hg
  subst hP hw hK
  obtain ⟨xs, hq, hx⟩ := hg
  obtain ⟨its, rv, p, hz⟩ := I.list hq
  obtain ⟨f0, f1, f2, f3, f4, f5⟩ := hf it (by simp)
  have hl := rv.length
  exact wpAny_pyNext_list_end (I.ok.hd hc) st p.isList (by simp; omega) fun h' eb => ⟨rfl, I.turned (t' := s.toks) (fun b o hb e => eb b o hb e) f0 f1 f3 f4 f5⟩
 self := fun _ _ _ _ _ st h => wpAny_pyIter_listiter st h
theorem turn_tuple {P : Program} {w : World} {K : PySem.W.Frag} {tg : Expr} (a it : Addr) : Turn P w K tg (Itt K a) [it] it (fun i h => h.IsTupleIter it a i) where
 mem := by simp
 obj := fun i h st b hb => by
  have e : b = it := by simpa using hb
  subst e
  obtain ⟨o, e, c, d⟩ := st
  exact ⟨o, e, fun v z => by rw [d] at z; cases z⟩
 keep := fun i h h' st k => st.at fun o e => k it (by simp) o e
 item := by
  intro X hP hw hK hc i pins s σ H E I hf st hg
  subst hP hw hK
  obtain ⟨xs, x, hq, hx⟩ := hg
  obtain ⟨its, rv, p, hz⟩ := I.tuple hq
  obtain ⟨u, hu, ru⟩ := rv.get hx
  obtain ⟨f0, f1, f2, f3, f4, f5⟩ := hf it (by simp)
  refine wpAny_pyNext_tuple_item st (show s.heap.IsTuple a its.toArray from p) (x := u) (by simpa using hu) fun h' st' sb => ?_
  have I1 : Inv X pins σ H { s with heap := h' } := I.turned (t' := s.toks) (fun b o hb e => (sb.2 b hb).trans e) f0 f1 f3 f4 f5
  obtain ⟨o, e, c, d⟩ := id st'
  exact ⟨u, rfl, go_of (s := { s with heap := h' }) e c d (by decide) ⟨x, H, I1, ru, ⟨rfl, fun ys hy => by rw [I.tuple_inj hy hq]; exact hx⟩, st', fun b hb => (hf b hb).1⟩⟩
 done := by
  intro X hP hw hK hc i pins s σ H E I hf st hg
  subst hP hw hK
  obtain ⟨xs, hq, hx⟩ := hg
  obtain ⟨its, rv, p, hz⟩ := I.tuple hq
  obtain ⟨f0, f1, f2, f3, f4, f5⟩ := hf it (by simp)
  have hl := rv.length
  exact wpAny_pyNext_tuple_end (I.ok.hd hc) st (show s.heap.IsTuple a its.toArray from p) (by simp; omega) fun h' eb => ⟨rfl, I.turned (t' := s.toks) (fun b o hb e => eb b o hb e) f0 f1 f3 f4 f5⟩
 self := fun _ _ _ _ _ st h => wpAny_pyIter_tupleiter st h
theorem turn_range {P : Program} {w : World} {K : PySem.W.Frag} {tg : Expr} (it : Addr) (lo : Int) (n : Nat) : Turn P w K tg (Itr lo n) [it] it (fun i h => IsRangeIter h it (lo + (i : Nat) * 1) ((n : Int) - (i : Nat)) 1) where
 mem := by simp
 obj := fun i h st b hb => by
  have e : b = it := by simpa using hb
  subst e
  exact ⟨_, st, fun v z => by
   have z' : Data.fields _ = Data.cell v := z
   cases z'⟩
 keep := fun i h h' st k => k it (by simp) _ st
 item := by
  intro X hP hw hK hc i pins s σ H E I hf st hg
  subst hP hw hK
  obtain ⟨f0, f1, f2, f3, f4, f5⟩ := hf it (by simp)
  have W := Walks.range (prog := X.prog) (w := X.w) (I.ok.hd hc) it lo 1 n
  refine W.item i s _ _ hg st fun v h' tk hv st' kk => ?_
  obtain ⟨t, rfl⟩ := hv
  have I1 : Inv X pins σ H { s with heap := h', toks := tk } := I.turned (fun b o hb e => kk b o (by simpa using hb) e) f0 f1 f3 f4 f5
  refine ⟨_, rfl, go_of (s := { s with heap := h', toks := tk }) (n := "range_iterator") st' rfl rfl (by decide) ⟨.int (lo + i), H, I1, ⟨t, ?_⟩, ⟨rfl, rfl⟩, st', fun b hb => (hf b hb).1⟩⟩
  rw [Int.mul_one]
 done := by
  intro X hP hw hK hc i pins s σ H E I hf st hg
  subst hP hw hK
  obtain ⟨f0, f1, f2, f3, f4, f5⟩ := hf it (by simp)
  exact wpAny_pyNext_range_end (I.ok.hd hc) st (by have : n ≤ i := hg; omega) fun h' eb => ⟨rfl, I.turned (t' := s.toks) (fun b o hb e => eb b o hb e) f0 f1 f3 f4 f5⟩
 self := fun _ _ _ _ _ st h => wpAny_pyIter_rangeiter st h
end L2
namespace L2
open PySem PySem.Spec PyProof.Rows
section
variable {X : Cx} {tg : Expr}
def iList (K : PySem.W.Frag) (tl : TE) : TI := fun σ H R => tl σ H fun x H1 => ∃ a, x = .ref a ∧ (∃ xs, SqL K H1 a xs) ∧ R (Itl K a) H1
def iTup (K : PySem.W.Frag) (tl : TE) : TI := fun σ H R => tl σ H fun x H1 => ∃ a, x = .ref a ∧ (∃ xs, SqT K H1 a xs) ∧ R (Itt K a) H1
theorem pi_list {l : Expr} {tl : TE} (hl : PE X l tl) : PI X tg l (iList X.K tl) := by
 intro pins s σ H R I h
 refine thn (hl pins s σ H _ I h) fun v s1 ⟨x, H1, I1, r1, q1⟩ => ?_
 obtain ⟨a, e, ⟨xs, hq⟩, q⟩ := q1
 subst e
 cases r1
 obtain ⟨its, rv, p, hz⟩ := I1.list hq
 refine wpAny_pyIter_list p.isList ?_
 refine ⟨s1.heap.objs.size, [s1.heap.objs.size], _, _, H1, rfl, I1.kept (t' := s1.toks) fun b o e => Heap.get?_push_of_some _ e, turn_list a _, ⟨_, Heap.get?_push_size _ rfl, rfl, rfl⟩, fun b hb => ?_, q⟩
 have e : b = s1.heap.objs.size := by simpa using hb
 subst e
 exact I1.fpOk (Nat.le_refl _) (I1.hok.fresh (Nat.le_refl _))
theorem pi_tup {l : Expr} {tl : TE} (hl : PE X l tl) : PI X tg l (iTup X.K tl) := by
 intro pins s σ H R I h
 refine thn (hl pins s σ H _ I h) fun v s1 ⟨x, H1, I1, r1, q1⟩ => ?_
 obtain ⟨a, e, ⟨xs, hq⟩, q⟩ := q1
 subst e
 cases r1
 obtain ⟨its, rv, p, hz⟩ := I1.tuple hq
 refine wpAny_pyIter_tuple (show s1.heap.IsTuple a its.toArray from p) ?_
 refine ⟨s1.heap.objs.size, [s1.heap.objs.size], _, _, H1, rfl, I1.kept (t' := s1.toks) fun b o e => Heap.get?_push_of_some _ e, turn_tuple a _, ⟨_, Heap.get?_push_size _ rfl, rfl, rfl⟩, fun b hb => ?_, q⟩
 have e : b = s1.heap.objs.size := by simpa using hb
 subst e
 exact I1.fpOk (Nat.le_refl _) (I1.hok.fresh (Nat.le_refl _))
theorem range_it {pins : List (Addr × Obj)} {σ : St} {H : Hp} {s : Shared} {R : It → Hp → Prop} {E : Value → Shared → Prop} {lo hi : Int} {t u v : Tok} {tk : Nat} (I : Inv X pins σ H s) (h1 : -(2 ^ 62) ≤ lo) (h2 : lo < 2 ^ 62) (h3 : -(2 ^ 62) ≤ hi) (h4 : hi < 2 ^ 62)
 (q : R (Itr lo (hi - lo).toNat) H) : wpAny (model X.prog X.w) X.A (pyIter (.ref s.heap.objs.size)) (PIE X pins σ tg R) E { s with heap := s.heap.push { cls := .type "range", data := .fields #[.int lo t, .int hi u, .int 1 v] }, toks := tk } := by
 refine wpAny_pyIter_range (IsRange.new ..) (small_one h1 h2 h3 h4) ?_
 have I1 : Inv X pins σ H { s with heap := s.heap.push { cls := .type "range", data := .fields #[.int lo t, .int hi u, .int 1 v] }, toks := tk } := I.kept fun b o e => Heap.get?_push_of_some _ e
 refine ⟨(s.heap.push { cls := .type "range", data := .fields #[.int lo t, .int hi u, .int 1 v] }).objs.size, [(s.heap.push { cls := .type "range", data := .fields #[.int lo t, .int hi u, .int 1 v] }).objs.size], _, _, H, rfl,
  I1.kept (t' := tk) fun b o e => Heap.get?_push_of_some _ e, turn_range _ lo (hi - lo).toNat, ?_, fun b hb => ?_, q⟩
 ·have e1 : lo + ((0 : Nat) : Int) * 1 = lo := by simp
  have e2 : (((hi - lo).toNat : Nat) : Int) - ((0 : Nat) : Int) = Builtin.Range.rangeSize lo hi 1 := by rw [rangeSize_one]; split <;> omega
  show IsRangeIter _ _ (lo + ((0 : Nat) : Int) * 1) ((((hi - lo).toNat : Nat) : Int) - ((0 : Nat) : Int)) 1
  rw [e1, e2]
  exact Heap.get?_push_size _ rfl
 ·have e : b = (s.heap.push { cls := .type "range", data := .fields #[.int lo t, .int hi u, .int 1 v] }).objs.size := by simpa using hb
  subst e
  exact I1.fpOk (Nat.le_refl _) (I1.hok.fresh (Nat.le_refl _))
def iRng1 (ta : TA) : TI := fun σ H R => ta σ H fun vs H1 => ∃ j : Int, vs = [.int j] ∧ -(2 ^ 62) ≤ j ∧ j < 2 ^ 62 ∧ R (Itr 0 j.toNat) H1
def iRng2 (ta : TA) : TI := fun σ H R => ta σ H fun vs H1 => ∃ i j : Int, vs = [.int i, .int j] ∧ (-(2 ^ 62) ≤ i ∧ i < 2 ^ 62 ∧ -(2 ^ 62) ≤ j ∧ j < 2 ^ 62) ∧ R (Itr i (j - i).toNat) H1
theorem pi_range1 {a : Expr} {ta : TA} {p pos : Pos} (hg : Gl X "range") (hm : X.mg "range" = none) (ha : PA X [a] ta) (hs : starEach [a] X.env = [(false, eval a X.env)] := by rfl) : PI X tg (.Call (.Name "range" p) [a] [] pos) (iRng1 ta) := by
 intro pins s σ H R I h
 refine Call_ (ld_blt I hg hm boot_range (PyProof.Rows.callWith_type1 (thn (ha pos pins s σ H _ I h) fun us s1 ⟨vs, H1, I1, r1, q1⟩ => ?_) hs rfl))
 obtain ⟨j, e, q1, q2, q⟩ := q1
 subst e
 cases r1 with
 | cons r rr =>
  cases rr
  obtain ⟨t, rfl⟩ := r
  exact call_range_1 (range_it I1 (by omega) (by omega) q1 q2 (by simpa using q))
def tFor (wi : TI) (g : TG) (tb : TS) : TS := fun D σ H => wi σ H fun J H1 => ∃ W : Nat → Nat → St → Hp → Prop, (∃ m, W 0 m σ H1) ∧ ∀ i m σ H, W i m σ H →
 (J.stop i H ∧ D.nx σ H) ∨ (J.go i H ∧ ∃ N : St → Hp → Prop, (∀ σ' H', N σ' H' → ∃ m', m' < m ∧ W (i + 1) m' σ' H') ∧ ∀ x H', J.yld i H x H' → g x σ H' fun σ2 H2 => tb { D with nx := N, ct := N, bk := D.nx } σ2 H2)
def pinsAt (fp : List Addr) (h : Heap) : List (Addr × Obj) := fp.filterMap fun b => (h.get? b).map fun o => (b, o)
theorem mem_pinsAt {fp : List Addr} {h : Heap} {b : Addr} {o : Obj} (hb : b ∈ fp) (e : h.get? b = some o) : (b, o) ∈ pinsAt fp h := List.mem_filterMap.mpr ⟨b, hb, by rw [e]; rfl⟩
theorem of_pinsAt {fp : List Addr} {h : Heap} {p : Addr × Obj} (hp : p ∈ pinsAt fp h) : p.1 ∈ fp ∧ h.get? p.1 = some p.2 := by
 obtain ⟨b, hb, e⟩ := List.mem_filterMap.mp hp
 cases q : h.get? b with
 | none => rw [q] at e; cases e
 | some o =>
  rw [q] at e
  have e' : (b, o) = p := Option.some.inj e
  subst e'
  exact ⟨hb, q⟩
theorem Inv.pinned {pins : List (Addr × Obj)} {σ : St} {H : Hp} {s : Shared} {fp : List Addr} (I : Inv X pins σ H s) (hf : ∀ b ∈ fp, FpOk X pins H b) (ho : ∀ b ∈ fp, ∃ o, s.heap.get? b = some o ∧ ∀ v, o.data ≠ .cell v) : Inv X (pins ++ pinsAt fp s.heap) σ H s :=
 I.pins_of fun p hp => (List.mem_append.mp hp).elim (fun z => I.pin p (List.mem_append_right _ z)) fun z => by
  obtain ⟨hb, e⟩ := of_pinsAt z
  obtain ⟨f0, f1, f2, _⟩ := hf p.1 hb
  obtain ⟨o, e', d⟩ := ho p.1 hb
  rw [e] at e'; cases e'
  exact ⟨e, f0, f1, f2, d⟩
theorem Inv.unpinned {pins pl : List (Addr × Obj)} {σ : St} {H : Hp} {s : Shared} (I : Inv X (pins ++ pl) σ H s) : Inv X pins σ H s := I.pins_of fun p hp => I.pin p (List.mem_append_right _ (List.mem_append_left _ hp))
theorem ps_for {iter : Expr} {body : List Stmt} {wi : TI} {g : TG} {tb : TS} {pos : Pos} (hp : PassesOwn (model X.prog X.w) X.A X.env X.xe) (hc : X.calm = true) (hi : PI X tg iter wi) (hg : PG X tg g) (hb : PSs X body tb)
 (hs : ∀ x, foldedSetIterable iter X.env x = pure x := by intro _; rfl) : PS X (.For tg iter body [] pos) (tFor wi g tb) := by
 intro pins s σ H D I h
 refine wpAny_For (thn (hi pins s σ H _ I h) fun v s1 h1 => thn h1 fun itv s2 h2 => ?_) hs
 obtain ⟨it, fp, tn, J, H2, e, I2, T, st2, f2, W, ⟨m0, w0⟩, turn⟩ := h2
 subst e
 have stat : ∀ {H' : Hp}, (∀ b ∈ fp, H' b = none) → ∀ b ∈ fp, FpOk X pins H' b := fun hn b hb => ⟨hn b hb, (f2 b hb).2⟩
 refine codeAny_forLoop_any (fun n s' => ∃ i σ' H', Inv X pins σ' H' s' ∧ tn i s'.heap ∧ (∀ b ∈ fp, H' b = none) ∧ W i n σ' H') ?_ m0 ⟨0, σ, H2, I2, st2, fun b hb => (f2 b hb).1, w0⟩
 rintro n s3 ⟨i, σ3, H3, I3, st3, fr3, w3⟩
 rcases turn i n σ3 H3 w3 with ⟨stop, qn⟩ | ⟨go, N, hN, step⟩
 ·refine wpAny_passesOwn hp (thn (T.done X rfl rfl rfl hc i pins s3 σ3 H3 X.xe I3 (stat fr3) st3 stop) fun r s4 ⟨hr, I4⟩ => ?_)
  subst hr
  exact wpAny_execs_nil ⟨σ3, H3, I4, qn⟩
 ·refine wpAny_passesOwn hp (thn (T.item X rfl rfl rfl hc i pins s3 σ3 H3 X.xe I3 (stat fr3) st3 go) fun r s4 ⟨u, hr, h4⟩ => ?_)
  subst hr
  refine wpAny_passesOwn hp (thn h4 fun _ s5 ⟨x, H5, I5, r5, y5, st5, fr5⟩ => ?_)
  have I5' := I5.pinned (stat fr5) (T.obj _ _ st5)
  refine wpAny_passesOwn hp (thn (hg _ s5 σ3 H5 x u _ I5' r5 (step x H5 y5)) fun _ s6 ⟨σ6, H6, I6, q6⟩ => ?_)
  refine wpAny_passesOwn hp (thn (hb _ s6 σ6 H6 _ I6 q6) fun f s7 q7 => ?_)
  have again : ∀ {σ7 : St} {H7 : Hp}, Inv X (pins ++ pinsAt fp s5.heap) σ7 H7 s7 → N σ7 H7 → ∃ m, m < n ∧ ∃ i σ' H', Inv X pins σ' H' s7 ∧ tn i s7.heap ∧ (∀ b ∈ fp, H' b = none) ∧ W i m σ' H' := fun {σ7 H7} I7 n7 => by
   obtain ⟨m', hm, w7⟩ := hN σ7 H7 n7
   refine ⟨m', hm, i + 1, σ7, H7, I7.unpinned, T.keep _ _ _ st5 fun b hb o e => (I7.pin (b, o) (List.mem_append_right _ (List.mem_append_right _ (mem_pinsAt hb e)))).1, fun b hb => ?_, w7⟩
   obtain ⟨o, e, d⟩ := T.obj _ _ st5 b hb
   exact (I7.pin (b, o) (List.mem_append_right _ (List.mem_append_right _ (mem_pinsAt hb e)))).2.1
  cases f with
  | next => obtain ⟨σ7, H7, I7, n7⟩ := q7; exact again I7 n7
  | cont => obtain ⟨σ7, H7, I7, n7⟩ := q7; exact again I7 n7
  | brk => obtain ⟨σ7, H7, I7, q7⟩ := q7; exact ⟨σ7, H7, I7.unpinned, q7⟩
  | ret v => obtain ⟨x7, σ7, H7, I7, r7, q7⟩ := q7; exact ⟨x7, σ7, H7, I7.unpinned, r7, q7⟩
end
theorem for_list {K : PySem.W.Frag} {a : Addr} {xs : List V} {g : TG} {tb : TS} {D : Ends} {σ : St} {H : Hp} (Pv : Nat → St → Hp → Prop) (h0 : Pv 0 σ H) (hl : ∀ i σ H, i ≤ xs.length → Pv i σ H → SqL K H a xs)
 (hs : ∀ i x σ H, xs[i]? = some x → Pv i σ H → g x σ H fun σ2 H2 => tb { D with nx := Pv (i + 1), ct := Pv (i + 1), bk := D.nx } σ2 H2) (hd : ∀ σ H, Pv xs.length σ H → D.nx σ H) :
 ∃ W : Nat → Nat → St → Hp → Prop, (∃ m, W 0 m σ H) ∧ ∀ i m σ H, W i m σ H →
  ((Itl K a).stop i H ∧ D.nx σ H) ∨ ((Itl K a).go i H ∧ ∃ N : St → Hp → Prop, (∀ σ' H', N σ' H' → ∃ m', m' < m ∧ W (i + 1) m' σ' H') ∧ ∀ x H', (Itl K a).yld i H x H' → g x σ H' fun σ2 H2 => tb { D with nx := N, ct := N, bk := D.nx } σ2 H2) := by
 refine ⟨fun i m σ H => m = xs.length - i ∧ i ≤ xs.length ∧ Pv i σ H, ⟨xs.length, by simp, Nat.zero_le _, h0⟩, ?_⟩
 rintro i m σ H ⟨rfl, hi, p⟩
 have q := hl i σ H hi p
 by_cases hlt : i < xs.length
 ·refine .inr ⟨⟨xs, xs[i], q, by simp [hlt]⟩, Pv (i + 1), fun σ' H' p' => ⟨xs.length - (i + 1), by omega, rfl, hlt, p'⟩, fun x H' y => ?_⟩
  obtain ⟨e, y⟩ := y
  subst e
  exact hs i x σ _ (y xs q) p
 ·have e : i = xs.length := by omega
  subst e
  exact .inl ⟨⟨xs, q, Nat.le_refl _⟩, hd σ H p⟩
theorem for_range {lo : Int} {n : Nat} {g : TG} {tb : TS} {D : Ends} {σ : St} {H : Hp} (Pv : Nat → St → Hp → Prop) (h0 : Pv 0 σ H)
 (hs : ∀ i σ H, i < n → Pv i σ H → g (.int (lo + i)) σ H fun σ2 H2 => tb { D with nx := Pv (i + 1), ct := Pv (i + 1), bk := D.nx } σ2 H2) (hd : ∀ σ H, Pv n σ H → D.nx σ H) :
 ∃ W : Nat → Nat → St → Hp → Prop, (∃ m, W 0 m σ H) ∧ ∀ i m σ H, W i m σ H →
  ((Itr lo n).stop i H ∧ D.nx σ H) ∨ ((Itr lo n).go i H ∧ ∃ N : St → Hp → Prop, (∀ σ' H', N σ' H' → ∃ m', m' < m ∧ W (i + 1) m' σ' H') ∧ ∀ x H', (Itr lo n).yld i H x H' → g x σ H' fun σ2 H2 => tb { D with nx := N, ct := N, bk := D.nx } σ2 H2) := by
 refine ⟨fun i m σ H => m = n - i ∧ i ≤ n ∧ Pv i σ H, ⟨n, by simp, Nat.zero_le _, h0⟩, ?_⟩
 rintro i m σ H ⟨rfl, hi, p⟩
 by_cases hlt : i < n
 ·refine .inr ⟨hlt, Pv (i + 1), fun σ' H' p' => ⟨n - (i + 1), by omega, rfl, hlt, p'⟩, fun x H' y => ?_⟩
  obtain ⟨e, y⟩ := y
  subst e y
  exact hs i σ _ hlt p
 ·have e : i = n := by omega
  subst e
  exact .inl ⟨Nat.le_refl _, hd σ H p⟩
end L2
namespace L2
open PySem PySem.Spec PyProof.Rows
abbrev R2 := V → V → Hp → VK → Prop
def OpR (X : Cx) (f : Value → Value → Sem Value) (r : R2) : Prop :=
 ∀ (pins : List (Addr × Obj)) (s : Shared) (σ : St) (H : Hp) (x y : V) (v u : Value) (Q : VK), Inv X pins σ H s → RelV x v → RelV y u → r x y H Q →
  wpAny (model X.prog X.w) X.A (f v u) (EP X pins σ Q) X.xe s
def UnR (X : Cx) (f : Value → Sem Value) (r : V → Hp → VK → Prop) : Prop :=
 ∀ (pins : List (Addr × Obj)) (s : Shared) (σ : St) (H : Hp) (x : V) (v : Value) (Q : VK), Inv X pins σ H s → RelV x v → r x H Q →
  wpAny (model X.prog X.w) X.A (f v) (EP X pins σ Q) X.xe s
def CallR (X : Cx) (f : Value) (r : List V → Hp → VK → Prop) : Prop :=
 ∀ (pins : List (Addr × Obj)) (s : Shared) (σ : St) (H : Hp) (xs : List V) (us : List Value) (Q : VK), Inv X pins σ H s → Vals xs us → r xs H Q →
  wpAny (model X.prog X.w) X.A (call f us) (EP X pins σ Q) X.xe s
def tOp (r : R2) (ta tb : TE) : TE := fun σ H Q => ta σ H fun x H1 => tb σ H1 fun y H2 => r x y H2 Q
def tUn (r : V → Hp → VK → Prop) (ta : TE) : TE := fun σ H Q => ta σ H fun x H1 => r x H1 Q
def rI (C : Int → Int → Prop) (g : Int → Int → V) : R2 := fun x y H Q => ∃ i j, x = .int i ∧ y = .int j ∧ C i j ∧ Q (g i j) H
def rI0 (g : Int → Int → V) : R2 := fun x y H Q => ∃ i j, x = .int i ∧ y = .int j ∧ Q (g i j) H
def rU (g : Int → V) : V → Hp → VK → Prop := fun x H Q => ∃ i, x = .int i ∧ Q (g i) H
section
variable {X : Cx} {a b c : Expr} {ta tb tc : TE} {pos : Pos}
theorem binT (ha : PE X a ta) (hb : PE X b tb) {pins : List (Addr × Obj)} {s : Shared} {σ : St} {H : Hp} {R : V → V → Hp → Prop} (I : Inv X pins σ H s)
 (h : ta σ H fun x H1 => tb σ H1 fun y H2 => R x y H2) {Q : Value → Shared → Prop} {f : Value → Value → Sem Value}
 (hf : ∀ v u s2 x y H2, Inv X pins σ H2 s2 → RelV x v → RelV y u → R x y H2 → wpAny (model X.prog X.w) X.A (f v u) Q X.xe s2) :
 wpAny (model X.prog X.w) X.A (eval a X.env) (fun v s₁ => wpAny (model X.prog X.w) X.A (eval b X.env) (fun u s₂ => wpAny (model X.prog X.w) X.A (f v u) Q X.xe s₂) X.xe s₁) X.xe s := by
 refine thn (ha pins s σ H _ I h) fun v s1 ⟨x, H1, I1, r1, q1⟩ => ?_
 refine thn (hb pins s1 σ H1 _ I1 q1) fun u s2 ⟨y, H2, I2, r2, q2⟩ => ?_
 exact hf v u s2 x y H2 I2 r1 r2 q2
theorem pe_op {op : Operator} {r : R2} (ho : OpR X (binaryOp op) r) (ha : PE X a ta) (hb : PE X b tb) : PE X (.BinOp a op b pos) (tOp r ta tb) := by
 intro pins s σ H Q I h
 exact wpAny_BinOp (binT ha hb I h fun v u s2 x y H2 I2 rx ry q => ho pins s2 σ H2 x y v u Q I2 rx ry q)
theorem pe_un {op : UnaryOp} {r : V → Hp → VK → Prop} (ho : UnR X (unaryOp op) r) (ha : PE X a ta) : PE X (.UnaryOp op a pos) (tUn r ta) := by
 intro pins s σ H Q I h
 exact UnaryOp_ (thn (ha pins s σ H _ I h) fun v s1 ⟨x, H1, I1, r1, q1⟩ => ho pins s1 σ H1 x v Q I1 r1 q1)
theorem opI {f : Value → Value → Sem Value} {C : Int → Int → Prop} {g : Int → Int → Int}
 (rule : ∀ (i j : Int) (t u : Tok) (s : Shared) (Q : Value → Shared → Prop) (E : Value → Shared → Prop), C i j → Q (.int (g i j) s.toks) { s with toks := s.toks + 1 } → wpAny (model X.prog X.w) X.A (f (.int i t) (.int j u)) Q E s) :
 OpR X f (rI C fun i j => .int (g i j)) := by
 intro pins s σ H x y v u Q I rx ry h
 obtain ⟨i, j, rfl, rfl, hc, q⟩ := h
 obtain ⟨t, rfl⟩ := rx
 obtain ⟨t', rfl⟩ := ry
 exact rule i j t t' s _ _ hc ⟨.int (g i j), H, I.tok _, ⟨_, rfl⟩, q⟩
theorem opI0 {f : Value → Value → Sem Value} {g : Int → Int → Int}
 (rule : ∀ (i j : Int) (t u : Tok) (s : Shared) (Q : Value → Shared → Prop) (E : Value → Shared → Prop), Q (.int (g i j) s.toks) { s with toks := s.toks + 1 } → wpAny (model X.prog X.w) X.A (f (.int i t) (.int j u)) Q E s) :
 OpR X f (rI0 fun i j => .int (g i j)) := by
 intro pins s σ H x y v u Q I rx ry h
 obtain ⟨i, j, rfl, rfl, q⟩ := h
 obtain ⟨t, rfl⟩ := rx
 obtain ⟨t', rfl⟩ := ry
 exact rule i j t t' s _ _ ⟨.int (g i j), H, I.tok _, ⟨_, rfl⟩, q⟩
theorem opB0 {f : Value → Value → Sem Value} {g : Int → Int → Bool}
 (rule : ∀ (i j : Int) (t u : Tok) (s : Shared) (Q : Value → Shared → Prop) (E : Value → Shared → Prop), Q (.bool (g i j)) s → wpAny (model X.prog X.w) X.A (f (.int i t) (.int j u)) Q E s) :
 OpR X f (rI0 fun i j => .bl (g i j)) := by
 intro pins s σ H x y v u Q I rx ry h
 obtain ⟨i, j, rfl, rfl, q⟩ := h
 obtain ⟨t, rfl⟩ := rx
 obtain ⟨t', rfl⟩ := ry
 exact rule i j t t' s _ _ ⟨.bl (g i j), H, I, rfl, q⟩
def CPow (i j : Int) : Prop := 0 ≤ j ∧ j ≤ 1000000 ∧ i.natAbs < 2 ^ 64
def CMul (i j : Int) : Prop := (-(2 ^ 64) < i ∧ i < 2 ^ 64) ∨ (-(2 ^ 64) < j ∧ j < 2 ^ 64)
theorem CMul.ok {i j : Int} (h : CMul i j) : IntMulOk i j := by
 rcases h with ⟨h1, h2⟩ | ⟨h1, h2⟩
 ·exact .of_left (intBits_le_64 h1 h2)
 ·exact .of_right (intBits_le_64 h1 h2)
theorem op_add : OpR X (binaryOp .Add) (rI0 fun i j => .int (i + j)) := opI0 fun _ _ _ _ _ _ _ q => add_int q
theorem op_sub : OpR X (binaryOp .Sub) (rI0 fun i j => .int (i - j)) := opI0 fun _ _ _ _ _ _ _ q => sub_int q
theorem op_mod : OpR X (binaryOp .Mod) (rI (fun _ j => 0 < j) fun i j => .int (i % j)) := opI fun i j _ _ _ _ _ hc q => by
 have h1 : (0 : Int) < j := hc
 exact mod_int' (by omega) (by rw [Int.fmod_eq_emod_of_nonneg i (by omega)]; exact q)
theorem op_pow : OpR X (binaryOp .Pow) (rI CPow fun i j => .int (i ^ j.toNat)) := opI fun _ _ _ _ _ _ _ hc q => pow_int_small hc.1 hc.2.1 hc.2.2 q
theorem unI {f : Value → Sem Value} {g : Int → Int}
 (rule : ∀ (i : Int) (t : Tok) (s : Shared) (Q : Value → Shared → Prop) (E : Value → Shared → Prop), Q (.int (g i) s.toks) { s with toks := s.toks + 1 } → wpAny (model X.prog X.w) X.A (f (.int i t)) Q E s) :
 UnR X f (rU fun i => .int (g i)) := by
 intro pins s σ H x v Q I rx h
 obtain ⟨i, rfl, q⟩ := h
 obtain ⟨t, rfl⟩ := rx
 exact rule i t s _ _ ⟨.int (g i), H, I.tok _, ⟨_, rfl⟩, q⟩
theorem un_neg : UnR X (unaryOp .USub) (rU fun i => .int (-i)) := unI fun _ _ _ _ _ q => neg_int q
end
def scal : V → V → Bool
 | .non, .non => true | .non, .int _ => true | .int _, .non => true | .non, .bl _ => true | .bl _, .non => true | .non, .str _ => true | .str _, .non => true
 | .int _, .int _ => true | .bl _, .bl _ => true | .str _, .str _ => true | .byt _, .byt _ => true
 | .int _, .str _ => true | .str _, .int _ => true | .bl _, .str _ => true | .str _, .bl _ => true
 | _, _ => false
def rEq : R2 := fun x y H Q => scal x y = true ∧ Q (.bl (decide (x = y))) H
def rNe : R2 := fun x y H Q => scal x y = true ∧ Q (.bl (!decide (x = y))) H
theorem dec_int {i j : Int} : decide (V.int i = V.int j) = (i == j) := by
 rw [Bool.eq_iff_iff]
 simp
theorem dec_bl {i j : Bool} : decide (V.bl i = V.bl j) = (i == j) := by
 rw [Bool.eq_iff_iff]
 simp
theorem dec_str {i j : Str} : decide (V.str i = V.str j) = (i == j) := by
 rw [Bool.eq_iff_iff]
 simp
theorem dec_byt {i j : Array UInt8} : decide (V.byt i = V.byt j) = (i.toList == j.toList) := by
 rw [Bool.eq_iff_iff]
 cases i
 cases j
 simp
section
variable {X : Cx} {a b c : Expr} {ta tb tc : TE} {pos : Pos}
theorem fin_bl {pins : List (Addr × Obj)} {σ : St} {H : Hp} {s : Shared} {Q : VK} {k k' : Bool} (I : Inv X pins σ H s) (q : Q (.bl k) H) (e : k = k') : EP X pins σ Q (.bool k') s := by
 subst e
 exact ⟨.bl k, H, I, rfl, q⟩
theorem op_eq : OpR X (compareOp .Eq) rEq := by
 intro pins s σ H x y v u Q I rx ry h
 obtain ⟨hs, q⟩ := h
 cases x with
 | non =>
  cases rx
  cases y with
  | non => cases ry; exact PySem.EqNone.eq_none_none (fin_bl I q (by simp))
  | bl j => cases ry; exact PySem.EqNone.eq_none_bool (fin_bl I q (by simp))
  | int j => obtain ⟨t', rfl⟩ := ry; exact PySem.EqNone.eq_none_int (fin_bl I q (by simp))
  | str j => obtain ⟨t', rfl⟩ := ry; exact PySem.EqNone.eq_none_str (fin_bl I q (by simp))
  | _ => exact absurd (show false = true from hs) Bool.false_ne_true
 | bl i =>
  cases rx
  cases y with
  | non => cases ry; exact PySem.EqNone.eq_bool_none (fin_bl I q (by simp))
  | bl j => cases ry; exact eq_bool (fin_bl I q dec_bl)
  | str j => obtain ⟨t', rfl⟩ := ry; exact PySem.EqMixed.eq_bool_str (fin_bl I q (by simp))
  | _ => exact absurd (show false = true from hs) Bool.false_ne_true
 | int i =>
  obtain ⟨t, rfl⟩ := rx
  cases y with
  | non => cases ry; exact PySem.EqNone.eq_int_none (fin_bl I q (by simp))
  | int j => obtain ⟨t', rfl⟩ := ry; exact eq_int (fin_bl I q dec_int)
  | str j => obtain ⟨t', rfl⟩ := ry; exact PySem.EqMixed.eq_int_str (fin_bl I q (by simp))
  | _ => exact absurd (show false = true from hs) Bool.false_ne_true
 | str i =>
  obtain ⟨t, rfl⟩ := rx
  cases y with
  | non => cases ry; exact PySem.EqNone.eq_str_none (fin_bl I q (by simp))
  | bl j => cases ry; exact PySem.EqMixed.eq_str_bool (fin_bl I q (by simp))
  | int j => obtain ⟨t', rfl⟩ := ry; exact PySem.EqMixed.eq_str_int (fin_bl I q (by simp))
  | str j => obtain ⟨t', rfl⟩ := ry; exact eq_str (fin_bl I q dec_str)
  | _ => exact absurd (show false = true from hs) Bool.false_ne_true
 | byt i =>
  obtain ⟨t, rfl⟩ := rx
  cases y with
  | byt j => obtain ⟨t', rfl⟩ := ry; exact PySem.W.eq_bytes (fin_bl I q dec_byt)
  | _ => exact absurd (show false = true from hs) Bool.false_ne_true
 | _ => cases y <;> exact absurd (show false = true from hs) Bool.false_ne_true
theorem op_ne : OpR X (compareOp .NotEq) rNe := by
 intro pins s σ H x y v u Q I rx ry h
 obtain ⟨hs, q⟩ := h
 cases x with
 | non =>
  cases rx
  cases y with
  | non => cases ry; exact PySem.EqNone.ne_none_none (fin_bl I q (by simp))
  | bl j => cases ry; exact PySem.EqNone.ne_none_bool (fin_bl I q (by simp))
  | int j => obtain ⟨t', rfl⟩ := ry; exact PySem.EqNone.ne_none_int (fin_bl I q (by simp))
  | str j => obtain ⟨t', rfl⟩ := ry; exact PySem.EqNone.ne_none_str (fin_bl I q (by simp))
  | _ => exact absurd (show false = true from hs) Bool.false_ne_true
 | bl i =>
  cases rx
  cases y with
  | non => cases ry; exact PySem.EqNone.ne_bool_none (fin_bl I q (by simp))
  | bl j => cases ry; exact ne_bool (fin_bl I q (congrArg not dec_bl))
  | str j => obtain ⟨t', rfl⟩ := ry; exact PySem.EqMixed.ne_bool_str (fin_bl I q (by simp))
  | _ => exact absurd (show false = true from hs) Bool.false_ne_true
 | int i =>
  obtain ⟨t, rfl⟩ := rx
  cases y with
  | non => cases ry; exact PySem.EqNone.ne_int_none (fin_bl I q (by simp))
  | int j => obtain ⟨t', rfl⟩ := ry; exact ne_int (fin_bl I q (congrArg not dec_int))
  | str j => obtain ⟨t', rfl⟩ := ry; exact PySem.EqMixed.ne_int_str (fin_bl I q (by simp))
  | _ => exact absurd (show false = true from hs) Bool.false_ne_true
 | str i =>
  obtain ⟨t, rfl⟩ := rx
  cases y with
  | non => cases ry; exact PySem.EqNone.ne_str_none (fin_bl I q (by simp))
  | bl j => cases ry; exact PySem.EqMixed.ne_str_bool (fin_bl I q (by simp))
  | int j => obtain ⟨t', rfl⟩ := ry; exact PySem.EqMixed.ne_str_int (fin_bl I q (by simp))
  | str j => obtain ⟨t', rfl⟩ := ry; exact ne_str (fin_bl I q (congrArg not dec_str))
  | _ => exact absurd (show false = true from hs) Bool.false_ne_true
 | byt i =>
  obtain ⟨t, rfl⟩ := rx
  cases y with
  | byt j => obtain ⟨t', rfl⟩ := ry; exact PySem.W.ne_bytes (fin_bl I q (congrArg not dec_byt))
  | _ => exact absurd (show false = true from hs) Bool.false_ne_true
 | _ => cases y <;> exact absurd (show false = true from hs) Bool.false_ne_true
theorem op_lt : OpR X (compareOp .Lt) (rI0 fun i j => .bl (decide (i < j))) := opB0 fun _ _ _ _ _ _ _ q => lt_int q
theorem op_le : OpR X (compareOp .LtE) (rI0 fun i j => .bl (decide (i ≤ j))) := opB0 fun _ _ _ _ _ _ _ q => le_int q
theorem op_gt : OpR X (compareOp .Gt) (rI0 fun i j => .bl (decide (j < i))) := opB0 fun _ _ _ _ _ _ _ q => gt_int q
theorem nomark (b : Expr) {op : CmpOp} (h : op ≠ .In := by decide) (h2 : op ≠ .NotIn := by decide) : behindInMarks op b = false := by
 have e1 : (op == CmpOp.In) = false := by cases op <;> first | rfl | exact absurd rfl h
 have e2 : (op == CmpOp.NotIn) = false := by cases op <;> first | rfl | exact absurd rfl h2
 cases b <;> simp [behindInMarks, e1, e2]
theorem pe_cmpR {op : CmpOp} {r : R2} (ho : OpR X (compareOp op) r) (ha : PE X a ta) (hb : PE X b tb) (hm : behindInMarks op b = false) : PE X (.Compare a [op] [b] pos) (tOp r ta tb) := by
 intro pins s σ H Q I h
 exact wpAny_Compare1 (binT ha hb I h fun v u s2 x y H2 I2 rx ry q => ho pins s2 σ H2 x y v u Q I2 rx ry q) hm
def tTest (t : TE) : TT := fun σ H Q => t σ H fun x H' => ∃ k, x = .bl k ∧ Q k H'
theorem pt_cmpR {op : CmpOp} {r : R2} (ho : OpR X (compareOp op) r) (ha : PE X a ta) (hb : PE X b tb) (hm : behindInMarks op b = false) : PT X (.Compare a [op] [b] pos) (tTest (tOp r ta tb)) := by
 intro pins s σ H Q I h
 refine wpAny_isTrue_Compare1 (thn (ha pins s σ H _ I h) fun v s1 ⟨x, H1, I1, r1, q1⟩ => thn (hb pins s1 σ H1 _ I1 q1) fun u s2 ⟨y, H2, I2, r2, q2⟩ =>
  thn (ho pins s2 σ H2 x y v u _ I2 r1 r2 q2) fun c s3 ⟨z, H3, I3, r3, k, e, q3⟩ => ?_) hm
 subst e
 cases r3
 exact wpAny_truthy_bool ⟨H3, I3, q3⟩
def tChain (r r' : R2) (ta tb tc : TE) : TE := fun σ H Q => ta σ H fun x H1 => tb σ H1 fun y H2 => r x y H2 fun z H3 => ∃ k, z = .bl k ∧
 (if k = true then tc σ H3 fun w' H4 => r' y w' H4 Q else Q (.bl false) H3)
theorem pe_chain {op op' : CmpOp} {r r' : R2} (ho : OpR X (compareOp op) r) (ho' : OpR X (compareOp op') r') (ha : PE X a ta) (hb : PE X b tb) (hc : PE X c tc)
 (hm : lastMarks [op, op'] [b, c] = false := by with_unfolding_all rfl) : PE X (.Compare a [op, op'] [b, c] pos) (tChain r r' ta tb tc) := by
 intro pins s σ H Q I h
 refine Compare_chain (thn (ha pins s σ H _ I h) fun v s1 ⟨x, H1, I1, r1, q1⟩ => chain_link (thn (hb pins s1 σ H1 _ I1 q1) fun u s2 ⟨y, H2, I2, r2, q2⟩ =>
  thn (ho pins s2 σ H2 x y v u _ I2 r1 r2 q2) fun d s3 ⟨z, H3, I3, r3, k, e, q3⟩ => ?_)) hm
 subst e
 cases r3
 refine wpAny_truthy_bool ?_
 cases k with
 | false => exact ite_ff ⟨.bl false, H3, I3, rfl, q3⟩
 | true => exact ite_tt (chain_last (thn (hc pins s3 σ H3 _ I3 q3) fun w' s4 ⟨z', H4, I4, r4, q4⟩ => ho' pins s4 σ H4 y z' u w' Q I4 r2 r4 q4))
theorem pt_chain {op op' : CmpOp} {r r' : R2} (ho : OpR X (compareOp op) r) (ho' : OpR X (compareOp op') r') (ha : PE X a ta) (hb : PE X b tb) (hc : PE X c tc)
 (hm : lastMarks [op, op'] [b, c] = false := by with_unfolding_all rfl) : PT X (.Compare a [op, op'] [b, c] pos) (tTest (tChain r r' ta tb tc)) := by
 intro pins s σ H Q I h
 refine isTrue_chain (thn (ha pins s σ H _ I h) fun v s1 ⟨x, H1, I1, r1, q1⟩ => test_link (thn (hb pins s1 σ H1 _ I1 q1) fun u s2 ⟨y, H2, I2, r2, q2⟩ =>
  thn (ho pins s2 σ H2 x y v u _ I2 r1 r2 q2) fun d s3 ⟨z, H3, I3, r3, k, e, q3⟩ => ?_)) hm
 subst e
 cases r3
 refine wpAny_truthy_bool ?_
 cases k with
 | false =>
  obtain ⟨k', e', q'⟩ := q3
  cases e'
  exact ite_ff ⟨H3, I3, q'⟩
 | true =>
  refine ite_tt (test_last (thn (hc pins s3 σ H3 _ I3 q3) fun w' s4 ⟨z', H4, I4, r4, q4⟩ => thn (ho' pins s4 σ H4 y z' u w' _ I4 r2 r4 q4) fun d' s5 ⟨z2, H5, I5, r5, k2, e2, q5⟩ => ?_))
  subst e2
  cases r5
  exact wpAny_truthy_bool ⟨H5, I5, q5⟩
theorem line63 : (sizeLine : Nat) < 2 ^ 63 := by rw [sizeLine_eq]; decide
theorem vals1 {x : V} {us : List Value} (r : Vals [x] us) : ∃ u, us = [u] ∧ RelV x u := by
 cases r with
 | cons r1 r2 => cases r2; exact ⟨_, rfl, r1⟩
theorem vals2 {x y : V} {us : List Value} (r : Vals [x, y] us) : ∃ u w', us = [u, w'] ∧ RelV x u ∧ RelV y w' := by
 cases r with
 | cons r1 r2 =>
  cases r2 with
  | cons r3 r4 => cases r4; exact ⟨_, _, rfl, r1, r3⟩
theorem call_min2 (hc : X.calm = true) : CallR X (.builtin "min") (fun xs H Q => ∃ i j, xs = [.int i, .int j] ∧ Q (.int (if j < i then j else i)) H) := by
 intro pins s σ H xs us Q I r h
 obtain ⟨i, j, rfl, q⟩ := h
 obtain ⟨u, w', rfl, ⟨t, rfl⟩, ⟨t', rfl⟩⟩ := vals2 r
 refine min_two_ints (I.ok.hd hc) fun h' tk k => ⟨_, H, I.kept k, ?_, q⟩
 by_cases hj : j < i
 ·rw [if_pos hj, if_pos hj]; exact ⟨_, rfl⟩
 ·rw [if_neg hj, if_neg hj]; exact ⟨_, rfl⟩
def LenV (K : PySem.W.Frag) (x : V) (H : Hp) (n : Nat) : Prop :=
 match x with
 | .str y => y.length ≤ sizeLine ∧ n = y.length
 | .byt y => y.size ≤ sizeLine ∧ n = y.size
 | .ref p => (∃ xs, SqL K H p xs ∧ n = xs.length) ∨ ∃ xs, SqT K H p xs ∧ n = xs.length
 | _ => False
theorem call_len : CallR X (.builtin "len") (fun xs H Q => ∃ x n, xs = [x] ∧ LenV X.K x H n ∧ Q (.int n) H) := by
 intro pins s σ H xs us Q I r h
 obtain ⟨x, n, rfl, e, q⟩ := h
 obtain ⟨u, rfl, rx⟩ := vals1 r
 have hl := line63
 have hs : sizeLine = 16777216 := sizeLine_eq
 cases x with
 | str y =>
  obtain ⟨t, rfl⟩ := rx
  obtain ⟨hy, e'⟩ : y.length ≤ sizeLine ∧ n = y.length := e
  subst e'
  exact len_str (by omega) ⟨.int _, H, I.tok _, ⟨_, rfl⟩, q⟩
 | byt y =>
  obtain ⟨t, rfl⟩ := rx
  obtain ⟨hy, e'⟩ : y.size ≤ sizeLine ∧ n = y.size := e
  subst e'
  exact PySem.W.len_bytes (by omega) ⟨.int _, H, I.tok _, ⟨_, rfl⟩, q⟩
 | ref p =>
  cases rx
  have e' : (∃ xs, SqL X.K H p xs ∧ n = xs.length) ∨ ∃ xs, SqT X.K H p xs ∧ n = xs.length := e
  rcases e' with ⟨xs, hx, e'⟩ | ⟨xs, hx, e'⟩
  ·subst e'
   obtain ⟨its, r', pl, hz⟩ := I.list hx
   have hlen := r'.length
   exact Calls.call_len_list pl.isList (by simp only [List.size_toArray]; omega) ⟨.int xs.length, H, I.tok _, ⟨_, by simp only [List.size_toArray]; rw [hlen]⟩, q⟩
  ·subst e'
   obtain ⟨its, r', pl, hz⟩ := I.tuple hx
   have hlen := r'.length
   exact len_tuple pl (by simp only [List.size_toArray]; omega) ⟨.int xs.length, H, I.tok _, ⟨_, by simp only [List.size_toArray]; rw [hlen]⟩, q⟩
 | _ => exact (show False from e).elim
end
end L2
namespace L2
open PySem PySem.Spec PyProof.Rows
structure ObjM (h : Heap) (x dx C : Addr) (mA : Str → Option Value) : Prop where
 obj : h.get? x = some (PySem.W.instObj C dx)
 ns : h.Ns1 dx mA
 ne : dx ≠ x
theorem lookIn_ns {h : Heap} {dx : Addr} {mA : Str → Option Value} (n : h.Ns1 dx mA) : ∃ od, h.get? dx = some od ∧ ∀ name, PySem.W.lookIn name od = some (mA name) := by
 obtain ⟨o, es, ep, ho, hd, hk, _, hm⟩ := n
 refine ⟨o, ho, fun name => ?_⟩
 have e := hm name
 unfold nsFind findBy at e
 rw [← Array.find?_toList] at e
 unfold PySem.W.lookIn
 rw [hd]
 dsimp only
 split
 ·rename_i y q
  rw [q] at e
  exact congrArg some e
 ·rename_i q
  rw [q] at e
  have a : es.toList.any (·.refKey) = false := by
   rw [List.any_eq_false]
   intro y hy
   obtain ⟨z, t, hkey⟩ := hk y (Array.mem_toList_iff.mp hy)
   simp [DictEntry.refKey, hkey]
  have a' : ¬ es.toList.any (·.refKey) = true := by rw [a]; exact Bool.false_ne_true
  rw [if_neg a']
  exact congrArg some e
theorem ObjM.look {h : Heap} {x dx C : Addr} {mA : Str → Option Value} (I : ObjM h x dx C mA) : ∃ od, PySem.W.InstAt h x (PySem.W.instObj C dx) C (some od) ∧ ∀ name, PySem.W.lookIn name od = some (mA name) :=
 let ⟨od, ho, hl⟩ := lookIn_ns I.ns
 ⟨od, ⟨I.obj, rfl, rfl, ho⟩, hl⟩
section
variable {prog : Program} {w : World} {A : Around} {E : Value → Shared → Prop} {s : Shared} {K : PySem.W.Frag} {x dx C f : Addr} {mA : Str → Option Value} {name : Str} {v : Value}
theorem get_map {expr : Bool} {Q : Value → Shared → Prop} (X : K.In s.heap) (I : ObjM s.heap x dx C mA) (hg : PySem.W.plainGet K C name = true) (hh : PySem.W.hasDictIn K C = true)
 (ha : PySem.W.findIn K (.ref C) name = some none) (hv : mA name = some v) (hv' : PySem.W.handedIn v = true) (h : Q v { s with toks := s.toks + 1 }) :
 wpAny (model prog w) A (getAttr (.ref x) name expr) Q E s := by
 obtain ⟨od, J, hl⟩ := I.look
 exact PySem.W.get_value X J (PySem.W.plainGet_of hg).1 (PySem.W.findObj_own hh ha rfl (by rw [hl, hv])) hv' h
theorem get_meth {pl : Sem Bool} {Q : Value × List Value → Shared → Prop} (X : K.In s.heap) (I : ObjM s.heap x dx C mA) (hg : PySem.W.plainGet K C name = true)
 (hf : PySem.W.findIn K (.ref C) name = some (some (.ref f))) (ht : PySem.W.isFn K (.ref f) = true) (hv : mA name = none) (h : Q (.ref f, [.ref x]) s) :
 wpAny (model prog w) A (getMethod (.ref x) name pl) Q E s := by
 obtain ⟨od, J, hl⟩ := I.look
 exact PySem.W.method_fn X J (PySem.W.plainGet_of hg).1 (PySem.W.plainGet_of hg).2 hf (beq_iff_eq.mp ht) (by show (PySem.W.lookIn name od).map (·.isSome) = some false; rw [hl, hv]; rfl) h
theorem set_map {ns : List Str} {Q : Unit → Shared → Prop} (X : K.In s.heap) (I : ObjM s.heap x dx C mA)
 (hs : PySem.W.findIn K (.ref C) "__setattr__" = some (some (.builtin "object.__setattr__"))) (hp : PySem.W.plainOver K C = true) (ht : PySem.W.takerIn K C name = some none) (hh : PySem.W.hasDictIn K C = true)
 (hw : PySem.Within mA ns) (hsz : ns.length ≤ sizeLine)
 (h : ∀ h', ObjM h' x dx C (fun y => if y = name then some v else mA y) → Heap.SameBut dx s.heap h' → Q () { s with heap := h', toks := s.toks + 2 }) :
 wpAny (model prog w) A (setAttr (.ref x) name v) Q E s := by
 obtain ⟨od, J, hl⟩ := I.look
 refine PySem.W.set_plain X J hs (PySem.W.osa_open (s := { s with toks := s.toks + 1 }) (r := none) X J hp ht fun b => ?_)
 obtain ⟨cd, hc, hd'⟩ := PySem.W.any_some hh
 have hx : s.heap.get? x = some ⟨.ref C, some dx, .plain, #[]⟩ := I.obj
 refine wpAny_bind (wpAny_pure (wpAny_bind (wpAny_bind (wpAny_loadPart hx (wpAny_bind (PySem.W.Looks.here (s := { s with toks := s.toks + 1 }) (PySem.W.looks_clsIn X hc) ?_))))))
 rw [hd']
 refine wpAny_pure (a := some dx) (wpAny_bind (wpAny_pure (wpAny_bind ?_)))
 refine wpAny_nsSet1 (s := { s with toks := s.toks + 1 }) I.ns fun h' hn2 hs2 => ?_
 obtain ⟨oD, esD, epD, hoD, hdD, hcD⟩ := hn2.count (PySem.Within.cons name v hw)
 refine wpAny_bind (wpAny_lookBehind hoD (by rw [hdD]; exact pastItsLine_dict (Nat.le_trans hcD (by rw [List.length_cons]; omega))) ?_)
 exact wpAny_pure (h _ ⟨(hs2.2 _ (Ne.symm I.ne)).trans I.obj, hn2, I.ne⟩ hs2)
theorem make_map {R : Result → Shared → Prop} {vs : List Value} {kw : List (Str × Value)} (X : K.In s.heap) (hm : PySem.W.makesIn K C = true)
 (hi : PySem.W.findIn K (.ref C) "__init__" = some (some (.ref f))) (hf : PySem.W.typeIn K (.ref f) = some (.type "function"))
 (h : codeAny (model prog w) (A.under (.builtin "type.__call__" ⟨.ref C :: vs, kw⟩)) (.call (.ref f) ⟨.ref (s.heap.objs.size + 1) :: vs, kw⟩) (PySem.W.InitBack (s.heap.objs.size + 1) R)
   { s with heap := (s.heap.push PySem.W.emptyDict).push (PySem.W.instObj C s.heap.objs.size) }) :
 codeAny (model prog w) A (.call (.ref C) ⟨vs, kw⟩) R s := by
 obtain ⟨hh, g, d, t, os⟩ := s
 exact PySem.W.make_core (PySem.W.makes_of X hm) (PySem.W.looks_findIn X hi) (fun self => PySem.W.bind_fn X self hf) (.inl rfl) h
end
def putF (f : Str) (v : V) : List (Str × V) → List (Str × V)
 | [] => [(f, v)]
 | (g, x) :: r => if g = f then (g, v) :: r else (g, x) :: putF f v r
theorem lookup_putF (f g : Str) (v : V) : ∀ fs : List (Str × V), (putF f v fs).lookup g = if g = f then some v else fs.lookup g
 | [] => by
  show List.lookup g [(f, v)] = _
  by_cases h : g = f
  ·have hb : (g == f) = true := beq_iff_eq.mpr h
   simp only [List.lookup, hb, if_pos h]
  ·have hb : (g == f) = false := beq_eq_false_iff_ne.mpr h
   simp only [List.lookup, hb, if_neg h]
 | (k, x) :: r => by
  have ih := lookup_putF f g v r
  rw [show putF f v ((k, x) :: r) = (if k = f then (k, v) :: r else (k, x) :: putF f v r) from rfl]
  by_cases hk : k = f
  ·rw [if_pos hk]
   by_cases h : g = k
   ·have hb : (g == k) = true := beq_iff_eq.mpr h
    simp only [List.lookup, hb, if_pos (h.trans hk)]
   ·have hb : (g == k) = false := beq_eq_false_iff_ne.mpr h
    simp only [List.lookup, hb, if_neg (fun e : g = f => h (e.trans hk.symm))]
  ·rw [if_neg hk]
   by_cases h : g = k
   ·have hb : (g == k) = true := beq_iff_eq.mpr h
    simp only [List.lookup, hb, if_neg (fun e : g = f => hk (h.symm.trans e))]
   ·have hb : (g == k) = false := beq_eq_false_iff_ne.mpr h
    simp only [List.lookup, hb]
    exact ih
theorem keys_putF (f : Str) (v : V) : ∀ fs : List (Str × V), f ∈ (putF f v fs).map (·.1) ∧ ∀ g, g ∈ fs.map (·.1) → g ∈ (putF f v fs).map (·.1)
 | [] => ⟨by simp [putF], fun g h => by simp at h⟩
 | (k, x) :: r => by
  obtain ⟨i1, i2⟩ := keys_putF f v r
  rw [show putF f v ((k, x) :: r) = (if k = f then (k, v) :: r else (k, x) :: putF f v r) from rfl]
  by_cases hk : k = f
  ·rw [if_pos hk]
   subst hk
   exact ⟨by simp, fun g h => by simpa using h⟩
  ·rw [if_neg hk]
   refine ⟨?_, fun g h => ?_⟩
   ·rw [List.map_cons]
    exact List.mem_cons_of_mem _ i1
   ·rw [List.map_cons] at h ⊢
    rcases List.mem_cons.mp h with e | e
    ·exact List.mem_cons.mpr (.inl e)
    ·exact List.mem_cons_of_mem _ (i2 g e)
theorem length_putF (f : Str) (v : V) : ∀ fs : List (Str × V), (putF f v fs).length ≤ fs.length + 1
 | [] => by simp [putF]
 | (k, x) :: r => by
  have ih := length_putF f v r
  rw [show putF f v ((k, x) :: r) = (if k = f then (k, v) :: r else (k, x) :: putF f v r) from rfl]
  by_cases hk : k = f
  ·rw [if_pos hk, List.length_cons, List.length_cons]; omega
  ·rw [if_neg hk, List.length_cons, List.length_cons]; omega
theorem RelO.some_of {v : V} {o : Option Value} (r : RelO (some v) o) : ∃ u, o = some u ∧ RelV v u := by
 cases o with
 | none => exact (show False from r).elim
 | some u => exact ⟨u, rfl, r⟩
theorem RelO.none_of {o : Option Value} (r : RelO none o) : o = none := by
 cases o with
 | none => rfl
 | some u => exact (show False from r).elim
theorem handed_of {v : V} {u : Value} (r : RelV v u) : PySem.W.handedIn u = true := by
 cases v with
 | non => cases (show u = Value.none from r); rfl
 | bl b => cases (show u = Value.bool b from r); rfl
 | int i => obtain ⟨t, e⟩ := (show ∃ t, u = Value.int i t from r); cases e; rfl
 | str x => obtain ⟨t, e⟩ := (show ∃ t, u = Value.str x t from r); cases e; rfl
 | byt b => obtain ⟨t, e⟩ := (show ∃ t, u = Value.bytes b t from r); cases e; rfl
 | flt b => obtain ⟨t, e⟩ := (show ∃ t, u = Value.float b t from r); cases e; rfl
 | ref a => cases (show u = Value.ref a from r); rfl
 | ty n => cases (show u = Value.type n from r); rfl
section
variable {P : Program} {w : World} {H H' : Hp} {h h' : Heap} {a C dx : Addr} {fs fs' : List (Str × V)}
theorem ins_get (hok : HOk P w H h) (e : H a = some (.ins C dx fs)) : ∃ mA, ObjM h a dx C mA ∧ (∀ f, RelO (fs.lookup f) (mA f)) ∧ PySem.Within mA (fs.map (·.1)) ∧ fs.length ≤ 1000 ∧ H dx = some (.own a) := by
 obtain ⟨d, z, ne, ob, mA, n, r, q⟩ := (show ObjOk P w H h a (.ins C dx fs) from hok a _ e)
 exact ⟨mA, ⟨ob, n, ne⟩, r, q, z, d⟩
end
structure Cls (K : PySem.W.Frag) (C : Addr) : Prop where
 pg : PySem.W.plainGet K C Str.empty = true
 hd : PySem.W.hasDictIn K C = true
 po : PySem.W.plainOver K C = true
 sa : PySem.W.findIn K (.ref C) "__setattr__" = some (some (.builtin "object.__setattr__"))
theorem Cls.get {K : PySem.W.Frag} {C : Addr} (c : Cls K C) (f : Str) : PySem.W.plainGet K C f = true := c.pg
def NoAttr (K : PySem.W.Frag) (C : Addr) (f : Str) : Prop := PySem.W.findIn K (.ref C) f = some none
theorem NoAttr.taker {K : PySem.W.Frag} {C : Addr} {f : Str} (n : NoAttr K C f) : PySem.W.takerIn K C f = some none := by
 unfold PySem.W.takerIn
 rw [show PySem.W.findIn K (.ref C) f = some none from n]
 rfl
structure Meth (K : PySem.W.Frag) (C : Addr) (m : Str) (f : Addr) : Prop where
 at_ : PySem.W.findIn K (.ref C) m = some (some (.ref f))
 fn : PySem.W.isFn K (.ref f) = true
 kp : PySem.W.keepIn K (.ref f) = true
section
variable {X : Cx} {pins : List (Addr × Obj)} {σ : St} {H : Hp} {s : Shared} {a C dx : Addr} {fs : List (Str × V)} {f : Str} {v : V} {A : Around} {E : Value → Shared → Prop}
theorem getattr_ok {b : Bool} {Q : Value → Shared → Prop} (I : Inv X pins σ H s) (e : H a = some (.ins C dx fs)) (c : Cls X.K C) (n : NoAttr X.K C f) (l : fs.lookup f = some v)
 (h : ∀ u s', Inv X pins σ H s' → RelV v u → Q u s') : wpAny (model X.prog X.w) A (getAttr (.ref a) f b) Q E s := by
 obtain ⟨mA, O, r, _, _, _⟩ := ins_get I.hok e
 obtain ⟨u, hu, ru⟩ := RelO.some_of (v := v) (o := mA f) (by rw [← l]; exact r f)
 exact get_map I.kIn O (c.get f) c.hd n hu (handed_of ru) (h u _ (I.tok _) ru)
theorem getmeth_ok {m : Str} {g : Addr} {pl : Sem Bool} {Q : Value × List Value → Shared → Prop} (I : Inv X pins σ H s) (e : H a = some (.ins C dx fs)) (c : Cls X.K C) (k : Meth X.K C m g) (l : fs.lookup m = none)
 (h : Q (.ref g, [.ref a]) s) : wpAny (model X.prog X.w) A (getMethod (.ref a) m pl) Q E s := by
 obtain ⟨mA, O, r, _, _, _⟩ := ins_get I.hok e
 have hn : mA m = none := RelO.none_of (by rw [← l]; exact r m)
 exact get_meth I.kIn O (c.get m) k.at_ k.fn hn h
theorem setattr_ok {y : V} {u : Value} {Q : Unit → Shared → Prop} (I : Inv X pins σ H s) (e : H a = some (.ins C dx fs)) (c : Cls X.K C) (n : NoAttr X.K C f) (hl : fs.length < 1000) (ry : RelV y u)
 (h : ∀ s', Inv X pins σ (upd H a (.ins C dx (putF f y fs))) s' → Q () s') : wpAny (model X.prog X.w) A (setAttr (.ref a) f u) Q E s := by
 obtain ⟨mA, O, r, wi, _, ho⟩ := ins_get I.hok e
 have hz : (fs.map (·.1)).length ≤ sizeLine := by rw [List.length_map, sizeLine_eq]; omega
 refine set_map I.kIn O c.sa c.po n.taker c.hd wi hz fun h' O' sb => h _ ?_
 have hd : ∃ o, h'.get? dx = some o := let ⟨o, _, _, e', _⟩ := O'.ns; ⟨o, e'⟩
 refine I.write (x := a) (e := dx) (by rw [e]; exact True.intro) (.inr ho) (fun b q hb z => (sb.2 b hb).trans z) hd ?_
 refine ⟨by rw [upd_ne O.ne]; exact ho, ?_, O.ne, O'.obj, _, O'.ns, fun g => ?_, fun g hg => ?_⟩
 ·have := length_putF f y fs; omega
 ·show RelO ((putF f y fs).lookup g) (if g = f then some u else mA g)
  rw [lookup_putF]
  by_cases q : g = f
  ·rw [if_pos q, if_pos q]; exact ry
  ·rw [if_neg q, if_neg q]; exact r g
 ·by_cases q : g = f
  ·rw [q]; exact (keys_putF f y fs).1
  ·refine (keys_putF f y fs).2 g (wi g fun z => hg ?_)
   show (if g = f then some u else mA g) = none
   rw [if_neg q]; exact z
theorem Inv.made (I : Inv X pins σ H s) : Inv X pins σ (upd (upd H s.heap.objs.size (.own (s.heap.objs.size + 1))) (s.heap.objs.size + 1) (.ins C s.heap.objs.size []))
 { s with heap := (s.heap.push PySem.W.emptyDict).push (PySem.W.instObj C s.heap.objs.size) } := by
 have e1 : (s.heap.push PySem.W.emptyDict).get? s.heap.objs.size = some PySem.W.emptyDict := Heap.get?_push_size s.heap rfl
 have e2 : ((s.heap.push PySem.W.emptyDict).push (PySem.W.instObj C s.heap.objs.size)).get? (s.heap.objs.size + 1) = some (PySem.W.instObj C s.heap.objs.size) := by
  have := Heap.get?_push_size (s.heap.push PySem.W.emptyDict) (o := PySem.W.instObj C s.heap.objs.size) rfl
  rwa [Heap.size_push] at this
 have e3 : (s.heap.push PySem.W.emptyDict).Ns s.heap.objs.size (fun _ => none) := ⟨PySem.W.emptyDict, #[], _, e1, rfl, (fun e he => absurd he (by simp)), fun _ => rfl⟩
 have I1 := I.laid (a := s.heap.objs.size) (o := .own (s.heap.objs.size + 1)) (h' := s.heap.push PySem.W.emptyDict) (t' := s.toks) (fun b u q => Heap.get?_push_of_some _ q) (Nat.le_refl _) ⟨_, e1⟩
 refine I1.laid (a := s.heap.objs.size + 1) (o := .ins C s.heap.objs.size []) (t' := s.toks) (fun b u q => Heap.get?_push_of_some _ q) (Nat.le_of_eq (Heap.size_push _ _)) ?_
 have ne : s.heap.objs.size ≠ s.heap.objs.size + 1 := Nat.ne_of_lt (Nat.lt_succ_self _)
 refine ⟨by rw [upd_ne ne, upd_same], Nat.zero_le _, ne, e2, fun _ => none, (Heap.Ns1.of_empty e3).at fun o q => Heap.get?_push_of_some _ q, fun _ => True.intro, fun y hy => absurd rfl hy⟩
theorem attr_of {prog : Program} {w : World} {env : Env} {e : Expr} {f : Str} {pos : Pos} {s : Shared} {Q : Value → Shared → Prop} (hb : attributeBase e f env (eval e env) = eval e env)
 (h : wpAny (model prog w) A (eval e env) (fun o s₁ => wpAny (model prog w) A (getAttr o f true) Q E s₁) E s) : wpAny (model prog w) A (eval (.Attribute e f pos) env) Q E s :=
 Attribute_any_ h (by rw [arm_eval_Attribute, hb])
end
def tFld (K : PySem.W.Frag) (ta : TE) (f : Str) : TE := fun σ H Q => ta σ H fun x H1 => ∃ a C dx fs v, x = .ref a ∧ H1 a = some (.ins C dx fs) ∧ Cls K C ∧ NoAttr K C f ∧ fs.lookup f = some v ∧ Q v H1
def sFld (K : PySem.W.Frag) (ta tv : TE) (f : Str) : TS := fun D σ H => tv σ H fun y H1 => ta σ H1 fun x H2 => ∃ a C dx fs, x = .ref a ∧ H2 a = some (.ins C dx fs) ∧ Cls K C ∧ NoAttr K C f ∧ fs.length < 1000 ∧
 D.nx σ (upd H2 a (.ins C dx (putF f y fs)))
section
variable {X : Cx} {o e value : Expr} {f : Str} {pos pos' tpos : Pos} {ta tv : TE}
theorem pe_fld (he : PE X e ta) (hb : attributeBase e f X.env (eval e X.env) = eval e X.env) : PE X (.Attribute e f pos) (tFld X.K ta f) := by
 intro pins s σ H Q I h
 refine attr_of hb (thn (he pins s σ H _ I h) fun u s1 ⟨x, H1, I1, rx, a, C, dx, fs, v, ex, ea, c, n, l, q⟩ => ?_)
 subst ex
 obtain rfl : u = Value.ref a := rx
 exact getattr_ok I1 ea c n l fun u' s2 I2 ru => ⟨v, H1, I2, ru, q⟩
theorem ps_fld (ha : PE X o ta) (hv : PE X value tv) (hs : swapsWith value (some (.Attribute o f pos')) pos.line X.env = pure false) : PS X (.Assign [.Attribute o f pos'] value pos) (sFld X.K ta tv f) := by
 intro pins s σ H D I h
 refine plainObj_wpAny_Assign_Attribute (thn (hv pins s σ H _ I h) fun u s1 ⟨y, H1, I1, ry, q⟩ => thn (ha pins s1 σ H1 _ I1 q) fun ov s2 ⟨x, H2, I2, rx, a, C, dx, fs, ex, ea, c, n, l, q2⟩ => ?_) hs
 subst ex
 obtain rfl : ov = Value.ref a := rx
 exact setattr_ok I2 ea c n l ry fun s3 I3 => ⟨σ, _, I3, q2⟩
end
section
variable {X : Cx} {pins : List (Addr × Obj)} {σ : St} {H : Hp} {s : Shared} {A : Around} {E : Value → Shared → Prop} {Q : Value → Shared → Prop} {c : Value} {b : Bool}
inductive TyOf (K : PySem.W.Frag) (H : Hp) : V → Value → Prop where
 | non : TyOf K H .non (.type "NoneType")
 | bl (x : Bool) : TyOf K H (.bl x) (.type "bool")
 | int (i : Int) : TyOf K H (.int i) (.type "int")
 | str (x : Str) : TyOf K H (.str x) (.type "str")
 | flt (x : UInt64) : TyOf K H (.flt x) (.type "float")
 | lst {a : Addr} {xs : List V} (e : H a = some (.lst xs)) : TyOf K H (.ref a) (.type "list")
 | frz {a : Addr} {o : Obj} {xs : List V} (e : H a = some (.frz o (.lst xs))) : TyOf K H (.ref a) (.type "list")
 | tup {a : Addr} {xs : List V} (e : H a = some (.tup xs)) : TyOf K H (.ref a) (.type "tuple")
 | dK {a : Addr} {kvs : List (Key × V)} (e : H a = some (.dK kvs)) : TyOf K H (.ref a) (.type "dict")
 | dT {a : Addr} {kvs : List (List Key × V)} (e : H a = some (.dT kvs)) : TyOf K H (.ref a) (.type "dict")
 | ins {a C dx : Addr} {fs : List (Str × V)} (e : H a = some (.ins C dx fs)) (cl : Cls K C) (ha : PySem.W.findIn K (.ref C) "__class__" = some (some (.builtin "object.__class__")))
  (hn : PySem.W.specialIn K (.builtin "object.__class__") "__get__" = some (some (.builtin "getset_descriptor.__get__"))) (htk : PySem.W.takesIn K (.builtin "object.__class__") = some true)
  (hm : PySem.W.mroIn K C (.type "object") = some true) : TyOf K H (.ref a) (.ref C)
theorem isinst_ok {x : V} {u t : Value} (I : Inv X pins σ H s) (rx : RelV x u) (ty : TyOf X.K H x t) (e : PySem.W.kitOne X.K t c = some b) (h : ∀ tk, Q (.bool b) { s with toks := tk }) :
 wpAny (model X.prog X.w) A (call (.builtin "isinstance") [u, c]) Q E s := by
 cases ty with
 | non => cases (show u = Value.none from rx); exact PySem.W.kia_one PySem.W.kitx_none I.kIn True.intro e (fun z => nomatch z) h
 | bl y => cases (show u = Value.bool y from rx); exact PySem.W.kia_one PySem.W.kitx_bool I.kIn True.intro e (fun z => nomatch z) h
 | int i => obtain ⟨t, q⟩ := (show ∃ t, u = Value.int i t from rx); cases q; exact PySem.W.kia_one PySem.W.kitx_int I.kIn True.intro e (fun z => nomatch z) h
 | str y => obtain ⟨t, q⟩ := (show ∃ t, u = Value.str y t from rx); cases q; exact PySem.W.kia_one PySem.W.kitx_str I.kIn True.intro e (fun z => nomatch z) h
 | flt y => obtain ⟨t, q⟩ := (show ∃ t, u = Value.float y t from rx); cases q; exact PySem.W.kia_one PySem.W.kitx_float I.kIn True.intro e (fun z => nomatch z) h
 | @lst a xs ea =>
  cases (show u = Value.ref a from rx)
  obtain ⟨_, _, n, _, h1⟩ := (show ObjOk X.prog X.w H s.heap a (.lst xs) from I.hok a _ ea)
  exact PySem.W.kia_one PySem.W.kitx_list I.kIn ⟨_, h1, rfl⟩ e (fun z => nomatch z) h
 | @frz a ob xs ea =>
  cases (show u = Value.ref a from rx)
  obtain ⟨_, _, _, n, _, h1⟩ := (show ObjOk X.prog X.w H s.heap a (.frz ob (.lst xs)) from I.hok a _ ea)
  exact PySem.W.kia_one PySem.W.kitx_list I.kIn ⟨_, h1, rfl⟩ e (fun z => nomatch z) h
 | @tup a xs ea =>
  cases (show u = Value.ref a from rx)
  obtain ⟨_, _, _, p⟩ := (show ObjOk X.prog X.w H s.heap a (.tup xs) from I.hok a _ ea)
  obtain ⟨o, h1, h2, _⟩ := p
  exact PySem.W.kia_one PySem.W.kitx_tuple I.kIn ⟨o, h1, h2⟩ e (fun z => nomatch z) h
 | @dK a kvs ea =>
  cases (show u = Value.ref a from rx)
  obtain ⟨_, _, vs, _, p⟩ := (show ObjOk X.prog X.w H s.heap a (.dK kvs) from I.hok a _ ea)
  obtain ⟨o, es, ep, h1, h2, _⟩ := p
  exact PySem.W.kia_one PySem.W.kitx_dict I.kIn ⟨o, h1, h2.1⟩ e (fun z => nomatch z) h
 | @dT a kvs ea =>
  cases (show u = Value.ref a from rx)
  obtain ⟨_, _, xs, _, o, es, ep, h1, h2, _⟩ := (show ObjOk X.prog X.w H s.heap a (.dT kvs) from I.hok a _ ea)
  exact PySem.W.kia_one PySem.W.kitx_dict I.kIn ⟨o, h1, h2.1⟩ e (fun z => nomatch z) h
 | @ins a C dx fs ea cl ha hn htk hm =>
  cases (show u = Value.ref a from rx)
  obtain ⟨mA, O, _⟩ := ins_get I.hok ea
  obtain ⟨od, J, _⟩ := O.look
  exact PySem.W.kia_one (PySem.W.kitx_own (cl.get _) cl.hd ha hn htk hm) I.kIn J e (fun z => nomatch z) h
end
end L2
namespace L2
open PySem PySem.Spec PyProof.Rows
structure Room (k : Nat) (A : Around) : Prop where
 hd : A.handled = none
 dp : A.depth + 3 * k + 5 < recursionLimit
 un : A.units + 16 * k + 200 < cLine
theorem Room.mono {j k : Nat} {A : Around} (r : Room k A) (h : j ≤ k) : Room j A := ⟨r.hd, by have := r.dp; omega, by have := r.un; omega⟩
theorem Room.deeper {k : Nat} {A : Around} (r : Room (k + 1) A) (env : Env) : Room k (A.deeper env) :=
 ⟨r.hd, by have := r.dp; show A.depth + 1 + 3 * k + 5 < _; omega, by have := r.un; show A.units + 3 + 16 * k + 200 < _; omega⟩
theorem make_depth {A : Around} {C : Addr} {us : List Value} {kw : List (Str × Value)} : (A.under (.builtin "type.__call__" ⟨.ref C :: us, kw⟩)).depth = A.depth + 1 := by
 first | rfl | simp [Around.under, Code.weight, Code.isCreation, Code.isGuard, Code.isCaller, Code.frames, Code.isFrame, guardIds]
theorem make_units {A : Around} {C : Addr} {us : List Value} {kw : List (Str × Value)} : (A.under (.builtin "type.__call__" ⟨.ref C :: us, kw⟩)).units = A.units + 1 := by
 first | rfl | simp [Around.under, Code.cUnits, Code.frames, Code.isFrame]
theorem Room.make {k : Nat} {A : Around} (r : Room (k + 1) A) (C : Addr) (us : List Value) (kw : List (Str × Value)) : Room k (A.under (.builtin "type.__call__" ⟨.ref C :: us, kw⟩)) :=
 ⟨r.hd, by have := r.dp; rw [make_depth]; omega, by have := r.un; rw [make_units]; omega⟩
theorem Room.depth {k : Nat} {A : Around} (r : Room k A) : A.depth < recursionLimit := by have := r.dp; omega
theorem Room.units {k : Nat} {A : Around} (r : Room k A) : A.units + 64 < cLine := by have := r.un; omega
def tNil : TA := fun _ H Q => Q [] H
def tCons (ta : TE) (tr : TA) : TA := fun σ H Q => ta σ H fun x H1 => tr σ H1 fun xs H2 => Q (x :: xs) H2
section
variable {X : Cx} {e : Expr} {es : List Expr} {te : TE} {t : TA} {pos : Pos}
theorem pa_nil : PA X [] tNil := fun _ _ _ _ H Q I h => Calls.spliced_nil ⟨[], H, I, .nil, h⟩
theorem pa_cons (ha : PE X e te) (hr : PA X es t) (hs : starEach (e :: es) X.env = (false, eval e X.env) :: starEach es X.env := by rfl) : PA X (e :: es) (tCons te t) := by
 intro pos pins s σ H Q I h
 rw [hs]
 show wpAny _ _ (spliced ((false, eval e X.env) :: backTo pos (starEach es X.env))) _ _ s
 refine Calls.spliced_cons (thn (ha pins s σ H _ I h) fun u s1 ⟨x, H1, I1, r1, q1⟩ => ?_)
 exact thn (hr pos pins s1 σ H1 _ I1 q1) fun us s2 ⟨xs, H2, I2, r2, q2⟩ => ⟨x :: xs, H2, I2, .cons r1 r2, q2⟩
def tTup (t : TA) : TE := fun σ H Q => t σ H fun xs H1 => xs.length ≤ sizeLine ∧ ∀ p, H1 p = none → Q (.ref p) (upd H1 p (.tup xs))
def tLst (t : TA) : TE := fun σ H Q => t σ H fun xs H1 => xs.length ≤ sizeLine ∧ ∀ p, H1 p = none → Q (.ref p) (upd H1 p (.lst xs))
theorem pe_tup {x1} (h : PA X es t) : PE X (.Tuple es x1 pos) (tTup t) := by
 intro pins s σ H Q I hq
 refine wpAny_Tuple_spliced (thn (h pos pins s σ H _ I hq) fun us s1 ⟨xs, H1, I1, r, z, q⟩ => ⟨by rw [← r.length]; exact z, ?_⟩)
 have hf : H1 s1.heap.objs.size = none := I1.hok.fresh (Nat.le_refl _)
 refine ⟨.ref s1.heap.objs.size, upd H1 s1.heap.objs.size (.tup xs), I1.laid (t' := s1.toks) (fun b u e => Heap.get?_push_of_some _ e) (Nat.le_refl _) ?_, rfl, q _ hf⟩
 exact ⟨z, us, r, ⟨_, Heap.get?_push_size _ rfl, rfl, _, rfl⟩⟩
theorem pe_lst (h : PA X es t) : PE X (.List es pos) (tLst t) := by
 intro pins s σ H Q I hq
 refine wpAny_List_spliced (thn (h pos pins s σ H _ I hq) fun us s1 ⟨xs, H1, I1, r, z, q⟩ => ⟨by rw [← r.length]; exact z, ?_⟩)
 have hf : H1 s1.heap.objs.size = none := I1.hok.fresh (Nat.le_refl _)
 refine ⟨.ref s1.heap.objs.size, upd H1 s1.heap.objs.size (.lst xs), I1.laid (t' := s1.toks) (fun b u e => Heap.get?_push_of_some _ e) (Nat.le_refl _) ?_, rfl, q _ hf⟩
 exact ⟨z, us, 0, r, Heap.get?_push_size _ rfl⟩
end
abbrev Sp := List V → Hp → VK → XK → Prop
abbrev CXT := List Env → Hp → Shared → XK → Value → Shared → Prop
structure Env0 (P : Program) (w : World) (K : PySem.W.Frag) (mg : Str → Option Value) (base : Heap) (A : Around) (outer : List Env) (s : Shared) (H : Hp) : Prop where
 frames : A.frames = some outer
 mod : Mod K mg base
 bs : ∀ b o, base.get? b = some o → s.heap.get? b = some o ∧ H b = none
 bsz : base.objs.size ≤ s.heap.objs.size
 funs : s.heap.FunFrames base outer
 frf : ∀ b ∈ frs outer, H b = none
 hok : HOk P w H s.heap
 bare : AllBare s.gens
def CE (outer : List Env) (P : Program) (w : World) (H : Hp) (s : Shared) (Q : VK) (u : Value) (s' : Shared) : Prop :=
 ∃ v H', s'.os = s.os ∧ AllBare s'.gens ∧ Un (frs outer) [] H H' s.heap s'.heap ∧ HOk P w H' s'.heap ∧ RelV v u ∧ Q v H'
def CR (CX : CXT) (outer : List Env) (P : Program) (w : World) (H : Hp) (s : Shared) (Q : VK) (E : XK) (r : Result) (s' : Shared) : Prop :=
 match r with
 | .ok (.ret u) => CE outer P w H s Q u s'
 | .ok _ => False
 | .error e => CX outer H s E e s'
structure FnOk (P : Program) (w : World) (K : PySem.W.Frag) (mg : Str → Option Value) (base : Heap) (CX : CXT) (k : Nat) (f : Addr) (fd : FuncData) (ps : List Str) (sp : Sp) : Prop where
 len : ∀ vs H Q E, sp vs H Q E → vs.length = ps.length
 run : ∀ (A : Around) (outer : List Env) (s : Shared) (H : Hp) (args : Args) (us : List Value) (vs : List V) (Q : VK) (E : XK), Room k A → Env0 P w K mg base A outer s H → BindsTo s fd args (ps.zip us) → Vals vs us → sp vs H Q E →
  codeAny (model P w) A (.call (.ref f) args) (CR CX outer P w H s Q E) s
theorem Env0.make {P : Program} {w : World} {K : PySem.W.Frag} {mg : Str → Option Value} {base : Heap} {A : Around} {outer : List Env} {s : Shared} {H : Hp} (e : Env0 P w K mg base A outer s H) (C : Addr) (us : List Value) (kw : List (Str × Value)) :
 Env0 P w K mg base (A.under (.builtin "type.__call__" ⟨.ref C :: us, kw⟩)) outer s H := ⟨by first | exact e.frames | (simpa [Around.under, Code.envs, Code.isFrame, pushEnvs] using e.frames), e.mod, e.bs, e.bsz, e.funs, e.frf, e.hok, e.bare⟩
section
variable {X : Cx} {pins : List (Addr × Obj)} {σ : St} {H : Hp} {s s' : Shared}
theorem Inv.env0 (I : Inv X pins σ H s) : Env0 X.prog X.w X.K X.mg X.base X.A X.stack s H :=
 ⟨I.ok.frames, I.ok.mod, I.bs, Nat.le_trans I.ok.bsz I.sz, I.stack, I.stkFree, I.hok, I.bare⟩
theorem Inv.after {Q : VK} {u : Value} (I : Inv X pins σ H s) (h : CE X.stack X.prog X.w H s Q u s') : EP X pins σ Q u s' := by
 obtain ⟨v, H', os, bare, un, hok, r, q⟩ := h
 obtain ⟨hh, g, d, t, os'⟩ := s'
 obtain rfl : os' = s.os := os
 exact ⟨v, H', I.call (h' := hh) (g' := g) (d' := d) (t' := t) (ch := []) un hok bare (fun b z => absurd z (by simp)), r, q⟩
end
def tCall (sp : Sp) (dvs : List V) (E : XK) (t : TA) : TE := fun σ H Q => t σ H fun vs H1 => sp (vs ++ dvs) H1 Q E
def tMeth (C : Addr) (m : Str) (sp : Sp) (dvs : List V) (E : XK) (ta : TE) (t : TA) : TE := fun σ H Q => ta σ H fun x H1 => ∃ a dx fs, x = .ref a ∧ H1 a = some (.ins C dx fs) ∧ fs.lookup m = none ∧
 t σ H1 fun vs H2 => sp (x :: (vs ++ dvs)) H2 Q E
def tMake (C : Addr) (sp : Sp) (dvs : List V) (E : XK) (t : TA) : TE := fun σ H Q => t σ H fun vs H1 => ∀ x dx, H1 x = none → H1 dx = none → dx ≠ x →
 sp (.ref x :: (vs ++ dvs)) (upd (upd H1 dx (.own x)) x (.ins C dx [])) (fun v H2 => v = .non ∧ Q (.ref x) H2) E
def Binds (K : PySem.W.Frag) (fd : FuncData) (ps : List Str) (ds : List Value) : Prop :=
 ∀ (s : Shared) (us : List Value), K.In s.heap → (us ++ ds).length = ps.length → BindsTo s fd ⟨us, []⟩ (ps.zip (us ++ ds))
theorem Binds.all {K : PySem.W.Frag} {fd : FuncData} {ps : List Str} (h : ∀ us : List Value, us.length = ps.length → bindArgs fd ⟨us, []⟩ = pure (ps.zip us)) : Binds K fd ps [] := fun s us _ hl => by
 rw [List.append_nil] at hl ⊢
 exact .of_eq (h us hl)
def Passes (CX : CXT) (X : Cx) (E : XK) : Prop := ∀ (pins : List (Addr × Obj)) (σ : St) (H : Hp) (s : Shared) (e : Value) (s' : Shared), Inv X pins σ H s → CX X.stack H s E e s' → X.xe e s'
section
variable {X : Cx} {CX : CXT} {k : Nat} {f C : Addr} {fd : FuncData} {ps : List Str} {sp : Sp} {dvs : List V} {ds : List Value} {E : XK} {x m : Str} {p pos apos : Pos} {e o : Expr} {es : List Expr} {ta : TE} {t : TA}
theorem run_fn {pins : List (Addr × Obj)} {σ : St} {H : Hp} {s : Shared} {Q : VK} {us : List Value} {vs : List V} (F : FnOk X.prog X.w X.K X.mg X.base CX k f fd ps sp) (hr : Room k X.A) (hb : Binds X.K fd ps ds) (hd : Vals dvs ds) (hx : Passes CX X E)
 (I : Inv X pins σ H s) (r : Vals vs us) (h : sp (vs ++ dvs) H Q E) : wpAny (model X.prog X.w) X.A (call (.ref f) us) (EP X pins σ Q) X.xe s := by
 have r2 : Vals (vs ++ dvs) (us ++ ds) := r.append hd
 have hl : (us ++ ds).length = ps.length := by rw [← r2.length]; exact F.len _ _ _ _ h
 refine wpAny_call (codeAny_mono (F.run X.A X.stack s H ⟨us, []⟩ (us ++ ds) (vs ++ dvs) Q E hr I.env0 (hb s us I.kIn hl) r2 h) fun r s' hq => ?_)
 cases r with
 | error e => exact hx pins σ H s e s' I hq
 | ok fl =>
  cases fl with
  | ret u => exact I.after hq
  | next => exact False.elim hq
  | brk => exact False.elim hq
  | cont => exact False.elim hq
theorem pe_call (F : FnOk X.prog X.w X.K X.mg X.base CX k f fd ps sp) (hr : Room k X.A) (hg : Gl X x) (hm : X.mg x = some (.ref f)) (hk : PySem.W.keepIn X.K (.ref f) = true) (hb : Binds X.K fd ps ds) (hd : Vals dvs ds) (hx : Passes CX X E)
 (ha : PA X (e :: es) t) (hdb : (x == ("__debug__" : Str)) = false := by decide) (he : starEach (e :: es) X.env = (false, eval e X.env) :: starEach es X.env := by rfl) (hpl : (backTo pos (starEach es X.env)).any (·.1) = false := by rfl) :
 PE X (.Call (.Name x p) (e :: es) [] pos) (tCall sp dvs E t) := by
 intro pins s σ H Q I h
 refine wpAny_Call_Name_kw (ld_glob I hg hm ?_ hdb)
 refine PySem.W.callWith_K (h₀ := X.base) I.ok.mod.kin hk (thn (ha pos pins s σ H _ I h) fun us s1 ⟨vs, H1, I1, r, q⟩ => ⟨I1.kIn, ?_⟩) he hpl
 exact run_fn F hr hb hd hx I1 r q
theorem pe_meth {pl : Sem Bool} (he : PE X o ta) (c : Cls X.K C) (hm : Meth X.K C m f) (F : FnOk X.prog X.w X.K X.mg X.base CX k f fd ps sp) (hr : Room k X.A) (hb : Binds X.K fd ps ds) (hd : Vals dvs ds) (hx : Passes CX X E) (ha : PA X (e :: es) t)
 (hst : starEach (e :: es) X.env = (false, eval e X.env) :: starEach es X.env := by rfl) (hpl : (backTo pos (starEach es X.env)).any (·.1) = false := by rfl)
 (ht : eval (.Call (.Attribute o m apos) (e :: es) [] pos) X.env = (do
   let ov ← eval o X.env
   standAt apos.atName
   let (f, first) ← holding [ov] (getMethod ov m pl)
   callWith pos f first (backTo pos (starEach (e :: es) X.env)) (backToKw pos (keywordEach [] X.env))) := by rfl) :
 PE X (.Call (.Attribute o m apos) (e :: es) [] pos) (tMeth C m sp dvs E ta t) := by
 intro pins s σ H Q I h
 refine PySem.W.methodCall_KW (pl := pl) (thn (he pins s σ H _ I h) fun u s1 ⟨x, H1, I1, rx, a, dx, fs, ex, ea, l, q⟩ => ?_) ht
 subst ex
 obtain rfl : u = Value.ref a := rx
 refine getmeth_ok I1 ea c hm l ?_
 refine PySem.W.callWith_K (first := [.ref a]) (h₀ := X.base) I.ok.mod.kin hm.kp (thn (ha pos pins s1 σ H1 _ I1 q) fun us s2 ⟨vs, H2, I2, r, q2⟩ => ⟨I2.kIn, ?_⟩) hst hpl
 exact run_fn (us := .ref a :: us) (vs := .ref a :: vs) F hr hb hd hx I2 (.cons rfl r) q2
theorem pe_meth0 {pl : Sem Bool} (he : PE X o ta) (c : Cls X.K C) (hm : Meth X.K C m f) (F : FnOk X.prog X.w X.K X.mg X.base CX k f fd ps sp) (hr : Room k X.A) (hb : Binds X.K fd ps ds) (hd : Vals dvs ds) (hx : Passes CX X E)
 (ht : eval (.Call (.Attribute o m apos) [] [] pos) X.env = (do
   let ov ← eval o X.env
   standAt apos.atName
   let (f, first) ← holding [ov] (getMethod ov m pl)
   callWith pos f first (backTo pos (starEach [] X.env)) (backToKw pos (keywordEach [] X.env))) := by rfl) :
 PE X (.Call (.Attribute o m apos) [] [] pos) (tMeth C m sp dvs E ta tNil) := by
 intro pins s σ H Q I h
 refine PySem.W.methodCall_KW (pl := pl) (thn (he pins s σ H _ I h) fun u s1 ⟨x, H1, I1, rx, a, dx, fs, ex, ea, l, q⟩ => ?_) ht
 subst ex
 obtain rfl : u = Value.ref a := rx
 refine getmeth_ok I1 ea c hm l ?_
 exact PySem.W.callWith_K0 (first := [.ref a]) I1.kIn hm.kp (run_fn (us := [.ref a]) (vs := [.ref a]) F hr hb hd hx I1 (.cons rfl .nil) q)
structure Mk (K : PySem.W.Frag) (C f : Addr) : Prop where
 makes : PySem.W.makesIn K C = true
 init : PySem.W.findIn K (.ref C) "__init__" = some (some (.ref f))
 fn : PySem.W.isFn K (.ref f) = true
 kp : PySem.W.keepIn K (.ref C) = true
theorem run_make {pins : List (Addr × Obj)} {σ : St} {H : Hp} {s : Shared} {Q : VK} {us : List Value} {vs : List V} (M : Mk X.K C f) (F : FnOk X.prog X.w X.K X.mg X.base CX k f fd ps sp) (hr : Room (k + 1) X.A) (hb : Binds X.K fd ps ds) (hd : Vals dvs ds)
 (hx : Passes CX X E) (I : Inv X pins σ H s) (r : Vals vs us)
 (h : ∀ x dx, H x = none → H dx = none → dx ≠ x → sp (.ref x :: (vs ++ dvs)) (upd (upd H dx (.own x)) x (.ins C dx [])) (fun v H2 => v = .non ∧ Q (.ref x) H2) E) :
 wpAny (model X.prog X.w) X.A (call (.ref C) us) (EP X pins σ Q) X.xe s := by
 have hq := h (s.heap.objs.size + 1) s.heap.objs.size (I.hok.fresh (Nat.le_succ _)) (I.hok.fresh (Nat.le_refl _)) (Nat.ne_of_lt (Nat.lt_succ_self _))
 have I2 := Inv.made (C := C) I
 have r2 : Vals (V.ref (s.heap.objs.size + 1) :: (vs ++ dvs)) (Value.ref (s.heap.objs.size + 1) :: (us ++ ds)) := .cons rfl (r.append hd)
 have hl : (Value.ref (s.heap.objs.size + 1) :: us ++ ds).length = ps.length := by
  have e := r2.length
  rw [F.len _ _ _ _ hq] at e
  exact e.symm
 refine wpAny_call (make_map (f := f) I.kIn M.makes M.init (beq_iff_eq.mp M.fn) (codeAny_mono (F.run _ X.stack _ _ ⟨Value.ref (s.heap.objs.size + 1) :: us, []⟩ (Value.ref (s.heap.objs.size + 1) :: (us ++ ds)) _ _ E (hr.make C us [])
  (I2.env0.make C us []) (hb _ (Value.ref (s.heap.objs.size + 1) :: us) I2.kIn hl) r2 hq) fun r s' hq' => ?_))
 cases r with
 | error e => exact hx pins σ _ _ e s' I2 hq'
 | ok fl =>
  cases fl with
  | ret u =>
   obtain ⟨v, H', I3, rv, ev, q3⟩ := I2.after hq'
   subst ev
   exact ⟨rv, ⟨V.ref (s.heap.objs.size + 1), H', I3, rfl, q3⟩⟩
  | next => exact False.elim hq'
  | brk => exact False.elim hq'
  | cont => exact False.elim hq'
theorem pe_make (M : Mk X.K C f) (F : FnOk X.prog X.w X.K X.mg X.base CX k f fd ps sp) (hr : Room (k + 1) X.A) (hg : Gl X x) (hm : X.mg x = some (.ref C)) (hb : Binds X.K fd ps ds) (hd : Vals dvs ds) (hx : Passes CX X E)
 (ha : PA X (e :: es) t) (hdb : (x == ("__debug__" : Str)) = false := by decide) (he : starEach (e :: es) X.env = (false, eval e X.env) :: starEach es X.env := by rfl) (hpl : (backTo pos (starEach es X.env)).any (·.1) = false := by rfl) :
 PE X (.Call (.Name x p) (e :: es) [] pos) (tMake C sp dvs E t) := by
 intro pins s σ H Q I h
 refine wpAny_Call_Name_kw (ld_glob I hg hm ?_ hdb)
 refine PySem.W.callWith_K (h₀ := X.base) I.ok.mod.kin M.kp (thn (ha pos pins s σ H _ I h) fun us s1 ⟨vs, H1, I1, r, q⟩ => ⟨I1.kIn, ?_⟩) he hpl
 exact run_make M F hr hb hd hx I1 r q
end
section
variable {X : Cx} {CX : CXT} {k : Nat} {f C : Addr} {fd : FuncData} {ps ks : List Str} {sp : Sp} {E : XK} {x m : Str} {p pos apos kpos : Pos} {e o : Expr} {es : List Expr} {kws : List Keyword} {te ta : TE} {t tk : TA} {nm : Option Str}
variable {g : List Value → List Value → List Value} {gV : List V → List V → List V}
end
structure FnScope (N P : List Str) (sc : Scope) : Prop where
 kind : sc.kind = .function
 co : sc.isCoroutine = false
 gen : sc.isGenerator = false
 nd : N.Nodup
 pre : N.take P.length = P
 par : ∀ x ∈ P, sc.names.lookup x = some .local ∨ sc.names.lookup x = some .cell
 nofree : ∀ y ∈ sc.names, y.2 ≠ .free
theorem bindL_out {kindOf : Str → Option NameKind} {x : Str} : ∀ {binds : List (Str × Value)} {m : Str → Option Value}, (∀ v, (x, v) ∉ binds) → bindL kindOf binds m x = m x
 | [], _, _ => rfl
 | (n, v) :: r, m, h => by
  unfold bindL
  rw [bindL_out fun w hw => h w (List.mem_cons_of_mem _ hw)]
  split
  ·have : x ≠ n := by rintro rfl; exact h v List.mem_cons_self
   simp [this]
  ·rfl
theorem bindC_out {kindOf : Str → Option NameKind} {x : Str} : ∀ {binds : List (Str × Value)} {m : Str → Option Value}, (∀ v, (x, v) ∉ binds) → bindC kindOf binds m x = m x
 | [], _, _ => rfl
 | (n, v) :: r, m, h => by
  unfold bindC
  rw [bindC_out fun w hw => h w (List.mem_cons_of_mem _ hw)]
  split
  ·rfl
  ·have : x ≠ n := by rintro rfl; exact h v List.mem_cons_self
   simp [this]
theorem bindL_get {kindOf : Str → Option NameKind} {x : Str} {v : Value} : ∀ {P : List Str} {vs : List Value} {i : Nat} {m : Str → Option Value}, P.Nodup → P[i]? = some x → vs[i]? = some v → kindOf x = some .local →
 bindL kindOf (P.zip vs) m x = some v
 | [], _, _, _, _, h, _, _ => by simp at h
 | _ :: _, [], _, _, _, _, h, _ => by simp at h
 | p :: P, w :: vs, 0, m, nd, h1, h2, hk => by
  simp at h1 h2; subst h1; subst h2
  show bindL kindOf ((p, w) :: P.zip vs) m p = _
  unfold bindL
  rw [bindL_out fun v hv => (List.nodup_cons.mp nd).1 (List.of_mem_zip hv).1, if_pos hk]
  simp
 | p :: P, w :: vs, i + 1, m, nd, h1, h2, hk => by
  show bindL kindOf ((p, w) :: P.zip vs) m x = _
  unfold bindL
  exact bindL_get (i := i) (List.nodup_cons.mp nd).2 (by simpa using h1) (by simpa using h2) hk
theorem bindC_get {kindOf : Str → Option NameKind} {x : Str} {v : Value} : ∀ {P : List Str} {vs : List Value} {i : Nat} {m : Str → Option Value}, P.Nodup → P[i]? = some x → vs[i]? = some v → kindOf x ≠ some .local →
 bindC kindOf (P.zip vs) m x = some v
 | [], _, _, _, _, h, _, _ => by simp at h
 | _ :: _, [], _, _, _, _, h, _ => by simp at h
 | p :: P, w :: vs, 0, m, nd, h1, h2, hk => by
  simp at h1 h2; subst h1; subst h2
  show bindC kindOf ((p, w) :: P.zip vs) m p = _
  unfold bindC
  rw [bindC_out fun v hv => (List.nodup_cons.mp nd).1 (List.of_mem_zip hv).1, if_neg hk]
  simp
 | p :: P, w :: vs, i + 1, m, nd, h1, h2, hk => by
  show bindC kindOf ((p, w) :: P.zip vs) m x = _
  unfold bindC
  exact bindC_get (i := i) (List.nodup_cons.mp nd).2 (by simpa using h1) (by simpa using h2) hk
def start (N : List Str) (vs : List V) : St := vs.map some ++ List.replicate (N.length - vs.length) none
def cxOf (CX : CXT) (P : Program) (w : World) (K : PySem.W.Frag) (mg : Str → Option Value) (base : Heap) (N : List Str) (qual : Str) (scope : Scope) (f : Addr) (cd : Value) (A : Around) (outer : List Env) (s : Shared) (H : Hp) (E : XK) : Cx where
 prog := P
 w := w
 K := K
 mg := mg
 base := base
 A := A.deeper (envOfC qual scope s.heap.objs.size f cd)
 N := N
 s₀ := s
 H₀ := H
 env := envOfC qual scope s.heap.objs.size f cd
 outer := outer
 stack := envOfC qual scope s.heap.objs.size f cd :: outer
 ex := []
 calm := true
 fn := fun _ => true
 pn := []
 xe := fun e s' => wpAny (model P w) (A.deeper (envOfC qual scope s.heap.objs.size f cd)) (leaving (envOfC qual scope s.heap.objs.size f cd) e) (fun _ s'' => CX outer H s E e s'') (fun e' s'' => CX outer H s E e' s'') s'
theorem cell_has {sc : Scope} {n : Nat} {x : Str} (h : sc.names.lookup x = some .cell) : ∃ c, (cellsFrom n sc.names []).lookup x = some c := by
 have q := PySem.W.cellsFrom_some sc.names n [] (.inl h)
 exact Option.isSome_iff_exists.mp q
theorem inv_start {CX : CXT} {P : Program} {w : World} {K : PySem.W.Frag} {mg : Str → Option Value} {base : Heap} {N ps : List Str} {qual : Str} {scope : Scope} {f : Addr} {cd : Value} {A : Around} {outer : List Env} {s s1 : Shared} {H : Hp} {E : XK} {us : List Value} {vs : List V}
 (S : FnScope N ps scope) (hd : A.handled = none) (e0 : Env0 P w K mg base A outer s H) (hl : vs.length = ps.length) (r : Vals vs us)
 (x : InCallC s s.heap.objs.size (bindL (envOfC qual scope s.heap.objs.size f cd).kindOf (ps.zip us) fun _ => none) (cellsFrom (s.heap.objs.size + 1) scope.names []) (bindC (envOfC qual scope s.heap.objs.size f cd).kindOf (ps.zip us) fun _ => none) s1) :
 Inv (cxOf CX P w K mg base N qual scope f cd A outer s H E) [] (start N vs) H s1 := by
 have hpl : ps.length ≤ N.length := by have := congrArg List.length S.pre; rw [List.length_take] at this; omega
 obtain ⟨h1, tk, rfl, hk⟩ := x.done
 have noA : ∀ b : Addr, b ∉ (cxOf CX P w K mg base N qual scope f cd A outer s H E).ex := fun b z => absurd (show b ∈ ([] : List Addr) from z) (by simp)
 refine ⟨⟨e0.mod, S.kind, rfl, rfl, Nat.le_refl _, fun y z c h1 h2 => ?_, fun y hy => ?_, fun y c _ h => ?_, fun _ => hd, Around.frames_deeper e0.frames, .inr ⟨rfl, rfl⟩, fun b z => absurd z (noA b), e0.bs, e0.bsz, fun b _ _ => noA b, fun b z => absurd z (noA b), e0.funs, e0.frf⟩,
  rfl, e0.bare, Un.kept hk, ⟨_, x.toInCall.ns, fun i y v h1 h2 h3 => ?_⟩, fun y c h => ⟨_, x.cell y c h⟩, e0.hok.fresh (Nat.le_refl _), fun y c h => ?_, fun p hp => absurd (show p ∈ ([] : List (Addr × Obj)) from hp) (by simp), e0.hok.kept hk, ?_⟩
 ·exact name_of_addr x.apart (PySem.mem_of_lookup h1) (PySem.mem_of_lookup h2)
 ·have hy : scope.names.lookup y = some .cell ∨ scope.names.lookup y = some .free := hy
  rcases hy with hy | hy
  ·exact cell_has hy
  ·exact absurd rfl (S.nofree _ (PySem.mem_of_lookup hy))
 ·exact Nat.le_of_lt (x.above y c (PySem.mem_of_lookup h))
 ·have hi : i < vs.length := by
   unfold start at h2
   by_cases hi : i < vs.length
   ·exact hi
   ·rw [List.getElem?_append_right (by simpa using hi)] at h2
    rw [List.getElem?_replicate] at h2
    split at h2 <;> cases h2
  have ha : vs[i]? = some v := by
   unfold start at h2
   rw [List.getElem?_append_left (by simpa using hi), List.getElem?_map] at h2
   cases e : vs[i]? with
   | none => rw [e] at h2; cases h2
   | some a => rw [e] at h2; cases h2; rfl
  obtain ⟨u, hu, rv⟩ := r.get ha
  have hp : ps[i]? = some y := by
   rw [← S.pre, List.getElem?_take_of_lt (by omega)]; exact h1
  have ndP : ps.Nodup := by rw [← S.pre]; exact S.nd.sublist (List.take_sublist _ _)
  refine ⟨u, rv, ?_⟩
  rcases S.par y (List.mem_of_getElem? hp) with k | k
  ·exact .inl ⟨k, bindL_get ndP hp hu k⟩
  ·obtain ⟨c, e⟩ := cell_has (n := s.heap.objs.size + 1) k
   refine .inr ⟨.inl k, c, e, ?_⟩
   have q := x.cell y c e
   rw [bindC_get ndP hp hu (by show scope.names.lookup y ≠ _; rw [k]; decide)] at q
   exact q
 ·exact e0.hok.fresh (Nat.le_of_lt (x.above y c (PySem.mem_of_lookup h)))
 ·unfold start
  show _ = N.length
  rw [List.length_append, List.length_map, List.length_replicate]
  omega
theorem fn_of {CX : CXT} {P : Program} {w : World} {K : PySem.W.Frag} {mg : Str → Option Value} {base : Heap} {k : Nat} {f : Addr} {name qual : Str} {params : Arguments} {body : List Stmt} {scope : Scope} {dV kV doc pm cdv ct oc : Value} {an od : Option Addr}
 {osl : Array (Option Value)} {N ps : List Str} {sp : Sp} (lk : K.lookup f = some ⟨oc, od, .func (PySem.W.fnOf name qual params body scope dV kV doc pm an cdv ct), osl⟩) (hcd : PySem.W.codeIn K cdv qual = true) (S : FnScope N ps scope)
 (len : ∀ vs H Q E, sp vs H Q E → vs.length = ps.length)
 (hbody : ∀ (A : Around) (outer : List Env) (s : Shared) (H : Hp) (vs : List V) (Q : VK) (E : XK), Room k (A.deeper (envOfC qual scope s.heap.objs.size f cdv)) → sp vs H Q E →
   ∃ t, PSs (cxOf CX P w K mg base N qual scope f cdv A outer s H E) body t ∧ t { nx := fun _ H' => Q .non H', rt := Q } (start N vs) H) :
 FnOk P w K mg base CX (k + 1) f (PySem.W.fnOf name qual params body scope dV kV doc pm an cdv ct) ps sp := by
 refine ⟨len, fun A outer s H args us vs Q E hr e0 hb r hsp => ?_⟩
 have hl := len _ _ _ _ hsp
 have KX : K.In s.heap := e0.mod.kin.keeps fun b o e => (e0.bs b o e).1
 have lim : s.heap.NoLimit := e0.mod.nolimit.keeps fun b o e => (e0.bs b o e).1
 have hkind : ∀ y ∈ ps.zip us, scope.names.lookup y.1 = some .local ∨ (scope.names.lookup y.1 = some .cell ∧ ((cellsFrom (s.heap.objs.size + 1) scope.names []).lookup y.1).isSome = true) := fun ⟨n, v⟩ hy => by
  rcases S.par n (List.of_mem_zip hy).1 with q | q
  ·exact .inl q
  ·exact .inr ⟨q, PySem.W.cellsFrom_some _ _ _ (.inl q)⟩
 refine codeAny_call_function hr.depth (KX _ _ lk) rfl S.co S.gen rfl (PySem.W.codeRec_of KX hcd) (hb _ _ _ _ ?_)
 refine wpAny_newFunctionEnv_cells S.kind hkind fun env he s1 x => ?_
 subst he
 refine ⟨lim.keeps x.toInCall.keep, codeAny_func ?_⟩
 obtain ⟨t, ht, hq⟩ := hbody A outer s H vs Q E (hr.deeper _) hsp
 have I : Inv (cxOf CX P w K mg base N qual scope f cdv A outer s H E) [] (start N vs) H s1 := inv_start S hr.hd e0 hl r x
 refine wpAny_mono (ht [] s1 (start N vs) H _ I hq) (fun fl s' hs => ?_) fun e s' hs => hs
 have fin : ∀ {σ' : St} {H' : Hp} {v : V} {u : Value}, Inv (cxOf CX P w K mg base N qual scope f cdv A outer s H E) [] σ' H' s' → RelV v u → Q v H' → CE outer P w H s Q u s' :=
  fun {σ' H' v u} J rv q => ⟨v, H', J.os, J.bare, J.base, J.hok, rv, q⟩
 cases fl with
 | ret u =>
  obtain ⟨v, σ', H', J, rv, q⟩ := hs
  exact fin J rv q
 | next =>
  obtain ⟨σ', H', J, q⟩ := hs
  exact fin (v := V.non) (u := Value.none) J rfl q
 | brk =>
  obtain ⟨_, _, _, q⟩ := hs
  exact False.elim q
 | cont =>
  obtain ⟨_, _, _, q⟩ := hs
  exact False.elim q
end L2
namespace L2
open PySem PySem.Spec PyProof.Rows
section
variable {X : Cx} {x : Str} {p pos : Pos} {e : Expr} {es : List Expr} {t : TA} {id T : String} {r : List V → Hp → VK → Prop}
def tCB (r : List V → Hp → VK → Prop) (t : TA) : TE := fun σ H Q => t σ H fun vs H1 => r vs H1 Q
theorem pe_callB (hc : CallR X (.builtin id) r) (hg : Gl X x) (hm : X.mg x = none) (hv : bootBuiltins x = some (.builtin id)) (ha : PA X (e :: es) t) (hn : x ≠ "__name__" := by decide) (hdb : (x == ("__debug__" : Str)) = false := by decide)
 (he : starEach (e :: es) X.env = (false, eval e X.env) :: starEach es X.env := by rfl) (hpl : (backTo pos (starEach es X.env)).any (·.1) = false := by rfl) : PE X (.Call (.Name x p) (e :: es) [] pos) (tCB r t) := by
 intro pins s σ H Q I h
 refine wpAny_Call_Name_kw (ld_blt I hg hm hv ?_ hn hdb)
 exact PyProof.Rows.callWith_builtin1 (thn (ha pos pins s σ H _ I h) fun us s1 ⟨vs, H1, I1, r1, q1⟩ => hc pins s1 σ H1 vs us Q I1 r1 q1) he hpl
theorem pe_callTy (hc : CallR X (.type T) r) (hg : Gl X x) (hm : X.mg x = none) (hv : bootBuiltins x = some (.type T)) (ha : PA X (e :: es) t) (hn : x ≠ "__name__" := by decide) (hdb : (x == ("__debug__" : Str)) = false := by decide)
 (he : starEach (e :: es) X.env = (false, eval e X.env) :: starEach es X.env := by rfl) (hpl : (backTo pos (starEach es X.env)).any (·.1) = false := by rfl) : PE X (.Call (.Name x p) (e :: es) [] pos) (tCB r t) := by
 intro pins s σ H Q I h
 refine wpAny_Call_Name_kw (ld_blt I hg hm hv ?_ hn hdb)
 exact PyProof.Rows.callWith_type1 (thn (ha pos pins s σ H _ I h) fun us s1 ⟨vs, H1, I1, r1, q1⟩ => hc pins s1 σ H1 vs us Q I1 r1 q1) he hpl
end
end L2
namespace HT
open PySem PyProof.Rows
def lexLt : List Int → List Int → Bool
 | [], [] => false
 | [], _ :: _ => true
 | _ :: _, [] => false
 | x :: xs, y :: ys => if x = y then lexLt xs ys else decide (x < y)
theorem lexLt_cons (x y : Int) (xs ys : List Int) : lexLt (x :: xs) (y :: ys) = if x = y then lexLt xs ys else decide (x < y) := rfl
section
open PySem.SeqAt
open PySem.AutoSeq1 (wpAny_loadPart')
open PySem.MeetsSeq PySem.MeetsSeq2 PySem.MeetsSeq3
end
section
variable {prog : Program} {w : World} {A : Around} {E : Value → Shared → Prop} {s : Shared}
def sIx (n d : Nat) : Option Int → Nat
 | none => d
 | some v => if v < 0 then (v + (n : Int)).toNat else min v.toNat n
theorem sIx_none (n d : Nat) : sIx n d none = d := rfl
theorem sIx_nat (n d k : Nat) : sIx n d (some (k : Int)) = min k n := by
 show (if (k : Int) < 0 then ((k : Int) + (n : Int)).toNat else min (k : Int).toNat n) = min k n
 rw [if_neg (by omega), Int.toNat_natCast]
end
end HT
namespace L2
open PySem PySem.Spec PyProof.Rows
abbrev TO := St → Hp → (Option Int → Hp → Prop) → Prop
def PO (X : Cx) (e : Option Expr) (t : TO) : Prop :=
 ∀ (pins : List (Addr × Obj)) (s : Shared) (σ : St) (H : Hp) (Q : Option Int → Hp → Prop), Inv X pins σ H s → t σ H Q →
  wpAny (model X.prog X.w) X.A (evalPart e X.env) (fun u s' => ∃ o H', Inv X pins σ H' s' ∧ IsPart u o ∧ Q o H') X.xe s
def tNoPart : TO := fun _ H Q => Q none H
def tPart (t : TE) : TO := fun σ H Q => t σ H fun x H1 => ∃ i, x = .int i ∧ Q (some i) H1
theorem intsAre_of {ns : List Int} : ∀ {us : List Value}, Vals (ns.map V.int) us → IntsAre us ns := by
 induction ns with
 | nil => intro us r; rw [List.map_nil] at r; cases r; exact .nil
 | cons n ns ih =>
  intro us r
  rw [List.map_cons] at r
  cases r with
  | cons r1 r2 =>
   obtain ⟨t, e⟩ := r1
   subst e
   exact .cons n t (ih r2)
section
variable {X : Cx} {e : Expr} {te : TE} {lo hi : Option Expr} {tl th : TO} {pos p2 : Pos}
theorem po_none : PO X none tNoPart := by
 intro pins s σ H Q I h
 rw [evalPart_none]
 exact wpAny_pure ⟨none, H, I, .none, h⟩
theorem po_some (h : PE X e te) : PO X (some e) (tPart te) := by
 intro pins s σ H Q I hw
 rw [evalPart_some]
 refine thn (h pins s σ H _ I hw) fun u s1 ⟨x, H1, I1, r1, q1⟩ => ?_
 obtain ⟨i, rfl, q⟩ := q1
 obtain ⟨t, rfl⟩ := r1
 exact ⟨some i, H1, I1, .int i t, q⟩
def SlR (X : Cx) (r : V → Option Int → Option Int → Hp → VK → Prop) : Prop :=
 ∀ (pins : List (Addr × Obj)) (s : Shared) (σ : St) (H : Hp) (x : V) (v vl vu : Value) (lo hi : Option Int) (sl : Addr) (Q : VK), Inv X pins σ H s → RelV x v → s.heap.IsSliceOf sl vl vu .none → IsPart vl lo → IsPart vu hi → r x lo hi H Q →
  ∃ T id, typeLookup (.type T) "__getitem__" = pure (some (.builtin id)) ∧ s.TypeIs v T ∧ wpAny (model X.prog X.w) X.A (getItem v (.ref sl)) (EP X pins σ Q) X.xe s
def tSl (r : V → Option Int → Option Int → Hp → VK → Prop) (te : TE) (tl th : TO) : TE := fun σ H Q => te σ H fun x H1 => tl σ H1 fun l H2 => th σ H2 fun u H3 => r x l u H3 Q
theorem pe_slice {r : V → Option Int → Option Int → Hp → VK → Prop} (hr : SlR X r) (he : PE X e te) (hl : PO X lo tl) (hu : PO X hi th) : PE X (.Subscript e (.Slice lo hi none p2) pos) (tSl r te tl th) := by
 intro pins s σ H Q I h
 refine Subscript_ (thn (he pins s σ H _ I h) fun v s1 ⟨x, H1, I1, r1, q1⟩ => ?_)
 refine wpAny_Slice (thn (hl pins s1 σ H1 _ I1 q1) fun vl s2 ⟨l, H2, I2, pl, q2⟩ => thn (hu pins s2 σ H2 _ I2 q2) fun vu s3 ⟨u, H3, I3, pu, q3⟩ => ?_)
 rw [evalPart_none]
 refine wpAny_pure ?_
 have I4 : Inv X pins σ H3 { s3 with heap := s3.heap.push { cls := .type "slice", data := .fields #[vl, vu, .none] } } := I3.kept (t' := s3.toks) fun b ob q => Heap.get?_push_of_some _ q
 obtain ⟨T, id, hT, ht, hg⟩ := hr pins { s3 with heap := s3.heap.push { cls := .type "slice", data := .fields #[vl, vu, .none] } } σ H3 x v vl vu l u s3.heap.objs.size Q I4 r1 (Heap.IsSliceOf.new ..) pl pu q3
 show wpAny (model X.prog X.w) X.A (subscriptTail e (.Slice lo hi none p2) v (.ref s3.heap.objs.size)) (EP X pins σ Q) X.xe { s3 with heap := s3.heap.push { cls := .type "slice", data := .fields #[vl, vu, .none] } }
 exact tail_any (ops := [.ref s3.heap.objs.size, v]) ht hT hg (by with_unfolding_all rfl)
def cutV (xs : List V) (lo hi : Option Int) : List V := (xs.drop (HT.sIx xs.length 0 lo)).take (HT.sIx xs.length xs.length hi - HT.sIx xs.length 0 lo)
theorem cutV_length (xs : List V) (lo hi : Option Int) : (cutV xs lo hi).length ≤ xs.length := by
 unfold cutV
 rw [List.length_take, List.length_drop]
 omega
end
end L2
namespace L2
open PySem PySem.Spec PyProof.Rows
def ixN (n : Nat) (i : Int) : Option Nat := if 0 ≤ i then (if i < n then some i.toNat else none) else if -(n : Int) ≤ i then some (i + n).toNat else none
def atI {α : Type} (xs : List α) (i : Int) : Option α := (ixN xs.length i).bind fun j => xs[j]?
theorem ixN_seq {n : Nat} {i : Int} {j : Nat} (h : ixN n i = some j) : seqIndex? i n = some j ∧ j < n ∧ -(n : Int) ≤ i ∧ i < n := by
 unfold ixN at h
 by_cases h0 : 0 ≤ i
 ·rw [if_pos h0] at h
  by_cases h1 : i < n
  ·rw [if_pos h1] at h
   have e : i.toNat = j := Option.some.inj h
   exact ⟨by rw [seqIndex_of h0 h1, e], by omega, by omega, h1⟩
  ·rw [if_neg h1] at h; cases h
 ·rw [if_neg h0] at h
  by_cases h1 : -(n : Int) ≤ i
  ·rw [if_pos h1] at h
   have e : (i + n).toNat = j := Option.some.inj h
   exact ⟨by rw [seqIndex_neg (by omega) h1, e], by omega, h1, by omega⟩
  ·rw [if_neg h1] at h; cases h
theorem atI_get {α : Type} {xs : List α} {i : Int} {v : α} (h : atI xs i = some v) : ∃ j, seqIndex? i xs.length = some j ∧ xs[j]? = some v ∧ j < xs.length ∧ -(xs.length : Int) ≤ i ∧ i < xs.length := by
 unfold atI at h
 cases e : ixN xs.length i with
 | none => rw [e] at h; cases h
 | some j =>
  rw [e] at h
  obtain ⟨h1, h2, h3, h4⟩ := ixN_seq e
  exact ⟨j, h1, h, h2, h3, h4⟩
theorem atI_nat {α : Type} {xs : List α} {j : Nat} {v : α} (h : xs[j]? = some v) : atI xs (j : Int) = some v := by
 have hj : j < xs.length := (List.getElem?_eq_some_iff.mp h).1
 have e : ixN xs.length (j : Int) = some j := by
  unfold ixN
  rw [if_pos (by omega), if_pos (by omega)]; simp
 unfold atI; rw [e]; exact h
def PlainIx (b : Expr) : Prop := ∀ o i, subscripted b false o i = operate [o, i] (getItem o i)
def IxR (X : Cx) (r : R2) : Prop :=
 ∀ (value slice : Expr) (pins : List (Addr × Obj)) (s : Shared) (σ : St) (H : Hp) (x y : V) (v u : Value) (Q : VK), Inv X pins σ H s → RelV x v → RelV y u → r x y H Q →
  subscripted slice false v u = operate [v, u] (getItem v u) → wpAny (model X.prog X.w) X.A (subscriptTail value slice v u) (EP X pins σ Q) X.xe s
def MtR (X : Cx) (id : String) (r : V → List V → Hp → VK → Prop) : Prop :=
 ∀ (pins : List (Addr × Obj)) (s : Shared) (σ : St) (H : Hp) (x : V) (xs : List V) (v : Value) (us : List Value) (Q : VK), Inv X pins σ H s → RelV x v → Vals xs us → r x xs H Q →
  wpAny (model X.prog X.w) X.A (call (.builtin id) (v :: us)) (EP X pins σ Q) X.xe s
section
variable {X : Cx} {a b : Expr} {ta tb : TE} {pos : Pos}
theorem IxR.or {r r' : R2} (h : IxR X r) (h' : IxR X r') : IxR X (fun x y H Q => r x y H Q ∨ r' x y H Q) := by
 intro value slice pins s σ H x y v u Q I rx ry q hs
 rcases q with q | q
 ·exact h value slice pins s σ H x y v u Q I rx ry q hs
 ·exact h' value slice pins s σ H x y v u Q I rx ry q hs
theorem pe_ix {r : R2} (hr : IxR X r) (ha : PE X a ta) (hb : PE X b tb) (hs : PlainIx b) : PE X (.Subscript a b pos) (tOp r ta tb) := by
 intro pins s σ H Q I h
 exact Subscript_ (binT ha hb I h fun v u s2 x y H2 I2 rx ry q => hr a b pins s2 σ H2 x y v u Q I2 rx ry q (hs _ _))
def rIxL (K : PySem.W.Frag) : R2 := fun x y H Q => ∃ p xs i v, x = .ref p ∧ y = .int i ∧ SqL K H p xs ∧ atI xs i = some v ∧ Q v H
def rIxT (K : PySem.W.Frag) : R2 := fun x y H Q => ∃ p xs i v, x = .ref p ∧ y = .int i ∧ SqT K H p xs ∧ atI xs i = some v ∧ Q v H
def rIxS : R2 := fun x y H Q => ∃ z i c, x = .str z ∧ y = .int i ∧ z.length ≤ sizeLine ∧ atI z.cps.toList i = some c ∧ Q (.str ⟨#[c]⟩) H
theorem ix_list : IxR X (rIxL X.K) := by
 intro value slice pins s σ H x y v u Q I rx ry h hs
 obtain ⟨p, xs, i, z, rfl, rfl, hq, he, q⟩ := h
 cases rx
 obtain ⟨t, rfl⟩ := ry
 obtain ⟨its, r, pl, hz⟩ := I.list hq
 obtain ⟨j, h1, h2, h3, h4, h5⟩ := atI_get he
 obtain ⟨w, ew, rw'⟩ := r.get h2
 have hl := r.length
 have hn := line63
 have fin : EP X pins σ Q w s := ⟨z, H, I, rw', q⟩
 by_cases h0 : 0 ≤ i
 ·have hj : i.toNat = j := by
   rw [seqIndex_of h0 h5] at h1
   exact Option.some.inj h1
  exact item_listR pl.isList h0 (by omega) (by rw [hj]; simpa using ew) fin hs
 ·have hj : (i + (its.toArray.size : Int)).toNat = j := by
   rw [seqIndex_neg (by omega) h4] at h1
   rw [List.size_toArray, ← hl]
   exact Option.some.inj h1
  exact subscriptTail_builtinR (x := w) pl.isList.typeIs slot_list_getitem.lookup
   (wpAny_getItem_list_neg (Q := fun r s' => r = w ∧ EP X pins σ Q r s') pl.isList (by omega) (by rw [List.size_toArray] <;> omega) (by omega) (by rw [hj]; simpa using ew) ⟨rfl, fin⟩) hs
theorem ix_tup : IxR X (rIxT X.K) := by
 intro value slice pins s σ H x y v u Q I rx ry h hs
 obtain ⟨p, xs, i, z, rfl, rfl, hq, he, q⟩ := h
 cases rx
 obtain ⟨t, rfl⟩ := ry
 obtain ⟨its, r, pl, hz⟩ := I.tuple hq
 obtain ⟨j, h1, h2, h3, h4, h5⟩ := atI_get he
 obtain ⟨w, ew, rw'⟩ := r.get h2
 have hl := r.length
 have hn := line63
 have fin : EP X pins σ Q w s := ⟨z, H, I, rw', q⟩
 exact subscriptTail_builtinR (x := w) pl.typeIs slot_tuple_getitem.lookup
  (getItem_tuple (j := j) (Q := fun r s' => r = w ∧ EP X pins σ Q r s') pl (by omega) (by omega) (by rw [List.size_toArray, ← hl]; exact h1) (by simpa using ew) ⟨rfl, fin⟩) hs
theorem ix_str : IxR X rIxS := by
 intro value slice pins s σ H x y v u Q I rx ry h hs
 obtain ⟨z, i, c, rfl, rfl, hz, he, q⟩ := h
 obtain ⟨t, rfl⟩ := rx
 obtain ⟨t', rfl⟩ := ry
 obtain ⟨j, h1, h2, h3, h4, h5⟩ := atI_get he
 have hl : z.cps.toList.length = z.length := by simp [Str.length]
 rw [hl] at h1 h4 h5
 have hn := line63
 exact tail_any (typeIs_str s z t) slot_str_getitem.lookup (getItem_str (c := c) (by
  have e1 : decide (i < -(2 ^ 63 : Int)) = false := decide_eq_false (by omega)
  have e2 : decide (i ≥ 2 ^ 63) = false := decide_eq_false (by omega)
  rw [e1, e2, Bool.or_false]) (by rw [h1]; simpa using h2) ⟨.str ⟨#[c]⟩, H, I.tok _, ⟨_, rfl⟩, q⟩) hs
def rIx (K : PySem.W.Frag) : R2 := fun x y H Q => rIxL K x y H Q ∨ rIxT K x y H Q ∨ rIxS x y H Q
theorem ix_seq : IxR X (rIx X.K) := ix_list.or (ix_tup.or ix_str)
theorem Inv.lst {pins : List (Addr × Obj)} {σ : St} {H : Hp} {s : Shared} {p : Addr} {xs : List V} (I : Inv X pins σ H s) (h : H p = some (.lst xs)) :
 ∃ (its : List Value) (n : Nat), Vals xs its ∧ s.heap.get? p = some { cls := .type "list", data := .seq its.toArray n } ∧ xs.length ≤ sizeLine := by
 obtain ⟨z, its, n, r, e⟩ := I.hok p _ h
 exact ⟨its, n, r, e, z⟩
def rSetL : V → V → V → Hp → (Hp → Prop) → Prop := fun o i v H Q => ∃ p xs k j, o = .ref p ∧ i = .int k ∧ H p = some (.lst xs) ∧ ixN xs.length k = some j ∧ Q (upd H p (.lst (xs.set j v)))
theorem slice_bounds (lo hi : Option Int) (n : Nat) : (sliceBounds lo hi none n).1 = ((HT.sIx n 0 lo : Nat) : Int) ∧ (sliceBounds lo hi none n).2.1 = ((HT.sIx n n hi : Nat) : Int) ∧ (sliceBounds lo hi none n).2.2 = 1 := by
 refine ⟨?_, ?_, rfl⟩
 ·cases lo with
  | none => simp [sliceBounds, HT.sIx]
  | some i =>
   simp only [sliceBounds, HT.sIx, Option.getD_none, show (1 : Int) > 0 by decide, if_true]
   by_cases h : i < 0
   ·simp only [h, if_true] <;> omega
   ·simp only [h, if_false] <;> omega
 ·cases hi with
  | none => simp [sliceBounds, HT.sIx]
  | some i =>
   simp only [sliceBounds, HT.sIx, Option.getD_none, show (1 : Int) > 0 by decide, if_true]
   by_cases h : i < 0
   ·simp only [h, if_true] <;> omega
   ·simp only [h, if_false] <;> omega
theorem slicePick_cut (its : List Value) (lo hi : Option Int) : slicePick its.toArray lo hi none = ((its.drop (HT.sIx its.length 0 lo)).take (HT.sIx its.length its.length hi - HT.sIx its.length 0 lo)).toArray := by
 obtain ⟨h1, h2, h3⟩ := slice_bounds lo hi its.toArray.size
 unfold slicePick
 rw [h1, h2, h3]
 simp only [sliceRange_one, pick_run, List.size_toArray] <;> rfl
def rSlL (K : PySem.W.Frag) : V → Option Int → Option Int → Hp → VK → Prop := fun x lo hi H Q => ∃ a xs, x = .ref a ∧ SqL K H a xs ∧ ∀ p, H p = none → Q (.ref p) (upd H p (.lst (cutV xs lo hi)))
theorem sl_list : SlR X (rSlL X.K) := by
 intro pins s σ H x v vl vu lo hi sl Q I rx hs pl pu h
 obtain ⟨a, xs, rfl, hx, q⟩ := h
 cases rx
 obtain ⟨its, r, ht, hz⟩ := I.list hx
 have hlen := r.length
 refine ⟨"list", _, slot_list_getitem.lookup, ht.isList.typeIs, ?_⟩
 refine wpAny_getItem_list_slice ht.isList hs pl pu .none (by simp) ?_ (by rw [List.size_toArray] <;> omega)
 rw [slicePick_cut, ← hlen]
 refine ⟨.ref s.heap.objs.size, _, I.laid (t' := s.toks) (o := .lst (cutV xs lo hi)) (fun b ob q => Heap.get?_push_of_some _ q) (Nat.le_refl _) ?_, rfl, q _ (I.hok.fresh (Nat.le_refl _))⟩
 exact ⟨Nat.le_trans (cutV_length xs lo hi) hz, _, 0, (r.drop (HT.sIx xs.length 0 lo)).take (HT.sIx xs.length xs.length hi - HT.sIx xs.length 0 lo), Heap.get?_push_size _ rfl⟩
def flatV : V → Bool
 | .non => true
 | .bl _ => true
 | .int _ => true
 | .str _ => true
 | _ => false
def eqV : V → V → Bool
 | .non, .non => true
 | .bl a, .bl b => a == b
 | .bl a, .int b => (if a then 1 else 0) == b
 | .int a, .bl b => a == (if b then 1 else 0)
 | .int a, .int b => a == b
 | .str a, .str b => a == b
 | _, _ => false
theorem eqAt_V {A : Around} {s : Shared} {y x : V} {u v : Value} (ry : RelV y u) (rx : RelV x v) (fy : flatV y = true) (fx : flatV x = true) : SeqAt.EqAt A s u v (eqV y x) := by
 cases y with
 | non =>
  cases ry
  cases x with
  | non => cases rx; exact SeqAt.EqAt.same _
  | bl b => cases rx; exact SeqAt.EqAt.none_bool b
  | int b => obtain ⟨t, rfl⟩ := rx; exact SeqAt.EqAt.none_int b t
  | str b => obtain ⟨t, rfl⟩ := rx; exact SeqAt.EqAt.none_str b t
  | _ => exact absurd (show false = true from fx) Bool.false_ne_true
 | bl a =>
  cases ry
  cases x with
  | non => cases rx; exact SeqAt.EqAt.bool_none a
  | bl b => cases rx; exact SeqAt.EqAt.bool_bool a b
  | int b => obtain ⟨t, rfl⟩ := rx; exact SeqAt.EqAt.bool_int a b t
  | str b => obtain ⟨t, rfl⟩ := rx; exact SeqAt.EqAt.bool_str a b t
  | _ => exact absurd (show false = true from fx) Bool.false_ne_true
 | int a =>
  obtain ⟨t', rfl⟩ := ry
  cases x with
  | non => cases rx; exact SeqAt.EqAt.int_none a t'
  | bl b => cases rx; exact SeqAt.EqAt.int_bool a t' b
  | int b => obtain ⟨t, rfl⟩ := rx; exact SeqAt.EqAt.int_int a t' b t
  | str b => obtain ⟨t, rfl⟩ := rx; exact SeqAt.EqAt.int_str a t' b t
  | _ => exact absurd (show false = true from fx) Bool.false_ne_true
 | str a =>
  obtain ⟨t', rfl⟩ := ry
  cases x with
  | non => cases rx; exact SeqAt.EqAt.str_none a t'
  | bl b => cases rx; exact SeqAt.EqAt.str_bool a t' b
  | int b => obtain ⟨t, rfl⟩ := rx; exact SeqAt.EqAt.str_int a t' b t
  | str b => obtain ⟨t, rfl⟩ := rx; exact SeqAt.EqAt.str_str a t' b t
  | _ => exact absurd (show false = true from fx) Bool.false_ne_true
 | _ => exact absurd (show false = true from fy) Bool.false_ne_true
def eqU (x : V) (u : Value) : Bool := match u with
 | .none => eqV .non x
 | .bool b => eqV (.bl b) x
 | .int i _ => eqV (.int i) x
 | .str z _ => eqV (.str z) x
 | _ => false
theorem eqU_of {x y : V} {u : Value} (r : RelV y u) (f : flatV y = true) : eqU x u = eqV y x := by
 cases y with
 | non => cases r; rfl
 | bl b => cases r; rfl
 | int i => obtain ⟨t, rfl⟩ := r; rfl
 | str z => obtain ⟨t, rfl⟩ := r; rfl
 | _ => exact absurd (show false = true from f) Bool.false_ne_true
theorem any_eqU {x : V} : ∀ {xs : List V} {us : List Value}, Vals xs us → xs.all flatV = true → us.any (eqU x) = xs.any fun y => eqV y x
 | _, _, .nil, _ => rfl
 | y :: xs, u :: us, .cons r t, f => by
  rw [List.all_cons, Bool.and_eq_true] at f
  rw [List.any_cons, List.any_cons, eqU_of r f.1, any_eqU t f.2]
theorem mem_eqAt {A : Around} {s : Shared} {x : V} {v : Value} (rx : RelV x v) (fx : flatV x = true) : ∀ {xs : List V} {us : List Value}, Vals xs us → xs.all flatV = true → ∀ u ∈ us, SeqAt.EqAt A s u v (eqU x u)
 | _, _, .nil, _ => fun u hu => by cases hu
 | y :: xs, u :: us, .cons r t, f => fun u' hu => by
  rw [List.all_cons, Bool.and_eq_true] at f
  rcases List.mem_cons.mp hu with rfl | hu
  ·rw [eqU_of r f.1]; exact eqAt_V r rx f.1 fx
  ·exact mem_eqAt rx fx t f.2 u' hu
def inV (x : V) (xs : List V) : Bool := xs.any fun y => eqV y x
def rIn (K : PySem.W.Frag) (neg : Bool) : R2 := fun x y H Q => ∃ p xs, y = .ref p ∧ (SqL K H p xs ∨ SqT K H p xs) ∧ flatV x = true ∧ xs.all flatV = true ∧ Q (.bl (if neg then !inV x xs else inV x xs)) H
theorem op_in_seq : OpR X (compareOp .In) (rIn X.K false) := by
 intro pins s σ H x y v u Q I rx ry h
 obtain ⟨p, xs, rfl, hq, fx, fs, q⟩ := h
 cases ry
 rcases hq with hq | hq
 ·obtain ⟨its, r, pl, hz⟩ := I.list hq
  refine SeqAt.in_listAt (eqU x) pl.isList (fun w hw => mem_eqAt rx fx r fs w (by simpa using hw)) ⟨.bl _, H, I, rfl, ?_⟩
  rw [show its.toArray.any (eqU x) = its.any (eqU x) by simp, any_eqU r fs]
  exact q
 ·obtain ⟨its, r, pl, hz⟩ := I.tuple hq
  refine SeqAt.in_tupleAt (eqU x) pl (fun w hw => mem_eqAt rx fx r fs w (by simpa using hw)) ⟨.bl _, H, I, rfl, ?_⟩
  rw [show its.toArray.any (eqU x) = its.any (eqU x) by simp, any_eqU r fs]
  exact q
theorem op_notIn_seq : OpR X (compareOp .NotIn) (rIn X.K true) := by
 intro pins s σ H x y v u Q I rx ry h
 obtain ⟨p, xs, rfl, hq, fx, fs, q⟩ := h
 cases ry
 rcases hq with hq | hq
 ·obtain ⟨its, r, pl, hz⟩ := I.list hq
  refine SeqAt.notIn_listAt (eqU x) pl.isList (fun w hw => mem_eqAt rx fx r fs w (by simpa using hw)) ⟨.bl _, H, I, rfl, ?_⟩
  rw [show its.toArray.any (eqU x) = its.any (eqU x) by simp, any_eqU r fs]
  exact q
 ·obtain ⟨its, r, pl, hz⟩ := I.tuple hq
  refine SeqAt.notIn_tupleAt (eqU x) pl (fun w hw => mem_eqAt rx fx r fs w (by simpa using hw)) ⟨.bl _, H, I, rfl, ?_⟩
  rw [show its.toArray.any (eqU x) = its.any (eqU x) by simp, any_eqU r fs]
  exact q
theorem call_list_of : CallR X (.type "list") (fun xs H Q => ∃ p ys, xs = [.ref p] ∧ (SqL X.K H p ys ∨ SqT X.K H p ys) ∧ ∀ l, H l = none → Q (.ref l) (upd H l (.lst ys))) := by
 intro pins s σ H xs us Q I r h
 obtain ⟨p, ys, rfl, hq, q⟩ := h
 obtain ⟨u, rfl, rx⟩ := vals1 r
 cases rx
 have fin : ∀ (its : List Value), Vals ys its → ys.length ≤ sizeLine → ∀ (h' : Heap) (c' : Nat), (∀ b o', s.heap.get? b = some o' → h'.get? b = some o') →
  h'.get? s.heap.objs.size = some { cls := .type "list", dict := none, data := .seq its.toArray c', slots := #[] } → EP X pins σ Q (.ref s.heap.objs.size) { s with heap := h' } := fun its r' hz h' c' kp e =>
  ⟨.ref s.heap.objs.size, _, I.laid (t' := s.toks) kp (Nat.le_refl _) (show ObjOk X.prog X.w _ h' _ (.lst ys) from ⟨hz, its, c', r', e⟩), rfl, q _ (I.hok.fresh (Nat.le_refl _))⟩
 rcases hq with hq | hq
 ·obtain ⟨its, r', pl, hz⟩ := I.list hq
  have hlen := r'.length
  obtain ⟨o, ho, hc, n, hd⟩ := pl.isList
  exact call_list_seq p (.inl rfl) ho hc hd (fun h' c' kp e => fin its r' hz h' c' kp e) (by simp only [List.size_toArray] <;> omega)
 ·obtain ⟨its, r', pl, hz⟩ := I.tuple hq
  have hlen := r'.length
  obtain ⟨o, ho, hc, n, hd⟩ := pl
  exact call_list_seq p (.inr rfl) ho hc hd (fun h' c' kp e => fin its r' hz h' c' kp e) (by simp only [List.size_toArray] <;> omega)
def tyV (K : PySem.W.Frag) (T : String) (x : V) (H : Hp) : Prop := match x with
 | .str _ => T = "str"
 | .int _ => T = "int"
 | .ref p => (T = "list" ∧ ∃ xs, SqL K H p xs) ∨ (T = "tuple" ∧ ∃ o, K.lookup p = some o ∧ o.cls = .type "tuple" ∧ o.dict = none) ∨
  (T = "dict" ∧ ((∃ kvs, H p = some (.dK kvs)) ∨ ∃ kvs, H p = some (.dT kvs))) ∨ (T = "set" ∧ ∃ S n, H p = some (.set S n))
 | _ => False
theorem tyV_is {pins : List (Addr × Obj)} {σ : St} {H : Hp} {s : Shared} {T : String} {x : V} {v : Value} (I : Inv X pins σ H s) (r : RelV x v) (ty : tyV X.K T x H) :
 s.TypeIs v T ∧ ∀ a, v = .ref a → ∃ ob, s.heap.get? a = some ob ∧ ob.dict = none := by
 cases x with
 | str z =>
  obtain ⟨t, rfl⟩ := r
  cases (show T = "str" from ty)
  exact ⟨typeIs_str s z t, fun _ e => nomatch e⟩
 | int i =>
  obtain ⟨t, rfl⟩ := r
  cases (show T = "int" from ty)
  exact ⟨typeIs_int s i t, fun _ e => nomatch e⟩
 | ref p =>
  cases r
  rcases ty with ⟨rfl, xs, hq⟩ | ⟨rfl, o, hk, hc, hd⟩ | ⟨rfl, hk⟩ | ⟨rfl, S, n, hk⟩
  ·obtain ⟨its, _, pl, _⟩ := I.list hq
   refine ⟨pl.isList.typeIs, fun a e => ?_⟩
   cases e
   obtain ⟨o, n, e, c, hd, _⟩ := pl
   exact ⟨o, e, hd⟩
  ·refine ⟨⟨o, I.kIn p o hk, hc⟩, fun a e => ?_⟩
   cases e
   exact ⟨o, I.kIn _ o hk, hd⟩
  ·have z : ∃ o, s.heap.get? p = some o ∧ o.ExactDict := by
    rcases hk with ⟨kvs, hk⟩ | ⟨kvs, hk⟩
    ·obtain ⟨_, _, _, _, o, _, _, e, ex, _⟩ := I.hok p _ hk
     exact ⟨o, e, ex⟩
    ·obtain ⟨_, _, _, _, o, _, _, e, ex, _⟩ := I.hok p _ hk
     exact ⟨o, e, ex⟩
   obtain ⟨o, e, ex⟩ := z
   refine ⟨⟨o, e, ex.1⟩, fun a e2 => ?_⟩
   cases e2
   exact ⟨o, e, ex.2.1⟩
  ·obtain ⟨o, _, _, _, e, ex, _⟩ := I.hok p _ hk
   refine ⟨⟨o, e, ex.1⟩, fun a e2 => ?_⟩
   cases e2
   exact ⟨o, e, ex.2.1⟩
 | _ => exact False.elim ty
def tBM0 (K : PySem.W.Frag) (T : String) (r : V → List V → Hp → VK → Prop) (to : TE) : TE := fun σ H Q => to σ H fun x H1 => tyV K T x H1 ∧ r x [] H1 Q
def tBM (K : PySem.W.Frag) (T : String) (r : V → List V → Hp → VK → Prop) (to : TE) (t : TA) : TE := fun σ H Q => to σ H fun x H1 => tyV K T x H1 ∧ t σ H1 fun xs H2 => r x xs H2 Q
variable {o e : Expr} {es : List Expr} {to : TE} {t : TA} {name : Str} {apos cpos : Pos} {T id : String} {r : V → List V → Hp → VK → Prop}
theorem pe_bm0 (pa : PlainAttrs T) (slot : Slot T name id) (hty : typeOf (.builtin id) = pure (.type "method_descriptor")) (hm : MtR X id r) (ho : PE X o to)
 (hbase : attributeBase o name X.env (eval o X.env) = eval o X.env := by rfl) (hline : (apos.endLine == cpos.line) = true := by rfl) : PE X (.Call (.Attribute o name apos) [] [] cpos) (tBM0 X.K T r to) := by
 intro pins s σ H Q I h
 refine wpAny_Call_method0_late hbase hline (thn (ho pins s σ H _ I h) fun v s1 ⟨x, H1, I1, r1, ty, q1⟩ => ?_)
 obtain ⟨h1, h2⟩ := tyV_is I1 r1 ty
 exact ⟨T, id, pa, slot, hty, h1, h2, Calls.callWith_builtin rfl (PySem.evalArgs_none (hm pins s1 σ H1 x [] v [] Q I1 r1 .nil q1))⟩
theorem pe_bm (pa : PlainAttrs T) (slot : Slot T name id) (hty : typeOf (.builtin id) = pure (.type "method_descriptor")) (hm : MtR X id r) (ho : PE X o to) (ha : PA X (e :: es) t)
 (hbase : attributeBase o name X.env (eval o X.env) = eval o X.env := by rfl)
 (hfew : ((backTo cpos (starEach (e :: es) X.env)).all (fun x => !x.1) && (backToKw cpos (keywordEach [] X.env)).all (fun x => x.1.isSome)
   && decide ((e :: es).length + ([] : List Keyword).length + (if ([] : List Keyword).isEmpty then 0 else 1) < 30)) = true := by rfl)
 (hline : (apos.endLine == cpos.line) = true := by rfl) (hs : starEach (e :: es) X.env = (false, eval e X.env) :: starEach es X.env := by rfl) (hplain : (backTo cpos (starEach es X.env)).any (·.1) = false := by rfl) :
 PE X (.Call (.Attribute o name apos) (e :: es) [] cpos) (tBM X.K T r to t) := by
 intro pins s σ H Q I h
 refine wpAny_Call_method_late hbase hfew hline rfl (thn (ho pins s σ H _ I h) fun v s1 ⟨x, H1, I1, r1, ty, q1⟩ => ?_)
 obtain ⟨h1, h2⟩ := tyV_is I1 r1 ty
 refine ⟨T, id, pa, slot, hty, h1, h2, ?_⟩
 have hA := ha cpos pins s1 σ H1 _ I1 q1
 rw [hs] at hA ⊢
 refine Calls.callWith_builtin (by show (false || (backTo cpos (starEach es X.env)).any (·.1)) = false; rw [hplain] <;> rfl) (Calls.evalArgs_plain ?_)
 exact thn hA fun us s2 ⟨vs, H2, I2, r2, q2⟩ => hm pins s2 σ H2 x vs v us Q I2 r1 r2 q2
end
end L2
namespace L2
open PySem PySem.Spec PyProof.Rows
def MtM (X : Cx) (id : String) (r : V → List V → Hp → VK → Prop) : Prop :=
 ∀ (pins : List (Addr × Obj)) (s : Shared) (σ : St) (H : Hp) (x : V) (xs : List V) (v : Value) (us : List Value) (Q : VK), Inv X pins σ H s → RelV x v → Vals xs us → r x xs H Q →
  wpAny (model X.prog X.w) X.A (call (.builtin id) (v :: us)) (EP X pins σ Q) X.xe s
theorem Vals.one : ∀ {x : V} {us : List Value}, Vals [x] us → ∃ u, us = [u] ∧ RelV x u
 | _, _, .cons r .nil => ⟨_, rfl, r⟩
theorem Vals.zero : ∀ {us : List Value}, Vals [] us → us = []
 | _, .nil => rfl
theorem Vals.reverse {xs : List V} {us : List Value} (h : Vals xs us) : Vals xs.reverse us.reverse := by
 induction h with
 | nil => exact .nil
 | cons r t ih => rw [List.reverse_cons, List.reverse_cons]; exact Vals.append ih (.cons r .nil)
section
variable {X : Cx} {pins : List (Addr × Obj)} {σ : St} {H : Hp} {s : Shared} {l b : Addr} {xs ys zs : List V}
theorem Inv.lset {its its' : List Value} {n : Nat} {f : Array Value → Array Value} {t' : Nat} (I : Inv X pins σ H s) (hH : H l = some (.lst xs))
 (e : s.heap.get? l = some { cls := .type "list", data := .seq its.toArray n }) (hf : f its.toArray = its'.toArray) (hv : Vals ys its') (hz : ys.length ≤ sizeLine) :
 Inv X pins σ (upd H l (.lst ys)) { s with heap := s.heap.update l (Obj.mapSeq f), toks := t' } := by
 have q := PySem.IsL.update e f
 rw [hf] at q
 refine I.write (x := l) (e := l) (by rw [hH]; exact trivial) (.inl rfl) (fun b' u hb hu => (Heap.get?_update_other s.heap (Obj.mapSeq f) (Ne.symm hb)).trans hu) ⟨_, q⟩ ?_
 exact ⟨hz, its', _, hv, q⟩
theorem Inv.lnew {its : List Value} {t' : Nat} (I : Inv X pins σ H s) (hv : Vals ys its) (hz : ys.length ≤ sizeLine) :
 Inv X pins σ (upd H s.heap.objs.size (.lst ys)) { s with heap := s.heap.push { cls := .type "list", data := .seq its.toArray }, toks := t' } :=
 I.laid (fun _ _ q => Heap.get?_push_of_some _ q) (Nat.le_refl _) ⟨hz, its, 0, hv, Heap.get?_push_size _ rfl⟩
theorem Inv.fresh (I : Inv X pins σ H s) : H s.heap.objs.size = none := I.hok.fresh (Nat.le_refl _)
theorem Inv.lstM (I : Inv X pins σ H s) (hH : H l = some (.lst xs)) : xs.length ≤ sizeLine ∧ ∃ (its : List Value) (n : Nat), Vals xs its ∧ xs.length = its.length ∧ s.heap.get? l = some { cls := .type "list", data := .seq its.toArray n } := by
 obtain ⟨z, its, n, r, e⟩ := I.hok l _ hH
 exact ⟨z, its, n, r, r.length, e⟩
end
section
variable {X : Cx}
def rAppend : V → List V → Hp → VK → Prop := fun x vs H Q => ∃ l xs y, x = .ref l ∧ vs = [y] ∧ H l = some (.lst xs) ∧ xs.length < sizeLine ∧ Q .non (upd H l (.lst (xs ++ [y])))
theorem mt_append : MtM X "list.append" rAppend := by
 intro pins s σ H x vs v us Q I rx rv h
 obtain ⟨l, xs, y, rfl, rfl, hH, hz, q⟩ := h
 cases rx
 obtain ⟨u, rfl, ru⟩ := rv.one
 obtain ⟨z, its, n, r, hl, e⟩ := I.lstM hH
 refine call_meets F.slot_list_append ⟨_, e, rfl⟩ F.entry_list_append (F.args_list_append_2 _ _) (PySem.list_append l its.toArray n u (by rw [List.size_toArray]; omega)) ⟨e, ?_⟩
 refine ⟨.non, _, I.lset (its' := its ++ [u]) hH e (by simp) (r.append (.cons ru .nil)) ?_, rfl, q⟩
 rw [List.length_append, List.length_singleton]
 omega
def rExtend : V → List V → Hp → VK → Prop := fun x vs H Q => ∃ l b xs zs, x = .ref l ∧ vs = [.ref b] ∧ H l = some (.lst xs) ∧ H b = some (.lst zs) ∧ xs.length + zs.length ≤ sizeLine ∧ Q .non (upd H l (.lst (xs ++ zs)))
def rReverse : V → List V → Hp → VK → Prop := fun x vs H Q => ∃ l xs, x = .ref l ∧ vs = [] ∧ H l = some (.lst xs) ∧ Q .non (upd H l (.lst xs.reverse))
theorem mt_reverse : MtM X "list.reverse" rReverse := by
 intro pins s σ H x vs v us Q I rx rv h
 obtain ⟨l, xs, rfl, rfl, hH, q⟩ := h
 cases rx
 have hus := rv.zero
 subst hus
 obtain ⟨z, its, n, r, hl, e⟩ := I.lstM hH
 refine call_meets F.slot_list_reverse ⟨_, e, rfl⟩ F.entry_list_reverse (F.args_list_reverse_1 _) (AutoSeq1.list_reverse_list_0 l its.toArray n (by rw [List.size_toArray]; omega)) ⟨e, ?_⟩
 refine ⟨.non, _, I.lset (its' := its.reverse) hH e (by simp) r.reverse ?_, rfl, q⟩
 rw [List.length_reverse]
 omega
def rCat : R2 := fun x y H Q => ∃ l b xs zs, x = .ref l ∧ y = .ref b ∧ H l = some (.lst xs) ∧ H b = some (.lst zs) ∧ xs.length + zs.length ≤ sizeLine ∧ ∀ p, H p = none → Q (.ref p) (upd H p (.lst (xs ++ zs)))
theorem op_cat : OpR X (binaryOp .Add) rCat := by
 intro pins s σ H x y v u Q I rx ry h
 obtain ⟨l, b, xs, zs, rfl, rfl, hH, hB, hz, q⟩ := h
 cases rx
 cases ry
 obtain ⟨z, its, n, r, hl, e⟩ := I.lstM hH
 obtain ⟨z2, its2, n2, r2, hl2, e2⟩ := I.lstM hB
 refine PySem.P.add_list e e2 ?_ (by rw [List.size_toArray, List.size_toArray]; omega)
 have ea : its.toArray ++ its2.toArray = (its ++ its2).toArray := by simp
 rw [ea]
 exact ⟨.ref _, _, I.lnew (t' := s.toks) (r.append r2) (by rw [List.length_append]; omega), rfl, q _ I.fresh⟩
end
section
variable {prog : Program} {w : World} {A : Around} {E : Value → Shared → Prop} {s : Shared}
set_option maxRecDepth 100000 in
end
section
variable {X : Cx}
end
end L2
namespace Att
open PySem PySem.W PySem.Calls PyProof.Rows
theorem ints_of_wellAll {P : Params} {h : Heap} : ∀ (ns : List Int) (vs : List Value), WellAll P h vs (ns.map WData.int) → IntsAre vs ns := by
 intro ns
 induction ns with
 | nil =>
  intro vs w
  rw [List.map_nil] at w
  cases w
  exact .nil
 | cons n ns ih =>
  intro vs w
  rw [List.map_cons] at w
  cases w with
  | cons a b =>
   cases a
   exact .cons _ _ (ih _ b)
theorem script_of {l : OpenLaw} {n : Nat} (hn : l.most = some n) {P : Params} {h : Heap} {args : List WData} {vals : List Value}
 (hpre : l.row.toRowW.claim.pre args = true) (hwl : WellAll P h vals args) :
 ∃ a vs ns, vals = [Value.ref a] ∧ args = [WData.list (ns.map WData.int)] ∧ h.get? a = some { cls := .type "list", data := .seq vs.toArray } ∧ IntsAre vs ns ∧ ns.length ≤ n := by
 have hsh : WShape.hasAll [] args [.list .int] = true := (pre_splitW hpre).1
 have hc : l.pre.holds [] { args := args } = true := (pre_splitW hpre).2
 obtain ⟨d, r, rfl, h1, h2⟩ := hasAllW_cons hsh
 obtain rfl := hasAllW_nil h2
 obtain ⟨xs, rfl, h3⟩ := hasW_list h1
 obtain ⟨ns, rfl⟩ := items_int h3
 have hlen : ns.length ≤ n := by
  unfold OpenLaw.pre at hc
  have h4 : (WTm.not (.lt (.lit (.int (n : Int))) (.len (.arg 0)))).holds [] { args := [.list (ns.map .int)] } = true := by
   have h4 := (holds_andW hc).1
   rw [hn] at h4
   exact h4
  have h5 := condW_of h4 (w_not (w_lt w_lit (w_len_list (w_arg rfl))))
  rw [List.length_map] at h5
  refine Nat.le_of_not_lt fun q => ?_
  have q' : (n : Int) < ((ns.length : Nat) : Int) := by omega
  first
   | (rw [decide_eq_true q'] at h5; exact absurd h5 (by decide))
   | (simp at h5; omega)
 cases hwl with
 | cons w1 w2 =>
  cases w2
  cases w1 with
  | list ho hall => exact ⟨_, _, ns, rfl, rfl, ho, ints_of_wellAll ns _ hall, hlen⟩
theorem post_true (l : OpenLaw) (args : List WData) : l.row.toRowW.claim.post args (.bool true) args = true :=
 postW_of (r := l.row.toRowW) (X := (true == true))
  (show WShape.has [] (.bool true) .bool = true by first | rfl | decide | simp [WShape.has, WShape.arms, WShape.armsAll])
  (show (WTm.eq .res (.lit (.bool true))).value [] { args := args, res := some (.bool true), after := args } = some (.bool (true == true)) from w_eq_bool (w_res rfl) w_lit) rfl
section
variable {prog : Program} {w : World} {A : Around} {E : Value → Shared → Prop} {s : Shared} {K : Frag}
end
end Att
namespace L2
open PySem PySem.Spec PyProof.Rows
theorem vals_ints : ∀ {vs : List Value} {ns : List Int}, IntsAre vs ns → Vals (ns.map V.int) vs
 | _, _, .nil => .nil
 | _, _, .cons n t h => .cons ⟨t, rfl⟩ (vals_ints h)
def Only (H : Hp) : Prop := ∀ b, H b = none ∨ ∃ o xs, H b = some (.frz o (.lst xs))
theorem law_call {P : Program} {w : World} {K : PySem.W.Frag} {mg mb : Str → Option Value} {CX : CXT} {k : Nat} {fa a : Addr} {fd : FuncData} {x : Str} {sp : Sp} {s₁ : Shared} {vs : List Value} {ns : List Int}
 (KX : K.In s₁.heap) (hns : s₁.heap.Ns mainGlobals mg) (hb : s₁.heap.Ns builtinsNs mb) (hbb : ∀ x : Str, x ≠ "__name__" → mb x = bootBuiltins x) (hlim : s₁.heap.NoLimit) (hg : s₁.gens = #[])
 (ha : s₁.heap.get? a = some { cls := .type "list", data := .seq vs.toArray }) (hi : IntsAre vs ns) (hl : ns.length ≤ sizeLine) (hr : Room k callerA)
 (F : ∀ base : Heap, K.In base → base.Ns mainGlobals mg → FnOk P w K mg base CX k fa fd [x] sp) (hbind : ∀ (s : Shared) (u : Value), BindsTo s fd ⟨[u], []⟩ [(x, u)])
 (hsp : ∀ H : Hp, Only H → SqL K H a (ns.map V.int) → sp [.ref a] H (fun v _ => v = .bl true) fun _ _ _ => False)
 (hCX : ∀ H e s', CX [] H s₁ (fun _ _ _ => False) e s' → False) :
 codeAny (model P w) callerA (.call (.ref fa) ⟨[.ref a], []⟩) (fun r s' => r = .ok (.ret (.bool true)) ∧ OldK s₁.heap s'.heap ∧ s'.os = s₁.os ∧ AllBare s'.gens) s₁ := by
 have rv := vals_ints hi
 have lenV := hi.length
 have core : ∀ H : Hp, Only H → SqL K H a (ns.map V.int) → HOk P w H s₁.heap → (∀ b, H b ≠ none → b = a) → (H a ≠ none → K.lookup a = none) →
  codeAny (model P w) callerA (.call (.ref fa) ⟨[.ref a], []⟩) (fun r s' => r = .ok (.ret (.bool true)) ∧ OldK s₁.heap s'.heap ∧ s'.os = s₁.os ∧ AllBare s'.gens) s₁ := by
  intro H hO hS hok hA hK
  have base_of : ∀ {b : Addr} {o : Obj}, s₁.heap.get? b = some o → H b = none → (hidT s₁.heap H).get? b = some o := fun e n => hidT_get e n
  have noA : ∀ {b : Addr} {o : Obj} {es : Array DictEntry} {ep : Nat}, s₁.heap.get? b = some o → o.data = .dict es ep → H b = none := fun {b o es ep} e d => by
   cases q : H b with
   | none => rfl
   | some u =>
    have e' : b = a := hA b (by rw [q]; simp)
    subst e'
    rw [ha] at e; cases e
    have d' : Data.seq vs.toArray _ = Data.dict es ep := d
    cases d'
  have nsK : ∀ {b : Addr} {m : Str → Option Value}, s₁.heap.Ns b m → (hidT s₁.heap H).Ns b m := fun {b m} ⟨o, es, ep, e, d, r⟩ => ⟨o, es, ep, base_of e (noA e d), d, r⟩
  have hKb : K.In (hidT s₁.heap H) := fun b o e => base_of (KX b o e) (by
   cases q : H b with
   | none => rfl
   | some u =>
    have e' : b = a := hA b (by rw [q]; simp)
    subst e'
    rw [hK (by rw [q]; simp)] at e; cases e)
  have hM : Mod K mg (hidT s₁.heap H) := ⟨hKb, nsK hns, ⟨mb, nsK hb, hbb⟩, let ⟨mc, h1, h2⟩ := hlim; ⟨mc, nsK h1, h2⟩⟩
  have e0 : Env0 P w K mg (hidT s₁.heap H) callerA [] s₁ H := ⟨rfl, hM, fun b o e => of_hidT e, Nat.le_of_eq (hidT_size _ _), trivial, fun b hb => absurd (show b ∈ ([] : List Addr) from hb) (by simp), hok, .of_eq hg⟩
  refine codeAny_mono ((F _ hKb (nsK hns)).run callerA [] s₁ H ⟨[.ref a], []⟩ [.ref a] [.ref a] _ _ hr e0 (hbind s₁ (.ref a)) (.cons rfl .nil) (hsp H hO hS)) fun r s' h => ?_
  cases r with
  | error e => exact (hCX H e s' h).elim
  | ok fl =>
   cases fl with
   | next => exact False.elim h
   | brk => exact False.elim h
   | cont => exact False.elim h
   | ret u =>
    obtain ⟨v, H', os, bare, un, hok', r', q⟩ := h
    have q' : v = .bl true := q
    subst q'
    obtain rfl : u = Value.bool true := r'
    refine ⟨rfl, OldK.of_keep fun b o e => ?_, os, bare⟩
    cases q : H b with
    | none => exact un.keep b o e q (by intro z; exact absurd (show b ∈ ([] : List Addr) from z) (by simp)) (by simp)
    | some u =>
     rcases hO b with z | ⟨ob, xs, z⟩
     ·rw [q] at z; cases z
     ·have z2 := un.frzs b ob _ z
      obtain ⟨e1, _⟩ := hok b _ z
      obtain ⟨e2, _⟩ := hok' b _ z2
      rw [e] at e1; cases e1
      exact e2
 cases hk : K.lookup a with
 | some o =>
  have e := KX a o hk
  rw [ha] at e
  cases e
  refine core (fun _ => none) (fun _ => .inl rfl) (.inr ⟨_, vs.toArray, _, hk, rfl, rfl, rfl, by rw [List.size_toArray, lenV]; exact hl, by simpa using rv⟩) (fun b u z => by have z' : (none : Option HO) = some u := z; cases z') (fun b z => absurd rfl z) fun z => absurd rfl z
 | none =>
  refine core (fun b => if b = a then some (.frz { cls := .type "list", data := .seq vs.toArray } (.lst (ns.map V.int))) else none) (fun b => ?_) (.inl (.inr ⟨{ cls := .type "list", data := .seq vs.toArray }, if_pos rfl⟩)) (fun b u z => ?_) (fun b z => ?_) fun _ => hk
  ·by_cases hb : b = a
   ·exact .inr ⟨_, _, if_pos hb⟩
   ·exact .inl (if_neg hb)
  ·by_cases hb : b = a
   ·have z' := (if_pos hb).symm.trans z
    cases z'
    subst hb
    exact ⟨ha, by rw [List.length_map]; exact hl, vs, _, rv, ha⟩
   ·have z' := (if_neg hb).symm.trans z
    cases z'
  ·by_cases hb : b = a
   ·exact hb
   ·exact absurd (if_neg hb) z
end L2
namespace L2
open PySem PySem.Spec PyProof.Rows
end L2
namespace L2
open PySem PySem.Spec PyProof.Rows
def inClass (s : Stmt) (j : Nat) : Stmt := match s with
 | .ClassDef _ _ _ body _ _ _ _ _ _ _ => body.getD j (.Pass ⟨0, 0, 0, 0⟩)
 | _ => .Pass ⟨0, 0, 0, 0⟩
def defArgs (s : Stmt) : Arguments := match s with
 | .FunctionDef _ a _ _ _ _ _ _ _ _ => a
 | _ => { posonlyargs := [], args := [], vararg := none, kwonlyargs := [], kw_defaults := [], kwarg := none, defaults := [] }
def defBody (s : Stmt) : List Stmt := match s with
 | .FunctionDef _ _ b _ _ _ _ _ _ _ => b
 | _ => []
def defScope (s : Stmt) : Scope := match s with
 | .FunctionDef _ _ _ _ _ _ sc _ _ _ => sc
 | _ => { kind := .function, names := [], isGenerator := false, isCoroutine := false }
abbrev CX0 : CXT := fun _ _ _ _ _ _ => False
abbrev E0 : XK := fun _ _ _ => False
structure Fun (K : PySem.W.Frag) (x qual : Str) (st : Stmt) (f : Addr) (fd : FuncData) : Prop where
 ex : ∃ (oc : Value) (od : Option Addr) (kV doc pm : Value) (an : Option Addr) (cdv ct : Value) (osl : Array (Option Value)),
  fd = PySem.W.fnOf x qual (defArgs st) (defBody st) (defScope st) .none kV doc pm an cdv ct ∧ K.lookup f = some ⟨oc, od, .func fd, osl⟩ ∧ PySem.W.codeIn K cdv qual = true
 kp : PySem.W.keepIn K (.ref f) = true
section
variable {P : Program} {w : World} {K : PySem.W.Frag} {mg : Str → Option Value} {base : Heap}
theorem Fun.ok {x qual : Str} {st : Stmt} {f : Addr} {fd : FuncData} {N ps : List Str} {k : Nat} {sp : Sp} (F : Fun K x qual st f fd) (S : FnScope N ps (defScope st)) (len : ∀ vs H Q E, sp vs H Q E → vs.length = ps.length)
 (hbody : ∀ (cdv : Value) (A : Around) (outer : List Env) (s : Shared) (H : Hp) (vs : List V) (Q : VK) (E : XK), Room k (A.deeper (envOfC qual (defScope st) s.heap.objs.size f cdv)) → sp vs H Q E →
   ∃ t, PSs (cxOf CX0 P w K mg base N qual (defScope st) f cdv A outer s H E).nox (defBody st) t ∧ t { nx := fun _ H' => Q .non H', rt := Q } (start N vs) H) : FnOk P w K mg base CX0 (k + 1) f fd ps sp := by
 obtain ⟨oc, od, kV, doc, pm, an, cdv, ct, osl, rfl, lk, hcd⟩ := F.ex
 refine fn_of lk hcd S len fun A outer s H vs Q E hr hsp => ?_
 obtain ⟨t, h, q⟩ := hbody cdv A outer s H vs Q E hr hsp
 exact ⟨t, h.nox, q⟩
theorem Fun.binds {x qual : Str} {st : Stmt} {f : Addr} {fd : FuncData} {ps : List Str} (F : Fun K x qual st f fd)
 (h : ∀ (kV doc pm : Value) (an : Option Addr) (cdv ct : Value) (us : List Value), us.length = ps.length → bindArgs (PySem.W.fnOf x qual (defArgs st) (defBody st) (defScope st) .none kV doc pm an cdv ct) ⟨us, []⟩ = pure (ps.zip us)) : Binds K fd ps [] := by
 obtain ⟨oc, od, kV, doc, pm, an, cdv, ct, osl, rfl, lk, hcd⟩ := F.ex
 exact .all (h kV doc pm an cdv ct)
theorem fun_mk {x qual : Str} {st : Stmt} {f : Addr} {oc : Value} {od an : Option Addr} {osl : Array (Option Value)} {kV doc pm cdv ct : Value} (l : K.lookup f = some ⟨oc, od, .func (PySem.W.fnOf x qual (defArgs st) (defBody st) (defScope st) .none kV doc pm an cdv ct), osl⟩)
 (c : PySem.W.codeIn K cdv qual = true) (k : PySem.W.keepIn K (.ref f) = true) : Fun K x qual st f (PySem.W.fnOf x qual (defArgs st) (defBody st) (defScope st) .none kV doc pm an cdv ct) := ⟨⟨oc, od, kV, doc, pm, an, cdv, ct, osl, rfl, l, c⟩, k⟩
end
theorem hu_of {A : Around} {k : Nat} (hr : Room k A) : A.units + 1 < cLine := Nat.lt_of_le_of_lt (Nat.add_le_add_left (by decide : 1 ≤ 64) _) hr.units
section
variable {X : Cx}
theorem pv (i : Nat) {x : Str} {pos : Pos} (hN : X.N[i]? = some x := by rfl) (hv : Vis X.env.scope x := by first | exact Or.inl rfl | exact Or.inr (Or.inl rfl) | exact Or.inr (Or.inr rfl)) (hd : (x == ("__debug__" : Str)) = false := by decide)
 (hcd : (x == ("__classdict__" : Str)) = false := by decide) : PE X (.Name x pos) (tVar i) := pe_var hN hv hd hcd
end
def Same (H H' : Hp) : Prop := ∀ b o, H b = some o → H' b = some o
theorem Same.refl (H : Hp) : Same H H := fun _ _ h => h
theorem Same.trans {H H1 H2 : Hp} (a : Same H H1) (b : Same H1 H2) : Same H H2 := fun c o h => b c o (a c o h)
theorem Same.free {H H' : Hp} (e : Same H H') {l : Addr} (h : H' l = Option.none) : H l = Option.none := by
 cases q : H l with
 | none => rfl
 | some o =>
  rw [e l o q] at h
  cases h
theorem Same.seq {K : PySem.W.Frag} {H H' : Hp} {a : Addr} {xs : List V} (e : Same H H') (h : SqL K H a xs) : SqL K H' a xs := by
 rcases h with (h | ⟨o, h⟩) | h
 ·exact .inl (.inl (e _ _ h))
 ·exact .inl (.inr ⟨o, e _ _ h⟩)
 ·exact .inr h
end L2
namespace L2
open PySem PySem.Spec PyProof.Rows
section
variable {κ : Type} [DecidableEq κ]
def valV (kvs : List (κ × V)) (k : κ) : Option V := (kvs.find? fun kv => decide (kv.1 = k)).map (·.2)
def putK (kvs : List (κ × V)) (k : κ) (v : V) : List (κ × V) :=
 if (kvs.any fun kv => decide (kv.1 = k)) = true then kvs.map (fun kv => if kv.1 = k then (kv.1, v) else kv) else kvs ++ [(k, v)]
def dropK (kvs : List (κ × V)) (k : κ) : List (κ × V) := kvs.filter fun kv => decide (kv.1 ≠ k)
theorem valV_pos {p : κ × V} {r : List (κ × V)} {k : κ} (e : p.1 = k) : valV (p :: r) k = some p.2 := by simp [valV, List.find?_cons, e]
theorem valV_neg {p : κ × V} {r : List (κ × V)} {k : κ} (e : ¬ p.1 = k) : valV (p :: r) k = valV r k := by simp [valV, List.find?_cons, e]
theorem valV_any (k : κ) : ∀ kvs : List (κ × V), (kvs.any fun kv => decide (kv.1 = k)) = (valV kvs k).isSome
 | [] => rfl
 | p :: r => by
  rw [List.any_cons]
  by_cases e : p.1 = k
  ·simp only [valV_pos e, decide_eq_true e, Bool.true_or, Option.isSome_some]
  ·rw [valV_neg e, decide_eq_false e, Bool.false_or]; exact valV_any k r
theorem valV_map (k j : κ) (y : V) : ∀ kvs : List (κ × V), valV (kvs.map fun kv => if kv.1 = k then (kv.1, y) else kv) j = (valV kvs j).map fun x => if j = k then y else x
 | [] => rfl
 | p :: r => by
  have ih := valV_map k j y r
  rw [List.map_cons]
  by_cases h : p.1 = k
  ·rw [if_pos h]
   by_cases e : p.1 = j
   ·rw [valV_pos (p := (p.1, y)) e, valV_pos e, Option.map_some, if_pos (e.symm.trans h)]
   ·rw [valV_neg (p := (p.1, y)) e, valV_neg e, ih]
  ·rw [if_neg h]
   by_cases e : p.1 = j
   ·rw [valV_pos (p := p) e, valV_pos e, Option.map_some, if_neg (fun z => h (e.trans z))]
   ·rw [valV_neg (p := p) e, valV_neg e, ih]
theorem valV_snoc (k j : κ) (y : V) : ∀ kvs : List (κ × V), valV kvs k = none → valV (kvs ++ [(k, y)]) j = if j = k then some y else valV kvs j
 | [], _ => by
  by_cases e : k = j
  ·rw [if_pos e.symm]; exact valV_pos (p := (k, y)) e
  ·rw [if_neg (fun z => e z.symm)]; exact valV_neg (p := (k, y)) e
 | p :: r, hn => by
  rw [List.cons_append]
  have hk : ¬ p.1 = k := fun z => by rw [valV_pos z] at hn; cases hn
  rw [valV_neg hk] at hn
  have ih := valV_snoc k j y r hn
  by_cases e : p.1 = j
  ·rw [valV_pos e, valV_pos e, if_neg (fun z => hk (e.trans z))]
  ·rw [valV_neg e, valV_neg e, ih]
theorem valV_put (kvs : List (κ × V)) (k j : κ) (y : V) : valV (putK kvs k y) j = if j = k then some y else valV kvs j := by
 unfold putK
 by_cases a : (kvs.any fun kv => decide (kv.1 = k)) = true
 ·rw [if_pos a, valV_map]
  rw [valV_any] at a
  by_cases e : j = k
  ·obtain ⟨x, hx⟩ := Option.isSome_iff_exists.mp a
   rw [if_pos e, e, hx, Option.map_some, if_pos rfl]
  ·rw [if_neg e]
   cases valV kvs j with
   | none => rfl
   | some x => rw [Option.map_some, if_neg e]
 ·rw [if_neg a]
  refine valV_snoc k j y kvs ?_
  rw [valV_any] at a
  cases q : valV kvs k with
  | none => rfl
  | some x => rw [q] at a; exact (a rfl).elim
theorem length_putK (kvs : List (κ × V)) (k : κ) (v : V) : (putK kvs k v).length ≤ kvs.length + 1 := by
 unfold putK
 split
 ·rw [List.length_map]; omega
 ·rw [List.length_append, List.length_cons, List.length_nil]; omega
theorem RelO.isSome_eq {o : Option V} {u : Option Value} (r : RelO o u) : o.isSome = u.isSome := by
 cases o with
 | none => cases u with
  | none => rfl
  | some _ => exact (show False from r).elim
 | some _ => cases u with
  | none => exact (show False from r).elim
  | some _ => rfl
theorem RelO.getD {o : Option V} {u : Option Value} {d : V} {d' : Value} (r : RelO o u) (rd : RelV d d') : RelV (o.getD d) (u.getD d') := by
 cases o with
 | none => cases u with
  | none => exact rd
  | some _ => exact (show False from r).elim
 | some _ => cases u with
  | none => exact (show False from r).elim
  | some _ => exact r
theorem KV.val {kvs : List (κ × V)} {vs : List (κ × Value)} (r : KV kvs vs) (k : κ) : RelO (valV kvs k) (valueAt vs k) := by
 unfold KV at r
 induction r with
 | nil => exact True.intro
 | @cons p q ps qs h t ih =>
  obtain ⟨h1, h2⟩ := h
  by_cases e : p.1 = k
  ·have e' : q.1 = k := h1.symm.trans e
   have b : valueAt (q :: qs) k = some q.2 := by simp [valueAt, List.find?_cons, e']
   rw [valV_pos e, b]; exact h2
  ·have e' : ¬ q.1 = k := fun z => e (h1.trans z)
   have b : valueAt (q :: qs) k = valueAt qs k := by simp [valueAt, List.find?_cons, e']
   rw [valV_neg e, b]; exact ih
theorem KV.any {kvs : List (κ × V)} {vs : List (κ × Value)} (r : KV kvs vs) (k : κ) : (kvs.any fun kv => decide (kv.1 = k)) = vs.any fun kv => decide (kv.1 = k) := by
 unfold KV at r
 induction r with
 | nil => rfl
 | cons h t ih => rw [List.any_cons, List.any_cons, ih, h.1]
theorem KV.repl {kvs : List (κ × V)} {vs : List (κ × Value)} (r : KV kvs vs) (k : κ) {y : V} {u : Value} (ry : RelV y u) :
 KV (kvs.map fun kv => if kv.1 = k then (kv.1, y) else kv) (vs.map fun kv => if kv.1 = k then (kv.1, u) else kv) := by
 unfold KV at r ⊢
 induction r with
 | nil => exact .nil
 | @cons p q ps qs h t ih =>
  rw [List.map_cons, List.map_cons]
  refine .cons ?_ ih
  obtain ⟨h1, h2⟩ := h
  by_cases e : p.1 = k
  ·rw [if_pos e, if_pos (h1.symm.trans e)]; exact ⟨h1, ry⟩
  ·rw [if_neg e, if_neg (fun z => e (h1.trans z))]; exact ⟨h1, h2⟩
theorem KV.put {kvs : List (κ × V)} {vs : List (κ × Value)} (r : KV kvs vs) (k : κ) {y : V} {u : Value} (ry : RelV y u) : KV (putK kvs k y) (stored vs k u) := by
 unfold putK stored
 rw [r.any k]
 by_cases e : (vs.any fun kv => decide (kv.1 = k)) = true
 ·rw [if_pos e, if_pos e]; exact r.repl k ry
 ·rw [if_neg e, if_neg e]; exact Paired.snoc r ⟨rfl, ry⟩
theorem KV.drop {kvs : List (κ × V)} {vs : List (κ × Value)} (r : KV kvs vs) (k : κ) : KV (dropK kvs k) (without vs k) := by
 unfold KV at r ⊢
 unfold dropK without
 induction r with
 | nil => exact .nil
 | @cons p q ps qs h t ih =>
  obtain ⟨h1, h2⟩ := h
  rw [List.filter_cons, List.filter_cons]
  by_cases e : p.1 = k
  ·have a : ¬ decide (p.1 ≠ k) = true := by simp [e]
   have b : ¬ decide (q.1 ≠ k) = true := by simp [h1.symm.trans e]
   rw [if_neg a, if_neg b]; exact ih
  ·have e' : ¬ q.1 = k := fun z => e (h1.trans z)
   have a : decide (p.1 ≠ k) = true := by simp [e]
   have b : decide (q.1 ≠ k) = true := by simp [e']
   rw [if_pos a, if_pos b]; exact .cons ⟨h1, h2⟩ ih
theorem KV.length {kvs : List (κ × V)} {vs : List (κ × Value)} (r : KV kvs vs) : kvs.length = vs.length := Paired.length r
theorem dropK_le (kvs : List (κ × V)) (k : κ) : (dropK kvs k).length ≤ kvs.length := List.length_filter_le _ _
end
theorem kV_is {P : Program} {w : World} {k : Key} {u : Value} (r : RelV (kV k) u) : (mixKind P w).is k u = true := by
 cases k with
 | inl i => obtain ⟨t, e⟩ := (show ∃ t, u = Value.int i t from r); subst e; exact mixKind_int P w i t
 | inr x => obtain ⟨t, e⟩ := (show ∃ t, u = Value.str x t from r); subst e; exact mixKind_str P w x t
theorem items_are {P : Program} {w : World} : ∀ {ks : List Key} {us : List Value}, Vals (ks.map kV) us → ItemsAre (mixKind P w) ks us
 | [], _, r => by rw [List.map_nil] at r; cases r; exact .nil
 | k :: ks, _, r => by
  rw [List.map_cons] at r
  cases r with
  | cons h t => exact .cons (kV_is h) (items_are t)
abbrev KT (H : Hp) : List (List Key × V) → List (List Key × Addr × Value) → Prop := Paired fun p q => p.1 = q.1 ∧ H q.2.1 = some (.tup (p.1.map kV)) ∧ RelV p.2 q.2.2
theorem KT.val {H : Hp} {kvs : List (List Key × V)} {xs : List (List Key × Addr × Value)} (r : KT H kvs xs) (k : List Key) : RelO (valV kvs k) ((atKey xs k).map (·.2)) := by
 induction r with
 | nil => exact True.intro
 | @cons p q ps qs h t ih =>
  obtain ⟨h1, _, h2⟩ := h
  by_cases e : p.1 = k
  ·have e' : q.1 = k := h1.symm.trans e
   have b : atKey (q :: qs) k = some q.2 := by simp [atKey, List.find?_cons, e']
   rw [valV_pos e, b]; exact h2
  ·have e' : ¬ q.1 = k := fun z => e (h1.trans z)
   have b : atKey (q :: qs) k = atKey qs k := by simp [atKey, List.find?_cons, e']
   rw [valV_neg e, b]; exact ih
theorem KT.repl {H : Hp} {kvs : List (List Key × V)} {xs : List (List Key × Addr × Value)} (r : KT H kvs xs) (k : List Key) {y : V} {u : Value} (ry : RelV y u) :
 KT H (kvs.map fun kv => if kv.1 = k then (kv.1, y) else kv) (xs.map (putAt k u)) := by
 induction r with
 | nil => exact .nil
 | @cons p q ps qs h t ih =>
  rw [List.map_cons, List.map_cons]
  refine .cons ?_ ih
  obtain ⟨h1, h2, h3⟩ := h
  unfold putAt
  by_cases e : p.1 = k
  ·rw [if_pos e, if_pos (h1.symm.trans e)]; exact ⟨h1, h2, ry⟩
  ·rw [if_neg e, if_neg (fun z => e (h1.trans z))]; exact ⟨h1, h2, h3⟩
theorem KT.put {H : Hp} {kvs : List (List Key × V)} {xs : List (List Key × Addr × Value)} (r : KT H kvs xs) (k : List Key) {b : Addr} {y : V} {u : Value} (hb : H b = some (.tup (k.map kV))) (ry : RelV y u) :
 KT H (putK kvs k y) (storedH xs k b u) := by
 have e : (kvs.any fun kv => decide (kv.1 = k)) = (atKey xs k).isSome := by
  rw [valV_any, (r.val k).isSome_eq, Option.isSome_map]
 unfold putK storedH
 rw [e]
 by_cases q : (atKey xs k).isSome = true
 ·rw [if_pos q, if_pos q]; exact r.repl k ry
 ·rw [if_neg q, if_neg q]; exact Paired.snoc r ⟨rfl, hb, ry⟩
theorem KT.keeps {H H' : Hp} {kvs : List (List Key × V)} {xs : List (List Key × Addr × Value)} (r : KT H kvs xs) (ht : ∀ b ys, H b = some (.tup ys) → H' b = some (.tup ys)) : KT H' kvs xs :=
 Paired.mapP r fun _ _ z => ⟨z.1, ht _ _ z.2.1, z.2.2⟩
section
variable {P : Program} {w : World} {H : Hp} {h : Heap} {a : Addr}
theorem rd_of {u : HO} (ok : HOk P w H h) (e : Rd H a u) : ObjOk P w H h a u := e.ok ok
theorem dk_rd {kvs : List (Key × V)} (ok : HOk P w H h) (e : Rd H a (.dK kvs)) : kvs.length ≤ sizeLine ∧ (a == sysModules) = false ∧ ∃ vs, KV kvs vs ∧ h.DictOf (mixKind P w) a vs :=
 show ObjOk P w H h a (.dK kvs) from rd_of ok e
theorem dk_of {kvs : List (Key × V)} (ok : HOk P w H h) (e : H a = some (.dK kvs)) : kvs.length ≤ sizeLine ∧ (a == sysModules) = false ∧ ∃ vs, KV kvs vs ∧ h.DictOf (mixKind P w) a vs := dk_rd ok (.inl e)
theorem key_of {ks : List Key} (ok : HOk P w H h) (e : H a = some (.tup (ks.map kV))) : (tupleKind (mixKind P w)).is h ks a := by
 obtain ⟨_, its, r, o, h1, h2, n, h3⟩ := (show ObjOk P w H h a (.tup (ks.map kV)) from ok a _ e)
 exact ⟨o, its.toArray, n, h1, h2, h3, by simpa using items_are r⟩
theorem dt_rd {kvs : List (List Key × V)} (ok : HOk P w H h) (e : Rd H a (.dT kvs)) : kvs.length ≤ sizeLine ∧ (a == sysModules) = false ∧
 ∃ xs, KT H kvs xs ∧ h.DictOfH (tupleKind (mixKind P w)) a xs := by
 obtain ⟨z, y, xs, r, o, es, ep, h1, h2, h3, h4, h5⟩ := (show ObjOk P w H h a (.dT kvs) from rd_of ok e)
 refine ⟨z, y, xs, r, o, es, ep, h1, h2, h3, h4, fun x hx => ?_, h5⟩
 have all : ∀ {l : List (List Key × V)} {m : List (List Key × Addr × Value)}, KT H l m → ∀ x ∈ m, (tupleKind (mixKind P w)).is h x.1 x.2.1 := by
  intro l m q
  induction q with
  | nil => intro x hx; exact nomatch hx
  | @cons p q ps qs hq t ih =>
   intro x hx
   rcases List.mem_cons.mp hx with e | hx
   ·subst e
    exact key_of ok (by rw [← hq.1]; exact hq.2.1)
   ·exact ih x hx
 exact all r x hx
theorem dt_of {kvs : List (List Key × V)} (ok : HOk P w H h) (e : H a = some (.dT kvs)) : kvs.length ≤ sizeLine ∧ (a == sysModules) = false ∧
 ∃ xs, KT H kvs xs ∧ h.DictOfH (tupleKind (mixKind P w)) a xs := dt_rd ok (.inl e)
end
def DGet (H : Hp) (a : Addr) (y : V) (r : Option V) : Prop :=
 (∃ kvs k, Rd H a (.dK kvs) ∧ y = kV k ∧ r = valV kvs k) ∨ ∃ kvs k b, Rd H a (.dT kvs) ∧ y = .ref b ∧ H b = some (.tup (k.map kV)) ∧ r = valV kvs k
def DPut (H : Hp) (a : Addr) (y v : V) (H' : Hp) : Prop :=
 (∃ kvs k, H a = some (.dK kvs) ∧ y = kV k ∧ kvs.length < sizeLine ∧ H' = upd H a (.dK (putK kvs k v))) ∨
 ∃ kvs k b, H a = some (.dT kvs) ∧ y = .ref b ∧ H b = some (.tup (k.map kV)) ∧ kvs.length < sizeLine ∧ H' = upd H a (.dT (putK kvs k v))
theorem DGet.k {H : Hp} {a : Addr} {kvs : List (Key × V)} {k : Key} (e : H a = some (.dK kvs)) : DGet H a (kV k) (valV kvs k) := .inl ⟨kvs, k, .inl e, rfl, rfl⟩
theorem DGet.t {H : Hp} {a b : Addr} {kvs : List (List Key × V)} {k : List Key} (e : H a = some (.dT kvs)) (eb : H b = some (.tup (k.map kV))) : DGet H a (.ref b) (valV kvs k) := .inr ⟨kvs, k, b, .inl e, rfl, eb, rfl⟩
theorem DPut.k {H : Hp} {a : Addr} {kvs : List (Key × V)} {k : Key} {v : V} (e : H a = some (.dK kvs)) (hl : kvs.length < sizeLine) : DPut H a (kV k) v (upd H a (.dK (putK kvs k v))) := .inl ⟨kvs, k, e, rfl, hl, rfl⟩
theorem DPut.t {H : Hp} {a b : Addr} {kvs : List (List Key × V)} {k : List Key} {v : V} (e : H a = some (.dT kvs)) (eb : H b = some (.tup (k.map kV))) (hl : kvs.length < sizeLine) :
 DPut H a (.ref b) v (upd H a (.dT (putK kvs k v))) := .inr ⟨kvs, k, b, e, rfl, eb, hl, rfl⟩
section
variable {X : Cx} {pins : List (Addr × Obj)} {σ : St} {H : Hp} {s : Shared} {a : Addr} {y v : V} {u r : Value} {o : Option V} {A : Around} {E : Value → Shared → Prop}
theorem d_getItem {Q : Value → Shared → Prop} (hu : A.units + 1 < cLine) (I : Inv X pins σ H s) (g : DGet H a y (some v)) (ry : RelV y u) (h : ∀ w' s', Inv X pins σ H s' → RelV v w' → Q w' s') :
 wpAny (model X.prog X.w) A (getItem (.ref a) u) Q E s := by
 rcases g with ⟨kvs, k, e, ey, l⟩ | ⟨kvs, k, b, e, ey, eb, l⟩
 ·subst ey
  obtain ⟨z, hd, vs, rel, dd⟩ := dk_rd I.hok e
  obtain ⟨w', hw, rw'⟩ := RelO.some_of (v := v) (o := valueAt vs k) (by rw [l]; exact rel.val k)
  exact wpAny_getItem_of (kV_is ry) dd.mapOf hw (h w' _ (I.tok _) rw')
 ·subst ey
  cases (show u = Value.ref b from ry)
  obtain ⟨z, hd, xs, rel, dd⟩ := dt_rd I.hok e
  obtain ⟨w', hw, rw'⟩ := RelO.some_of (v := v) (o := (atKey xs k).map (·.2)) (by rw [l]; exact rel.val k)
  obtain ⟨p, hp, hp2⟩ := Option.map_eq_some_iff.mp hw
  refine wpAny_getItem_heap (tupleKind_room_in1 hu) (key_of I.hok eb) dd hp ?_
  rw [hp2]
  exact h w' _ (I.tok _) rw'
theorem d_in {Q : Value → Shared → Prop} (hu : A.units + 1 < cLine) (I : Inv X pins σ H s) (g : DGet H a y o) (ry : RelV y u) (h : ∀ s', Inv X pins σ H s' → Q (.bool o.isSome) s') :
 wpAny (model X.prog X.w) A (compareOp .In u (.ref a)) Q E s := by
 rcases g with ⟨kvs, k, e, ey, l⟩ | ⟨kvs, k, b, e, ey, eb, l⟩
 ·subst ey
  obtain ⟨z, hd, vs, rel, dd⟩ := dk_rd I.hok e
  refine wpAny_in_of (kV_is ry) hd dd.mapOf ?_
  rw [← (rel.val k).isSome_eq, ← l]
  exact h _ (I.tok _)
 ·subst ey
  cases (show u = Value.ref b from ry)
  obtain ⟨z, hd, xs, rel, dd⟩ := dt_rd I.hok e
  refine wpAny_in_heap (tupleKind_room_in1 hu) (key_of I.hok eb) hd dd ?_
  have q := (rel.val k).isSome_eq
  rw [Option.isSome_map] at q
  rw [← q, ← l]
  exact h _ (I.tok _)
theorem d_notIn {Q : Value → Shared → Prop} (hu : A.units + 1 < cLine) (I : Inv X pins σ H s) (g : DGet H a y o) (ry : RelV y u) (h : ∀ s', Inv X pins σ H s' → Q (.bool (!o.isSome)) s') :
 wpAny (model X.prog X.w) A (compareOp .NotIn u (.ref a)) Q E s := by
 rcases g with ⟨kvs, k, e, ey, l⟩ | ⟨kvs, k, b, e, ey, eb, l⟩
 ·subst ey
  obtain ⟨z, hd, vs, rel, dd⟩ := dk_rd I.hok e
  refine wpAny_notIn_of (kV_is ry) hd dd.mapOf ?_
  rw [← (rel.val k).isSome_eq, ← l]
  exact h _ (I.tok _)
 ·subst ey
  cases (show u = Value.ref b from ry)
  obtain ⟨z, hd, xs, rel, dd⟩ := dt_rd I.hok e
  refine wpAny_notIn_heap (tupleKind_room_in1 hu) (key_of I.hok eb) hd dd ?_
  have q := (rel.val k).isSome_eq
  rw [Option.isSome_map] at q
  rw [← q, ← l]
  exact h _ (I.tok _)
theorem d_write {h' : Heap} {t' : Nat} {ob : HO} (I : Inv X pins σ H s) (mu : Mut (H a)) (hs : Heap.SameBut a s.heap h') (he : ∃ q, h'.get? a = some q) (new : ObjOk X.prog X.w (upd H a ob) h' a ob) :
 Inv X pins σ (upd H a ob) { s with heap := h', toks := t' } :=
 I.write (x := a) (e := a) mu (.inl rfl) (fun b q hb z => (hs.2 b hb).trans z) he new
theorem dk_new {P : Program} {w : World} {H' : Hp} {h' : Heap} {kvs : List (Key × V)} {vs : List (Key × Value)} (z : kvs.length ≤ sizeLine) (hd : (a == sysModules) = false) (rel : KV kvs vs) (dd : h'.DictOf (mixKind P w) a vs) :
 ObjOk P w H' h' a (.dK kvs) := ⟨z, hd, vs, rel, dd⟩
theorem d_setItem {H' : Hp} {Q : Unit → Shared → Prop} (hu : A.units + 1 < cLine) (I : Inv X pins σ H s) (g : DPut H a y v H') (ry : RelV y u) (rv : RelV v r) (h : ∀ s', Inv X pins σ H' s' → Q () s') :
 wpAny (model X.prog X.w) A (setItem (.ref a) u r) Q E s := by
 rcases g with ⟨kvs, k, e, ey, l, eH⟩ | ⟨kvs, k, b, e, ey, eb, l, eH⟩
 ·subst ey eH
  obtain ⟨z, hd, vs, rel, dd⟩ := dk_of I.hok e
  have hz : vs.length ≤ sizeLine := by rw [← rel.length]; exact z
  have hl : (putK kvs k v).length ≤ sizeLine := by have := length_putK kvs k v; omega
  refine wpAny_setItem_pairs (hsz := hz) (kV_is ry) dd fun h' dd' hs => h _ ?_
  have he : ∃ q, h'.get? a = some q := let ⟨q, _, _, hq, _⟩ := dd'; ⟨q, hq⟩
  exact d_write I (by rw [e]; exact True.intro) hs he (dk_new hl hd (rel.put k rv) dd')
 ·subst ey eH
  cases (show u = Value.ref b from ry)
  obtain ⟨z, hd, xs, rel, dd⟩ := dt_of I.hok e
  have hz : xs.length ≤ sizeLine := by rw [← Paired.length rel]; exact z
  have hl : (putK kvs k v).length ≤ sizeLine := by have := length_putK kvs k v; omega
  refine wpAny_setItem_heap (hsz := hz) (tupleKind_room_in1 hu) (key_of I.hok eb) dd fun h' dd' hs => h _ ?_
  obtain ⟨q, es, ep, hq, h2, h3, h4, _, h5⟩ := dd'
  refine d_write I (by rw [e]; exact True.intro) hs ⟨q, hq⟩ ⟨hl, hd, _, (rel.put k eb rv).keeps fun c ys ec => ?_, q, es, ep, hq, h2, h3, h4, h5⟩
  rw [upd_ne (ne_of ec e (fun z => nomatch z))]
  exact ec
end
section
variable {X : Cx} {pins : List (Addr × Obj)} {σ : St} {H : Hp} {s : Shared} {a : Addr} {kvs : List (Key × V)} {k : Key} {u : Value} {A : Around} {E : Value → Shared → Prop}
end
def NoSl (i : Expr) : Prop := ∀ ov iv, subscripted i false ov iv = operate [ov, iv] (getItem ov iv)
theorem subD_of {prog : Program} {w : World} {A : Around} {E : Value → Shared → Prop} {s : Shared} {env : Env} {value slice : Expr} {pos : Pos} {T id : String} {Q : Value → Shared → Prop}
 (hl : typeLookup (.type T) "__getitem__" = pure (some (.builtin id))) (hs : NoSl slice)
 (h : wpAny (model prog w) A (eval value env) (fun o s₁ => wpAny (model prog w) A (eval slice env) (fun i s₂ => s₂.TypeIs o T ∧ wpAny (model prog w) A (getItem o i) Q E s₂) E s₁) E s) :
 wpAny (model prog w) A (eval (.Subscript value slice pos) env) Q E s := by
 refine Subscript_ (wpAny_mono h (fun o s₁ h₁ => wpAny_mono h₁ (fun i s₂ h₂ => ?_) fun _ _ x => x) fun _ _ x => x)
 obtain ⟨hT, h₂⟩ := h₂
 unfold subscriptTail
 refine wpAny_bind ?_
 rw [getitemInPython_of_ne hT.not_modules]
 refine wpAny_bind (wpAny_specialOf hT hl ?_)
 have fin : wpAny (model prog w) A (subscripted slice false o i) (fun r s₃ => wpAny (model prog w) A (letTemporaryGo value o r >>= fun _ => pure r) Q E s₃) E s₂ := by
  rw [hs o i]
  exact wpAny_operating (wpAny_mono h₂ (fun r s₃ h₃ => wpAny_bind (wpAny_letTemporaryGo (wpAny_pure h₃))) fun _ _ x => x)
 first
  | exact wpAny_pure (wpAny_bind fin)
  | exact wpAny_bind (wpAny_pure (wpAny_bind fin))
  | exact wpAny_bind fin
theorem dict_typeIs {X : Cx} {pins : List (Addr × Obj)} {σ : St} {H : Hp} {s : Shared} {a : Addr} {y : V} {o : Option V} (I : Inv X pins σ H s) (g : DGet H a y o) : s.TypeIs (.ref a) "dict" := by
 rcases g with ⟨kvs, k, e, _, _⟩ | ⟨kvs, k, b, e, _, _, _⟩
 ·obtain ⟨_, _, vs, _, dd⟩ := dk_rd I.hok e
  exact dd.typeIs
 ·obtain ⟨_, _, xs, _, dd⟩ := dt_rd I.hok e
  exact dd.typeIs
def tDGet (td ty : TE) : TE := fun σ H Q => td σ H fun x H1 => ty σ H1 fun y H2 => ∃ a v, x = .ref a ∧ DGet H2 a y (some v) ∧ Q v H2
def tDIn (ty td : TE) : TE := fun σ H Q => ty σ H fun y H1 => td σ H1 fun x H2 => ∃ a o, x = .ref a ∧ DGet H2 a y o ∧ Q (.bl o.isSome) H2
def tDNotIn (ty td : TE) : TE := fun σ H Q => ty σ H fun y H1 => td σ H1 fun x H2 => ∃ a o, x = .ref a ∧ DGet H2 a y o ∧ Q (.bl (!o.isSome)) H2
def sDPut (td ty tv : TE) : TS := fun D σ H => tv σ H fun v H1 => td σ H1 fun x H2 => ty σ H2 fun y H3 => ∃ a H4, x = .ref a ∧ DPut H3 a y v H4 ∧ D.nx σ H4
section
variable {X : Cx} {o i e value : Expr} {pos pos' tpos : Pos} {td ty tv : TE}
theorem pe_dget (hu : X.A.units + 1 < cLine) (ho : PE X o td) (hi : PE X i ty) (hs : NoSl i) : PE X (.Subscript o i pos) (tDGet td ty) := by
 intro pins s σ H Q I h
 refine subD_of PySem.F.slot_dict_getitem.lookup hs (thn (ho pins s σ H _ I h) fun u s1 ⟨x, H1, I1, rx, q1⟩ => thn (hi pins s1 σ H1 _ I1 q1) fun iv s2 ⟨y, H2, I2, ry, a, v, ex, g, q2⟩ => ?_)
 subst ex
 obtain rfl : u = Value.ref a := rx
 exact ⟨dict_typeIs I2 g, d_getItem hu I2 g ry fun w' s3 I3 rw' => ⟨v, H2, I3, rw', q2⟩⟩
theorem pc_din (hu : X.A.units + 1 < cLine) (hi : PE X i ty) (ho : PE X o td) : PC X .In i o (tDIn ty td) := by
 intro pins s σ H Q I h
 refine thn (hi pins s σ H _ I h) fun iv s1 ⟨y, H1, I1, ry, q1⟩ => thn (ho pins s1 σ H1 _ I1 q1) fun u s2 ⟨x, H2, I2, rx, a, ov, ex, g, q2⟩ => ?_
 subst ex
 obtain rfl : u = Value.ref a := rx
 exact d_in hu I2 g ry fun s3 I3 => ⟨.bl ov.isSome, H2, I3, rfl, q2⟩
theorem pc_dnotin (hu : X.A.units + 1 < cLine) (hi : PE X i ty) (ho : PE X o td) : PC X .NotIn i o (tDNotIn ty td) := by
 intro pins s σ H Q I h
 refine thn (hi pins s σ H _ I h) fun iv s1 ⟨y, H1, I1, ry, q1⟩ => thn (ho pins s1 σ H1 _ I1 q1) fun u s2 ⟨x, H2, I2, rx, a, ov, ex, g, q2⟩ => ?_
 subst ex
 obtain rfl : u = Value.ref a := rx
 exact d_notIn hu I2 g ry fun s3 I3 => ⟨.bl (!ov.isSome), H2, I3, rfl, q2⟩
theorem ps_dput (hu : X.A.units + 1 < cLine) (ho : PE X o td) (hi : PE X i ty) (hv : PE X value tv) (hs : swapsWith value (some (.Subscript o i pos')) pos.line X.env = pure false) :
 PS X (.Assign [.Subscript o i pos'] value pos) (sDPut td ty tv) := by
 intro pins s σ H D I h
 refine wpAny_Assign_Subscript (thn (hv pins s σ H _ I h) fun r s1 ⟨v, H1, I1, rv, q1⟩ => thn (ho pins s1 σ H1 _ I1 q1) fun u s2 ⟨x, H2, I2, rx, q2⟩ => thn (hi pins s2 σ H2 _ I2 q2) fun iv s3 ⟨y, H3, I3, ry, a, H4, ex, g, q3⟩ => ?_) hs
 subst ex
 obtain rfl : u = Value.ref a := rx
 exact d_setItem hu I3 g ry rv fun s4 I4 => ⟨σ, H4, I4, q3⟩
end
section
variable {X : Cx} {pos : Pos}
end
structure M1 (X : Cx) (o : Expr) (m : Str) (apos : Pos) (e : Expr) (cpos : Pos) : Prop where
 base : attributeBase o m X.env (eval o X.env) = eval o X.env
 few : ((backTo cpos (starEach [e] X.env)).all (fun x => !x.1) && (backToKw cpos (keywordEach [] X.env)).all (fun x => x.1.isSome)
  && decide (([e] : List Expr).length + ([] : List Keyword).length + (if ([] : List Keyword).isEmpty then 0 else 1) < 30)) = true
 line : (apos.endLine == cpos.line) = true
 trees : backTo cpos (starEach [e] X.env) = [(false, eval e X.env)]
def IsD (H : Hp) (a : Addr) : Prop := (∃ kvs, Rd H a (.dK kvs)) ∨ ∃ kvs, Rd H a (.dT kvs)
theorem isD_at {X : Cx} {pins : List (Addr × Obj)} {σ : St} {H : Hp} {s : Shared} {a : Addr} (I : Inv X pins σ H s) (d : IsD H a) :
 s.TypeIs (.ref a) "dict" ∧ (∀ b, Value.ref a = .ref b → ∃ ob, s.heap.get? b = some ob ∧ ob.dict = none) ∧ (a == sysModules) = false := by
 rcases d with ⟨kvs, e⟩ | ⟨kvs, e⟩
 ·obtain ⟨_, hd, vs, _, dd⟩ := dk_rd I.hok e
  refine ⟨dd.typeIs, fun b q => ?_, hd⟩
  cases q
  obtain ⟨ob, _, _, h1, h2, _⟩ := dd
  exact ⟨ob, h1, h2.2.1⟩
 ·obtain ⟨_, hd, xs, _, dd⟩ := dt_rd I.hok e
  refine ⟨dd.typeIs, fun b q => ?_, hd⟩
  cases q
  obtain ⟨ob, _, _, h1, h2, _⟩ := dd
  exact ⟨ob, h1, h2.2.1⟩
section
variable {X : Cx} {pins : List (Addr × Obj)} {σ : St} {H : Hp} {s : Shared} {a : Addr} {y d : V} {u r : Value} {o : Option V} {A : Around} {E : Value → Shared → Prop}
end
def tDGet1 (td ty : TE) : TE := fun σ H Q => td σ H fun x H1 => ∃ a, x = .ref a ∧ IsD H1 a ∧ ty σ H1 fun y H2 => ∃ o, DGet H2 a y o ∧ Q (o.getD .non) H2
section
variable {X : Cx} {o e f : Expr} {apos cpos : Pos} {td ty tx : TE}
end
section
variable {X : Cx} {pins : List (Addr × Obj)} {σ : St} {H : Hp} {s : Shared} {a : Addr} {kvs : List (Key × V)} {A : Around} {E : Value → Shared → Prop}
end
section
variable {X : Cx} {pins : List (Addr × Obj)} {σ : St} {H : Hp} {s : Shared} {a : Addr} {y : V} {u : Value} {A : Around} {E : Value → Shared → Prop}
end
end L2
namespace L2
open PySem PySem.Spec PyProof.Rows
section
variable {κ : Type} [DecidableEq κ]
theorem nd_snoc : ∀ {l : List κ} {k : κ}, l.Nodup → ¬ k ∈ l → (l ++ [k]).Nodup
 | [], k, _, _ => by simp
 | a :: r, k, h, hk => by
  obtain ⟨h1, h2⟩ := List.nodup_cons.mp h
  show (a :: (r ++ [k])).Nodup
  refine List.nodup_cons.mpr ⟨fun m => ?_, nd_snoc h2 fun m => hk (List.mem_cons.mpr (Or.inr m))⟩
  rcases List.mem_append.mp m with q | q
  ·exact h1 q
  ·exact hk (List.mem_cons.mpr (Or.inl (List.mem_singleton.mp q).symm))
end
end L2
namespace Gz
open PySem PySem.Spec PyProof.Rows L2
def Bd (n : Nat) (x : Int) : Prop := x.natAbs < 2 ^ n
theorem Bd.of {n : Nat} {x : Int} (h1 : -((2 ^ n : Nat) : Int) < x) (h2 : x < ((2 ^ n : Nat) : Int)) : Bd n x := by
 unfold Bd; omega
theorem Bd.up {n m : Nat} {x : Int} (h : Bd n x) (hm : n ≤ m) : Bd m x := Nat.lt_of_lt_of_le h (Nat.pow_le_pow_right (by decide) hm)
theorem Bd.bits {n : Nat} {x : Int} (h : Bd n x) : Builtin.Int.intBits x ≤ n := by
 unfold Builtin.Int.intBits
 by_cases e : x = 0
 ·subst e; simp
 ·have e0 : ¬ ((x == 0) = true) := by simpa using e
  rw [if_neg e0]
  have hn : x.natAbs ≠ 0 := by omega
  have := (Nat.log2_lt hn).mpr h
  omega
def MulB (i j : Int) : Prop := Bd 4000 i ∧ Bd 4000 j
theorem MulB.ok {i j : Int} (h : MulB i j) : IntMulOk i j :=
 IntMulOk.of_bits (Nat.le_trans h.1.bits (by decide)) (Nat.le_trans h.2.bits (by decide))
section
variable {X : Cx}
theorem op_mulB : OpR X (binaryOp .Mult) (rI MulB fun i j => .int (i * j)) := opI fun _ _ _ _ _ _ _ hc q => mul_int q hc.ok
def clsVal : V → Value
 | .ref a => .ref a
 | .ty n => .type n
 | _ => .none
theorem call_isi : CallR X (.builtin "isinstance") (fun xs H Q => ∃ x c t b, xs = [x, c] ∧ TyOf X.K H x t ∧ clsVal c ≠ .none ∧ PySem.W.kitOne X.K t (clsVal c) = some b ∧ Q (.bl b) H) := by
 intro pins s σ H xs us Q I r h
 obtain ⟨x, c, t, b, rfl, ty, hc, e, q⟩ := h
 obtain ⟨u, v, rfl, rx, rc⟩ := vals2 r
 have ev : v = clsVal c := by
  cases c with
  | ref a => exact rc
  | ty n => exact rc
  | non => exact absurd rfl hc
  | bl _ => exact absurd rfl hc
  | int _ => exact absurd rfl hc
  | str _ => exact absurd rfl hc
  | byt _ => exact absurd rfl hc
  | flt _ => exact absurd rfl hc
 subst ev
 exact isinst_ok I rx ty e fun tk => ⟨.bl b, H, I.tok tk, rfl, q⟩
end
theorem kit_same {K : PySem.W.Frag} {t : Value} : PySem.W.kitOne K t t = some true := by
 unfold PySem.W.kitOne
 rw [if_pos (by simp)]
theorem kit_ty {K : PySem.W.Frag} {a c : String} {b : Bool} (h : PySem.W.kitMeta c = true) (h2 : (PySem.fastBuiltinMro a).map (·.contains (.type c)) = some b) (h3 : (a == c) = false) : PySem.W.kitOne K (.type a) (.type c) = some b := by
 unfold PySem.W.kitOne
 have e : ¬ ((Value.type a == Value.type c) = true) := by
  simp only [beq_iff_eq, Value.type.injEq]
  simpa using h3
 rw [if_neg e]
 show (if PySem.W.kitMeta c = true then PySem.W.subIn K (.type a) (.type c) else none) = some b
 rw [if_pos h]
 exact h2
theorem kit_int_bool {K : PySem.W.Frag} : PySem.W.kitOne K (.type "int") (.type "bool") = some false := kit_ty (by decide +kernel) (by decide +kernel) (by decide)
theorem kit_bool_int {K : PySem.W.Frag} : PySem.W.kitOne K (.type "bool") (.type "int") = some true := kit_ty (by decide +kernel) (by decide +kernel) (by decide)
theorem kit_none_int {K : PySem.W.Frag} : PySem.W.kitOne K (.type "NoneType") (.type "int") = some false := kit_ty (by decide +kernel) (by decide +kernel) (by decide)
theorem kit_none_tuple {K : PySem.W.Frag} : PySem.W.kitOne K (.type "NoneType") (.type "tuple") = some false := kit_ty (by decide +kernel) (by decide +kernel) (by decide)
theorem b_len : bootBuiltins "len" = some (.builtin "len") := by decide +kernel
theorem b_min : bootBuiltins "min" = some (.builtin "min") := by decide +kernel
theorem b_max : bootBuiltins "max" = some (.builtin "max") := by decide +kernel
theorem b_isinstance : bootBuiltins "isinstance" = some (.builtin "isinstance") := by decide +kernel
theorem b_sorted : bootBuiltins "sorted" = some (.builtin "sorted") := by decide +kernel
theorem b_all : bootBuiltins "all" = some (.builtin "all") := by decide +kernel
theorem b_int : bootBuiltins "int" = some (.type "int") := by decide +kernel
theorem b_bool : bootBuiltins "bool" = some (.type "bool") := by decide +kernel
theorem b_list : bootBuiltins "list" = some (.type "list") := by decide +kernel
theorem b_zip : bootBuiltins "zip" = some (.type "zip") := by decide +kernel
def isiS : V → V → Option Bool
 | .int _, .ty n => if n = "int" then some true else if n = "bool" then some false else none
 | .bl _, .ty n => if n = "int" then some true else if n = "bool" then some true else none
 | .non, .ty n => if n = "int" then some false else if n = "tuple" then some false else none
 | _, _ => none
def rIsi (K : PySem.W.Frag) (x c : V) (H : Hp) (Q : VK) : Prop := match isiS x c with
 | some b => Q (.bl b) H
 | none => ∃ t b, TyOf K H x t ∧ clsVal c ≠ .none ∧ PySem.W.kitOne K t (clsVal c) = some b ∧ Q (.bl b) H
section
variable {X : Cx}
theorem call_isiA : CallR X (.builtin "isinstance") (fun xs H Q => ∃ x c, xs = [x, c] ∧ rIsi X.K x c H Q) := by
 intro pins s σ H xs us Q I r h
 obtain ⟨x, c, rfl, h⟩ := h
 refine call_isi pins s σ H _ us Q I r ?_
 cases e : isiS x c with
 | none =>
  unfold rIsi at h
  rw [e] at h
  obtain ⟨t, b, h1, h2, h3, h4⟩ := h
  exact ⟨x, c, t, b, rfl, h1, h2, h3, h4⟩
 | some b =>
  unfold rIsi at h
  rw [e] at h
  unfold isiS at e
  split at e
  ·rename_i i n
   split at e
   ·rename_i z; subst z; cases e
    exact ⟨_, _, _, _, rfl, TyOf.int i, (fun z => nomatch z), kit_same, h⟩
   ·split at e
    ·rename_i z; subst z; cases e
     exact ⟨_, _, _, _, rfl, TyOf.int i, (fun z => nomatch z), kit_int_bool, h⟩
    ·cases e
  ·rename_i i n
   split at e
   ·rename_i z; subst z; cases e
    exact ⟨_, _, _, _, rfl, TyOf.bl i, (fun z => nomatch z), kit_bool_int, h⟩
   ·split at e
    ·rename_i z; subst z; cases e
     exact ⟨_, _, _, _, rfl, TyOf.bl i, (fun z => nomatch z), kit_same, h⟩
    ·cases e
  ·rename_i n
   split at e
   ·rename_i z; subst z; cases e
    exact ⟨_, _, _, _, rfl, TyOf.non, (fun z => nomatch z), kit_none_int, h⟩
   ·split at e
    ·rename_i z; subst z; cases e
     exact ⟨_, _, _, _, rfl, TyOf.non, (fun z => nomatch z), kit_none_tuple, h⟩
    ·cases e
  ·cases e
end
section
variable {K : PySem.W.Frag} {H : Hp} {Q : VK} {i : Int} {b : Bool} {p : Addr} {xs : List V}
theorem isi_ii : rIsi K (.int i) (.ty "int") H Q = Q (.bl true) H := rfl
theorem isi_ib : rIsi K (.int i) (.ty "bool") H Q = Q (.bl false) H := rfl
theorem isi_bi : rIsi K (.bl b) (.ty "int") H Q = Q (.bl true) H := rfl
theorem isi_bb : rIsi K (.bl b) (.ty "bool") H Q = Q (.bl true) H := rfl
theorem isi_ni : rIsi K .non (.ty "int") H Q = Q (.bl false) H := rfl
theorem isi_nt : rIsi K .non (.ty "tuple") H Q = Q (.bl false) H := rfl
theorem isi_lst (h : H p = some (.lst xs)) (q : Q (.bl true) H) : rIsi K (.ref p) (.ty "list") H Q := ⟨_, _, TyOf.lst h, (fun z => nomatch z), kit_same, q⟩
end
end Gz
namespace Gz
open PySem PySem.Spec PyProof.Rows L2
def CXX (P : Program) (w : World) : CXT := fun outer H s E e s' =>
 ∃ (x : Addr) (cls a0 : Value) (H' : Hp) (B : Heap), e = .ref x ∧ s'.os = s.os ∧ AllBare s'.gens ∧ Un (frs outer) [] H H' s.heap s'.heap ∧
  (∀ b o, s.heap.get? b = some o → H b = none → b ∉ frs outer → B.get? b = some o) ∧ (∀ b o, s.heap.get? b = some o → b ∉ frs outer → ∃ o', B.get? b = some o') ∧ HOk P w H' B ∧ H' x = none ∧ s.heap.get? x = none ∧
  Heap.FlyingW B outer x cls a0 s'.heap ∧ E cls none H'
theorem passE0 {P : Program} {w : World} {X : Cx} : Passes (CXX P w) X E0 := fun _ _ _ _ _ _ _ ⟨_, _, _, _, _, _, _, _, _, _, _, _, _, _, _, h⟩ => h.elim
theorem noCXX {P : Program} {w : World} {outer : List Env} {H : Hp} {s s' : Shared} {e : Value} (h : CXX P w outer H s (fun _ _ _ => False) e s') : False := by
 obtain ⟨_, _, _, _, _, _, _, _, _, _, _, _, _, _, _, h⟩ := h
 exact h
section
variable {P : Program} {w : World} {K : PySem.W.Frag} {mg : Str → Option Value} {base : Heap}
theorem okN {x qual : Str} {st : Stmt} {f : Addr} {fd : FuncData} {N ps : List Str} {k : Nat} {sp : Sp} (F : Fun K x qual st f fd) (S : FnScope N ps (defScope st)) (len : ∀ vs H Q E, sp vs H Q E → vs.length = ps.length)
 (hbody : ∀ (cdv : Value) (A : Around) (outer : List Env) (s : Shared) (H : Hp) (vs : List V) (Q : VK) (E : XK), Room k (A.deeper (envOfC qual (defScope st) s.heap.objs.size f cdv)) → sp vs H Q E →
   ∃ t, PSs (cxOf (CXX P w) P w K mg base N qual (defScope st) f cdv A outer s H E).nox (defBody st) t ∧ t { nx := fun _ H' => Q .non H', rt := Q } (start N vs) H) : FnOk P w K mg base (CXX P w) (k + 1) f fd ps sp := by
 obtain ⟨oc, od, kV, doc, pm, an, cdv, ct, osl, rfl, lk, hcd⟩ := F.ex
 refine fn_of lk hcd S len fun A outer s H vs Q E hr hsp => ?_
 obtain ⟨t, h, q⟩ := hbody cdv A outer s H vs Q E hr hsp
 exact ⟨t, h.nox, q⟩
end
theorem scal_ii (a b : Int) : scal (.int a) (.int b) = true := rfl
theorem scal_bb (a b : Bool) : scal (.bl a) (.bl b) = true := rfl
theorem scal_in (a : Int) : scal (.int a) .non = true := rfl
theorem scal_ni (a : Int) : scal .non (.int a) = true := rfl
theorem scal_nn : scal .non .non = true := rfl
theorem ite_tt {A B : Prop} : (if true = true then A else B) = A := if_pos rfl
theorem ite_ff {A B : Prop} : (if false = true then A else B) = B := if_neg Bool.false_ne_true
end Gz
namespace Gz
open PySem PySem.Spec PyProof.Rows L2
theorem cxK {CX : CXT} {P : Program} {w : World} {K : PySem.W.Frag} {mg : Str → Option Value} {base : Heap} {N : List Str} {qual : Str} {scope : Scope} {f : Addr} {cd : Value} {A : Around} {outer : List Env} {s : Shared} {H : Hp} {E : XK} :
 (cxOf CX P w K mg base N qual scope f cd A outer s H E).K = K := rfl
theorem cxN {CX : CXT} {P : Program} {w : World} {K : PySem.W.Frag} {mg : Str → Option Value} {base : Heap} {N : List Str} {qual : Str} {scope : Scope} {f : Addr} {cd : Value} {A : Around} {outer : List Env} {s : Shared} {H : Hp} {E : XK} :
 (cxOf CX P w K mg base N qual scope f cd A outer s H E).N = N := rfl
section
variable {K : PySem.W.Frag} {H H' : Hp} {a p : Addr} {xs ys : List V} {i : Int} {v : V} {Q : VK}
theorem same_upd {o : HO} (h : H p = none) : Same H (upd H p o) := fun b u e => by rw [upd_ne (ne_of_none e h)]; exact e
theorem ixT (h : SqT K H p xs) (e : atI xs i = some v) (q : Q v H) : rIx K (.ref p) (.int i) H Q := .inr (.inl ⟨p, xs, i, v, rfl, rfl, h, e, q⟩)
theorem ixL (h : SqL K H p xs) (e : atI xs i = some v) (q : Q v H) : rIx K (.ref p) (.int i) H Q := .inl ⟨p, xs, i, v, rfl, rfl, h, e, q⟩
theorem lenL (h : SqL K H p xs) : LenV K (.ref p) H xs.length := .inl ⟨xs, h, rfl⟩
end
def isWhole : V → Bool
 | .int _ => true
 | _ => false
end Gz
namespace Gz
open PySem PySem.Spec PyProof.Rows L2
def FJ (J : It) (g : TG) (tb : TS) (D : Ends) (σ : L2.St) (H : Hp) : Prop := ∃ W : Nat → Nat → L2.St → Hp → Prop, (∃ m, W 0 m σ H) ∧ ∀ i m σ H, W i m σ H →
 (J.stop i H ∧ D.nx σ H) ∨ (J.go i H ∧ ∃ N : L2.St → Hp → Prop, (∀ σ' H', N σ' H' → ∃ m', m' < m ∧ W (i + 1) m' σ' H') ∧ ∀ x H', J.yld i H x H' → g x σ H' fun σ2 H2 => tb { D with nx := N, ct := N, bk := D.nx } σ2 H2)
section
variable {K : PySem.W.Frag} {g : TG} {tb : TS} {D : Ends} {σ : L2.St} {H : Hp} {a : Addr} {xs : List V} {lo : Int} {n : Nat}
theorem for_rng1 {ta : TA} : tFor (iRng1 ta) g tb D σ H = ta σ H (fun vs H1 => ∃ j : Int, vs = [.int j] ∧ -(2 ^ 62) ≤ j ∧ j < 2 ^ 62 ∧ FJ (Itr 0 j.toNat) g tb D σ H1) := rfl
theorem for_lst {tl : TE} : tFor (iList K tl) g tb D σ H = tl σ H (fun x H1 => ∃ a, x = .ref a ∧ (∃ xs, SqL K H1 a xs) ∧ FJ (Itl K a) g tb D σ H1) := rfl
theorem for_tpl {tl : TE} : tFor (iTup K tl) g tb D σ H = tl σ H (fun x H1 => ∃ a, x = .ref a ∧ (∃ xs, SqT K H1 a xs) ∧ FJ (Itt K a) g tb D σ H1) := rfl
theorem by_range (Pv : Nat → L2.St → Hp → Prop) (h0 : Pv 0 σ H)
 (hs : ∀ i σ H, i < n → Pv i σ H → g (.int (lo + i)) σ H fun σ2 H2 => tb { D with nx := Pv (i + 1), ct := Pv (i + 1), bk := D.nx } σ2 H2) (hd : ∀ σ H, Pv n σ H → D.nx σ H) : FJ (Itr lo n) g tb D σ H := for_range Pv h0 hs hd
theorem by_list (Pv : Nat → L2.St → Hp → Prop) (h0 : Pv 0 σ H) (hl : ∀ i σ H, i ≤ xs.length → Pv i σ H → SqL K H a xs)
 (hs : ∀ i x σ H, xs[i]? = some x → Pv i σ H → g x σ H fun σ2 H2 => tb { D with nx := Pv (i + 1), ct := Pv (i + 1), bk := D.nx } σ2 H2) (hd : ∀ σ H, Pv xs.length σ H → D.nx σ H) : FJ (Itl K a) g tb D σ H := for_list Pv h0 hl hs hd
end
theorem line2 : (2 : Nat) ≤ sizeLine := by decide
theorem bd200 {x : Int} (h : x.natAbs < 2 ^ 200) : Bd 4000 x := Bd.up (n := 200) h (by decide)
theorem mul200 {x y : Int} (h : x.natAbs < 2 ^ 200) (h' : y.natAbs < 2 ^ 200) : MulB x y := ⟨bd200 h, bd200 h'⟩
end Gz
namespace Gz
open PySem PySem.Spec PyProof.Rows L2
section
variable {X : Cx}
end
section
variable {K : PySem.W.Frag} {H H1 : Hp} {l p : Addr} {xs ys : List V} {o : HO}
theorem same_put (hl : H l = none) (s : Same H H1) : Same H (upd H1 l o) := fun b u e => by
 rw [upd_ne (ne_of_none e hl)]; exact s b u e
def IsP (K : PySem.W.Frag) (H : Hp) (v : V) (a b : Int) : Prop := ∃ p, v = .ref p ∧ SqT K H p [.int a, .int b]
end
end Gz
namespace Gz
open PySem PySem.W PySem.Spec PySem.Calls PyProof.Rows Builtin Builtin.ObjectAttr Builtin.Getset_descriptor
section
variable {prog : Program} {w : World} {A : Around} {E : Value → Shared → Prop} {s : Shared} {K : Frag} {x C : Addr} {oe : Obj} {R : Result → Shared → Prop}
end
structure XC (K : Frag) (C : Addr) : Prop where
 ex : excIn K C [.type "ValueError", .type "Exception", .type "BaseException", .type "object"] "ValueError.__new__" = true
 mo : mroIn K C (.type "object") = some true
 mb : mroIn K C (.type "BaseException") = some true
 ga : findIn K (.ref C) "__getattribute__" = some (some (.builtin "BaseException.__getattribute__"))
 gr : findIn K (.ref C) "__getattr__" = some none
 gc : findIn K (.ref C) "__class__" = some (some (.builtin "object.__class__"))
theorem XC.cls {K : Frag} {C : Addr} (x : XC K C) : ∃ c d cd sl, K.lookup C = some ⟨c, d, .cls cd, sl⟩ := by
 have q := x.ex
 unfold excIn at q
 split at q
 ·rename_i dd cd sl ho
  exact ⟨_, _, _, _, ho⟩
 ·cases q
theorem exc_obj {K : Frag} {h : Heap} {C : Addr} (X : K.In h) (c : XC K C) :
 ∃ bm N nm q bs hdct sn sub ab col dd k0 k1 k2 k3 k5 mN, h.get? C = some (excClassObj nm q C N bs bm hdct sn sub ab col dd k0 k1 k2 k3 k5 "ValueError.__new__") ∧ h.Ns N mN ∧ mN "__init__" = none ∧
  OwnTail h [.type "ValueError", .type "Exception", .type "BaseException", .type "object"] bm := by
 have q := c.ex
 unfold excIn at q
 split at q
 ·rename_i dd cd sl ho
  split at q
  ·rename_i C' bm k0 k1 k2 k3 n k5 hm hs
   simp only [Bool.and_eq_true, beq_iff_eq, Bool.not_eq_true'] at q
   obtain ⟨⟨⟨⟨⟨rfl, rfl⟩, hdel⟩, ht⟩, hok⟩, hni⟩ := q
   obtain ⟨nm, bs, mro, ns, qn, hd, sn, sub, ab, col, del⟩ := cd
   dsimp only at hm hdel hok hni
   subst hm hdel
   have hsl : sl = #[k0, k1, k2, k3, some (.builtin "ValueError.__new__"), k5] := by
    obtain ⟨l⟩ := sl
    simp only at hs
    rw [hs]
   subst hsl
   exact ⟨bm, ns, nm, qn, bs, hd, sn, sub, ab, col, dd, k0, k1, k2, k3, k5, _, X _ _ ho, .of_isNs (isNs_of_in X hok), nsMap_none_of_in X hok hni, tail_of_in X ht⟩
  ·cases q
 ·cases q
end Gz
namespace Gz
open PySem PySem.Spec PyProof.Rows L2
section
variable {X : Cx}
end
end Gz
namespace Gz
open PySem PySem.Spec PyProof.Rows L2
theorem ObjOk.some {P : Program} {w : World} {H : Hp} {h : Heap} {a : Addr} {o : HO} (x : ObjOk P w H h a o) : ∃ ob, h.get? a = some ob := by
 cases o with
 | lst xs => obtain ⟨_, _, _, _, e⟩ := x; exact ⟨_, e⟩
 | tup xs => obtain ⟨_, _, _, o, e, _⟩ := x; exact ⟨_, e⟩
 | dK kvs => obtain ⟨_, _, _, _, o, _, _, e, _⟩ := x; exact ⟨_, e⟩
 | dT kvs => obtain ⟨_, _, _, _, o, _, _, e, _⟩ := x; exact ⟨_, e⟩
 | set S n => obtain ⟨o, _, _, _, e, _⟩ := x; exact ⟨_, e⟩
 | ins C dx fs => obtain ⟨_, _, _, e, _⟩ := x; exact ⟨_, e⟩
 | own y => exact x
 | xd fs => obtain ⟨_, ⟨_, _, _, e, _⟩, _⟩ := x; exact ⟨_, e⟩
 | rng lo hi => obtain ⟨_, _, _, e⟩ := x; exact ⟨_, e⟩
 | frz ob u => obtain ⟨e, _⟩ := x; exact ⟨_, e⟩
 | tbl ps => exact ⟨_, x⟩
 | met f y => exact ⟨_, x⟩
 | ext φ => exact x.2.1
def RaiseTo (X : Cx) (E : XK) : Prop := ∀ (pins : List (Addr × Obj)) (σ : L2.St) (H : Hp) (s : Shared) (e C : Addr) (vs : List Value) (h' : Heap), Inv X pins σ H s → Heap.MadeExcOf s.heap h' e (.ref C) vs → E (.ref C) none H → X.xe (.ref e) { s with heap := h' }
def tRaise (C : Addr) (E : XK) (ta : TA) : TS := fun D σ H => ta σ H fun vs H1 => vs.length ≤ sizeLine ∧ E (.ref C) none H1
section
variable {X : Cx}
theorem ps_raise {x : Str} {np cpos pos : Pos} {e₀ : Expr} {rest : List Expr} {ta : TA} {C : Addr} {E : XK} (hx : RaiseTo X E) (hg : Gl X x) (hm : X.mg x = some (.ref C)) (xc : XC X.K C) (hc : X.calm = true) (ha : PA X (e₀ :: rest) ta)
 (hd : (x == ("__debug__" : Str)) = false := by decide) (he : starEach (e₀ :: rest) X.env = (false, eval e₀ X.env) :: starEach rest X.env := by rfl)
 (hpl : (backTo cpos (starEach rest X.env)).any (·.1) = false := by rfl) :
 PS X (.Raise (some (.Call (.Name x np) (e₀ :: rest) [] cpos)) none pos) (tRaise C E ta) := by
 intro pins s σ H D I h
 obtain ⟨tl, N, nm, q, bs, hdct, sn, sub, ab, col, dd, k0, k1, k2, k3, k5, mN, hC, hN, hni, T⟩ := exc_obj I.ok.mod.kin xc
 refine wpAny_Raise_call_subU (C := C) (nm := nm) (q := q) (N := N) (bs := bs) (bm := tl) (hdct := hdct) (sn := sn) (sub := sub) (ab := ab) (col := col) (dd := dd) (k0 := k0) (k1 := k1) (k2 := k2) (k3 := k3) (k5 := k5)
  PySem.F.excBase_ValueError (by decide +kernel) PySem.F.excBase_ValueError (mN := mN) (T.hasType PySem.F.excBase_ValueError.hasBase) (I.ok.hd hc) (by rw [he]; show (false || (backTo cpos (starEach rest X.env)).any (·.1)) = false; rw [hpl]; rfl) hni (ld_glob I hg hm ⟨rfl, ?_⟩ hd)
 have ha' := ha cpos pins s σ H _ I h
 rw [he] at ha' ⊢
 refine Calls.evalArgs_plain (wpAny_mono ha' (fun us s₂ h₂ => ?_) fun _ _ y => y)
 obtain ⟨vs, H1, I1, r, hl, hE⟩ := h₂
 exact ⟨rfl, by rw [← r.length]; exact hl, I1.bk _ _ hC, hN.keeps I1.bk, T.keeps I1.bk, fun h' e hm => hx pins σ H1 s₂ e C us h' I1 hm hE⟩
end
section
variable {P : Program} {w : World} {K : PySem.W.Frag} {mg : Str → Option Value} {base : Heap} {N : List Str} {qual : Str} {scope : Scope} {f : Addr} {cd : Value} {A : Around} {outer : List Env} {s : Shared} {H : Hp} {E : XK}
theorem frs_mem {env : Env} {b L : Addr} (hf : env.frame = some L) (h : b ∈ frs (env :: outer)) : b = L ∨ b ∈ frs outer := by
 unfold frs at h
 rw [List.filterMap_cons, hf] at h
 exact List.mem_cons.mp h
theorem raise_up : RaiseTo (cxOf (CXX P w) P w K mg base N qual scope f cd A outer s H E) E := by
 intro pins σ H1 s1 e C vs h1 I hx hE
 have hfr : (cxOf (CXX P w) P w K mg base N qual scope f cd A outer s H E).A.frames = some (envOfC qual scope s.heap.objs.size f cd :: outer) := I.ok.frames
 have hF : s1.heap.FunFrames base (envOfC qual scope s.heap.objs.size f cd :: outer) := I.stack
 have hin : ∀ env ∈ (envOfC qual scope s.heap.objs.size f cd :: outer), ∀ b, env.frame = some b → b ∈ frs (envOfC qual scope s.heap.objs.size f cd :: outer) := fun env he b hb => List.mem_filterMap.mpr ⟨env, he, hb⟩
 have fr0 : ∀ b ∈ frs (envOfC qual scope s.heap.objs.size f cd :: outer), H1 b = none := I.stkFree
 have neL : ∀ b o, s.heap.get? b = some o → b ≠ s.heap.objs.size := fun b o e => Nat.ne_of_lt (Heap.lt_size e)
 have nofr : ∀ b o, s.heap.get? b = some o → b ∉ frs outer → b ∉ frs (envOfC qual scope s.heap.objs.size f cd :: outer) := fun b o e hb z => by
  rcases frs_mem rfl z with z | z
  ·exact neL b o e z
  ·exact hb z
 have ub : Un (frs outer) [] H H1 s.heap s1.heap := I.base
 refine wpAny_leaves_madeW (base := PySem.W.hideAll s1.heap (frs (envOfC qual scope s.heap.objs.size f cd :: outer))) hfr rfl (fun b o q => PySem.W.of_hideAll _ q) (PySem.W.funFrames_hide hF hin) hx fun h' t fl tup bt up => ?_
 have stays := fl.1
 have inB : ∀ b o, s1.heap.get? b = some o → b ∉ frs (envOfC qual scope s.heap.objs.size f cd :: outer) → (PySem.W.hideAll s1.heap (frs (envOfC qual scope s.heap.objs.size f cd :: outer))).get? b = some o := fun b o q hb => PySem.W.hideAll_get _ q hb
 have frUp : ∀ b ∈ frs (envOfC qual scope s.heap.objs.size f cd :: outer), ∀ o, s1.heap.get? b = some o → ∃ sl, h'.get? b = some { o with slots := sl } := fun b hb o q => by
  obtain ⟨_, o', ho', hnf⟩ := hF.mem hb
  rw [q] at ho'; cases ho'
  exact up b o (hx.keeps b o q) hnf
 refine ⟨e, .ref C, .ref t, H1, _, rfl, I.os, I.bare, ⟨fun b o q n hb hx' => ?_, fun b o q n hb hx' => ?_, ub.free, fun b o q hx' => ?_, ub.tups, ub.frzs, ub.tbls⟩, fun b o q n hb => ?_, fun b o q hb => ?_, fun a o q => ?_, ?_, ?_, fl, hE⟩
 ·exact stays b o (inB b o (ub.keep b o q n hb hx') (nofr b o q hb))
 ·obtain ⟨sl, e1⟩ := ub.slot b o q n hb hx'
  obtain ⟨sl', e2⟩ := frUp b (by unfold frs; rw [List.filterMap_cons]; exact List.mem_cons_of_mem _ hb) _ e1
  exact ⟨sl', e2⟩
 ·obtain ⟨o', e1⟩ := ub.there b o q hx'
  by_cases hb : b ∈ frs (envOfC qual scope s.heap.objs.size f cd :: outer)
  ·obtain ⟨sl, e2⟩ := frUp b hb o' e1
   exact ⟨_, e2⟩
  ·exact ⟨o', stays b o' (inB b o' e1 hb)⟩
 ·exact inB b o (ub.keep b o q n hb (by simp)) (nofr b o q hb)
 ·obtain ⟨o', e1⟩ := ub.there b o q (by simp)
  exact ⟨o', inB b o' e1 (nofr b o q hb)⟩
 ·refine (I.hok a o q).stay (fun b u hb z => inB b u z fun hm => ?_) (fun _ z => z) fun _ _ z => z
  have := fr0 b hm
  rcases hb with hb | hb
  ·rw [hb, q] at this; cases this
  ·rw [hb] at this; cases this
 ·cases q : H1 e with
  | none => rfl
  | some u =>
   obtain ⟨ob, z⟩ := ObjOk.some (I.hok e u q)
   rw [hx.new] at z; cases z
 ·cases q : s.heap.get? e with
  | none => rfl
  | some u =>
   obtain ⟨o', z⟩ := ub.there e u q (by simp)
   rw [hx.new] at z; cases z
theorem pass_up : Passes (CXX P w) (cxOf (CXX P w) P w K mg base N qual scope f cd A outer s H E) E := by
 intro pins σ H1 s1 ev s2 I cx
 obtain ⟨x, cls, a0, H', B, rfl, os, bare, un, kb, tb, hok, hx, hn, fl, hE⟩ := cx
 have hfr : (cxOf (CXX P w) P w K mg base N qual scope f cd A outer s H E).A.frames = some (envOfC qual scope s.heap.objs.size f cd :: outer) := I.ok.frames
 have hF : s1.heap.FunFrames base (envOfC qual scope s.heap.objs.size f cd :: outer) := I.stack
 have neL : ∀ b o, s.heap.get? b = some o → b ≠ s.heap.objs.size := fun b o e => Nat.ne_of_lt (Heap.lt_size e)
 have nofr : ∀ b o, s.heap.get? b = some o → b ∉ frs outer → b ∉ frs (envOfC qual scope s.heap.objs.size f cd :: outer) := fun b o e hb z => by
  rcases frs_mem rfl z with z | z
  ·exact neL b o e z
  ·exact hb z
 have infr : ∀ b, b ∈ frs outer → b ∈ frs (envOfC qual scope s.heap.objs.size f cd :: outer) := fun b hb => by
  unfold frs; rw [List.filterMap_cons]; exact List.mem_cons_of_mem _ hb
 have ub : Un (frs outer) [] H H1 s.heap s1.heap := I.base
 have un' : Un (frs (envOfC qual scope s.heap.objs.size f cd :: outer)) [] H1 H' s1.heap s2.heap := un
 have kb' : ∀ b o, s1.heap.get? b = some o → H1 b = none → b ∉ frs (envOfC qual scope s.heap.objs.size f cd :: outer) → B.get? b = some o := kb
 have tb' : ∀ b o, s1.heap.get? b = some o → b ∉ frs (envOfC qual scope s.heap.objs.size f cd :: outer) → ∃ o', B.get? b = some o' := tb
 have frfree : ∀ b ∈ frs (envOfC qual scope s.heap.objs.size f cd :: outer), H1 b = none := I.stkFree
 refine wpAny_leaves_onW hfr rfl fl fun h' fl' up => ?_
 have stays := fl'.1
 have frUp : ∀ b ∈ frs (envOfC qual scope s.heap.objs.size f cd :: outer), ∀ o, s1.heap.get? b = some o → ∃ sl, h'.get? b = some { o with slots := sl } := fun b hb o q => by
  obtain ⟨_, o', ho', hnf⟩ := hF.mem hb
  rw [q] at ho'; cases ho'
  obtain ⟨sl, e1⟩ := un'.slot b o q (frfree b hb) hb (by simp)
  obtain ⟨sl', e2⟩ := up b _ e1 hnf
  exact ⟨sl', e2⟩
 refine ⟨x, cls, a0, H', B, rfl, os.trans I.os, bare, ⟨fun b o q n hb hx' => ?_, fun b o q n hb hx' => ?_, fun b o q n hx' => ?_, fun b o q hx' => ?_, fun b xs q => un.tups _ _ (ub.tups _ _ q), fun b o u q => un.frzs _ _ _ (ub.frzs _ _ _ q), fun b ps q => ?_⟩, fun b o q n hb => ?_, fun b o q hb => ?_, hok, hx, ?_, fl', hE⟩
 ·exact stays b o (kb' b o (ub.keep b o q n hb hx') (ub.free b o q n hx') (nofr b o q hb))
 ·obtain ⟨sl, e1⟩ := ub.slot b o q n hb hx'
  obtain ⟨sl', e2⟩ := frUp b (infr b hb) _ e1
  exact ⟨sl', e2⟩
 ·obtain ⟨o', e1⟩ := ub.there b o q hx'
  exact un'.free b o' e1 (ub.free b o q n hx') (by simp)
 ·obtain ⟨o', e1⟩ := ub.there b o q hx'
  by_cases hb : b ∈ frs (envOfC qual scope s.heap.objs.size f cd :: outer)
  ·obtain ⟨sl, e2⟩ := frUp b hb o' e1
   exact ⟨_, e2⟩
  ·obtain ⟨o2, e2⟩ := tb' b o' e1 hb
   exact ⟨o2, stays b o2 e2⟩
 ·obtain ⟨m1, e1⟩ := ub.tbls b ps q
  obtain ⟨m2, e2⟩ := un.tbls b _ e1
  exact ⟨m1 ++ m2, by rw [e2, Array.append_assoc]⟩
 ·exact kb' b o (ub.keep b o q n hb (by simp)) (ub.free b o q n (by simp)) (nofr b o q hb)
 ·obtain ⟨o', e1⟩ := ub.there b o q (by simp)
  exact tb' b o' e1 (nofr b o q hb)
 ·cases q : s.heap.get? x with
  | none => rfl
  | some u =>
   obtain ⟨o', z⟩ := ub.there x u q (by simp)
   rw [hn] at z; cases z
theorem okX {x qual : Str} {st : Stmt} {f : Addr} {fd : FuncData} {N ps : List Str} {k : Nat} {sp : Sp} (F : Fun K x qual st f fd) (S : FnScope N ps (defScope st)) (len : ∀ vs H Q E, sp vs H Q E → vs.length = ps.length)
 (hbody : ∀ (cdv : Value) (A : Around) (outer : List Env) (s : Shared) (H : Hp) (vs : List V) (Q : VK) (E : XK), Room k (A.deeper (envOfC qual (defScope st) s.heap.objs.size f cdv)) → sp vs H Q E →
   ∃ t, PSs (cxOf (CXX P w) P w K mg base N qual (defScope st) f cdv A outer s H E) (defBody st) t ∧ t { nx := fun _ H' => Q .non H', rt := Q } (start N vs) H) : FnOk P w K mg base (CXX P w) (k + 1) f fd ps sp := by
 obtain ⟨oc, od, kV, doc, pm, an, cdv, ct, osl, rfl, lk, hcd⟩ := F.ex
 refine fn_of lk hcd S len fun A outer s H vs Q E hr hsp => ?_
 exact hbody cdv A outer s H vs Q E hr hsp
end
end Gz
namespace Gz
open PySem PySem.Spec PyProof.Rows L2
section
variable {X : Cx} {F : Value → Shared → Prop} {pins pn : List (Addr × Obj)} {σ : L2.St} {H : Hp} {s : Shared} {A' : Around}
end
end Gz
namespace Gz
def gcdI (a b : Int) : Int := ((Nat.gcd a.natAbs b.natAbs : Nat) : Int)
def sg (t b : Int) : Int := if b < 0 then -gcdI t b else gcdI t b
def rt (t b : Int) : Int := t.fdiv (sg t b)
def rb (t b : Int) : Int := b.fdiv (sg t b)
theorem em30 (x : Int) : (x % 1000000000000000000000000000000).natAbs < 2 ^ 200 := by
 have h1 := Int.emod_nonneg x (show (1000000000000000000000000000000 : Int) ≠ 0 by decide)
 have h2 := Int.emod_lt_of_pos x (show (0 : Int) < 1000000000000000000000000000000 by decide)
 omega
end Gz
namespace Gz
open PySem PySem.W PyProof.Rows
def kasP {α : Type} (lt : Nat → Nat → Bool) (n : Nat) : KasT α → (α → Prop) → Prop
 | .ret a, P => P a
 | .ask i j k, P => i < n ∧ j < n ∧ kasP lt n (k (lt i j)) P
section
variable {lt : Nat → Nat → Bool} {n : Nat}
theorem kasP_bind {α β : Type} {f : α → KasT β} {P : β → Prop} : ∀ (t : KasT α), kasP lt n t (fun a => kasP lt n (f a) P) → kasP lt n (t.bind f) P
 | .ret _, h => h
 | .ask _ _ k, h => ⟨h.1, h.2.1, kasP_bind (k _) h.2.2⟩
theorem kasP_mono {α : Type} {P P' : α → Prop} (h : ∀ a, P a → P' a) : ∀ (t : KasT α), kasP lt n t P → kasP lt n t P'
 | .ret _, q => h _ q
 | .ask _ _ k, q => ⟨q.1, q.2.1, kasP_mono h (k _) q.2.2⟩
theorem kasP_wp {α : Type} {cmp : Nat → Nat → (Bool → Shared → Prop) → Shared → Prop} {Ok : Shared → Prop} (hc : ∀ i j C s, i < n → j < n → Ok s → (∀ s', Ok s' → C (lt i j) s') → cmp i j C s) {P : α → Prop} {Q : α → Shared → Prop} (hQ : ∀ a s, Ok s → P a → Q a s) :
 ∀ (t : KasT α) (s : Shared), Ok s → kasP lt n t P → t.kasWp cmp Q s
 | .ret a, s, o, h => hQ a s o h
 | .ask i j k, s, o, h => hc i j _ s h.1 h.2.1 o fun s' o' => kasP_wp hc hQ (k (lt i j)) s' o' h.2.2
structure Ord (lt : Nat → Nat → Bool) : Prop where
 asym : ∀ {a b}, lt a b = true → lt b a = false
 tr : ∀ {a b c}, lt b a = false → lt c b = false → lt c a = false
theorem Ord.rfl' (O : Ord lt) (a : Nat) : lt a a = false := by
 cases h : lt a a with
 | false => rfl
 | true => rw [O.asym h] at h; cases h
def Srt (lt : Nat → Nat → Bool) (p : Array Nat) (k : Nat) : Prop := ∀ i j, i ≤ j → j < k → lt (p.getD j 0) (p.getD i 0) = false
def Dsc (lt : Nat → Nat → Bool) (p : Array Nat) (k : Nat) : Prop := ∀ i j, i ≤ j → j < k → lt (p.getD i 0) (p.getD j 0) = false
def Prm (n : Nat) (p : Array Nat) : Prop := p.toList.Perm (List.range n)
theorem Prm.size {p : Array Nat} (h : Prm n p) : p.size = n := by
 have := h.length_eq
 simpa using this
theorem Prm.below {p : Array Nat} (h : Prm n p) {i : Nat} (hi : i < n) : p.getD i 0 < n := by
 have hs := h.size
 have hi' : i < p.size := by omega
 have e : p.getD i 0 = p[i] := by simp [Array.getD, hi']
 rw [e]
 have m : p[i] ∈ p.toList := by simp
 simpa using h.mem_iff.mp m
theorem Prm.of {p q : Array Nat} (h : Prm n p) (hq : q.Perm p) : Prm n q := (Array.perm_iff_toList_perm.mp hq).trans h
theorem Srt.one (O : Ord lt) {p : Array Nat} : Srt lt p 1 := fun i j hij hj => by
 have : i = j := by omega
 subst this; exact O.rfl' _
theorem Dsc.one (O : Ord lt) {p : Array Nat} : Dsc lt p 1 := fun i j hij hj => by
 have : i = j := by omega
 subst this; exact O.rfl' _
theorem Srt.succ (O : Ord lt) {p : Array Nat} {k : Nat} (h : Srt lt p k) (hk : 1 ≤ k) (hn : lt (p.getD k 0) (p.getD (k - 1) 0) = false) : Srt lt p (k + 1) := fun i j hij hj => by
 by_cases e : j = k
 ·subst e
  by_cases ei : i = j
  ·subst ei; exact O.rfl' _
  ·exact O.tr (h i (j - 1) (by omega) (by omega)) hn
 ·exact h i j hij (by omega)
theorem Dsc.succ (O : Ord lt) {p : Array Nat} {k : Nat} (h : Dsc lt p k) (hk : 1 ≤ k) (hn : lt (p.getD (k - 1) 0) (p.getD k 0) = false) : Dsc lt p (k + 1) := fun i j hij hj => by
 by_cases e : j = k
 ·subst e
  by_cases ei : i = j
  ·subst ei; exact O.rfl' _
  ·exact O.tr hn (h i (j - 1) (by omega) (by omega))
 ·exact h i j hij (by omega)
theorem rev_get {p : Array Nat} {i j : Nat} (hj : j ≤ p.size) (k : Nat) : (kas_rev p i j).getD k 0 = if i ≤ k ∧ k < j then p.getD (i + j - 1 - k) 0 else p.getD k 0 := by
 simp only [Array.getD_eq_getD_getElem?]
 unfold kas_rev
 rw [getElem?_mirror_all hj]
 split <;> rfl
theorem bub_get {p : Array Nat} {k l : Nat} (hk : k < p.size) (hl : l ≤ k) (i : Nat) : (bubble p k (k - l)).getD i 0 = if i = l then p.getD k 0 else if l < i ∧ i ≤ k then p.getD (i - 1) 0 else p.getD i 0 := by
 simp only [Array.getD_eq_getD_getElem?]
 rw [getElem?_bubble hk _ (by omega)]
 have e : k - (k - l) = l := by omega
 rw [e]
 split
 ·rfl
 ·split <;> rfl
theorem asc_ok (O : Ord lt) {p : Array Nat} (hp : Prm n p) {P : Nat → Prop} : ∀ (f a : Nat), 1 ≤ a → a + f ≤ n → Srt lt p a → (∀ m, a ≤ m → m ≤ a + f → Srt lt p m → P m) → kasP lt n (kas_asc p f a) P
 | 0, a, h1, h2, hs, q => q a (Nat.le_refl _) (by omega) hs
 | f + 1, a, h1, h2, hs, q => by
  refine ⟨hp.below (by omega), hp.below (by omega), ?_⟩
  cases c : lt (p.getD a 0) (p.getD (a - 1) 0) with
  | true =>
   simp only [↓reduceIte]
   exact q a (Nat.le_refl _) (by omega) hs
  | false =>
   simp only [Bool.false_eq_true, ↓reduceIte]
   exact asc_ok O hp f (a + 1) (by omega) (by omega) (hs.succ O h1 c) fun m m1 m2 => q m (by omega) (by omega)
theorem Dsc.rev {p : Array Nat} {k i : Nat} (h : Dsc lt p k) (hk : k ≤ p.size) (hi : i ≤ k) (he : ∀ j, i ≤ j → j < k → lt (p.getD (k - 1) 0) (p.getD j 0) = false) (O : Ord lt) : Dsc lt (kas_rev p i k) k := fun a b hab hb => by
 rw [rev_get hk, rev_get hk]
 have eqv : ∀ x y, i ≤ x → x < k → i ≤ y → y < k → lt (p.getD x 0) (p.getD y 0) = false := fun x y x1 x2 y1 y2 => O.tr (he y y1 y2) (h x (k - 1) (by omega) (by omega))
 split
 ·split
  ·exact eqv _ _ (by omega) (by omega) (by omega) (by omega)
  ·exfalso; omega
 ·split
  ·exact h _ _ (by omega) (by omega)
  ·exact h _ _ hab hb
theorem desc_ok (O : Ord lt) {P : Array Nat × Nat × Nat → Prop} : ∀ (f : Nat) (p : Array Nat) (k q : Nat), Prm n p → 1 ≤ k → k + f ≤ n → q + 1 ≤ k → Dsc lt p k → (∀ j, k - (q + 1) ≤ j → j < k → lt (p.getD (k - 1) 0) (p.getD j 0) = false) →
 (∀ p' k' q', Prm n p' → k ≤ k' → k' ≤ k + f → q' + 1 ≤ k' → Dsc lt p' k' → (∀ j, k' - (q' + 1) ≤ j → j < k' → lt (p'.getD (k' - 1) 0) (p'.getD j 0) = false) → P (p', k', q')) → kasP lt n (kas_desc f p k q) P
 | 0, p, k, q, hp, h1, h2, h3, hd, he, fin => fin p k q hp (Nat.le_refl _) (by omega) h3 hd he
 | f + 1, p, k, q, hp, h1, h2, h3, hd, he, fin => by
  have hs := hp.size
  have one : ∀ (p' : Array Nat), ∀ j, (k + 1) - (0 + 1) ≤ j → j < k + 1 → lt (p'.getD (k + 1 - 1) 0) (p'.getD j 0) = false := fun p' j j1 j2 => by
   have : j = k := by omega
   subst this; exact O.rfl' _
  refine ⟨hp.below (by omega), hp.below (by omega), ?_⟩
  cases c : lt (p.getD k 0) (p.getD (k - 1) 0) with
  | true =>
   simp only [↓reduceIte]
   have c' := O.asym c
   by_cases hq : q > 0
   ·rw [if_pos hq]
    have hp' : Prm n (kas_rev p (k - (q + 1)) k) := hp.of (mirror_perm _ _ _ _)
    have hd' : Dsc lt (kas_rev p (k - (q + 1)) k) k := hd.rev (by omega) (by omega) he O
    refine desc_ok O f _ (k + 1) 0 hp' (by omega) (by omega) (by omega) (hd'.succ O h1 ?_) (one _) fun p2 k2 q2 a1 a2 a3 a4 a5 a6 => fin p2 k2 q2 a1 (by omega) (by omega) a4 a5 a6
    rw [rev_get (by omega), rev_get (by omega), if_pos (by omega), if_neg (by omega)]
    have e1 : k - (q + 1) + k - 1 - (k - 1) = k - (q + 1) := by omega
    rw [e1]
    exact O.tr c' (hd _ (k - 1) (by omega) (by omega))
   ·rw [if_neg hq]
    exact desc_ok O f p (k + 1) 0 hp (by omega) (by omega) (by omega) (hd.succ O h1 c') (one _) fun p2 k2 q2 a1 a2 a3 a4 a5 a6 => fin p2 k2 q2 a1 (by omega) (by omega) a4 a5 a6
  | false =>
   simp only [Bool.false_eq_true, ↓reduceIte]
   refine ⟨hp.below (by omega), hp.below (by omega), ?_⟩
   cases d : lt (p.getD (k - 1) 0) (p.getD k 0) with
   | true =>
    simp only [↓reduceIte]
    exact fin p k q hp (Nat.le_refl _) (by omega) h3 hd he
   | false =>
    simp only [Bool.false_eq_true, ↓reduceIte]
    refine desc_ok O f p (k + 1) (q + 1) hp (by omega) (by omega) (by omega) (hd.succ O h1 d) (fun j j1 j2 => ?_) fun p2 k2 q2 a1 a2 a3 a4 a5 a6 => fin p2 k2 q2 a1 (by omega) (by omega) a4 a5 a6
    have ek : k + 1 - 1 = k := by omega
    rw [ek]
    by_cases ej : j = k
    ·subst ej; exact O.rfl' _
    ·exact O.tr (he j (by omega) (by omega)) c
theorem Dsc.whole {p : Array Nat} {k : Nat} (h : Dsc lt p k) (hk : k ≤ p.size) : Srt lt (kas_rev p 0 k) k := fun a b hab hb => by
 rw [rev_get hk, rev_get hk, if_pos (by omega), if_pos (by omega)]
 exact h _ _ (by omega) (by omega)
theorem tail_ok (O : Ord lt) {P : Nat × Array Nat → Prop} {p : Array Nat} {k : Nat} (hp : Prm n p) (h1 : 1 ≤ k) (h2 : k ≤ n) (hd : Dsc lt p k) (fin : ∀ m p', Prm n p' → 1 ≤ m → m ≤ n → Srt lt p' m → P (m, p')) : kasP lt n (kas_tail3 k n p) P := by
 have hp' : Prm n (kas_rev p 0 k) := hp.of (mirror_perm _ _ _ _)
 have hs := hp.size
 unfold kas_tail3
 refine kasP_bind _ (asc_ok O hp' (n - k) k h1 (by omega) (hd.whole (by omega)) fun m m1 m2 ms => ?_)
 exact fin m _ hp' (by omega) (by omega) ms
theorem descPart_ok (O : Ord lt) {P : Nat × Array Nat → Prop} {p : Array Nat} {k : Nat} (hp : Prm n p) (h1 : 1 ≤ k) (h2 : k + 1 ≤ n) (hd : Dsc lt p (k + 1)) (fin : ∀ m p', Prm n p' → 1 ≤ m → m ≤ n → Srt lt p' m → P (m, p')) : kasP lt n (kas_descPart k n p) P := by
 unfold kas_descPart
 refine kasP_bind _ (desc_ok O (n - (k + 1)) p (k + 1) 0 hp (by omega) (by omega) (by omega) hd (fun j j1 j2 => ?_) fun p2 k2 q2 a1 a2 a3 a4 a5 a6 => ?_)
 ·have : j = k := by omega
  subst this; exact O.rfl' _
 ·have hs := a1.size
  dsimp only
  by_cases hq : q2 > 0
  ·rw [if_pos hq]
   exact tail_ok O (a1.of (mirror_perm _ _ _ _)) (by omega) (by omega) (a5.rev (by omega) (by omega) a6 O) fin
  ·rw [if_neg hq]
   exact tail_ok O a1 (by omega) (by omega) a5 fin
theorem count_ok (O : Ord lt) {P : Nat × Array Nat → Prop} {p : Array Nat} (hp : Prm n p) (hn : 1 ≤ n) (fin : ∀ m p', Prm n p' → 1 ≤ m → m ≤ n → Srt lt p' m → P (m, p')) : kasP lt n (kas_count n p) P := by
 have hs := hp.size
 unfold kas_count
 have key : kasP lt n (kas_asc p (n - 1) 1) (fun m => 1 ≤ m ∧ m ≤ n ∧ Srt lt p m ∧ (m < n → lt (p.getD m 0) (p.getD (m - 1) 0) = true)) := by
  have gen : ∀ (f a : Nat), 1 ≤ a → a + f = n → Srt lt p a → kasP lt n (kas_asc p f a) (fun m => 1 ≤ m ∧ m ≤ n ∧ Srt lt p m ∧ (m < n → lt (p.getD m 0) (p.getD (m - 1) 0) = true)) := by
   intro f
   induction f with
   | zero => intro a h1 h2 hs; exact ⟨h1, by omega, hs, fun z => absurd z (by omega)⟩
   | succ f ih =>
    intro a h1 h2 hs
    refine ⟨hp.below (by omega), hp.below (by omega), ?_⟩
    cases c : lt (p.getD a 0) (p.getD (a - 1) 0) with
    | true =>
     simp only [↓reduceIte]
     exact ⟨h1, by omega, hs, fun _ => c⟩
    | false =>
     simp only [Bool.false_eq_true, ↓reduceIte]
     exact ih (a + 1) (by omega) (by omega) (hs.succ O h1 c)
  exact gen (n - 1) 1 (Nat.le_refl _) (by omega) (Srt.one O)
 refine kasP_bind _ (kasP_mono (fun m hm => ?_) _ key)
 obtain ⟨m1, m2, ms, mc⟩ := hm
 by_cases e : (m == n) = true
 ·rw [if_pos e]
  exact fin m p hp m1 m2 ms
 ·rw [if_neg e]
  have hmn : m < n := by
   have : m ≠ n := by simpa using e
   omega
  have mc := mc hmn
  by_cases h2 : m > 1
  ·rw [if_pos h2]
   refine ⟨hp.below (by omega), hp.below (by omega), ?_⟩
   cases c : lt (p.getD 0 0) (p.getD (m - 1) 0) with
   | true =>
    simp only [↓reduceIte]
    exact fin m p hp m1 m2 ms
   | false =>
    simp only [Bool.false_eq_true, ↓reduceIte]
    have eqv : ∀ x y, x < m → y < m → lt (p.getD x 0) (p.getD y 0) = false := fun x y hx hy =>
     O.tr (ms y (m - 1) (by omega) (by omega)) (O.tr c (ms 0 x (by omega) hx))
    have hp' : Prm n (kas_rev p 0 m) := hp.of (mirror_perm _ _ _ _)
    refine descPart_ok O hp' m1 (by omega) (fun i j hij hj => ?_) fin
    rw [rev_get (by omega), rev_get (by omega)]
    by_cases ej : j = m
    ·subst ej
     rw [if_neg (show ¬ (0 ≤ j ∧ j < j) by omega)]
     split
     ·exact O.tr (O.asym mc) (eqv _ _ (by omega) (by omega))
     ·have : i = j := by omega
      subst this; exact O.rfl' _
    ·rw [if_pos (by omega), if_pos (by omega)]
     exact eqv _ _ (by omega) (by omega)
  ·rw [if_neg h2]
   have e1 : m = 1 := by omega
   subst e1
   exact descPart_ok O hp (Nat.le_refl _) (by omega) ((Dsc.one O).succ O (Nat.le_refl _) (O.asym mc)) fin
theorem place_ok {p : Array Nat} {k : Nat} {P : Nat → Prop} (O : Ord lt) (hp : Prm n p) (hk : k < n) (hs : Srt lt p k) (fin : ∀ m, m ≤ k → (∀ i, i < m → lt (p.getD k 0) (p.getD i 0) = false) → (∀ i, m ≤ i → i < k → lt (p.getD i 0) (p.getD k 0) = false) → P m) :
 ∀ (f l r : Nat), r - l ≤ f → l ≤ r → r ≤ k → (∀ i, i < l → lt (p.getD k 0) (p.getD i 0) = false) → (∀ i, r ≤ i → i < k → lt (p.getD i 0) (p.getD k 0) = false) → kasP lt n (kas_place p k f l r) P
 | 0, l, r, h1, h2, h3, a, b => by
  have : l = r := by omega
  subst this
  exact fin l h3 a b
 | f + 1, l, r, h1, h2, h3, a, b => by
  unfold kas_place
  by_cases hlr : l ≥ r
  ·rw [if_pos hlr]
   have : l = r := by omega
   subst this
   exact fin l h3 a b
  ·rw [if_neg hlr]
   refine ⟨hp.below hk, hp.below (by omega), ?_⟩
   cases c : lt (p.getD k 0) (p.getD ((l + r) / 2) 0) with
   | true =>
    simp only [↓reduceIte]
    refine place_ok O hp hk hs fin f l ((l + r) / 2) (by omega) (by omega) (by omega) a fun i i1 i2 => ?_
    exact O.tr (O.asym c) (hs _ _ i1 i2)
   | false =>
    simp only [Bool.false_eq_true, ↓reduceIte]
    refine place_ok O hp hk hs fin f ((l + r) / 2 + 1) r (by omega) (by omega) h3 (fun i i1 => ?_) b
    exact O.tr (hs i ((l + r) / 2) (by omega) (by omega)) c
theorem bin_ok (O : Ord lt) {P : Array Nat → Prop} (fin : ∀ p, Prm n p → Srt lt p n → P p) : ∀ (f : Nat) (p : Array Nat) (k : Nat), k + f = n → Prm n p → Srt lt p k → kasP lt n (kas_bin f p k) P
 | 0, p, k, h, hp, hs => fin p hp (by rw [← h]; exact hs)
 | f + 1, p, k, h, hp, hs => by
  have sz := hp.size
  unfold kas_bin
  refine kasP_bind _ (place_ok O hp (by omega) hs (fun m m1 ma mb => ?_) k 0 k (by omega) (by omega) (Nat.le_refl _) (fun _ z => absurd z (by omega)) fun _ z1 z2 => absurd z2 (by omega))
  refine bin_ok O fin f _ (k + 1) (by omega) (hp.of (bubble_perm _ _ _)) fun i j hij hj => ?_
  rw [bub_get (by omega) m1, bub_get (by omega) m1]
  by_cases ei : i = m
  ·rw [if_pos ei]
   by_cases ej : j = m
   ·rw [if_pos ej]; exact O.rfl' _
   ·rw [if_neg ej, if_pos (by omega)]
    exact mb _ (by omega) (by omega)
  ·rw [if_neg ei]
   by_cases ej : j = m
   ·rw [if_pos ej, if_neg (by omega)]
    exact ma _ (by omega)
   ·rw [if_neg ej]
    split
    ·split
     ·exact hs _ _ (by omega) (by omega)
     ·exact hs _ _ (by omega) (by omega)
    ·split
     ·exfalso; omega
     ·exact hs _ _ (by omega) (by omega)
theorem sort_ok (O : Ord lt) (hn : 1 ≤ n) : kasP lt n (kas_sort n) (fun p => Prm n p ∧ Srt lt p n) := by
 unfold kas_sort
 have h0 : Prm n (List.toArray (List.range n)) := by unfold Prm; simp
 refine kasP_bind _ (count_ok O h0 hn fun m p hp m1 m2 ms => ?_)
 dsimp only
 by_cases h : m < n
 ·rw [if_pos h]
  have e : max m 1 = m := by omega
  rw [e]
  exact bin_ok O (fun p hp hs => ⟨hp, hs⟩) (n - m) p m (by omega) hp ms
 ·rw [if_neg h]
  have e : m = n := by omega
  subst e
  exact ⟨hp, ms⟩
def kasV {α : Type} (lt : Nat → Nat → Bool) : KasT α → α
 | .ret a => a
 | .ask i j k => kasV lt (k (lt i j))
theorem kasP_V {α : Type} {P : α → Prop} : ∀ (t : KasT α), kasP lt n t P → P (kasV lt t)
 | .ret _, h => h
 | .ask i j k, h => kasP_V (k (lt i j)) h.2.2
theorem kasP_is {α : Type} {P : α → Prop} : ∀ (t : KasT α), kasP lt n t P → kasP lt n t (fun a => a = kasV lt t)
 | .ret _, _ => rfl
 | .ask i j k, h => ⟨h.1, h.2.1, kasP_is (k (lt i j)) h.2.2⟩
def sortIx (lt : Nat → Nat → Bool) (n : Nat) : Array Nat := if n < 2 then List.toArray (List.range n) else kasV lt (kas_sort n)
theorem sortIx_ok (O : Ord lt) : Prm n (sortIx lt n) ∧ Srt lt (sortIx lt n) n := by
 unfold sortIx
 split
 ·rename_i h
  refine ⟨by unfold Prm; simp, fun i j hij hj => ?_⟩
  have : i = j := by omega
  subst this; exact O.rfl' _
 ·rename_i h
  exact kasP_V _ (sort_ok O (by omega))
end
end Gz
namespace Gz
open PySem PySem.Spec PyProof.Rows L2
local macro_rules | `(tactic| walk_at "om") => `(tactic| ((try simp only [PySem.Addr] at *); omega))
theorem call_tree_kw {prog : Program} {w : World} {A : Around} {E : Value → Shared → Prop} {s : Shared} {id : String} {b : Builtin} {args : List Value} {kw : List (Str × Value)} {Q : Value → Shared → Prop} (hk : builtinKind id = none) (hp : plainId id = true)
 (hb : entryFor table id = some b) (ha : argsOk id ⟨args, kw⟩)
 (hc : wpAny (model prog w) A.in1 (b ⟨args, kw⟩) (fun fin s' => match fin with
   | .done f => (match (Except.ok f : Result) with | .ok (.ret v) => Q v s' | .ok _ => False | .error e => E e s')
   | .again c' => c'.quiet = true ∧ codeAny (model prog w) A c' (fun r s' => match r with | .ok (.ret v) => Q v s' | .ok _ => False | .error e => E e s') s') E s) :
 wpAny (model prog w) A (call (.builtin id) args kw) Q E s := by
 refine wpAny_call (codeAny_call_builtin hp hb ?_)
 simp only [checkBuiltinCall, hk]
 cases hsig : Manifest.signature? id with
 | none => exact wpAny_pure hc
 | some sig =>
  have ha' : Bind.checkArgs id sig ⟨args, kw⟩ = pure () := by simpa only [argsOk, hsig] using ha
  simp only [ha']
  exact wpAny_pure hc
theorem loop_max {prog : Program} {w : World} {A : Around} {R : Result → Shared → Prop} {I S : Addr} {fp wr : List Addr} {n : Nat} {P : Nat → Value → Prop} {St : Nat → Heap → Prop} {bt : Nat → Nat → Bool} {kw : List (Str × Value)}
 (W : Walks prog w A.in1 I fp wr n P St) (hcmp : CmpOf prog w A.in1 .Gt P bt) (hS : S ∉ fp) : ∀ (k j : Nat) (s : Shared) (vb : Value) (c : Nat), k + (j + 1) = n → St (j + 1) s.heap → P (argBest bt j) vb →
  s.heap.get? S = some { cls := .type "list", dict := none, data := .seq #[vb, vb] c, slots := #[] } →
  (∀ v h' tk, P (argBest bt (n - 1)) v → (∀ b o, b ∉ wr → b ≠ S → s.heap.get? b = some o → h'.get? b = some o) → R (.ok (.ret v)) { s with heap := h', toks := tk }) →
  codeAny (model prog w) A (.builtin "max.loop" ⟨[.ref I, .none, .ref S], kw⟩) R s := by
 have nS : S ∉ wr := fun z => hS (W.sub _ z)
 have nm : (toString "max" ++ toString ".loop" : String) = "max.loop" := by decide
 intro k
 induction k with
 | zero =>
  intro j s vb c e st pb oS fin
  have e' : j + 1 = n := by walk_at "om"
  refine codeAny_builtin PySem.F.entry_max_loop ?_
  rw [Around.under_plainId PySem.F.plain_max_loop _]
  show wpAny _ A.in1 (seqItems? (.ref S) >>= _) _ _ s
  refine wpAny_bind (wpAny_seqItems oS rfl ?_)
  show wpAny _ A.in1 (tryCatch (pyNext (.ref I)) _ >>= _) _ _ s
  refine wpAny_bind (wpAny_tryCatch (W.done s _ _ (e' ▸ st) fun h1 tk kp => ?_))
  have oS1 := kp S _ nS oS
  show wpAny _ A.in1 (updateSeq S (fun _ => #[]) >>= _) _ _ _
  refine wpAny_bind ?_
  refine wpAny_updateSeq oS1 rfl (wpAny_bind (wpAny_letGo (wpAny_pure ?_)))
  exact fin vb _ tk (by rw [← e']; exact pb) fun b o hw hb q => (Heap.get?_update_other _ _ (Ne.symm hb)).trans (kp b o hw q)
 | succ k ih =>
  intro j s vb c e st pb oS fin
  have lt : j + 1 < n := by walk_at "om"
  refine codeAny_builtin PySem.F.entry_max_loop ?_
  rw [Around.under_plainId PySem.F.plain_max_loop _]
  show wpAny _ A.in1 (seqItems? (.ref S) >>= _) _ _ s
  refine wpAny_bind (wpAny_seqItems oS rfl ?_)
  show wpAny _ A.in1 (tryCatch (pyNext (.ref I)) _ >>= _) _ _ s
  refine wpAny_bind (wpAny_tryCatch (W.item (j + 1) s _ _ lt st fun v h1 tk pv st1 kp => ?_))
  have oS1 := kp S _ nS oS
  show wpAny _ A.in1 (tryCatch (holding [v, v] (richCompare .Gt v vb >>= _)) _ >>= _) _ _ _
  refine wpAny_bind (wpAny_tryCatch (wpAny_holding (wpAny_bind (hcmp (j + 1) (argBest bt j) v vb _ _ _ pv pb ?_))))
  refine wpAny_bind (wpAny_holding (wpAny_truthy_bool ?_))
  refine wpAny_bind (wpAny_letGo (wpAny_pure ?_))
  cases hb : bt (j + 1) (argBest bt j) with
  | true =>
   simp only [if_true]
   refine wpAny_bind ?_
   refine wpAny_updateSeq oS1 rfl (wpAny_bind (wpAny_letGo ?_))
   rw [nm]
   refine wpAny_pure ⟨plainId_quiet PySem.F.plain_max_loop _, ih (j + 1) _ v _ (by walk_at "om") (W.frame _ _ _ st1 fun b hf o q => ?_) (by simp only [argBest, hb, if_true]; exact pv) (Heap.get?_update_self _ oS1 rfl) fun v2 h2 tk2 p2 k2 => ?_⟩
   ·exact (Heap.get?_update_other _ _ (fun z : S = b => hS (by rw [z]; exact hf))).trans q
   ·exact fin v2 h2 tk2 p2 fun b o hw hbS q => k2 b o hw hbS ((Heap.get?_update_other _ _ (Ne.symm hbS)).trans (kp b o hw q))
  | false =>
   simp only [Bool.false_eq_true, if_false]
   refine wpAny_bind (wpAny_letGo ?_)
   rw [nm]
   refine wpAny_pure ⟨plainId_quiet PySem.F.plain_max_loop _, ih (j + 1) _ vb c (by walk_at "om") st1 (by simp only [argBest, hb, Bool.false_eq_true, if_false]; exact pb) oS1 fun v2 h2 tk2 p2 k2 => ?_⟩
   exact fin v2 h2 tk2 p2 fun b o hw hbS q => k2 b o hw hbS (kp b o hw q)
theorem args_max_d (a d : Value) : argsOk "max" ⟨[a], [("default", d)]⟩ := by unfold argsOk; kernel_rfl
theorem max_dflt {prog : Program} {w : World} {A : Around} {E : Value → Shared → Prop} {s : Shared} {l : Addr} {xs : Array (Int × Tok)} {d : Value} {Q : Value → Shared → Prop} (hh : A.handled = none) (hl : s.heap.IsList l (intItems xs))
 (h0 : xs.size = 0 → ∀ h' tk, (∀ b o, s.heap.get? b = some o → h'.get? b = some o) → Q d { s with heap := h', toks := tk })
 (h1 : 0 < xs.size → ∀ v h' tk, (intItems xs)[argBest (fun i j => decide (numAt xs i > numAt xs j)) (xs.size - 1)]? = some v → (∀ b o, s.heap.get? b = some o → h'.get? b = some o) → Q v { s with heap := h', toks := tk }) :
 wpAny (model prog w) A (call (.builtin "max") [.ref l] [("default", d)]) Q E s := by
 have nm : (toString "max" ++ toString ".loop" : String) = "max.loop" := by decide
 refine call_tree_kw PySem.F.kind_max PySem.F.plain_max PySem.F.entry_max (args_max_d _ _) ?_
 show wpAny _ A.in1 (Builtin.Builtins.bindParams "max" ["key", "default"] 0 ⟨[], [("default", d)]⟩ >>= _) _ _ s
 refine wpAny_bind (wpAny_of_eq (show Builtin.Builtins.bindParams "max" ["key", "default"] 0 ⟨[], [("default", d)]⟩ = pure [none, some d] from rfl) ?_)
 refine wpAny_bind (wpAny_pure ?_)
 refine wpAny_bind (iter_intList hl fun s2 e2 st hfp hlI => ?_)
 subst e2
 refine wpAny_bind (wpAny_newObj_type ?_)
 have W := Walks.list (prog := prog) (w := w) (A := A.in1) hh s.heap.objs.size l hlI (intItems xs)
 generalize eP : (s.heap.push { cls := .type "list_iterator", data := .fields #[.ref l, .int 0 0] }) = P2 at st hfp ⊢
 have hSf : P2.objs.size ∉ [s.heap.objs.size, l] := fun z => Nat.lt_irrefl _ (hfp _ z)
 have up : ∀ b o, s.heap.get? b = some o → b ≠ P2.objs.size ∧ b ∉ [s.heap.objs.size] ∧ (P2.push { cls := .type "list", dict := none, data := .seq ([] : List Value).toArray }).get? b = some o := fun b o q => by
  have lt := Heap.lt_size q
  have q2 : P2.get? b = some o := by rw [← eP]; exact Heap.get?_push_of_some _ q
  refine ⟨Nat.ne_of_lt (Heap.lt_size q2), fun z => ?_, Heap.get?_push_of_some _ q2⟩
  have : b = s.heap.objs.size := by simpa using z
  walk_at "om"
 rw [nm]
 refine wpAny_pure ⟨plainId_quiet PySem.F.plain_max_loop _, ?_⟩
 have oS : (P2.push { cls := .type "list", dict := none, data := .seq ([] : List Value).toArray }).get? P2.objs.size = some { cls := .type "list", dict := none, data := .seq #[] 0, slots := #[] } := Heap.get?_push_size _ rfl
 have st' := W.frame 0 P2 (P2.push { cls := .type "list", dict := none, data := .seq ([] : List Value).toArray }) st fun b _ o q => Heap.get?_push_of_some _ q
 have nS : P2.objs.size ∉ [s.heap.objs.size] := fun z => hSf (by simp at z; simp [z])
 by_cases hz : xs.size = 0
 ·have st0 : (P2.push { cls := .type "list", dict := none, data := .seq ([] : List Value).toArray }).IsListIter s.heap.objs.size l (intItems xs).size ∧ (P2.push { cls := .type "list", dict := none, data := .seq ([] : List Value).toArray }).IsList l (intItems xs) := by
   have : (intItems xs).size = 0 := by simpa [intItems] using hz
   rw [this]; exact st'
  refine codeAny_builtin PySem.F.entry_max_loop ?_
  rw [Around.under_plainId PySem.F.plain_max_loop _]
  show wpAny _ A.in1 (seqItems? (.ref P2.objs.size) >>= _) _ _ _
  refine wpAny_bind (wpAny_seqItems oS rfl ?_)
  show wpAny _ A.in1 (tryCatch (pyNext (.ref s.heap.objs.size)) _ >>= _) _ _ _
  refine wpAny_bind (wpAny_tryCatch (W.done _ _ _ st0 fun h2 tk kp => ?_))
  refine wpAny_bind (wpAny_rule (wpAny_pure ?_))
  exact h0 hz h2 tk fun b o q => kp b o (up b o q).2.1 (up b o q).2.2
 ·have hp : 0 < xs.size := by walk_at "om"
  have hn : 0 < (intItems xs).size := by simpa [intItems] using hp
  refine codeAny_builtin PySem.F.entry_max_loop ?_
  rw [Around.under_plainId PySem.F.plain_max_loop _]
  show wpAny _ A.in1 (seqItems? (.ref P2.objs.size) >>= _) _ _ _
  refine wpAny_bind (wpAny_seqItems oS rfl ?_)
  show wpAny _ A.in1 (tryCatch (pyNext (.ref s.heap.objs.size)) _ >>= _) _ _ _
  refine wpAny_bind (wpAny_tryCatch (W.item 0 _ _ _ hn st' fun v h2 tk pv st1 kp => ?_))
  have oS1 := kp _ _ nS oS
  show wpAny _ A.in1 (updateSeq P2.objs.size (fun _ => #[v, v]) >>= _) _ _ _
  refine wpAny_bind ?_
  refine wpAny_updateSeq oS1 rfl ?_
  rw [nm]
  refine wpAny_pure ⟨plainId_quiet PySem.F.plain_max_loop _, loop_max W (CmpOf.ints_gt (numAt xs) (fun _ _ => intItems_at)) hSf ((intItems xs).size - 1) 0 _ v _ (by walk_at "om") (W.frame _ _ _ st1 fun b hf o q => ?_) pv (Heap.get?_update_self _ oS1 rfl) fun v2 h3 tk3 p3 k3 => ?_⟩
  ·exact (Heap.get?_update_other _ _ (fun z : P2.objs.size = b => hSf (by rw [z]; exact hf))).trans q
  ·refine h1 hp v2 h3 tk3 (by simpa [intItems] using p3) fun b o q => ?_
   exact k3 b o (up b o q).2.1 (up b o q).1 ((Heap.get?_update_other _ _ (Ne.symm (up b o q).1)).trans (kp b o (up b o q).2.1 (up b o q).2.2))
theorem loop_min {prog : Program} {w : World} {A : Around} {R : Result → Shared → Prop} {I S : Addr} {fp wr : List Addr} {n : Nat} {P : Nat → Value → Prop} {St : Nat → Heap → Prop} {bt : Nat → Nat → Bool} {kw : List (Str × Value)}
 (W : Walks prog w A.in1 I fp wr n P St) (hcmp : CmpOf prog w A.in1 .Lt P bt) (hS : S ∉ fp) : ∀ (k j : Nat) (s : Shared) (vb : Value) (c : Nat), k + (j + 1) = n → St (j + 1) s.heap → P (argBest bt j) vb →
  s.heap.get? S = some { cls := .type "list", dict := none, data := .seq #[vb, vb] c, slots := #[] } →
  (∀ v h' tk, P (argBest bt (n - 1)) v → (∀ b o, b ∉ wr → b ≠ S → s.heap.get? b = some o → h'.get? b = some o) → R (.ok (.ret v)) { s with heap := h', toks := tk }) →
  codeAny (model prog w) A (.builtin "min.loop" ⟨[.ref I, .none, .ref S], kw⟩) R s := by
 have nS : S ∉ wr := fun z => hS (W.sub _ z)
 have nm : (toString "min" ++ toString ".loop" : String) = "min.loop" := by decide
 intro k
 induction k with
 | zero =>
  intro j s vb c e st pb oS fin
  have e' : j + 1 = n := by walk_at "om"
  refine codeAny_builtin PySem.F.entry_min_loop ?_
  rw [Around.under_plainId PySem.F.plain_min_loop _]
  show wpAny _ A.in1 (seqItems? (.ref S) >>= _) _ _ s
  refine wpAny_bind (wpAny_seqItems oS rfl ?_)
  show wpAny _ A.in1 (tryCatch (pyNext (.ref I)) _ >>= _) _ _ s
  refine wpAny_bind (wpAny_tryCatch (W.done s _ _ (e' ▸ st) fun h1 tk kp => ?_))
  have oS1 := kp S _ nS oS
  show wpAny _ A.in1 (updateSeq S (fun _ => #[]) >>= _) _ _ _
  refine wpAny_bind ?_
  refine wpAny_updateSeq oS1 rfl (wpAny_bind (wpAny_letGo (wpAny_pure ?_)))
  exact fin vb _ tk (by rw [← e']; exact pb) fun b o hw hb q => (Heap.get?_update_other _ _ (Ne.symm hb)).trans (kp b o hw q)
 | succ k ih =>
  intro j s vb c e st pb oS fin
  have lt : j + 1 < n := by walk_at "om"
  refine codeAny_builtin PySem.F.entry_min_loop ?_
  rw [Around.under_plainId PySem.F.plain_min_loop _]
  show wpAny _ A.in1 (seqItems? (.ref S) >>= _) _ _ s
  refine wpAny_bind (wpAny_seqItems oS rfl ?_)
  show wpAny _ A.in1 (tryCatch (pyNext (.ref I)) _ >>= _) _ _ s
  refine wpAny_bind (wpAny_tryCatch (W.item (j + 1) s _ _ lt st fun v h1 tk pv st1 kp => ?_))
  have oS1 := kp S _ nS oS
  show wpAny _ A.in1 (tryCatch (holding [v, v] (richCompare .Lt v vb >>= _)) _ >>= _) _ _ _
  refine wpAny_bind (wpAny_tryCatch (wpAny_holding (wpAny_bind (hcmp (j + 1) (argBest bt j) v vb _ _ _ pv pb ?_))))
  refine wpAny_bind (wpAny_holding (wpAny_truthy_bool ?_))
  refine wpAny_bind (wpAny_letGo (wpAny_pure ?_))
  cases hb : bt (j + 1) (argBest bt j) with
  | true =>
   simp only [if_true]
   refine wpAny_bind ?_
   refine wpAny_updateSeq oS1 rfl (wpAny_bind (wpAny_letGo ?_))
   rw [nm]
   refine wpAny_pure ⟨plainId_quiet PySem.F.plain_min_loop _, ih (j + 1) _ v _ (by walk_at "om") (W.frame _ _ _ st1 fun b hf o q => ?_) (by simp only [argBest, hb, if_true]; exact pv) (Heap.get?_update_self _ oS1 rfl) fun v2 h2 tk2 p2 k2 => ?_⟩
   ·exact (Heap.get?_update_other _ _ (fun z : S = b => hS (by rw [z]; exact hf))).trans q
   ·exact fin v2 h2 tk2 p2 fun b o hw hbS q => k2 b o hw hbS ((Heap.get?_update_other _ _ (Ne.symm hbS)).trans (kp b o hw q))
  | false =>
   simp only [Bool.false_eq_true, if_false]
   refine wpAny_bind (wpAny_letGo ?_)
   rw [nm]
   refine wpAny_pure ⟨plainId_quiet PySem.F.plain_min_loop _, ih (j + 1) _ vb c (by walk_at "om") st1 (by simp only [argBest, hb, Bool.false_eq_true, if_false]; exact pb) oS1 fun v2 h2 tk2 p2 k2 => ?_⟩
   exact fin v2 h2 tk2 p2 fun b o hw hbS q => k2 b o hw hbS (kp b o hw q)
theorem args_min_d (a d : Value) : argsOk "min" ⟨[a], [("default", d)]⟩ := by unfold argsOk; kernel_rfl
theorem min_dflt {prog : Program} {w : World} {A : Around} {E : Value → Shared → Prop} {s : Shared} {l : Addr} {xs : Array (Int × Tok)} {d : Value} {Q : Value → Shared → Prop} (hh : A.handled = none) (hl : s.heap.IsList l (intItems xs))
 (h0 : xs.size = 0 → ∀ h' tk, (∀ b o, s.heap.get? b = some o → h'.get? b = some o) → Q d { s with heap := h', toks := tk })
 (h1 : 0 < xs.size → ∀ v h' tk, (intItems xs)[argBest (fun i j => decide (numAt xs i < numAt xs j)) (xs.size - 1)]? = some v → (∀ b o, s.heap.get? b = some o → h'.get? b = some o) → Q v { s with heap := h', toks := tk }) :
 wpAny (model prog w) A (call (.builtin "min") [.ref l] [("default", d)]) Q E s := by
 have nm : (toString "min" ++ toString ".loop" : String) = "min.loop" := by decide
 refine call_tree_kw PySem.F.kind_min PySem.F.plain_min PySem.F.entry_min (args_min_d _ _) ?_
 show wpAny _ A.in1 (Builtin.Builtins.bindParams "min" ["key", "default"] 0 ⟨[], [("default", d)]⟩ >>= _) _ _ s
 refine wpAny_bind (wpAny_of_eq (show Builtin.Builtins.bindParams "min" ["key", "default"] 0 ⟨[], [("default", d)]⟩ = pure [none, some d] from rfl) ?_)
 refine wpAny_bind (wpAny_pure ?_)
 refine wpAny_bind (iter_intList hl fun s2 e2 st hfp hlI => ?_)
 subst e2
 refine wpAny_bind (wpAny_newObj_type ?_)
 have W := Walks.list (prog := prog) (w := w) (A := A.in1) hh s.heap.objs.size l hlI (intItems xs)
 generalize eP : (s.heap.push { cls := .type "list_iterator", data := .fields #[.ref l, .int 0 0] }) = P2 at st hfp ⊢
 have hSf : P2.objs.size ∉ [s.heap.objs.size, l] := fun z => Nat.lt_irrefl _ (hfp _ z)
 have up : ∀ b o, s.heap.get? b = some o → b ≠ P2.objs.size ∧ b ∉ [s.heap.objs.size] ∧ (P2.push { cls := .type "list", dict := none, data := .seq ([] : List Value).toArray }).get? b = some o := fun b o q => by
  have lt := Heap.lt_size q
  have q2 : P2.get? b = some o := by rw [← eP]; exact Heap.get?_push_of_some _ q
  refine ⟨Nat.ne_of_lt (Heap.lt_size q2), fun z => ?_, Heap.get?_push_of_some _ q2⟩
  have : b = s.heap.objs.size := by simpa using z
  walk_at "om"
 rw [nm]
 refine wpAny_pure ⟨plainId_quiet PySem.F.plain_min_loop _, ?_⟩
 have oS : (P2.push { cls := .type "list", dict := none, data := .seq ([] : List Value).toArray }).get? P2.objs.size = some { cls := .type "list", dict := none, data := .seq #[] 0, slots := #[] } := Heap.get?_push_size _ rfl
 have st' := W.frame 0 P2 (P2.push { cls := .type "list", dict := none, data := .seq ([] : List Value).toArray }) st fun b _ o q => Heap.get?_push_of_some _ q
 have nS : P2.objs.size ∉ [s.heap.objs.size] := fun z => hSf (by simp at z; simp [z])
 by_cases hz : xs.size = 0
 ·have st0 : (P2.push { cls := .type "list", dict := none, data := .seq ([] : List Value).toArray }).IsListIter s.heap.objs.size l (intItems xs).size ∧ (P2.push { cls := .type "list", dict := none, data := .seq ([] : List Value).toArray }).IsList l (intItems xs) := by
   have : (intItems xs).size = 0 := by simpa [intItems] using hz
   rw [this]; exact st'
  refine codeAny_builtin PySem.F.entry_min_loop ?_
  rw [Around.under_plainId PySem.F.plain_min_loop _]
  show wpAny _ A.in1 (seqItems? (.ref P2.objs.size) >>= _) _ _ _
  refine wpAny_bind (wpAny_seqItems oS rfl ?_)
  show wpAny _ A.in1 (tryCatch (pyNext (.ref s.heap.objs.size)) _ >>= _) _ _ _
  refine wpAny_bind (wpAny_tryCatch (W.done _ _ _ st0 fun h2 tk kp => ?_))
  refine wpAny_bind (wpAny_rule (wpAny_pure ?_))
  exact h0 hz h2 tk fun b o q => kp b o (up b o q).2.1 (up b o q).2.2
 ·have hp : 0 < xs.size := by walk_at "om"
  have hn : 0 < (intItems xs).size := by simpa [intItems] using hp
  refine codeAny_builtin PySem.F.entry_min_loop ?_
  rw [Around.under_plainId PySem.F.plain_min_loop _]
  show wpAny _ A.in1 (seqItems? (.ref P2.objs.size) >>= _) _ _ _
  refine wpAny_bind (wpAny_seqItems oS rfl ?_)
  show wpAny _ A.in1 (tryCatch (pyNext (.ref s.heap.objs.size)) _ >>= _) _ _ _
  refine wpAny_bind (wpAny_tryCatch (W.item 0 _ _ _ hn st' fun v h2 tk pv st1 kp => ?_))
  have oS1 := kp _ _ nS oS
  show wpAny _ A.in1 (updateSeq P2.objs.size (fun _ => #[v, v]) >>= _) _ _ _
  refine wpAny_bind ?_
  refine wpAny_updateSeq oS1 rfl ?_
  rw [nm]
  refine wpAny_pure ⟨plainId_quiet PySem.F.plain_min_loop _, loop_min W (CmpOf.ints_lt (numAt xs) (fun _ _ => intItems_at)) hSf ((intItems xs).size - 1) 0 _ v _ (by walk_at "om") (W.frame _ _ _ st1 fun b hf o q => ?_) pv (Heap.get?_update_self _ oS1 rfl) fun v2 h3 tk3 p3 k3 => ?_⟩
  ·exact (Heap.get?_update_other _ _ (fun z : P2.objs.size = b => hSf (by rw [z]; exact hf))).trans q
  ·refine h1 hp v2 h3 tk3 (by simpa [intItems] using p3) fun b o q => ?_
   exact k3 b o (up b o q).2.1 (up b o q).1 ((Heap.get?_update_other _ _ (Ne.symm (up b o q).1)).trans (kp b o (up b o q).2.1 (up b o q).2.2))
def maxL : List Int → Int
 | [] => 0
 | x :: r => r.foldl (fun b y => if y > b then y else b) x
def minL : List Int → Int
 | [] => 0
 | x :: r => r.foldl (fun b y => if y < b then y else b) x
theorem maxF_le : ∀ (r : List Int) (b : Int), b ≤ r.foldl (fun b y => if y > b then y else b) b ∧ (∀ y ∈ r, y ≤ r.foldl (fun b y => if y > b then y else b) b) ∧ (r.foldl (fun b y => if y > b then y else b) b = b ∨ r.foldl (fun b y => if y > b then y else b) b ∈ r)
 | [], b => ⟨Int.le_refl _, fun _ z => (nomatch z), .inl rfl⟩
 | x :: r, b => by
  simp only [List.foldl_cons]
  obtain ⟨h1, h2, h3⟩ := maxF_le r (if x > b then x else b)
  refine ⟨?_, fun y hy => ?_, ?_⟩
  ·refine Int.le_trans ?_ h1; split <;> omega
  ·rcases List.mem_cons.mp hy with rfl | hy
   ·refine Int.le_trans ?_ h1; split <;> omega
   ·exact h2 y hy
  ·rcases h3 with h3 | h3
   ·rw [h3]; split
    ·right; simp
    ·left; rfl
   ·right; exact List.mem_cons_of_mem _ h3
theorem minF_le : ∀ (r : List Int) (b : Int), r.foldl (fun b y => if y < b then y else b) b ≤ b ∧ (∀ y ∈ r, r.foldl (fun b y => if y < b then y else b) b ≤ y) ∧ (r.foldl (fun b y => if y < b then y else b) b = b ∨ r.foldl (fun b y => if y < b then y else b) b ∈ r)
 | [], b => ⟨Int.le_refl _, fun _ z => (nomatch z), .inl rfl⟩
 | x :: r, b => by
  simp only [List.foldl_cons]
  obtain ⟨h1, h2, h3⟩ := minF_le r (if x < b then x else b)
  refine ⟨?_, fun y hy => ?_, ?_⟩
  ·refine Int.le_trans h1 ?_; split <;> omega
  ·rcases List.mem_cons.mp hy with rfl | hy
   ·refine Int.le_trans h1 ?_; split <;> omega
   ·exact h2 y hy
  ·rcases h3 with h3 | h3
   ·rw [h3]; split
    ·right; simp
    ·left; rfl
   ·right; exact List.mem_cons_of_mem _ h3
theorem maxL_mem {ns : List Int} (h : ns ≠ []) : maxL ns ∈ ns ∧ ∀ y ∈ ns, y ≤ maxL ns := by
 cases ns with
 | nil => exact absurd rfl h
 | cons x r =>
  obtain ⟨h1, h2, h3⟩ := maxF_le r x
  refine ⟨?_, fun y hy => ?_⟩
  ·rcases h3 with h3 | h3
   ·show r.foldl _ x ∈ _
    rw [h3]; exact .head _
   ·exact .tail _ h3
  ·rcases List.mem_cons.mp hy with rfl | hy
   ·exact h1
   ·exact h2 y hy
theorem minL_mem {ns : List Int} (h : ns ≠ []) : minL ns ∈ ns ∧ ∀ y ∈ ns, minL ns ≤ y := by
 cases ns with
 | nil => exact absurd rfl h
 | cons x r =>
  obtain ⟨h1, h2, h3⟩ := minF_le r x
  refine ⟨?_, fun y hy => ?_⟩
  ·rcases h3 with h3 | h3
   ·show r.foldl _ x ∈ _
    rw [h3]; exact .head _
   ·exact .tail _ h3
  ·rcases List.mem_cons.mp hy with rfl | hy
   ·exact h1
   ·exact h2 y hy
theorem ints_items : ∀ {ns : List Int} {its : List Value}, Vals (ns.map V.int) its → ∃ xs : Array (Int × Tok), its.toArray = intItems xs ∧ xs.toList.map (·.1) = ns
 | [], _, .nil => ⟨#[], by simp [intItems], rfl⟩
 | n :: ns, _, .cons (l₂ := its) r t => by
  obtain ⟨xs, e1, e2⟩ := ints_items (ns := ns) t
  obtain ⟨tk, rfl⟩ := r
  refine ⟨((n, tk) :: xs.toList).toArray, ?_, ?_⟩
  ·have : its = xs.toList.map (fun p => Value.int p.1 p.2) := by
    have := congrArg Array.toList e1
    simpa [intItems] using this
   simp [intItems, this]
  ·simp [e2]
theorem numAt_get {xs : Array (Int × Tok)} {ns : List Int} (e : xs.toList.map (·.1) = ns) {i : Nat} (hi : i < xs.size) : numAt xs i ∈ ns ∧ numAt xs i = ns.getD i 0 := by
 subst e
 unfold numAt
 rw [Array.getElem?_eq_getElem hi]
 refine ⟨List.mem_map.mpr ⟨xs[i], by simp, rfl⟩, ?_⟩
 simp [hi]
theorem mem_numAt {xs : Array (Int × Tok)} {ns : List Int} (e : xs.toList.map (·.1) = ns) {y : Int} (hy : y ∈ ns) : ∃ i, i < xs.size ∧ numAt xs i = y := by
 subst e
 obtain ⟨p, hp, rfl⟩ := List.mem_map.mp hy
 obtain ⟨i, hi, e⟩ := List.mem_iff_getElem.mp hp
 refine ⟨i, by simpa using hi, ?_⟩
 unfold numAt
 have hi' : i < xs.size := by simpa using hi
 rw [Array.getElem?_eq_getElem hi']
 have : xs[i] = p := by simpa using e
 rw [this]; rfl
theorem best_max {xs : Array (Int × Tok)} {ns : List Int} (e : xs.toList.map (·.1) = ns) (h : 0 < xs.size) : numAt xs (argBest (fun i j => decide (numAt xs i > numAt xs j)) (xs.size - 1)) = maxL ns := by
 obtain ⟨h1, h2⟩ := argBest_gt (numAt xs) (xs.size - 1)
 have hne : ns ≠ [] := by
  intro z; subst z
  have q := congrArg List.length e
  rw [List.length_map, Array.length_toList, List.length_nil] at q
  omega
 obtain ⟨m1, m2⟩ := maxL_mem hne
 refine Int.le_antisymm (m2 _ (numAt_get e (by omega)).1) ?_
 obtain ⟨i, hi, ei⟩ := mem_numAt e m1
 rw [← ei]; exact h2 i (by omega)
theorem best_min {xs : Array (Int × Tok)} {ns : List Int} (e : xs.toList.map (·.1) = ns) (h : 0 < xs.size) : numAt xs (argBest (fun i j => decide (numAt xs i < numAt xs j)) (xs.size - 1)) = minL ns := by
 obtain ⟨h1, h2⟩ := argBest_lt (numAt xs) (xs.size - 1)
 have hne : ns ≠ [] := by
  intro z; subst z
  have q := congrArg List.length e
  rw [List.length_map, Array.length_toList, List.length_nil] at q
  omega
 obtain ⟨m1, m2⟩ := minL_mem hne
 refine Int.le_antisymm ?_ (m2 _ (numAt_get e (by omega)).1)
 obtain ⟨i, hi, ei⟩ := mem_numAt e m1
 rw [← ei]; exact h2 i (by omega)
def oneV (R : V → Hp → Prop) : List V → Hp → Prop
 | [x], H => R x H
 | _, _ => False
theorem oneV_ex {R : V → Hp → Prop} : ∀ {vs : List V} {H : Hp}, oneV R vs H → ∃ x, vs = [x] ∧ R x H
 | [x], _, h => ⟨x, rfl, h⟩
section
variable {X : Cx} {e d : Expr} {te td : TE} {p pos kp : Pos}
def mmV (f : List Int → Int) : List Int → V → V
 | [], y => y
 | n :: ns, _ => .int (f (n :: ns))
theorem mmV_ne {f : List Int → Int} {ns : List Int} {y : V} (h : ns ≠ []) : mmV f ns y = .int (f ns) := by
 cases ns with
 | nil => exact absurd rfl h
 | cons _ _ => rfl
def tMM (K : PySem.W.Frag) (f : List Int → Int) (te td : TE) : TE := fun σ H Q => te σ H fun x H1 => td σ H1 fun y H2 => ∃ a ns, x = .ref a ∧ SqL K H2 a (ns.map V.int) ∧ Q (mmV f ns y) H2
theorem pe_maxD (hc : X.calm = true) (hg : Gl X "max") (hm : X.mg "max" = none) (he : PE X e te) (hd : PE X d td)
 (hs : starEach [e] X.env = (false, eval e X.env) :: starEach [] X.env := by rfl) (hq : backTo pos (starEach [e] X.env) = (false, eval e X.env) :: backTo pos (starEach [] X.env) := by rfl) :
 PE X (.Call (.Name "max" p) [e] [⟨some "default", d, kp⟩] pos) (tMM X.K maxL te td) := by
 intro pins s σ H Q I h
 refine wpAny_Call_Name_kw (ld_blt I hg hm b_max ?_ (by decide))
 refine callWith_kw (thn ((pa_cons he pa_nil hs) pos pins s σ H (oneV fun x H1 => td σ H1 fun y H2 => ∃ (a : Addr) (ns : List Int), x = .ref a ∧ SqL X.K H2 a (ns.map V.int) ∧ Q (mmV maxL ns y) H2) I h) fun us s1 ⟨vs, H1, I1, r, q⟩ => ?_) hq (by rw [hs]; rfl)
 ·obtain ⟨x, rfl, q⟩ := oneV_ex q
  obtain ⟨u, rfl, ru⟩ := vals1 r
  refine kws_cons (thn (hd pins s1 σ H1 _ I1 q) fun w s2 ⟨y, H2, I2, ry, a, ns, ex, hS, q1⟩ => kws_nil ?_)
  subst ex
  cases ru
  obtain ⟨its, rv, hp, _⟩ := I2.list hS
  obtain ⟨xs, e1, e2⟩ := ints_items rv
  obtain ⟨o, n, ho, hcl, _, hdt⟩ := hp
  have hl : s2.heap.IsList a (intItems xs) := ⟨o, ho, hcl, n, by rw [hdt, e1]⟩
  have len : xs.size = ns.length := by rw [← e2, List.length_map]; simp
  show wpAny _ X.A (call (.builtin "max") [.ref a] [("default", w)]) _ _ s2
  refine max_dflt (I2.ok.hd hc) hl (fun hz h' tk hk => ⟨y, H2, I2.kept hk, ry, ?_⟩) fun hp v h' tk hv hk => ⟨.int (maxL ns), H2, I2.kept hk, ?_, ?_⟩
  ·have z : ns = [] := List.length_eq_zero_iff.mp (by walk_at "om")
   rw [z] at q1
   exact q1
  ·obtain ⟨t, rfl⟩ := intItems_at hv
   exact ⟨t, by rw [best_max e2 hp]⟩
  ·rw [mmV_ne (fun z => by subst z; rw [List.length_nil] at len; omega)] at q1
   exact q1
theorem pe_minD (hc : X.calm = true) (hg : Gl X "min") (hm : X.mg "min" = none) (he : PE X e te) (hd : PE X d td)
 (hs : starEach [e] X.env = (false, eval e X.env) :: starEach [] X.env := by rfl) (hq : backTo pos (starEach [e] X.env) = (false, eval e X.env) :: backTo pos (starEach [] X.env) := by rfl) :
 PE X (.Call (.Name "min" p) [e] [⟨some "default", d, kp⟩] pos) (tMM X.K minL te td) := by
 intro pins s σ H Q I h
 refine wpAny_Call_Name_kw (ld_blt I hg hm b_min ?_ (by decide))
 refine callWith_kw (thn ((pa_cons he pa_nil hs) pos pins s σ H (oneV fun x H1 => td σ H1 fun y H2 => ∃ (a : Addr) (ns : List Int), x = .ref a ∧ SqL X.K H2 a (ns.map V.int) ∧ Q (mmV minL ns y) H2) I h) fun us s1 ⟨vs, H1, I1, r, q⟩ => ?_) hq (by rw [hs]; rfl)
 ·obtain ⟨x, rfl, q⟩ := oneV_ex q
  obtain ⟨u, rfl, ru⟩ := vals1 r
  refine kws_cons (thn (hd pins s1 σ H1 _ I1 q) fun w s2 ⟨y, H2, I2, ry, a, ns, ex, hS, q1⟩ => kws_nil ?_)
  subst ex
  cases ru
  obtain ⟨its, rv, hp, _⟩ := I2.list hS
  obtain ⟨xs, e1, e2⟩ := ints_items rv
  obtain ⟨o, n, ho, hcl, _, hdt⟩ := hp
  have hl : s2.heap.IsList a (intItems xs) := ⟨o, ho, hcl, n, by rw [hdt, e1]⟩
  have len : xs.size = ns.length := by rw [← e2, List.length_map]; simp
  show wpAny _ X.A (call (.builtin "min") [.ref a] [("default", w)]) _ _ s2
  refine min_dflt (I2.ok.hd hc) hl (fun hz h' tk hk => ⟨y, H2, I2.kept hk, ry, ?_⟩) fun hp v h' tk hv hk => ⟨.int (minL ns), H2, I2.kept hk, ?_, ?_⟩
  ·have z : ns = [] := List.length_eq_zero_iff.mp (by walk_at "om")
   rw [z] at q1
   exact q1
  ·obtain ⟨t, rfl⟩ := intItems_at hv
   exact ⟨t, by rw [best_min e2 hp]⟩
  ·rw [mmV_ne (fun z => by subst z; rw [List.length_nil] at len; omega)] at q1
   exact q1
end
end Gz
namespace Gz
open PySem PySem.Spec PyProof.Rows L2
local macro_rules | `(tactic| walk_at "om") => `(tactic| ((try simp only [PySem.Addr] at *); omega))
theorem lex_asym : ∀ {a b : List Int}, HT.lexLt a b = true → HT.lexLt b a = false
 | [], [], h => by cases h
 | [], _ :: _, _ => rfl
 | _ :: _, [], h => by cases h
 | x :: a, y :: b, h => by
  rw [HT.lexLt_cons] at h ⊢
  by_cases e : x = y
  ·subst e
   rw [if_pos rfl] at h ⊢
   exact lex_asym h
  ·rw [if_neg e] at h
   rw [if_neg (Ne.symm e)]
   have : x < y := by simpa using h
   simpa using (by walk_at "om" : ¬ y < x)
theorem lex_tr : ∀ {a b c : List Int}, HT.lexLt b a = false → HT.lexLt c b = false → HT.lexLt c a = false
 | [], [], [], _, _ => rfl
 | [], [], _ :: _, _, _ => rfl
 | [], _ :: _, [], _, h => by cases h
 | [], _ :: _, _ :: _, _, _ => rfl
 | _ :: _, [], _, h, _ => by cases h
 | _ :: _, _ :: _, [], _, h => by cases h
 | x :: a, y :: b, z :: c, h1, h2 => by
  rw [HT.lexLt_cons] at h1 h2 ⊢
  by_cases e1 : y = x
  ·subst e1
   rw [if_pos rfl] at h1
   by_cases e2 : z = y
   ·subst e2
    rw [if_pos rfl] at h2 ⊢
    exact lex_tr h1 h2
   ·rw [if_neg e2] at h2 ⊢
    exact h2
  ·rw [if_neg e1] at h1
   have h1' : ¬ y < x := by simpa using h1
   by_cases e2 : z = y
   ·subst e2
    rw [if_neg e1]; exact h1
   ·rw [if_neg e2] at h2
    have h2' : ¬ z < y := by simpa using h2
    rw [if_neg (by walk_at "om")]
    simpa using (by walk_at "om" : ¬ z < x)
section
variable {prog : Program} {w : World} {A : Around} {E : Value → Shared → Prop} {s : Shared}
theorem eqb_int {a b : Int} {t u : Tok} {Q : Bool → Shared → Prop} (h : Q (a == b) s) : wpAny (model prog w) A (eqBool (.int a t) (.int b u)) Q E s := SeqAt.EqAt.int_int a t b u prog w E Q h
theorem lex_run {b fin : Bool} {Q : Bool → Shared → Prop} : ∀ {ns ms : List Int} {us ws : List Value} {i : Nat}, IntsAre us ns → IntsAre ws ms → fin = decide (ns.length < ms.length) → Q (HT.lexLt ns ms) s → PySem.W.KatLex prog w A b fin Q (us.zip ws) i s := by
 intro ns
 induction ns with
 | nil =>
  intro ms us ws i r q e h
  cases r
  cases q with
  | nil => subst e; exact h
  | cons => subst e; exact h
 | cons n ns ih =>
  intro ms us ws i r q e h
  cases r with
  | cons _ t r =>
   cases q with
   | nil => subst e; exact h
   | cons m t' q =>
    rw [List.zip_cons_cons]
    refine PySem.W.kat_cons (eqb_int (PySem.W.kat_go (fun hh => PySem.W.kat_yes ?_) fun hh => PySem.W.kat_no ?_))
    ·have e1 : n = m := by simpa using hh
     subst e1
     rw [HT.lexLt_cons, if_pos rfl] at h
     exact ih r q (by subst e; simp) h
    ·have e1 : n ≠ m := by simpa using hh
     rw [HT.lexLt_cons, if_neg e1] at h
     cases (b && i == 0) with
     | true => exact oneLt_int h
     | false => exact PySem.W.kat_one _ _ (lt_int h)
end
def keyGo (sp : Sp) : List V → List V → Hp → (List V → Hp → Prop) → Prop
 | [], ks, H, Q => Q ks H
 | x :: r, ks, H, Q => sp [x] H (fun k H1 => keyGo sp r (ks ++ [k]) H1 Q) E0
def KeyT (K : PySem.W.Frag) (H : Hp) : List V → List (List Int) → Prop
 | [], [] => True
 | k :: ks, n :: ns => (∃ p, k = .ref p ∧ SqT K H p (n.map V.int) ∧ n ≠ []) ∧ KeyT K H ks ns
 | _, _ => False
theorem KeyT.len {K : PySem.W.Frag} {H : Hp} : ∀ {ks : List V} {ns : List (List Int)}, KeyT K H ks ns → ks.length = ns.length
 | [], [], _ => rfl
 | _ :: _, _ :: _, h => by simp [KeyT.len h.2]
 | [], _ :: _, h => h.elim
 | _ :: _, [], h => h.elim
theorem KeyT.get {K : PySem.W.Frag} {H : Hp} : ∀ {ks : List V} {ns : List (List Int)} {i : Nat} {k : V}, KeyT K H ks ns → ks[i]? = some k → ∃ p, k = .ref p ∧ SqT K H p ((ns.getD i []).map V.int)
 | [], [], _, _, _, e => by simp at e
 | k :: _, n :: _, 0, _, h, e => by
  simp at e; subst e
  obtain ⟨⟨p, a, b, _⟩, _⟩ := h
  exact ⟨p, a, b⟩
 | _ :: _, _ :: _, i + 1, _, h, e => by
  have := KeyT.get (i := i) h.2 (by simpa using e)
  simpa using this
 | [], _ :: _, _, _, h, _ => h.elim
 | _ :: _, [], _, _, h, _ => h.elim
section
variable {X : Cx} {pins : List (Addr × Obj)} {σ : L2.St} {H : Hp} {s : Shared}
theorem KeyT.tups (I : Inv X pins σ H s) : ∀ {ks : List V} {ns : List (List Int)} {us : List Value}, KeyT X.K H ks ns → Vals ks us → ∃ fs, PySem.W.KatTups s.heap us fs ∧ fs.length = us.length ∧ ∀ v ∈ fs, ∃ i t, v = .int i t
 | [], [], _, _, .nil => ⟨[], trivial, rfl, fun _ z => (nomatch z)⟩
 | k :: ks, n :: ns, _, h, .cons r rs => by
  obtain ⟨⟨p, rfl, hp, hn⟩, h⟩ := h
  cases r
  obtain ⟨fs, a, b, c⟩ := KeyT.tups I h rs
  obtain ⟨its, rv, ⟨o, ho, hc, m, hd⟩, _⟩ := I.tuple hp
  cases n with
  | nil => exact absurd rfl hn
  | cons z zs =>
   cases rv with
   | cons r1 r2 =>
    obtain ⟨t, rfl⟩ := r1
    refine ⟨.int z t :: fs, PySem.W.KatTups.cons ho hc hd (by simp) a, by simp [b], fun v hv => ?_⟩
    rcases List.mem_cons.mp hv with rfl | hv
    ·exact ⟨_, _, rfl⟩
    ·exact c v hv
 | [], _ :: _, _, h, _ => h.elim
 | _ :: _, [], _, h, _ => h.elim
def ltK (kis : List (List Int)) (i j : Nat) : Bool := HT.lexLt (kis.getD i []) (kis.getD j [])
theorem ltK_ord (kis : List (List Int)) : Ord (ltK kis) := ⟨fun h => lex_asym h, fun h1 h2 => lex_tr h1 h2⟩
def sortL {α : Type} (kis : List (List Int)) (d : α) (as : List α) : List α := (sortIx (ltK kis) as.length).toList.map fun i => as.getD i d
theorem sortL_perm {α : Type} {kis : List (List Int)} {d : α} {as : List α} : (sortL kis d as).Perm as := by
 have h := (sortIx_ok (n := as.length) (ltK_ord kis)).1
 have q := h.map (fun i => as.getD i d)
 have self : (List.range as.length).map (fun i => as.getD i d) = as := by
  apply List.ext_getElem
  ·simp
  ·intro i h1 h2
   simp [List.getD_eq_getElem?_getD, h2]
 rw [self] at q
 exact q
theorem sortL_length {α : Type} {kis : List (List Int)} {d : α} {as : List α} : (sortL kis d as).length = as.length := sortL_perm.length_eq
theorem sortL_sorted {α : Type} {kis : List (List Int)} {d : α} {as : List α} {f : α → List Int} (hk : kis = as.map f) : (sortL kis d as).Pairwise (fun a b => HT.lexLt (f b) (f a) = false) := by
 obtain ⟨hp, hs⟩ := sortIx_ok (n := as.length) (ltK_ord kis)
 have sz := hp.size
 unfold sortL
 rw [List.pairwise_map]
 refine List.pairwise_iff_getElem.mpr fun i j hi hj hij => ?_
 have hi' : i < (sortIx (ltK kis) as.length).size := by simpa using hi
 have hj' : j < (sortIx (ltK kis) as.length).size := by simpa using hj
 have q := hs i j (by omega) (by omega)
 have e1 : (sortIx (ltK kis) as.length).getD i 0 = (sortIx (ltK kis) as.length)[i] := by simp [Array.getD, hi']
 have e2 : (sortIx (ltK kis) as.length).getD j 0 = (sortIx (ltK kis) as.length)[j] := by simp [Array.getD, hj']
 have l1 := Prm.below hp (i := i) (by omega)
 have l2 := Prm.below hp (i := j) (by omega)
 rw [e1, e2] at q
 rw [e1] at l1
 rw [e2] at l2
 have q2 : HT.lexLt (kis.getD (sortIx (ltK kis) as.length)[j] []) (kis.getD (sortIx (ltK kis) as.length)[i] []) = false := q
 have g : ∀ k, k < as.length → kis.getD k [] = f (as.getD k d) := fun k hk' => by
  subst hk
  simp [List.getD_eq_getElem?_getD, hk']
 simp only [Array.getElem_toList]
 rw [g _ l1, g _ l2] at q2
 exact q2
theorem sortL_vals {xs : List V} {vs : List Value} {kis : List (List Int)} (r : Vals xs vs) : Vals (sortL kis .non xs) ((sortIx (ltK kis) xs.length).toList.map fun i => vs.getD i Value.none) := by
 have hp := (sortIx_ok (n := xs.length) (ltK_ord kis)).1
 have gen : ∀ l : List Nat, (∀ i ∈ l, i < xs.length) → Vals (l.map fun i => xs.getD i .non) (l.map fun i => vs.getD i Value.none) := by
  intro l
  induction l with
  | nil => intro _; exact .nil
  | cons i l ih =>
   intro h
   have hi := h i (.head _)
   refine .cons ?_ (ih fun j hj => h j (.tail _ hj))
   have e : xs[i]? = some xs[i] := List.getElem?_eq_getElem hi
   obtain ⟨u, eu, ru⟩ := r.get e
   show RelV (xs.getD i .non) (vs.getD i Value.none)
   rw [List.getD_eq_getElem?_getD, List.getD_eq_getElem?_getD, eu, e]
   exact ru
 exact gen _ fun i hi => by simpa using hp.mem_iff.mp hi
end
section
variable {X : Cx} {pins : List (Addr × Obj)} {σ : L2.St} {H : Hp} {s : Shared} {CX : CXT} {k : Nat} {fa a : Addr} {fd : FuncData} {y : Str} {sp : Sp} {xs : List V} {Q : VK}
def rSortK (K : PySem.W.Frag) (sp : Sp) (x : V) (H1 : Hp) (Q : VK) : Prop := ∃ (a : Addr) (xs : List V), x = .ref a ∧ SqL K H1 a xs ∧ xs.length < 64 ∧ keyGo sp xs [] H1 fun ks H2 => ∃ kis, KeyT K H2 ks kis ∧ ∀ l, H2 l = none → Q (.ref l) (upd H2 l (.lst (sortL kis .non xs)))
def tSortK (K : PySem.W.Frag) (sp : Sp) (te : TE) : TE := fun σ H Q => te σ H fun x H1 => rSortK K sp x H1 Q
end
end Gz
namespace Gz
open PySem PySem.Spec PyProof.Rows L2
local macro_rules | `(tactic| walk_at "om") => `(tactic| ((try simp only [PySem.Addr] at *); omega))
inductive FrOk (X : Cx) (scope : Scope) (cl : List (Str × Addr)) : List Nat → List Str → Prop where
 | nil : FrOk X scope cl [] []
 | cons {j : Nat} {y : Str} {c : Addr} {js : List Nat} {ys : List Str} (hN : X.N[j]? = some y) (hk : X.env.kindOf y = some .cell) (h1 : cl.lookup y = some c) (h2 : X.env.cells.lookup y = some c) (h : FrOk X scope cl js ys) : FrOk X scope cl (j :: js) (y :: ys)
inductive ClOk (X : Cx) : List (Str × Addr) → Prop where
 | nil : ClOk X []
 | cons {n : Str} {a : Addr} {r : List (Str × Addr)} (h : X.env.cells.lookup n = some a) (t : ClOk X r) : ClOk X ((n, a) :: r)
theorem ClOk.get {X : Cx} : ∀ {cl : List (Str × Addr)}, ClOk X cl → ∀ y c, cl.lookup y = some c → X.env.cells.lookup y = some c
 | _, .nil, y, c, e => by simp at e
 | _, .cons (n := n) h t, y, c, e => by
  rw [List.lookup_cons] at e
  by_cases hy : (y == n) = true
  ·rw [hy] at e
   have e1 : y = n := by simpa using hy
   cases e
   rw [e1]; exact h
  ·rw [Bool.eq_false_iff.mpr hy] at e
   exact t.get y c e
theorem FrOk.get {X : Cx} {scope : Scope} {cl : List (Str × Addr)} {σ : L2.St} : ∀ {js : List Nat} {ys : List Str}, FrOk X scope cl js ys → ∀ (i : Nat) (y : Str) (v : V), ys[i]? = some y → (js.map fun j => (σ[j]?).join)[i]? = some (some v) →
 ∃ (j : Nat) (c : Addr), X.N[j]? = some y ∧ σ[j]? = some (some v) ∧ X.env.kindOf y = some .cell ∧ cl.lookup y = some c ∧ X.env.cells.lookup y = some c
 | _, _, .nil, i, y, v, e, _ => by simp at e
 | _, _, .cons (j := j) hN hk h1 h2 h, 0, y, v, e, q => by
  simp at e q
  subst e
  refine ⟨j, _, hN, ?_, hk, h1, h2⟩
  cases z : σ[j]? with
  | none => rw [z] at q; simp at q
  | some o => rw [z] at q; simp at q; rw [q]
 | _, _, .cons hN hk h1 h2 h, i + 1, y, v, e, q => by
  simp only [List.getElem?_cons_succ, List.map_cons] at e q
  exact h.get i y v e q
theorem FrOk.len {X : Cx} {scope : Scope} {cl : List (Str × Addr)} : ∀ {js : List Nat} {ys : List Str}, FrOk X scope cl js ys → js.length = ys.length
 | _, _, .nil => rfl
 | _, _, .cons _ _ _ _ h => by simp [h.len]
def cxB (X : Cx) (N' : List Str) (scope : Scope) (cl : List (Str × Addr)) (C : Addr) (s2 : Shared) (H2 : Hp) (ex : List Addr) (pn : List (Addr × Obj)) : Cx :=
 { X with N := N', s₀ := s2, H₀ := H2, env := compEnvC scope cl C X.env, outer := X.stack, ex := ex, fn := fun _ => false, pn := pn, xe := fun _ _ => False }
structure CompOk (X : Cx) (x : Str) (scope : Scope) (cl : List (Str × Addr)) (fr : List Nat) (ys : List Str) : Prop where
 clos : closureFor scope X.env = pure cl
 nocell : (scope.names.all fun p => p.2 != .cell) = true
 kind : scope.kind = .function
 names : (scope.names.all fun p => p.2 != .local || scope.names.lookup p.1 == some .local) = true
 own : scope.names.lookup x = some .local
 kinds : ((relabel scope X.env).names.all fun p => (p.2 != .cell && p.2 != .free) || (cl.lookup p.1).isSome) = true
 cls : ClOk X cl
 frs : FrOk X scope cl fr ys
 nd : (x :: ys).Nodup
 kfr : (ys.all fun y => (relabel scope X.env).names.lookup y == some .cell) = true
def PTs (X : Cx) (ifs : List Expr) (t : TT) : Prop :=
 ∀ (pins : List (Addr × Obj)) (s : Shared) (σ : L2.St) (H : Hp) (Q : Bool → Hp → Prop), Inv X pins σ H s → t σ H Q →
  wpAny (model X.prog X.w) X.A (forIn ifs true fun c r => if r = true then do let ok ← isTrue c X.env (eval c X.env); pure (ForInStep.yield ok) else pure (ForInStep.yield r)) (TP X pins σ Q) X.xe s
def tAll : TT := fun _ H Q => Q true H
theorem pts_nil {X : Cx} : PTs X [] tAll := fun _ _ _ H _ I h => wpAny_tests_nil ⟨H, I, h⟩
theorem pts_one {X : Cx} {c : Expr} {t : TT} (hc : PT X c t) : PTs X [c] t := fun pins s σ H Q I h => wpAny_tests_one (hc pins s σ H Q I h)
def tBlk (J : It) (ρ : L2.St) (tt : TT) (te : TE) (H : Hp) (Q : VK) : Prop := ∃ W : Nat → Nat → List V → Hp → Prop, (∃ m, W 0 m [] H) ∧ ∀ i m ys H, W i m ys H →
 (J.stop i H ∧ ys.length ≤ sizeLine ∧ ∀ l, H l = none → Q (.ref l) (upd H l (.lst ys))) ∨ (J.go i H ∧ ys.length < sizeLine ∧ ∃ N : List V → Hp → Prop, (∀ zs H', N zs H' → ∃ m', m' < m ∧ W (i + 1) m' zs H') ∧
  ∀ x H', J.yld i H x H' → tt (some x :: ρ) H' fun b H1 => if b = true then te (some x :: ρ) H1 fun y H2 => N (ys ++ [y]) H2 else N ys H1)
def tComp (wi : TI) (fr : List Nat) (tt : TT) (te : TE) : TE := fun σ H Q => wi σ H fun J H1 => tBlk J (fr.map fun j => (σ[j]?).join) tt te H1 Q
section
variable {X : Cx} {pins : List (Addr × Obj)} {σ : L2.St} {H2 : Hp} {s2 : Shared} {x : Str} {px pos : Pos} {elt iter : Expr} {ifs : List Expr} {scope : Scope} {cl : List (Str × Addr)} {fr : List Nat} {ys : List Str} {tt : TT} {te : TE}
theorem look_in {l : List (Str × NameKind)} {p : Str × NameKind → Bool} (h : l.all p = true) {y : Str} {k : NameKind} (e : l.lookup y = some k) : p (y, k) = true := by
 exact List.all_eq_true.mp h _ (PySem.mem_of_lookup e)
theorem cxB_ok {C : Addr} {ex : List Addr} {pn : List (Addr × Obj)} (S : CompOk X x scope cl fr ys) (I2 : Inv X pins σ H2 s2) (f2 : ∀ b ∈ ex, FpOk X pins H2 b) (hC : s2.heap.objs.size ≤ C) (hex : ∀ b ∈ ex, b < s2.heap.objs.size) : (cxB X (x :: ys) scope cl C s2 H2 ex pn).Ok := by
 refine ⟨I2.ok.mod, S.kind, I2.ok.glob, I2.ok.blt, hC, fun a b c h1 h2 => ?_, fun y hy => ?_, fun _ _ z => (nomatch z), I2.ok.hd, I2.ok.frames, .inl rfl, fun b hb => ⟨?_, fun y c e z => ?_⟩, I2.bs, Nat.le_trans I2.ok.bsz I2.sz, fun b o e hb => ?_, fun b hb z => ?_, I2.stack, I2.stkFree⟩
 ·exact I2.ok.inj a b c (S.cls.get a c h1) (S.cls.get b c h2)
 ·have hy' : (relabel scope X.env).names.lookup y = some .cell ∨ (relabel scope X.env).names.lookup y = some .free := hy
  have q : (cl.lookup y).isSome = true := by
   rcases hy' with e | e
   ·simpa using look_in S.kinds e
   ·simpa using look_in S.kinds e
  exact Option.isSome_iff_exists.mp q
 ·exact Nat.ne_of_lt (Nat.lt_of_lt_of_le (hex b hb) hC)
 ·exact (f2 b hb).2.2.2.2.1 y c (S.cls.get y c e) z
 ·obtain ⟨_, _, _, d, _, _⟩ := f2 b hb
  rcases d with d | d
  ·exact I2.ok.noex b o e d
  ·exact absurd (Nat.lt_of_lt_of_le (Heap.lt_size e) (Nat.le_trans I2.ok.bsz d)) (Nat.lt_irrefl _)
 ·obtain ⟨_, d1, d2, _⟩ := f2 b hb
  rcases List.mem_cons.mp (I2.stkSub b z) with q | q
  ·exact d1 q
  ·exact d2 q
theorem comp_block {J : It} {fp : List Addr} {it : Addr} {tn : Nat → Heap → Prop} {E : Value → Shared → Prop} {Q : VK} {RR : Value → Addr → Result → Shared → Prop}
 (S : CompOk X x scope cl fr ys) (hc : X.calm = true)
 (hb : ∀ (C : Addr) (s : Shared) (H : Hp) (ex : List Addr) (pn : List (Addr × Obj)), PTs (cxB X (x :: ys) scope cl C s H ex pn) ifs tt ∧ PE (cxB X (x :: ys) scope cl C s H ex pn) elt te)
 (I2 : Inv X pins σ H2 s2) (T : Turn X.prog X.w X.K (.Name x px) J fp it tn) (st2 : tn 0 s2.heap) (f2 : ∀ b ∈ fp, FpOk X pins H2 b)
 (h : tBlk J (fr.map fun j => (σ[j]?).join) tt te H2 Q)
 (hRR : ∀ D C s' H', Inv X pins σ H' s' → (∃ m, s'.heap.Ns C m) → FpOk X pins H' C → Q (.ref D) H' → RR (.ref D) C (.ok .next) s') :
 wpAny (model X.prog X.w) X.A (newList []) (fun acc s3 => wpAny (model X.prog X.w) X.A (newFunctionEnv scope X.env.globals cl [] X.env.qual none .none (some X.env)) (fun cenv s4 =>
  codeAny (model X.prog X.w) X.A (.compStart (.ListComp elt [⟨.Name x px, iter, ifs, 0⟩] scope pos) 0 (.ref it) acc { cenv with scope := relabel scope X.env }) (RR acc cenv.locals) s4) E s3) E s2 := by
 obtain ⟨W, ⟨m0, w0⟩, turn⟩ := h
 refine wpAny_newObj_type (wpAny_newFunctionEnv (fun y hy => by simpa using List.all_eq_true.mp S.nocell y hy) (fun y hy => absurd hy (by simp)) (fun h1 hns hsb => ?_) S.kind)
 dsimp only at hns hsb ⊢
 generalize eP : s2.heap.push { cls := .type "list", dict := none, data := .seq ([] : List Value).toArray } = P2 at hns hsb ⊢
 have sz : P2.objs.size = s2.heap.objs.size + 1 := by rw [← eP, Heap.size_push]
 have hDC : s2.heap.objs.size ≠ P2.objs.size := by walk_at "om"
 have keep : ∀ b o, s2.heap.get? b = some o → h1.get? b = some o := fun b o e => by
  have lt := Heap.lt_size e
  exact hsb.extBut b o (by walk_at "om") (Heap.get?_push_of_some _ (eP ▸ Heap.get?_push_of_some _ e))
 have hD : h1.get? s2.heap.objs.size = some { cls := .type "list", data := .seq ([] : List Value).toArray 0 } :=
  hsb.extBut _ _ hDC (Heap.get?_push_of_some _ (eP ▸ Heap.get?_push_size _ rfl))
 have hfp : ∀ b ∈ fp, b < s2.heap.objs.size := fun b hb => by
  obtain ⟨o, e, _⟩ := T.obj 0 _ st2 b hb
  exact Heap.lt_size e
 have noStk : ∀ b, s2.heap.objs.size ≤ b → b ∉ frs X.stack := fun b hle z => by
  rcases List.mem_cons.mp (I2.stkSub b z) with q | q
  ·have := I2.lt; walk_at "om"
  ·exact I2.nofs hle q
 generalize eC : P2.objs.size = C at hns hsb hDC ⊢
 generalize eD : s2.heap.objs.size = D at hDC hD hfp noStk
 have hCle : s2.heap.objs.size ≤ C := by walk_at "om"
 have hDle : s2.heap.objs.size ≤ D := by walk_at "om"
 have ok' : (cxB X (x :: ys) scope cl C s2 H2 fp (X.pn ++ pins)).Ok := cxB_ok S I2 f2 hCle (fun b hb => by have := hfp b hb; walk_at "om")
 have pinsOk : ∀ p ∈ X.pn ++ pins, p.1 ≠ C ∧ p.1 ≠ D ∧ p.1 ∉ frs X.stack ∧ ∀ b ∈ fp, p.1 ≠ b := fun p hp => by
  obtain ⟨e, n, nL, nf, _⟩ := I2.pin p hp
  have lt := Heap.lt_size e
  refine ⟨by walk_at "om", by walk_at "om", fun z => ?_, fun b hb => (f2 b hb).2.2.2.2.2 p hp⟩
  rcases List.mem_cons.mp (I2.stkSub _ z) with q | q
  ·exact nL q
  ·exact nf q
 have I4 : Inv (cxB X (x :: ys) scope cl C s2 H2 fp (X.pn ++ pins)) [] (none :: fr.map fun j => (σ[j]?).join) H2 { s2 with heap := h1, toks := s2.toks + ([] : List (Str × Value)).length } := by
  refine ⟨ok', rfl, I2.bare, Un.kept keep, ⟨_, hns, fun i y v e1 e2 e3 => ?_⟩, fun y c e => ?_, I2.hok.fresh hCle, fun y c e => I2.freeC y c (S.cls.get y c e), fun p hp => ?_, I2.hok.kept keep, ?_⟩
  ·cases i with
   | zero => simp at e2
   | succ i =>
    simp only [List.getElem?_cons_succ] at e1 e2
    have e1' : ys[i]? = some y := e1
    obtain ⟨j, c, hN, hσ, hk, hc1, hc2⟩ := S.frs.get i y v e1' e2
    obtain ⟨m, hm, hl⟩ := I2.loc
    obtain ⟨u, ru, lu⟩ := hl j y v hN hσ (.inr (.inl hk))
    refine ⟨u, ru, .inr ⟨.inl ?_, c, hc1, ?_⟩⟩
    ·have z := List.all_eq_true.mp S.kfr y (List.mem_of_getElem? e1')
     exact (by simpa using z : (relabel scope X.env).names.lookup y = some .cell)
    ·rcases lu with ⟨z, _⟩ | ⟨_, c', e', q'⟩
     ·rw [hk] at z; cases z
     ·rw [hc2] at e'; cases e'
      obtain ⟨o, ho, hd⟩ := q'
      exact ⟨o, keep _ _ ho, hd⟩
  ·obtain ⟨v, o, ho, hd⟩ := I2.cell y c (S.cls.get y c e)
   exact ⟨v, o, keep _ _ ho, hd⟩
  ·have hp' : p ∈ X.pn ++ pins := by
    have : p ∈ (X.pn ++ pins) ++ [] := hp
    simpa using this
   obtain ⟨e, n, _, _, d⟩ := I2.pin p hp'
   obtain ⟨p1, _, p3, _⟩ := pinsOk p hp'
   exact ⟨keep _ _ e, n, p1, p3, d⟩
  ·show (none :: fr.map fun j => (σ[j]?).join).length = (x :: ys).length
   simp [S.frs.len]
 have st4 : tn 0 h1 := T.keep 0 _ _ st2 fun b _ o e => keep b o e
 have fpB : ∀ (H' : Hp) (o : Obj), (∀ b ∈ fp, H' b = none) → ∀ b ∈ fp, FpOk (cxB X (x :: ys) scope cl C s2 H2 fp (X.pn ++ pins)) [(D, o)] H' b := fun H' o hn b hb => by
  obtain ⟨_, d1, d2, d3, d4, d5⟩ := f2 b hb
  have lt := hfp b hb
  refine ⟨hn b hb, ?_, fun z => ?_, .inl hb, fun y c e => d4 y c (S.cls.get y c e), fun p hp => ?_⟩
  ·show b ≠ C
   walk_at "om"
  ·rcases List.mem_cons.mp (I2.stkSub b z) with q | q
   ·exact d1 q
   ·exact d2 q
  ·have hp' : p ∈ (X.pn ++ pins) ++ [(D, o)] := hp
   rcases List.mem_append.mp hp' with z | z
   ·exact d5 p z
   ·have : p = (D, o) := by simpa using z
    subst this
    show D ≠ b
    walk_at "om"
 have loop : ∀ s' : Shared, s' = { s2 with heap := h1, toks := s2.toks + ([] : List (Str × Value)).length } →
  codeAny (model X.prog X.w) X.A (.compLoop (.ListComp elt [⟨.Name x px, iter, ifs, 0⟩] scope pos) 0 (.ref it) (.ref D) (compEnvC scope cl C X.env)) (RR (.ref D) C) s' := by
  rintro s' rfl
  refine codeAny_compLoop_tests (fun n s' => ∃ i zs H' o its nn, Inv (cxB X (x :: ys) scope cl C s2 H2 fp (X.pn ++ pins)) [] (o :: fr.map fun j => (σ[j]?).join) H' s' ∧ tn i s'.heap ∧ (∀ b ∈ fp, H' b = none) ∧ H' D = none ∧
   s'.heap.get? D = some { cls := .type "list", data := .seq (its : List Value).toArray nn } ∧ Vals zs its ∧ W i n zs H') ?_ m0 ⟨0, [], H2, none, [], 0, I4, st4, fun b hb => (f2 b hb).1, I2.hok.fresh hDle, hD, .nil, w0⟩
  rintro n s3 ⟨i, zs, H3, o3, its, nn, I3, st3, fr3, hD3, oD3, r3, w3⟩
  have I3' : Inv (cxB X (x :: ys) scope cl C s2 H2 fp (X.pn ++ pins)) [(D, { cls := .type "list", data := .seq its.toArray nn })] (o3 :: fr.map fun j => (σ[j]?).join) H3 s3 := I3.pins_of fun p hp => by
   have : p = (D, { cls := .type "list", data := .seq its.toArray nn }) := by simpa using hp
   subst this
   exact ⟨oD3, hD3, hDC, noStk D (Nat.le_refl _), fun v z => nomatch z⟩
  rcases turn i n zs H3 w3 with ⟨stop, hlen, q⟩ | ⟨go, hlen, N, hNN, step⟩
  ·refine wpAny_mono (T.done (cxB X (x :: ys) scope cl C s2 H2 fp (X.pn ++ pins)) rfl rfl rfl hc i _ s3 _ H3 (fun _ _ => False) I3' (fpB H3 _ fr3) st3 stop) (fun r s4 ⟨hr, J4⟩ => ?_) fun _ _ z => z.elim
   subst hr
   have un := J4.base
   have neD : ∀ b o, s2.heap.get? b = some o → b ≠ D := fun b o e => by have := Heap.lt_size e; walk_at "om"
   have neH : ∀ b u, H3 b = some u → b ≠ D := fun b u e z => by rw [z, hD3] at e; cases e
   refine hRR D C s4 (upd H3 D (.lst zs)) ?_ ?_ ?_ (q D hD3)
   ·refine I2.call' (ch := fp) J4.os ⟨un.keep, un.slot, fun b o e nn hx => ?_, un.there, fun b xs e => ?_, fun b o u e => ?_, fun b ps e => ?_⟩ (fun a o e => ?_) J4.bare fun b hb => ?_
    ·rw [upd_ne (neD b o e)]; exact un.free b o e nn hx
    ·have := un.tups b xs e; rw [upd_ne (neH b _ this)]; exact this
    ·have := un.frzs b o u e; rw [upd_ne (neH b _ this)]; exact this
    ·obtain ⟨more, this⟩ := un.tbls b ps e
     exact ⟨more, by rw [upd_ne (neH b _ this)]; exact this⟩
    ·by_cases ha : a = D
     ·subst ha
      rw [upd_same] at e; cases e
      exact ⟨hlen, its, nn, r3, (J4.pin (a, _) (List.mem_append_right _ (List.mem_singleton.mpr rfl))).1⟩
     ·rw [upd_ne ha] at e
      exact (J4.hok a o e).stay (fun _ _ _ z => z) (fun b z => by rw [upd_ne (neH b _ z)]; exact z) fun b xs z => by rw [upd_ne (neH b _ z)]; exact z
    ·obtain ⟨_, d1, d2, d3, d4, d5⟩ := f2 b hb
     exact ⟨d3, d1, d4, d5⟩
   ·obtain ⟨m, hm, _⟩ := J4.loc
    exact ⟨m, hm⟩
   ·exact I2.fpOk hCle (by rw [upd_ne (Ne.symm hDC)]; exact J4.free)
  ·refine wpAny_mono (T.item (cxB X (x :: ys) scope cl C s2 H2 fp (X.pn ++ pins)) rfl rfl rfl hc i _ s3 _ H3 (fun _ _ => False) I3' (fpB H3 _ fr3) st3 go) (fun r s4 ⟨u, hr, h4⟩ => ?_) fun _ _ z => z.elim
   subst hr
   have go' : wpAny (model X.prog X.w) X.A (letOwnedTupleGo (.Name x px) (.ref it) u >>= fun _ => assign (.Name x px) (compEnvC scope cl C X.env) u) (fun _ s5 =>
    wpAny (model X.prog X.w) X.A (forIn ifs true fun c r => if r = true then do let ok ← isTrue c (compEnvC scope cl C X.env) (eval c (compEnvC scope cl C X.env)); pure (ForInStep.yield ok) else pure (ForInStep.yield r)) (fun ok s6 =>
     if ok = true then wpAny (model X.prog X.w) X.A (eval elt (compEnvC scope cl C X.env)) (fun y s7 =>
      wpAny (model X.prog X.w) X.A (call (.builtin "list.append") [.ref D, y]) (fun _ s8 => ∃ m, m < n ∧ ∃ i zs H' o its nn, Inv (cxB X (x :: ys) scope cl C s2 H2 fp (X.pn ++ pins)) [] (o :: fr.map fun j => (σ[j]?).join) H' s8 ∧ tn i s8.heap ∧ (∀ b ∈ fp, H' b = none) ∧ H' D = none ∧
       s8.heap.get? D = some { cls := .type "list", data := .seq (its : List Value).toArray nn } ∧ Vals zs its ∧ W i m zs H') (fun _ _ => False) s7) (fun _ _ => False) s6
     else ∃ m, m < n ∧ ∃ i zs H' o its nn, Inv (cxB X (x :: ys) scope cl C s2 H2 fp (X.pn ++ pins)) [] (o :: fr.map fun j => (σ[j]?).join) H' s6 ∧ tn i s6.heap ∧ (∀ b ∈ fp, H' b = none) ∧ H' D = none ∧
      s6.heap.get? D = some { cls := .type "list", data := .seq (its : List Value).toArray nn } ∧ Vals zs its ∧ W i m zs H') (fun _ _ => False) s5) (fun _ _ => False) s4 := by
    refine wpAny_bind (thn h4 fun _ s5 ⟨y5, H5, I5, r5, yl, st5, fr5⟩ => ?_)
    have I5' := I5.pinned (fpB H5 _ fr5) (T.obj _ _ st5)
    refine thn (pg_name (X := cxB X (x :: ys) scope cl C s2 H2 fp (X.pn ++ pins)) (i := 0) S.nd rfl (.inl (lookup_relabel_local S.own)) (.inr (lookup_relabel_local S.own)) _ s5 _ H5 y5 u (fun σ' H' => σ' = (some y5 :: fr.map fun j => (σ[j]?).join) ∧ H' = H5) I5' r5 ⟨rfl, rfl⟩) fun _ s6 ⟨σ6, H6, I6, e6, e6'⟩ => ?_
    subst e6 e6'
    have after : ∀ (s7 : Shared) (H7 : Hp), Inv (cxB X (x :: ys) scope cl C s2 H2 fp (X.pn ++ pins)) ([(D, { cls := .type "list", data := .seq its.toArray nn })] ++ pinsAt fp s5.heap) (some y5 :: fr.map fun j => (σ[j]?).join) H7 s7 →
     Inv (cxB X (x :: ys) scope cl C s2 H2 fp (X.pn ++ pins)) [] (some y5 :: fr.map fun j => (σ[j]?).join) H7 s7 ∧ tn (i + 1) s7.heap ∧ (∀ b ∈ fp, H7 b = none) ∧ H7 D = none ∧ s7.heap.get? D = some { cls := .type "list", data := .seq its.toArray nn } := fun s7 H7 I7 => by
     have pD := I7.pin (D, { cls := .type "list", data := .seq its.toArray nn }) (List.mem_append_right _ (List.mem_append_left _ (List.mem_singleton.mpr rfl)))
     refine ⟨I7.pins_of fun p hp => absurd hp (by simp), T.keep _ _ _ st5 fun b hb o e => (I7.pin (b, o) (List.mem_append_right _ (List.mem_append_right _ (mem_pinsAt hb e)))).1, fun b hb => ?_, pD.2.1, pD.1⟩
     obtain ⟨o, e, _⟩ := T.obj _ _ st5 b hb
     exact (I7.pin (b, o) (List.mem_append_right _ (List.mem_append_right _ (mem_pinsAt hb e)))).2.1
    refine thn ((hb C s2 H2 fp (X.pn ++ pins)).1 _ s6 _ H6 _ I6 (step y5 H6 yl)) fun ok s7 ⟨H7, I7, q7⟩ => ?_
    dsimp only at q7
    by_cases hok : ok = true
    ·rw [if_pos hok] at q7 ⊢
     refine thn ((hb C s2 H2 fp (X.pn ++ pins)).2 _ s7 _ H7 _ I7 q7) fun yv s8 ⟨y8, H8, I8, r8, n8⟩ => ?_
     obtain ⟨m', hm', w8⟩ := hNN _ _ n8
     obtain ⟨J8, st8, fr8, hD8, oD8⟩ := after s8 H8 I8
     have hl := r3.length
     refine call_meets F.slot_list_append ⟨_, oD8, rfl⟩ F.entry_list_append (F.args_list_append_2 _ _) (PySem.list_append D its.toArray nn yv (by rw [List.size_toArray]; walk_at "om")) ⟨oD8, ?_⟩
     have oD9 := PySem.IsL.update oD8 (fun a => a.push yv)
     rw [List.push_toArray] at oD9
     refine ⟨m', hm', i + 1, zs ++ [y8], H8, some y5, its ++ [yv], _, J8.turned (it := D) (fun b o hb' e => (Heap.get?_update_other _ _ (Ne.symm hb')).trans e) hD8 hDC (.inr hDle) (fun y c e z => ?_) (fun p hp => ?_), T.keep _ _ _ st8 fun b hb' o e => ?_, fr8, hD8, oD9, r3.append (.cons r8 .nil), w8⟩
     ·obtain ⟨v, o, ho, _⟩ := I2.cell y c (S.cls.get y c e)
      have := Heap.lt_size ho
      walk_at "om"
     ·have hp' : p ∈ X.pn ++ pins := by
       have : p ∈ (X.pn ++ pins) ++ [] := hp
       simpa using this
      exact (pinsOk p hp').2.1
     ·have := hfp b hb'
      exact (Heap.get?_update_other _ _ (by walk_at "om")).trans e
    ·rw [if_neg hok] at q7 ⊢
     obtain ⟨m', hm', w7⟩ := hNN _ _ q7
     obtain ⟨J7, st7, fr7, hD7, oD7⟩ := after s7 H7 I7
     exact ⟨m', hm', i + 1, zs, H7, some y5, its, nn, J7, st7, fr7, hD7, oD7, r3, w7⟩
   have e0 : (letOwnedTupleGo (.Name x px) (.ref it) u >>= fun _ => assign (.Name x px) (compEnvC scope cl C X.env) u) = assign (.Name x px) (compEnvC scope cl C X.env) u := rfl
   rw [e0] at go'
   refine wpAny_mono go' (fun _ s5 h5 => wpAny_mono h5 (fun ok s6 h6 => ?_) fun _ _ z => z.elim) fun _ _ z => z.elim
   by_cases hok : ok = true
   ·rw [if_pos hok] at h6 ⊢
    exact wpAny_mono h6 (fun y s7 h7 => wpAny_mono h7 (fun _ _ z => z) fun _ _ z => z.elim) fun _ _ z => z.elim
   ·rw [if_neg hok] at h6 ⊢
    exact h6
 exact codeAny_compStart_list (loop _ rfl) (T.self X.A 0 _ _ _ st4 (loop _ rfl))
theorem pe_comp {wi : TI} (S : CompOk X x scope cl fr ys) (hc : X.calm = true) (hi : PI X (.Name x px) iter wi)
 (hb : ∀ (C : Addr) (s : Shared) (H : Hp) (ex : List Addr) (pn : List (Addr × Obj)), PTs (cxB X (x :: ys) scope cl C s H ex pn) ifs tt ∧ PE (cxB X (x :: ys) scope cl C s H ex pn) elt te)
 (hs : ∀ z, foldedSetIterable iter X.env z = pure z := by intro _; rfl) : PE X (.ListComp elt [⟨.Name x px, iter, ifs, 0⟩] scope pos) (tComp wi fr tt te) := by
 intro pins s σ H Q I h
 rw [eval_ListComp]
 refine wpAny_comprehension_free (use := none) rfl hs S.clos S.kind (fun y hy hl => ?_) (thn (hi pins s σ H _ I h) fun xv s1 h1 => thn h1 fun itv s2 h2 => ?_)
 ·have z := List.all_eq_true.mp S.names y hy
  rw [hl] at z
  simpa using z
 ·obtain ⟨it, fp, tn, J, H2, rfl, I2, T, st2, f2, hB⟩ := h2
  refine comp_block (RR := fun acc C => compPost (model X.prog X.w) X.A X.xe none (EP X pins σ Q) acc C) S hc hb I2 T st2 f2 hB fun D C s' H' J' hn fC q => ?_
  obtain ⟨m, hm⟩ := hn
  obtain ⟨c0, c1, c2, c3, c4, c5⟩ := fC
  exact ⟨m, hm, fun h' sb => ⟨.ref D, H', J'.turned (it := C) (fun b o hb e => sb.extBut b o hb e) c0 c1 c3 c4 c5, rfl, q⟩⟩
def tSetC (i : Nat) (te : TE) : TS := fun D σ H => te σ H fun v H1 => D.nx (σ.set i (some v)) H1
end
def compGo (Ok : Hp → Prop) (ρ : L2.St) (tt : TT) (te : TE) : List V → List V → Hp → (List V → Hp → Prop) → Prop
 | [], ys, H, Q => Ok H ∧ Q ys H
 | x :: r, ys, H, Q => Ok H ∧ tt (some x :: ρ) H fun b H1 => if b = true then te (some x :: ρ) H1 fun y H2 => compGo Ok ρ tt te r (ys ++ [y]) H2 Q else compGo Ok ρ tt te r ys H1 Q
structure ItOf (J : It) (Ok : Hp → Prop) (xs : List V) : Prop where
 go : ∀ i H x, Ok H → xs[i]? = some x → J.go i H
 yld : ∀ i H x H', Ok H → J.yld i H x H' → H' = H ∧ (i < xs.length → xs[i]? = some x)
 stop : ∀ i H, Ok H → xs.length ≤ i → J.stop i H
section
variable {J : It} {Ok : Hp → Prop} {xs : List V} {ρ : L2.St} {tt : TT} {te : TE} {H : Hp} {Q : VK} {K : PySem.W.Frag} {a : Addr}
theorem blk_of (O : ItOf J Ok xs) (hn : xs.length ≤ sizeLine) (h : compGo Ok ρ tt te xs [] H fun ys H' => ∀ l, H' l = none → Q (.ref l) (upd H' l (.lst ys))) : tBlk J ρ tt te H Q := by
 refine ⟨fun i m ys H => m = xs.length - i ∧ i ≤ xs.length ∧ ys.length ≤ i ∧ compGo Ok ρ tt te (xs.drop i) ys H fun ys H' => ∀ l, H' l = none → Q (.ref l) (upd H' l (.lst ys)), ⟨_, rfl, Nat.zero_le _, Nat.le_refl _, h⟩, ?_⟩
 rintro i m ys H ⟨rfl, hi, hy, g⟩
 by_cases hlt : i < xs.length
 ·have e := List.drop_eq_getElem_cons hlt
  rw [e] at g
  obtain ⟨g0, g1⟩ := g
  refine .inr ⟨O.go i H _ g0 (List.getElem?_eq_getElem hlt), by walk_at "om", fun zs H' => zs.length ≤ i + 1 ∧ compGo Ok ρ tt te (xs.drop (i + 1)) zs H' fun ys H' => ∀ l, H' l = none → Q (.ref l) (upd H' l (.lst ys)), fun zs H' q => ⟨_, by walk_at "om", rfl, hlt, q.1, q.2⟩, fun x H' y => ?_⟩
  obtain ⟨rfl, ex⟩ := O.yld i H x H' g0 y
  have ex := ex hlt
  rw [List.getElem?_eq_getElem hlt] at ex
  cases ex
  have l1 : ∀ y : V, (ys ++ [y]).length ≤ i + 1 := fun y => by rw [List.length_append, List.length_singleton]; walk_at "om"
  have l2 : ys.length ≤ i + 1 := by walk_at "om"
  simp only [l1, l2, true_and]
  exact g1
 ·have e : i = xs.length := by walk_at "om"
  subst e
  rw [List.drop_length] at g
  exact .inl ⟨O.stop _ H g.1 (Nat.le_refl _), by walk_at "om", g.2⟩
theorem it_list : ItOf (Itl K a) (fun H => SqL K H a xs) xs :=
 ⟨fun _ _ _ h e => ⟨xs, _, h, e⟩, fun _ _ _ _ h y => ⟨y.1, fun _ => y.2 xs h⟩, fun _ _ h hi => ⟨xs, h, hi⟩⟩
theorem it_tup : ItOf (Itt K a) (fun H => SqT K H a xs) xs :=
 ⟨fun _ _ _ h e => ⟨xs, _, h, e⟩, fun _ _ _ _ h y => ⟨y.1, fun _ => y.2 xs h⟩, fun _ _ h hi => ⟨xs, h, hi⟩⟩
theorem it_rng {lo : Int} {n : Nat} : ItOf (Itr lo n) (fun _ => True) ((List.range n).map fun k => V.int (lo + (k : Nat))) :=
 ⟨fun i _ _ _ e => by
  have := (List.getElem?_eq_some_iff.mp e).1
  show i < n
  simpa using this, fun i _ _ _ _ y => ⟨y.1, fun hi => by
   have hi' : i < n := by simpa using hi
   rw [y.2, List.getElem?_map, List.getElem?_range hi']; rfl⟩, fun i _ _ hi => by
   show n ≤ i
   simpa using hi⟩
theorem compGo_map {p : V → Bool} {f : V → V} {Q' : List V → Hp → Prop} (hOk : Ok H) : ∀ {xs ys : List V}, (∀ x ∈ xs, ∀ Q, Q (p x) H → tt (some x :: ρ) H Q) → (∀ x ∈ xs, p x = true → ∀ Q, Q (f x) H → te (some x :: ρ) H Q) → Q' (ys ++ (xs.filter p).map f) H → compGo Ok ρ tt te xs ys H Q'
 | [], ys, _, _, q => ⟨hOk, by simpa using q⟩
 | x :: r, ys, ht, he, q => by
  refine ⟨hOk, ht x (.head _) _ ?_⟩
  by_cases hb : p x = true
  ·rw [if_pos hb]
   refine he x (.head _) hb _ (compGo_map hOk (fun y hy => ht y (.tail _ hy)) (fun y hy => he y (.tail _ hy)) ?_)
   rw [List.filter_cons, if_pos hb] at q
   simpa using q
  ·rw [if_neg hb]
   refine compGo_map hOk (fun y hy => ht y (.tail _ hy)) (fun y hy => he y (.tail _ hy)) ?_
   rw [List.filter_cons, if_neg hb] at q
   exact q
end
section
variable {X : Cx} {K : PySem.W.Frag}
theorem ix_seqK (h : X.K = K) : IxR X (rIx K) := h ▸ ix_seq
end
end Gz
namespace Gz
open PySem PySem.Spec PyProof.Rows L2
mutual
inductive Dat (K : PySem.W.Frag) (H : Hp) : V → PyData → Prop where
 | non : Dat K H .non .none
 | bl (b : Bool) : Dat K H (.bl b) (.bool b)
 | int (i : Int) : Dat K H (.int i) (.int i)
 | str (x : Str) : Dat K H (.str x) (.str x)
 | tup {a : Addr} {xs : List V} {ds : List PyData} (h : SqT K H a xs) (r : Dats K H xs ds) : Dat K H (.ref a) (.tuple ds)
 | lst {a : Addr} {xs : List V} {ds : List PyData} (h : SqL K H a xs) (r : Dats K H xs ds) : Dat K H (.ref a) (.list ds)
inductive Dats (K : PySem.W.Frag) (H : Hp) : List V → List PyData → Prop where
 | nil : Dats K H [] []
 | cons {x : V} {d : PyData} {xs : List V} {ds : List PyData} (h : Dat K H x d) (r : Dats K H xs ds) : Dats K H (x :: xs) (d :: ds)
end
section
variable {X : Cx} {pins : List (Addr × Obj)} {σ : L2.St} {H : Hp} {s : Shared}
mutual
theorem Dat.reads (I : Inv X pins σ H s) : ∀ (d : PyData) {v : V} {u : Value}, Dat X.K H v d → RelV v u → ∃ as, Reads s.heap u d as
 | .none, _, _, .non, r => by cases r; exact ⟨_, .none⟩
 | .bool b, _, _, .bl _, r => by cases r; exact ⟨_, .bool b⟩
 | .int i, _, _, .int _, r => by obtain ⟨t, rfl⟩ := r; exact ⟨_, .int i t⟩
 | .str x, _, _, .str _, r => by obtain ⟨t, rfl⟩ := r; exact ⟨_, .str x t⟩
 | .tuple ds, _, _, .tup h q, r => by
  cases r
  obtain ⟨its, rv, ⟨o, ho, hc, n, hd⟩, _⟩ := I.tuple h
  obtain ⟨as, ra⟩ := Dats.reads I ds q rv
  exact ⟨_, .tuple ho hc hd (by simpa using ra)⟩
 | .list ds, _, _, .lst h q, r => by
  cases r
  obtain ⟨its, rv, ⟨o, n, ho, hc, _, hd⟩, _⟩ := I.list h
  obtain ⟨as, ra⟩ := Dats.reads I ds q rv
  exact ⟨_, .list ho hc hd (by simpa using ra)⟩
theorem Dats.reads (I : Inv X pins σ H s) : ∀ (ds : List PyData) {vs : List V} {us : List Value}, Dats X.K H vs ds → Vals vs us → ∃ as, ReadsAll s.heap us ds as
 | [], _, _, .nil, r => by cases r; exact ⟨_, .nil⟩
 | d :: ds, _, _, .cons h q, r => by
  cases r with
  | cons r1 r2 =>
   obtain ⟨as, ra⟩ := Dat.reads I d h r1
   obtain ⟨bs, rb⟩ := Dats.reads I ds q r2
   exact ⟨_, .cons ra rb⟩
end
def rEqD (K : PySem.W.Frag) (neg : Bool) : R2 := fun x y H Q => ∃ d e, Dat K H x d ∧ Dat K H y e ∧ d.canLay0 = true ∧ e.canLay0 = true ∧ d.depth ≤ 60 ∧ Q (.bl (if neg = true then !PyData.eqv d e else PyData.eqv d e)) H
theorem op_eqD (hu : X.A.units + 64 < cLine) : OpR X (compareOp .Eq) (rEqD X.K false) := by
 intro pins s σ H x y v u Q I rx ry h
 obtain ⟨d, e, dx, dy, c1, c2, dd, q⟩ := h
 obtain ⟨as, ra⟩ := Dat.reads I d dx rx
 obtain ⟨bs, rb⟩ := Dat.reads I e dy ry
 exact SeqAt.compareEq_reads ra rb c1 c2 (by omega) ⟨.bl _, H, I, rfl, q⟩
theorem op_neD (hu : X.A.units + 64 < cLine) : OpR X (compareOp .NotEq) (rEqD X.K true) := by
 intro pins s σ H x y v u Q I rx ry h
 obtain ⟨d, e, dx, dy, c1, c2, dd, q⟩ := h
 obtain ⟨as, ra⟩ := Dat.reads I d dx rx
 obtain ⟨bs, rb⟩ := Dat.reads I e dy ry
 exact SeqAt.compareNe_reads ra rb c1 c2 (by omega) ⟨.bl _, H, I, rfl, q⟩
end
end Gz
namespace Gz
open PySem PySem.Spec PyProof.Rows L2
abbrev En := Option Int
def ev : En → V
 | none => .non
 | some i => .int i
theorem ev_none : ev none = .non := rfl
theorem ev_some (i : Int) : ev (some i) = .int i := rfl
def crossed : En → En → Bool
 | some x, some y => decide (y < x)
 | _, _ => false
def IsS (H : Hp) (v : V) (a b : En) : Prop := ∃ p, v = .ref p ∧ H p = some (.tup [ev a, ev b])
theorem IsS.same {H H1 : Hp} {v : V} {a b : En} (h : IsS H v a b) (s : Same H H1) : IsS H1 v a b := by
 obtain ⟨p, e, h⟩ := h
 exact ⟨p, e, s _ _ h⟩
theorem IsS.new {H : Hp} {p : Addr} {a b : En} : IsS (upd H p (.tup [ev a, ev b])) (.ref p) a b := ⟨p, rfl, upd_same⟩
def hold (a b : En) (n : Int) : Bool := !crossed a (some n) && !crossed (some n) b
theorem hold_iff {a b : En} {n : Int} : hold a b n = true ↔ (∀ x, a = some x → x ≤ n) ∧ (∀ y, b = some y → n ≤ y) := by
 unfold hold
 rcases a with _ | x <;> rcases b with _ | y <;> simp [crossed]
theorem hold_none (b : En) (n : Int) : hold none b n = !crossed (some n) b := by unfold hold crossed; simp
theorem hold_hi (y n : Int) : hold none (some y) n = decide (n ≤ y) := by
 rw [hold_none]
 by_cases h : y < n
 ·simp [crossed, h]
 ·simp [crossed, h]; omega
theorem hold_lo {x n : Int} (b : En) (h : ¬ n < x) : hold (some x) b n = hold none b n := by unfold hold; simp [crossed, h]
theorem hold_out {x n : Int} (b : En) (h : n < x) : hold (some x) b n = false := by unfold hold; simp [crossed, h]
def maxE : En → En → En
 | some x, some y => some (if y > x then y else x)
 | some x, none => some x
 | none, b => b
def minE : En → En → En
 | some x, some y => some (if y < x then y else x)
 | some x, none => some x
 | none, b => b
def nums (a b : En) : List Int := [a, b].filterMap id
def notN (v : V) : Bool := !decide (v = .non)
theorem nums_V (a b : En) : ([ev a, ev b].filter notN).map (fun v => v) = (nums a b).map V.int := by
 rcases a with _ | x <;> rcases b with _ | y <;> simp [ev, nums, notN]
theorem max_nums (a b : En) : mmV maxL (nums a b) .non = ev (maxE a b) := by
 rcases a with _ | x <;> rcases b with _ | y <;> simp [nums, maxE, maxL, mmV, ev]
theorem min_nums (a b : En) : mmV minL (nums a b) .non = ev (minE a b) := by
 rcases a with _ | x <;> rcases b with _ | y <;> simp [nums, minE, minL, mmV, ev]
def MeetIs (H : Hp) (v : V) (lo hi : En) : Prop := (crossed lo hi = true → v = .non) ∧ (crossed lo hi = false → IsS H v lo hi)
theorem comp_ends {K : PySem.W.Frag} {H : Hp} {p : Addr} {a b : En} {Q : VK} {tt : TT} {te : TE} (hp : H p = some (.tup [ev a, ev b])) (ht : ∀ x H Q, Q (notN x) H → tt [some x] H Q) (he : ∀ x H Q, Q x H → te [some x] H Q)
 (q : ∀ l, H l = none → Q (.ref l) (upd H l (.lst ((nums a b).map V.int)))) : tBlk (Itt K p) [] tt te H Q := by
 refine blk_of (xs := [ev a, ev b]) it_tup line2 (compGo_map (p := notN) (f := fun v => v) (SqT.of hp) (fun x _ Q h => ht x H Q h) (fun x _ _ Q h => he x H Q h) ?_)
 rw [List.nil_append, nums_V]
 exact q
end Gz
namespace Gz
open L2
abbrev S2 := En × En
def hs (s : S2) (n : Int) : Bool := hold s.1 s.2 n
def okS (s : S2) : Prop := crossed s.1 s.2 = false
def leLo (a b : En) : Prop := a = none ∨ ∃ x y, a = some x ∧ b = some y ∧ x ≤ y
theorem leLo.trans {a b c : En} (h : leLo a b) (h' : leLo b c) : leLo a c := by
 rcases h with rfl | ⟨x, y, rfl, rfl, h1⟩
 ·exact .inl rfl
 ·rcases h' with h' | ⟨x', y', e, rfl, h2⟩
  ·cases h'
  ·cases e; exact .inr ⟨_, _, rfl, rfl, by omega⟩
def gap2 (p q : S2) : Prop := ∃ h l, p.2 = some h ∧ q.1 = some l ∧ h + 2 ≤ l
def Apart : List S2 → Prop
 | x :: y :: r => gap2 x y ∧ Apart (y :: r)
 | _ => True
theorem Apart.get : ∀ {l : List S2} {k : Nat} {p q : S2}, Apart l → l[k]? = some p → l[k + 1]? = some q → gap2 p q
 | [], _, _, _, _, e, _ => by simp at e
 | [_], _, _, _, _, _, e => by simp at e
 | x :: y :: r, 0, p, q, h, e, e' => by simp at e e'; subst e e'; exact h.1
 | x :: y :: r, k + 1, p, q, h, e, e' => Apart.get (l := y :: r) (k := k) h.2 (by simpa using e) (by simpa using e')
def leHi (a b : En) : Prop := b = none ∨ ∃ x y, a = some x ∧ b = some y ∧ x ≤ y
theorem leHi.trans {a b c : En} (h : leHi a b) (h' : leHi b c) : leHi a c := by
 rcases h' with rfl | ⟨x', y', rfl, rfl, h2⟩
 ·exact .inl rfl
 ·rcases h with h | ⟨x, y, rfl, e, h1⟩
  ·cases h
  ·cases e; exact .inr ⟨_, _, rfl, rfl, by omega⟩
open PySem in
def Sts (H : Hp) : List V → List S2 → Prop
 | [], [] => True
 | v :: vs, s :: ss => IsS H v s.1 s.2 ∧ Sts H vs ss
 | _, _ => False
section
variable {H H1 : Hp} {K : PySem.W.Frag}
theorem Sts.len : ∀ {vs : List V} {ss : List S2}, Sts H vs ss → vs.length = ss.length
 | [], [], _ => rfl
 | _ :: _, _ :: _, h => by simp [Sts.len h.2]
 | [], _ :: _, h => h.elim
 | _ :: _, [], h => h.elim
theorem Sts.get : ∀ {vs : List V} {ss : List S2} {i : Nat} {v : V}, Sts H vs ss → vs[i]? = some v → ∃ s, ss[i]? = some s ∧ IsS H v s.1 s.2
 | [], [], _, _, _, e => by simp at e
 | _ :: _, s :: _, 0, _, h, e => by simp at e; subst e; exact ⟨s, rfl, h.1⟩
 | _ :: _, _ :: _, i + 1, _, h, e => by
  obtain ⟨s, a, b⟩ := Sts.get (i := i) h.2 (by simpa using e)
  exact ⟨s, by simpa using a, b⟩
 | [], _ :: _, _, _, h, _ => h.elim
 | _ :: _, [], _, _, h, _ => h.elim
open PySem
def datE : En → PyData
 | none => .none
 | some i => .int i
def datS (s : S2) : PyData := .tuple [datE s.1, datE s.2]
theorem dat_ev (e : En) : Dat K H (ev e) (datE e) := by
 rcases e with _ | x
 ·exact .non
 ·exact .int x
theorem IsS.dat {v : V} {a b : En} (h : IsS H v a b) : Dat K H v (datS (a, b)) := by
 obtain ⟨p, rfl, h⟩ := h
 exact .tup (SqT.of h) (.cons (dat_ev a) (.cons (dat_ev b) .nil))
end
end Gz
namespace Gz
open PySem PySem.Spec PyProof.Rows L2
def Its (lo st : Int) (n : Nat) : It := ⟨fun i _ => i < n, fun i H x H' => H' = H ∧ x = .int (lo + (i : Int) * st), fun i _ => n ≤ i⟩
def stepN (lo hi st : Int) : Nat := (Builtin.Range.rangeSize lo hi st).toNat
def iRng3 (ta : TA) : TI := fun σ H R => ta σ H fun vs H1 => ∃ i j c : Int, vs = [.int i, .int j, .int c] ∧ (-1000000 ≤ i ∧ i ≤ 1000000 ∧ -1000000 ≤ j ∧ j ≤ 1000000 ∧ -1000000 ≤ c ∧ c ≤ 1000000 ∧ c ≠ 0) ∧ R (Its i c (stepN i j c)) H1
section
variable {g : TG} {tb : TS} {D : Ends} {σ : L2.St} {H : Hp} {lo st : Int} {n : Nat}
theorem for_rng2 {ta : TA} : tFor (iRng2 ta) g tb D σ H = ta σ H (fun vs H1 => ∃ i j : Int, vs = [.int i, .int j] ∧ (-(2 ^ 62) ≤ i ∧ i < 2 ^ 62 ∧ -(2 ^ 62) ≤ j ∧ j < 2 ^ 62) ∧ FJ (Itr i (j - i).toNat) g tb D σ H1) := rfl
theorem for_rng3 {ta : TA} : tFor (iRng3 ta) g tb D σ H = ta σ H (fun vs H1 => ∃ i j c : Int, vs = [.int i, .int j, .int c] ∧ (-1000000 ≤ i ∧ i ≤ 1000000 ∧ -1000000 ≤ j ∧ j ≤ 1000000 ∧ -1000000 ≤ c ∧ c ≤ 1000000 ∧ c ≠ 0) ∧ FJ (Its i c (stepN i j c)) g tb D σ H1) := rfl
end
end Gz
namespace Gz
open PySem PySem.Spec PyProof.Rows L2
local macro_rules | `(tactic| walk_at "om") => `(tactic| ((try simp only [PySem.Addr] at *); omega))
section
variable {X : Cx} {pins : List (Addr × Obj)} {σ : L2.St} {H : Hp} {s : Shared} {h' : Heap}
theorem turnsHok {ch : List Addr} (I : Inv X pins σ H s) (k : ∀ b o, b ∉ ch → s.heap.get? b = some o → h'.get? b = some o) (hf : ∀ b ∈ ch, FpOk X pins H b) {H' : Hp} (up : ∀ b u, H b = some u → H' b = some u) : ∀ b u, H b = some u → ObjOk X.prog X.w H' h' b u := by
 have nch : ∀ b u, H b = some u → b ∉ ch := fun b u e z => by rw [(hf b z).1] at e; cases e
 intro b u e
 refine (I.hok b u e).stay (fun c v hc q => k c v ?_ q) (fun c q => up c _ q) fun c xs q => up c _ q
 rcases hc with z | z
 ·rw [z]; exact nch b u e
 ·exact nch c _ z
theorem Inv_turns {t' : Nat} {ch : List Addr} (I : Inv X pins σ H s) (k : ∀ b o, b ∉ ch → s.heap.get? b = some o → h'.get? b = some o) (hf : ∀ b ∈ ch, FpOk X pins H b) : Inv X pins σ H { s with heap := h', toks := t' } := by
 refine I.step (g' := s.gens) (d' := s.drawn) (ch := ch) (fun b hb => ?_) (fun b o _ _ hc e _ => k b o hc e) (fun b o _ _ hc e _ => ⟨o.slots, k b o hc e⟩) (fun _ _ _ _ n => n)
  (fun b o hc e => ⟨o, k b o hc e⟩) (fun _ _ e => e) (fun _ _ _ e => e) (fun b ps e => ⟨#[], by rw [e]; simp⟩) (fun m hm => ?_) (fun b u e => turnsHok I k hf (fun _ _ q => q) b u e) I.bare
 ·obtain ⟨_, d1, d2, d3, d4, d5⟩ := hf b hb
  exact ⟨d3, d1, d4, d5⟩
 ·obtain ⟨o, es, ep, ho, r⟩ := hm
  exact ⟨o, es, ep, k _ o (fun z => (hf _ z).2.1 rfl) ho, r⟩
theorem Inv_turnsLaid {t' : Nat} {ch : List Addr} {T : Addr} {o : HO} (I : Inv X pins σ H s) (k : ∀ b o, b ∉ ch → s.heap.get? b = some o → h'.get? b = some o) (hf : ∀ b ∈ ch, FpOk X pins H b) (hT : s.heap.objs.size ≤ T)
 (new : ObjOk X.prog X.w (upd H T o) h' T o) : Inv X pins σ (upd H T o) { s with heap := h', toks := t' } := by
 have hn := I.hok.fresh hT
 have neT : ∀ b u, s.heap.get? b = some u → b ≠ T := fun b u e => Nat.ne_of_lt (Nat.lt_of_lt_of_le (Heap.lt_size e) hT)
 have neH : ∀ b u, H b = some u → b ≠ T := fun b u e => ne_of_none e hn
 have up : ∀ b u, H b = some u → upd H T o b = some u := fun b u e => by rw [upd_ne (neH b u e)]; exact e
 refine I.step (g' := s.gens) (d' := s.drawn) (ch := ch) (fun b hb => ?_) (fun b o _ _ hc e _ => k b o hc e) (fun b o _ _ hc e _ => ⟨o.slots, k b o hc e⟩) (fun b u _ e n => by rw [upd_ne (neT b u e)]; exact n)
  (fun b o hc e => ⟨o, k b o hc e⟩) (fun b xs e => up b _ e) (fun b _ _ e => up b _ e) (fun b ps e => ⟨#[], by rw [up b _ e]; simp⟩) (fun m hm => ?_) (fun b u e => ?_) I.bare
 ·obtain ⟨_, d1, d2, d3, d4, d5⟩ := hf b hb
  exact ⟨d3, d1, d4, d5⟩
 ·obtain ⟨o, es, ep, ho, r⟩ := hm
  exact ⟨o, es, ep, k _ o (fun z => (hf _ z).2.1 rfl) ho, r⟩
 ·by_cases hb : b = T
  ·subst hb; rw [upd_same] at e; cases e; exact new
  ·rw [upd_ne hb] at e
   exact turnsHok I k hf up b u e
end
def Itv (K : PySem.W.Frag) (a : Addr) (n : Nat) : It :=
 ⟨fun i H => ∃ xs x, SqL K H a xs ∧ xs.length = n ∧ xs.reverse[i]? = some x, fun i H x H' => H' = H ∧ ∀ xs, SqL K H a xs → xs.length = n → xs.reverse[i]? = some x, fun i _ => i = n⟩
def iRev (K : PySem.W.Frag) (ta : TA) : TI := fun σ H R => ta σ H fun vs H1 => ∃ a xs, vs = [.ref a] ∧ SqL K H1 a xs ∧ R (Itv K a xs.length) H1
def Ite (K : PySem.W.Frag) (a : Addr) : It :=
 ⟨fun i H => ∃ xs x, SqL K H a xs ∧ xs[i]? = some x, fun i H v H' => ∃ (p : Addr) (x : V), v = .ref p ∧ H p = none ∧ H' = upd H p (.tup [.int i, x]) ∧ ∀ xs, SqL K H a xs → xs[i]? = some x, fun i H => ∃ xs, SqL K H a xs ∧ xs.length ≤ i⟩
def iEnum (K : PySem.W.Frag) (ta : TA) : TI := fun σ H R => ta σ H fun vs H1 => ∃ a, vs = [.ref a] ∧ (∃ xs, SqL K H1 a xs) ∧ R (Ite K a) H1
def Itz (K : PySem.W.Frag) (a b : Addr) : It :=
 ⟨fun i H => ∃ xs ys x y, SqL K H a xs ∧ SqL K H b ys ∧ xs[i]? = some x ∧ ys[i]? = some y, fun i H v H' => ∃ (p : Addr) (x y : V), v = .ref p ∧ H p = none ∧ H' = upd H p (.tup [x, y]) ∧ (∀ xs, SqL K H a xs → xs[i]? = some x) ∧ ∀ ys, SqL K H b ys → ys[i]? = some y,
  fun i H => ∃ xs ys, SqL K H a xs ∧ SqL K H b ys ∧ (xs.length ≤ i ∨ ys.length ≤ i)⟩
def iZip (K : PySem.W.Frag) (ta : TA) : TI := fun σ H R => ta σ H fun vs H1 => ∃ a b, vs = [.ref a, .ref b] ∧ (∃ xs, SqL K H1 a xs) ∧ (∃ ys, SqL K H1 b ys) ∧ R (Itz K a b) H1
section
variable {X : Cx}
theorem bools_are : ∀ {bs : List Bool} {its : List Value}, Vals (bs.map V.bl) its → its = bs.map Value.bool
 | [], its, r => by cases r; rfl
 | b :: bs, its, r => by
  cases r with
  | cons r1 r2 =>
   cases r1
   rw [bools_are r2]; rfl
theorem call_allL (hc : X.calm = true) : CallR X (.builtin "all") (fun xs H Q => ∃ (a : Addr) (bs : List Bool), xs = [.ref a] ∧ SqL X.K H a (bs.map V.bl) ∧ Q (.bl (bs.all id)) H) := by
 intro pins s σ H xs us Q I r h
 obtain ⟨a, bs, rfl, hS, q⟩ := h
 obtain ⟨u, rfl, ru⟩ := vals1 r
 cases ru
 obtain ⟨its, rv, hp, _⟩ := I.list hS
 have e := bools_are rv
 subst e
 have hl := hp.isList
 have hlt : a < s.heap.objs.size := by obtain ⟨_, e, _⟩ := hl; exact Heap.lt_size e
 refine call_all_walk (wpAny_pyIter_list hl ?_)
 refine ⟨s.heap.objs.size, [s.heap.objs.size, a], [s.heap.objs.size], (bs.map Value.bool).toArray.size, _, _, fun i => (bs[i]?).getD true, rfl, Walks.list (A := X.A.in1) (I.ok.hd hc) _ a (Nat.ne_of_lt hlt) (bs.map Value.bool).toArray, ⟨⟨_, Heap.get?_push_size _ rfl, rfl, rfl⟩, hl.push _⟩, fun i v s' Q' E' hP hQ => ?_, fun h' tk hk => ?_⟩
 ·have hP' : (bs[i]?).map Value.bool = some v := by simpa using hP
  cases e : bs[i]? with
  | none => rw [e] at hP'; cases hP'
  | some b =>
   rw [e] at hP'; cases hP'
   simp only [e, Option.getD_some] at hQ
   exact wpAny_truthy_bool hQ
 ·have e : ((List.range (bs.map Value.bool).toArray.size).all fun i => (bs[i]?).getD true) = bs.all id := by
   rw [List.size_toArray, List.length_map]; exact PyProof.Rows.LSm.range_all bs
  rw [e]
  exact ⟨.bl (bs.all id), H, I.kept (fun b o q => hk b o (fun z => by
   have : b = s.heap.objs.size := by simpa using z
   rw [this] at q; exact Nat.lt_irrefl _ (Heap.lt_size q)) (Heap.get?_push_of_some _ q)), rfl, q⟩
end
section
variable {K : PySem.W.Frag} {g : TG} {tb : TS} {D : Ends} {σ : L2.St} {H : Hp} {a b : Addr} {xs ys : List V}
theorem for_rev {ta : TA} : tFor (iRev K ta) g tb D σ H = ta σ H (fun vs H1 => ∃ a xs, vs = [.ref a] ∧ SqL K H1 a xs ∧ FJ (Itv K a xs.length) g tb D σ H1) := rfl
theorem for_enum {ta : TA} : tFor (iEnum K ta) g tb D σ H = ta σ H (fun vs H1 => ∃ a, vs = [.ref a] ∧ (∃ xs, SqL K H1 a xs) ∧ FJ (Ite K a) g tb D σ H1) := rfl
theorem for_zip {ta : TA} : tFor (iZip K ta) g tb D σ H = ta σ H (fun vs H1 => ∃ a b, vs = [.ref a, .ref b] ∧ (∃ xs, SqL K H1 a xs) ∧ (∃ ys, SqL K H1 b ys) ∧ FJ (Itz K a b) g tb D σ H1) := rfl
end
theorem gTup2 {K : PySem.W.Frag} {i j : Nat} {p : Addr} {x y : V} {σ : L2.St} {H : Hp} {Q : L2.St → Hp → Prop} (h : SqT K H p [x, y]) (q : Q ((σ.set i (some x)).set j (some y)) H) : gTup K 2 (gCons (gName i) (gCons (gName j) gNil)) (.ref p) σ H Q :=
 ⟨p, [x, y], rfl, h, rfl, x, [y], rfl, y, [], rfl, rfl, q⟩
end Gz
namespace Gz
open PySem PySem.Spec PyProof.Rows L2
local macro_rules | `(tactic| walk_at "om") => `(tactic| ((try simp only [PySem.Addr] at *); omega))
structure CompOkG (X : Cx) (own : List Str) (scope : Scope) (cl : List (Str × Addr)) (fr : List Nat) (ys : List Str) : Prop where
 clos : closureFor scope X.env = pure cl
 nocell : (scope.names.all fun p => p.2 != .cell) = true
 kind : scope.kind = .function
 names : (scope.names.all fun p => p.2 != .local || scope.names.lookup p.1 == some .local) = true
 kinds : ((relabel scope X.env).names.all fun p => (p.2 != .cell && p.2 != .free) || (cl.lookup p.1).isSome) = true
 cls : ClOk X cl
 frs : FrOk X scope cl fr ys
 kfr : (ys.all fun y => (relabel scope X.env).names.lookup y == some .cell) = true
def tBlkG (k : Nat) (J : It) (g : TG) (ρ : L2.St) (tt : TT) (te : TE) (H : Hp) (Q : VK) : Prop := ∃ W : Nat → Nat → List V → Hp → Prop, (∃ m, W 0 m [] H) ∧ ∀ i m ys H, W i m ys H →
 (J.stop i H ∧ ys.length ≤ sizeLine ∧ ∀ l, H l = none → Q (.ref l) (upd H l (.lst ys))) ∨ (J.go i H ∧ ys.length < sizeLine ∧ ∃ N : List V → Hp → Prop, (∀ zs H', N zs H' → ∃ m', m' < m ∧ W (i + 1) m' zs H') ∧
  ∀ os : List (Option V), os.length = k → ∀ x H', J.yld i H x H' → g x (os ++ ρ) H' fun σ2 H2 => ∃ os', os'.length = k ∧ σ2 = os' ++ ρ ∧ tt σ2 H2 fun b H1 => if b = true then te σ2 H1 fun y H2 => N (ys ++ [y]) H2 else N ys H1)
def tCompG (k : Nat) (wi : TI) (g : TG) (fr : List Nat) (tt : TT) (te : TE) : TE := fun σ H Q => wi σ H fun J H1 => tBlkG k J g (fr.map fun j => (σ[j]?).join) tt te H1 Q
theorem compLoop_own {prog : Program} {w : World} {A : Around} {s : Shared} {R : Result → Shared → Prop} {elt target iter : Expr} {ifs : List Expr} {scope : Scope} {pos : Pos} {it acc : Value} {env : Env} (I : Nat → Shared → Prop)
 (turn : ∀ n s, I n s → wpAny (model prog w) A (pyNext it) (fun r s₁ => match r with
   | none => R (.ok .next) s₁
   | some v => wpAny (model prog w) A (letOwnedTupleGo target it v) (fun _ s₁' => wpAny (model prog w) A (assign target env v) (fun _ s₂ =>
    wpAny (model prog w) A (forIn ifs true fun c r => if r = true then do let ok ← isTrue c env (eval c env); pure (ForInStep.yield ok) else pure (ForInStep.yield r)) (fun ok s₃ =>
     if ok = true then wpAny (model prog w) A (eval elt env) (fun x s₄ =>
      wpAny (model prog w) A (call (.builtin "list.append") [acc, x]) (fun _ s₅ => ∃ m, m < n ∧ I m s₅) (notedBy (model prog w) A env fun e s' => R (.error e) s') s₄) (notedBy (model prog w) A env fun e s' => R (.error e) s') s₃
     else ∃ m, m < n ∧ I m s₃) (notedBy (model prog w) A env fun e s' => R (.error e) s') s₂) (notedBy (model prog w) A env fun e s' => R (.error e) s') s₁') (notedBy (model prog w) A env fun e s' => R (.error e) s') s₁) (notedBy (model prog w) A env fun e s' => R (.error e) s') s)
 (n : Nat) (h : I n s) :
 codeAny (model prog w) A (.compLoop (.ListComp elt [⟨target, iter, ifs, 0⟩] scope pos) 0 it acc env) R s := by
 refine codeAny_loop rfl I (fun n s hI => ?_) n h
 show wpAny _ A ((compTurn (.ListComp elt [⟨target, iter, ifs, 0⟩] scope pos) 0 it acc env).onRaise (fun x => do noteFrame x env; theTreesLotGoes x)) _ _ s
 refine wpAny_noted ?_
 rw [compTurn_list]
 refine wpAny_bind (wpAny_standAt (wpAny_bind (wpAny_mono (turn n s hI) (fun r s₁ h₁ => ?_) fun _ _ h' => h')))
 cases r with
 | none => exact wpAny_pure h₁
 | some v =>
  refine wpAny_bind (wpAny_mono h₁ (fun _ s₁' h₁' => ?_) fun _ _ h' => h')
  refine wpAny_bind (wpAny_mono h₁' (fun _ s₂ h₂ => wpAny_bind (wpAny_mono h₂ (fun ok s₃ h₃ => ?_) fun _ _ h' => h')) fun _ _ h' => h')
  cases ok with
  | false => exact wpAny_pure ⟨rfl, h₃⟩
  | true =>
   exact wpAny_bind (wpAny_bind (wpAny_mono h₃ (fun x s₄ h₄ => wpAny_bind (wpAny_mono h₄ (fun _ s₅ h₅ => wpAny_pure (wpAny_pure ⟨rfl, h₅⟩)) fun _ _ h' => h')) fun _ _ h' => h'))
section
variable {X : Cx} {pins : List (Addr × Obj)} {σ : L2.St} {H2 : Hp} {s2 : Shared} {own : List Str} {tg : Expr} {g : TG} {pos : Pos} {elt iter : Expr} {ifs : List Expr} {scope : Scope} {cl : List (Str × Addr)} {fr : List Nat} {ys : List Str} {tt : TT} {te : TE}
theorem cxB_okG {C : Addr} {ex : List Addr} {pn : List (Addr × Obj)} (S : CompOkG X own scope cl fr ys) (I2 : Inv X pins σ H2 s2) (f2 : ∀ b ∈ ex, FpOk X pins H2 b) (hC : s2.heap.objs.size ≤ C) (hex : ∀ b ∈ ex, b < s2.heap.objs.size) : (cxB X (own ++ ys) scope cl C s2 H2 ex pn).Ok := by
 refine ⟨I2.ok.mod, S.kind, I2.ok.glob, I2.ok.blt, hC, fun a b c h1 h2 => ?_, fun y hy => ?_, fun _ _ z => (nomatch z), I2.ok.hd, I2.ok.frames, .inl rfl, fun b hb => ⟨?_, fun y c e z => ?_⟩, I2.bs, Nat.le_trans I2.ok.bsz I2.sz, fun b o e hb => ?_, fun b hb z => ?_, I2.stack, I2.stkFree⟩
 ·exact I2.ok.inj a b c (S.cls.get a c h1) (S.cls.get b c h2)
 ·have hy' : (relabel scope X.env).names.lookup y = some .cell ∨ (relabel scope X.env).names.lookup y = some .free := hy
  have q : (cl.lookup y).isSome = true := by
   rcases hy' with e | e
   ·simpa using look_in S.kinds e
   ·simpa using look_in S.kinds e
  exact Option.isSome_iff_exists.mp q
 ·exact Nat.ne_of_lt (Nat.lt_of_lt_of_le (hex b hb) hC)
 ·exact (f2 b hb).2.2.2.2.1 y c (S.cls.get y c e) z
 ·obtain ⟨_, _, _, d, _, _⟩ := f2 b hb
  rcases d with d | d
  ·exact I2.ok.noex b o e d
  ·exact absurd (Nat.lt_of_lt_of_le (Heap.lt_size e) (Nat.le_trans I2.ok.bsz d)) (Nat.lt_irrefl _)
 ·obtain ⟨_, d1, d2, _⟩ := f2 b hb
  rcases List.mem_cons.mp (I2.stkSub b z) with q | q
  ·exact d1 q
  ·exact d2 q
theorem comp_blockG {J : It} {fp : List Addr} {it : Addr} {tn : Nat → Heap → Prop} {E : Value → Shared → Prop} {Q : VK} {RR : Value → Addr → Result → Shared → Prop}
 (S : CompOkG X own scope cl fr ys) (hc : X.calm = true) (hg : ∀ (C : Addr) (s : Shared) (H : Hp) (ex : List Addr) (pn : List (Addr × Obj)), PG (cxB X (own ++ ys) scope cl C s H ex pn) tg g)
 (hb : ∀ (C : Addr) (s : Shared) (H : Hp) (ex : List Addr) (pn : List (Addr × Obj)), PTs (cxB X (own ++ ys) scope cl C s H ex pn) ifs tt ∧ PE (cxB X (own ++ ys) scope cl C s H ex pn) elt te)
 (I2 : Inv X pins σ H2 s2) (T : Turn X.prog X.w X.K tg J fp it tn) (st2 : tn 0 s2.heap) (f2 : ∀ b ∈ fp, FpOk X pins H2 b)
 (h : tBlkG own.length J g (fr.map fun j => (σ[j]?).join) tt te H2 Q)
 (hRR : ∀ D C s' H', Inv X pins σ H' s' → (∃ m, s'.heap.Ns C m) → FpOk X pins H' C → Q (.ref D) H' → RR (.ref D) C (.ok .next) s') :
 wpAny (model X.prog X.w) X.A (newList []) (fun acc s3 => wpAny (model X.prog X.w) X.A (newFunctionEnv scope X.env.globals cl [] X.env.qual none .none (some X.env)) (fun cenv s4 =>
  codeAny (model X.prog X.w) X.A (.compStart (.ListComp elt [⟨tg, iter, ifs, 0⟩] scope pos) 0 (.ref it) acc { cenv with scope := relabel scope X.env }) (RR acc cenv.locals) s4) E s3) E s2 := by
 obtain ⟨W, ⟨m0, w0⟩, turn⟩ := h
 refine wpAny_newObj_type (wpAny_newFunctionEnv (fun y hy => by simpa using List.all_eq_true.mp S.nocell y hy) (fun y hy => absurd hy (by simp)) (fun h1 hns hsb => ?_) S.kind)
 dsimp only at hns hsb ⊢
 generalize eP : s2.heap.push { cls := .type "list", dict := none, data := .seq ([] : List Value).toArray } = P2 at hns hsb ⊢
 have sz : P2.objs.size = s2.heap.objs.size + 1 := by rw [← eP, Heap.size_push]
 have hDC : s2.heap.objs.size ≠ P2.objs.size := by walk_at "om"
 have keep : ∀ b o, s2.heap.get? b = some o → h1.get? b = some o := fun b o e => by
  have lt := Heap.lt_size e
  exact hsb.extBut b o (by walk_at "om") (Heap.get?_push_of_some _ (eP ▸ Heap.get?_push_of_some _ e))
 have hD : h1.get? s2.heap.objs.size = some { cls := .type "list", data := .seq ([] : List Value).toArray 0 } :=
  hsb.extBut _ _ hDC (Heap.get?_push_of_some _ (eP ▸ Heap.get?_push_size _ rfl))
 have hfp : ∀ b ∈ fp, b < s2.heap.objs.size := fun b hb => by
  obtain ⟨o, e, _⟩ := T.obj 0 _ st2 b hb
  exact Heap.lt_size e
 have noStk : ∀ b, s2.heap.objs.size ≤ b → b ∉ frs X.stack := fun b hle z => by
  rcases List.mem_cons.mp (I2.stkSub b z) with q | q
  ·have := I2.lt; walk_at "om"
  ·exact I2.nofs hle q
 generalize eC : P2.objs.size = C at hns hsb hDC ⊢
 generalize eD : s2.heap.objs.size = D at hDC hD hfp noStk
 have hCle : s2.heap.objs.size ≤ C := by walk_at "om"
 have hDle : s2.heap.objs.size ≤ D := by walk_at "om"
 have ok' : (cxB X (own ++ ys) scope cl C s2 H2 fp (X.pn ++ pins)).Ok := cxB_okG S I2 f2 hCle (fun b hb => by have := hfp b hb; walk_at "om")
 have pinsOk : ∀ p ∈ X.pn ++ pins, p.1 ≠ C ∧ p.1 ≠ D ∧ p.1 ∉ frs X.stack ∧ ∀ b ∈ fp, p.1 ≠ b := fun p hp => by
  obtain ⟨e, n, nL, nf, _⟩ := I2.pin p hp
  have lt := Heap.lt_size e
  refine ⟨by walk_at "om", by walk_at "om", fun z => ?_, fun b hb => (f2 b hb).2.2.2.2.2 p hp⟩
  rcases List.mem_cons.mp (I2.stkSub _ z) with q | q
  ·exact nL q
  ·exact nf q
 have I4 : Inv (cxB X (own ++ ys) scope cl C s2 H2 fp (X.pn ++ pins)) [] ((own.map fun _ => none) ++ fr.map fun j => (σ[j]?).join) H2 { s2 with heap := h1, toks := s2.toks + ([] : List (Str × Value)).length } := by
  refine ⟨ok', rfl, I2.bare, Un.kept keep, ⟨_, hns, fun i y v e1 e2 e3 => ?_⟩, fun y c e => ?_, I2.hok.fresh hCle, fun y c e => I2.freeC y c (S.cls.get y c e), fun p hp => ?_, I2.hok.kept keep, ?_⟩
  ·by_cases hio : i < own.length
   ·rw [List.getElem?_append_left (by simpa using hio)] at e2
    simp [hio] at e2
   ·rw [List.getElem?_append_right (by simp; omega)] at e2
    have e1' : ys[i - own.length]? = some y := by
     have : (own ++ ys)[i]? = some y := e1
     rwa [List.getElem?_append_right (by omega)] at this
    rw [List.length_map] at e2
    obtain ⟨j, c, hN, hσ, hk, hc1, hc2⟩ := S.frs.get (i - own.length) y v e1' e2
    obtain ⟨m, hm, hl⟩ := I2.loc
    obtain ⟨u, ru, lu⟩ := hl j y v hN hσ (.inr (.inl hk))
    refine ⟨u, ru, .inr ⟨.inl ?_, c, hc1, ?_⟩⟩
    ·have z := List.all_eq_true.mp S.kfr y (List.mem_of_getElem? e1')
     exact (by simpa using z : (relabel scope X.env).names.lookup y = some .cell)
    ·rcases lu with ⟨z, _⟩ | ⟨_, c', e', q'⟩
     ·rw [hk] at z; cases z
     ·rw [hc2] at e'; cases e'
      obtain ⟨o, ho, hd⟩ := q'
      exact ⟨o, keep _ _ ho, hd⟩
  ·obtain ⟨v, o, ho, hd⟩ := I2.cell y c (S.cls.get y c e)
   exact ⟨v, o, keep _ _ ho, hd⟩
  ·have hp' : p ∈ X.pn ++ pins := by
    have : p ∈ (X.pn ++ pins) ++ [] := hp
    simpa using this
   obtain ⟨e, n, _, _, d⟩ := I2.pin p hp'
   obtain ⟨p1, _, p3, _⟩ := pinsOk p hp'
   exact ⟨keep _ _ e, n, p1, p3, d⟩
  ·show ((own.map fun _ => (none : Option V)) ++ fr.map fun j => (σ[j]?).join).length = (own ++ ys).length
   simp [S.frs.len]
 have st4 : tn 0 h1 := T.keep 0 _ _ st2 fun b _ o e => keep b o e
 have fpB : ∀ (H' : Hp) (o : Obj), (∀ b ∈ fp, H' b = none) → ∀ b ∈ fp, FpOk (cxB X (own ++ ys) scope cl C s2 H2 fp (X.pn ++ pins)) [(D, o)] H' b := fun H' o hn b hb => by
  obtain ⟨_, d1, d2, d3, d4, d5⟩ := f2 b hb
  have lt := hfp b hb
  refine ⟨hn b hb, ?_, fun z => ?_, .inl hb, fun y c e => d4 y c (S.cls.get y c e), fun p hp => ?_⟩
  ·show b ≠ C
   walk_at "om"
  ·rcases List.mem_cons.mp (I2.stkSub b z) with q | q
   ·exact d1 q
   ·exact d2 q
  ·have hp' : p ∈ (X.pn ++ pins) ++ [(D, o)] := hp
   rcases List.mem_append.mp hp' with z | z
   ·exact d5 p z
   ·have : p = (D, o) := by simpa using z
    subst this
    show D ≠ b
    walk_at "om"
 have loop : ∀ s' : Shared, s' = { s2 with heap := h1, toks := s2.toks + ([] : List (Str × Value)).length } →
  codeAny (model X.prog X.w) X.A (.compLoop (.ListComp elt [⟨tg, iter, ifs, 0⟩] scope pos) 0 (.ref it) (.ref D) (compEnvC scope cl C X.env)) (RR (.ref D) C) s' := by
  rintro s' rfl
  refine compLoop_own (fun n s' => ∃ i zs H' os its nn, os.length = own.length ∧ Inv (cxB X (own ++ ys) scope cl C s2 H2 fp (X.pn ++ pins)) [] (os ++ fr.map fun j => (σ[j]?).join) H' s' ∧ tn i s'.heap ∧ (∀ b ∈ fp, H' b = none) ∧ H' D = none ∧
   s'.heap.get? D = some { cls := .type "list", data := .seq (its : List Value).toArray nn } ∧ Vals zs its ∧ W i n zs H') ?_ m0 ⟨0, [], H2, own.map fun _ => none, [], 0, by simp, I4, st4, fun b hb => (f2 b hb).1, I2.hok.fresh hDle, hD, .nil, w0⟩
  rintro n s3 ⟨i, zs, H3, os3, its, nn, hos3, I3, st3, fr3, hD3, oD3, r3, w3⟩
  have I3' : Inv (cxB X (own ++ ys) scope cl C s2 H2 fp (X.pn ++ pins)) [(D, { cls := .type "list", data := .seq its.toArray nn })] (os3 ++ fr.map fun j => (σ[j]?).join) H3 s3 := I3.pins_of fun p hp => by
   have : p = (D, { cls := .type "list", data := .seq its.toArray nn }) := by simpa using hp
   subst this
   exact ⟨oD3, hD3, hDC, noStk D (Nat.le_refl _), fun v z => nomatch z⟩
  rcases turn i n zs H3 w3 with ⟨stop, hlen, q⟩ | ⟨go, hlen, N, hNN, step⟩
  ·refine wpAny_mono (T.done (cxB X (own ++ ys) scope cl C s2 H2 fp (X.pn ++ pins)) rfl rfl rfl hc i _ s3 _ H3 (fun _ _ => False) I3' (fpB H3 _ fr3) st3 stop) (fun r s4 ⟨hr, J4⟩ => ?_) fun _ _ z => z.elim
   subst hr
   have un := J4.base
   have neD : ∀ b o, s2.heap.get? b = some o → b ≠ D := fun b o e => by have := Heap.lt_size e; walk_at "om"
   have neH : ∀ b u, H3 b = some u → b ≠ D := fun b u e z => by rw [z, hD3] at e; cases e
   refine hRR D C s4 (upd H3 D (.lst zs)) ?_ ?_ ?_ (q D hD3)
   ·refine I2.call' (ch := fp) J4.os ⟨un.keep, un.slot, fun b o e nn hx => ?_, un.there, fun b xs e => ?_, fun b o u e => ?_, fun b ps e => ?_⟩ (fun a o e => ?_) J4.bare fun b hb => ?_
    ·rw [upd_ne (neD b o e)]; exact un.free b o e nn hx
    ·have := un.tups b xs e; rw [upd_ne (neH b _ this)]; exact this
    ·have := un.frzs b o u e; rw [upd_ne (neH b _ this)]; exact this
    ·obtain ⟨more, this⟩ := un.tbls b ps e
     exact ⟨more, by rw [upd_ne (neH b _ this)]; exact this⟩
    ·by_cases ha : a = D
     ·subst ha
      rw [upd_same] at e; cases e
      exact ⟨hlen, its, nn, r3, (J4.pin (a, _) (List.mem_append_right _ (List.mem_singleton.mpr rfl))).1⟩
     ·rw [upd_ne ha] at e
      exact (J4.hok a o e).stay (fun _ _ _ z => z) (fun b z => by rw [upd_ne (neH b _ z)]; exact z) fun b xs z => by rw [upd_ne (neH b _ z)]; exact z
    ·obtain ⟨_, d1, d2, d3, d4, d5⟩ := f2 b hb
     exact ⟨d3, d1, d4, d5⟩
   ·obtain ⟨m, hm, _⟩ := J4.loc
    exact ⟨m, hm⟩
   ·exact I2.fpOk hCle (by rw [upd_ne (Ne.symm hDC)]; exact J4.free)
  ·refine wpAny_mono (T.item (cxB X (own ++ ys) scope cl C s2 H2 fp (X.pn ++ pins)) rfl rfl rfl hc i _ s3 _ H3 (fun _ _ => False) I3' (fpB H3 _ fr3) st3 go) (fun r s4 ⟨u, hr, h4⟩ => ?_) fun _ _ z => z.elim
   subst hr
   refine wpAny_mono h4 (fun _ s5 ⟨y5, H5, I5, r5, yl, st5, fr5⟩ => ?_) fun _ _ z => z.elim
   have I5' := I5.pinned (fpB H5 _ fr5) (T.obj _ _ st5)
   refine wpAny_mono (hg C s2 H2 fp (X.pn ++ pins) _ s5 _ H5 y5 u _ I5' r5 (step os3 hos3 y5 H5 yl)) (fun _ s6 ⟨σ6, H6, I6, os6, hos6, e6, q6⟩ => ?_) fun _ _ z => z.elim
   subst e6
   have after : ∀ (s7 : Shared) (H7 : Hp), Inv (cxB X (own ++ ys) scope cl C s2 H2 fp (X.pn ++ pins)) ([(D, { cls := .type "list", data := .seq its.toArray nn })] ++ pinsAt fp s5.heap) (os6 ++ fr.map fun j => (σ[j]?).join) H7 s7 →
    Inv (cxB X (own ++ ys) scope cl C s2 H2 fp (X.pn ++ pins)) [] (os6 ++ fr.map fun j => (σ[j]?).join) H7 s7 ∧ tn (i + 1) s7.heap ∧ (∀ b ∈ fp, H7 b = none) ∧ H7 D = none ∧ s7.heap.get? D = some { cls := .type "list", data := .seq its.toArray nn } := fun s7 H7 I7 => by
    have pD := I7.pin (D, { cls := .type "list", data := .seq its.toArray nn }) (List.mem_append_right _ (List.mem_append_left _ (List.mem_singleton.mpr rfl)))
    refine ⟨I7.pins_of fun p hp => absurd hp (by simp), T.keep _ _ _ st5 fun b hb o e => (I7.pin (b, o) (List.mem_append_right _ (List.mem_append_right _ (mem_pinsAt hb e)))).1, fun b hb => ?_, pD.2.1, pD.1⟩
    obtain ⟨o, e, _⟩ := T.obj _ _ st5 b hb
    exact (I7.pin (b, o) (List.mem_append_right _ (List.mem_append_right _ (mem_pinsAt hb e)))).2.1
   refine wpAny_mono ((hb C s2 H2 fp (X.pn ++ pins)).1 _ s6 _ H6 _ I6 q6) (fun ok s7 ⟨H7, I7, q7⟩ => ?_) fun _ _ z => z.elim
   dsimp only at q7
   by_cases hok : ok = true
   ·rw [if_pos hok] at q7 ⊢
    refine wpAny_mono ((hb C s2 H2 fp (X.pn ++ pins)).2 _ s7 _ H7 _ I7 q7) (fun yv s8 ⟨y8, H8, I8, r8, n8⟩ => ?_) fun _ _ z => z.elim
    obtain ⟨m', hm', w8⟩ := hNN _ _ n8
    obtain ⟨J8, st8, fr8, hD8, oD8⟩ := after s8 H8 I8
    have hl := r3.length
    refine call_meets F.slot_list_append ⟨_, oD8, rfl⟩ F.entry_list_append (F.args_list_append_2 _ _) (PySem.list_append D its.toArray nn yv (by rw [List.size_toArray]; walk_at "om")) ⟨oD8, ?_⟩
    have oD9 := PySem.IsL.update oD8 (fun a => a.push yv)
    rw [List.push_toArray] at oD9
    refine ⟨m', hm', i + 1, zs ++ [y8], H8, os6, its ++ [yv], _, hos6, J8.turned (it := D) (fun b o hb' e => (Heap.get?_update_other _ _ (Ne.symm hb')).trans e) hD8 hDC (.inr hDle) (fun y c e z => ?_) (fun p hp => ?_), T.keep _ _ _ st8 fun b hb' o e => ?_, fr8, hD8, oD9, r3.append (.cons r8 .nil), w8⟩
    ·obtain ⟨v, o, ho, _⟩ := I2.cell y c (S.cls.get y c e)
     have := Heap.lt_size ho
     walk_at "om"
    ·have hp' : p ∈ X.pn ++ pins := by
      have : p ∈ (X.pn ++ pins) ++ [] := hp
      simpa using this
     exact (pinsOk p hp').2.1
    ·have := hfp b hb'
     exact (Heap.get?_update_other _ _ (by walk_at "om")).trans e
   ·rw [if_neg hok] at q7 ⊢
    obtain ⟨m', hm', w7⟩ := hNN _ _ q7
    obtain ⟨J7, st7, fr7, hD7, oD7⟩ := after s7 H7 I7
    exact ⟨m', hm', i + 1, zs, H7, os6, its, nn, hos6, J7, st7, fr7, hD7, oD7, r3, w7⟩
 exact codeAny_compStart_list (loop _ rfl) (T.self X.A 0 _ _ _ st4 (loop _ rfl))
theorem pe_compG {wi : TI} (S : CompOkG X own scope cl fr ys) (hc : X.calm = true) (hi : PI X tg iter wi) (hg : ∀ (C : Addr) (s : Shared) (H : Hp) (ex : List Addr) (pn : List (Addr × Obj)), PG (cxB X (own ++ ys) scope cl C s H ex pn) tg g)
 (hb : ∀ (C : Addr) (s : Shared) (H : Hp) (ex : List Addr) (pn : List (Addr × Obj)), PTs (cxB X (own ++ ys) scope cl C s H ex pn) ifs tt ∧ PE (cxB X (own ++ ys) scope cl C s H ex pn) elt te)
 (hs : ∀ z, foldedSetIterable iter X.env z = pure z := by intro _; rfl) : PE X (.ListComp elt [⟨tg, iter, ifs, 0⟩] scope pos) (tCompG own.length wi g fr tt te) := by
 intro pins s σ H Q I h
 rw [eval_ListComp]
 refine wpAny_comprehension_free (use := none) rfl hs S.clos S.kind (fun y hy hl => ?_) (thn (hi pins s σ H _ I h) fun xv s1 h1 => thn h1 fun itv s2 h2 => ?_)
 ·have z := List.all_eq_true.mp S.names y hy
  rw [hl] at z
  simpa using z
 ·obtain ⟨it, fp, tn, J, H2, rfl, I2, T, st2, f2, hB⟩ := h2
  refine comp_blockG (RR := fun acc C => compPost (model X.prog X.w) X.A X.xe none (EP X pins σ Q) acc C) S hc hg hb I2 T st2 f2 hB fun D C s' H' J' hn fC q => ?_
  obtain ⟨m, hm⟩ := hn
  obtain ⟨c0, c1, c2, c3, c4, c5⟩ := fC
  exact ⟨m, hm, fun h' sb => ⟨.ref D, H', J'.turned (it := C) (fun b o hb e => sb.extBut b o hb e) c0 c1 c3 c4 c5, rfl, q⟩⟩
end
end Gz
namespace Gz
open PySem PySem.Spec PyProof.Rows L2
section
variable {X : Cx} {K : PySem.W.Frag}
variable {ρ : L2.St} {tt : TT} {te : TE} {H : Hp} {Q : VK} {a b : Addr} {xs ys : List V}
end
end Gz
namespace Gz
open PySem PySem.Spec PyProof.Rows L2
theorem cutV_to (xs : List V) (b : Nat) : cutV xs none (some (b : Int)) = xs.take b := by
 unfold cutV
 rw [HT.sIx_nat, HT.sIx_none, List.drop_zero, Nat.sub_zero]
 by_cases h : b ≤ xs.length
 ·rw [Nat.min_eq_left h]
 ·rw [Nat.min_eq_right (by omega), List.take_length, List.take_of_length_le (by omega)]
theorem cutV_from (xs : List V) (a : Nat) : cutV xs (some (a : Int)) none = xs.drop a := by
 unfold cutV
 rw [HT.sIx_nat, HT.sIx_none]
 by_cases h : a ≤ xs.length
 ·rw [Nat.min_eq_left h, List.take_of_length_le (by rw [List.length_drop]; omega)]
 ·rw [Nat.min_eq_right (by omega), List.drop_eq_nil_of_le (Nat.le_refl _), List.drop_eq_nil_of_le (by omega)]; simp
theorem dats_ints {K : PySem.W.Frag} {H : Hp} : ∀ (ns : List Int), Dats K H (ns.map V.int) (ns.map PyData.int)
 | [] => .nil
 | n :: ns => .cons (.int n) (dats_ints ns)
mutual
def plainD : Nat → PyData → Bool
 | _, .none => true
 | _, .bool _ => true
 | _, .int _ => true
 | n + 1, .tuple ds => plainDs n ds
 | n + 1, .list ds => plainDs n ds
 | _, _ => false
def plainDs : Nat → List PyData → Bool
 | _, [] => true
 | n, d :: ds => plainD n d && plainDs n ds
end
mutual
theorem plain_ok : ∀ (d : PyData) {n : Nat}, plainD n d = true → PyData.eqv d d = true ∧ d.canLay0 = true ∧ d.depth ≤ n
 | .none, n, _ => ⟨rfl, rfl, Nat.zero_le _⟩
 | .bool b, n, _ => ⟨by simp [PyData.eqv], rfl, Nat.zero_le _⟩
 | .int i, n, _ => ⟨by simp [PyData.eqv], rfl, Nat.zero_le _⟩
 | .str x, 0, h => by simp [plainD] at h
 | .str x, n + 1, h => by simp [plainD] at h
 | .dict x, 0, h => by simp [plainD] at h
 | .dict x, n + 1, h => by simp [plainD] at h
 | .tuple ds, 0, h => by simp [plainD] at h
 | .list ds, 0, h => by simp [plainD] at h
 | .tuple ds, n + 1, h => by
  obtain ⟨a, b, c⟩ := plain_oks ds (n := n) (by simpa [plainD] using h)
  exact ⟨by simpa only [PyData.eqv] using a, by simpa only [PyData.canLay0] using b, by simp only [PyData.depth]; omega⟩
 | .list ds, n + 1, h => by
  obtain ⟨a, b, c⟩ := plain_oks ds (n := n) (by simpa [plainD] using h)
  exact ⟨by simpa only [PyData.eqv] using a, by simpa only [PyData.canLay0] using b, by simp only [PyData.depth]; omega⟩
theorem plain_oks : ∀ (ds : List PyData) {n : Nat}, plainDs n ds = true → PyData.eqvAll ds ds = true ∧ PyData.canLayAll0 ds = true ∧ PyData.depthAll ds ≤ n
 | [], n, _ => ⟨rfl, rfl, Nat.zero_le _⟩
 | d :: ds, n, h => by
  have h' : plainD n d = true ∧ plainDs n ds = true := by simpa [plainDs] using h
  obtain ⟨a, b, c⟩ := plain_ok d h'.1
  obtain ⟨a', b', c'⟩ := plain_oks ds h'.2
  exact ⟨by simp only [PyData.eqvAll, a, a', Bool.and_self], by simp only [PyData.canLayAll0, b, b', Bool.and_self], by simp only [PyData.depthAll]; omega⟩
end
theorem eq_dat {K : PySem.W.Frag} {H : Hp} {x y : V} {d : PyData} {n : Nat} {neg : Bool} {Q : VK} (hx : Dat K H x d) (hy : Dat K H y d) (hp : plainD n d = true) (hn : n ≤ 60) (q : Q (.bl (!neg)) H) : rEqD K neg x y H Q := by
 obtain ⟨a, b, c⟩ := plain_ok d hp
 refine ⟨d, d, hx, hy, b, b, Nat.le_trans c hn, ?_⟩
 rw [a]
 cases neg <;> exact q
theorem plain_ints : ∀ (ns : List Int) (n : Nat), plainDs n (ns.map PyData.int) = true
 | [], n => by cases n <;> rfl
 | i :: ns, n => by
  rw [List.map_cons]
  cases n <;> simp only [plainDs, plainD, plain_ints ns, Bool.and_self]
theorem eq_ints {K : PySem.W.Frag} {H : Hp} {a b : Addr} {ns : List Int} {neg : Bool} {Q : VK} (h : SqL K H a (ns.map V.int)) (h' : SqL K H b (ns.map V.int)) (q : Q (.bl (!neg)) H) : rEqD K neg (.ref a) (.ref b) H Q :=
 eq_dat (n := 1) (.lst h (dats_ints ns)) (.lst h' (dats_ints ns)) (by simp only [plainD, plain_ints]) (by decide) q
end Gz
namespace Gz
open PySem PySem.Spec PyProof.Rows L2
theorem compGo_ints {Ok : Hp → Prop} {ρ : L2.St} {tt : TT} {te : TE} {H : Hp} {Q' : List V → Hp → Prop} (hOk : Ok H) : ∀ {xs ys : List V}, (∀ x ∈ xs, ∀ Q, Q true H → tt (some x :: ρ) H Q) → (∀ x ∈ xs, ∀ Q : VK, (∀ n : Int, Q (.int n) H) → te (some x :: ρ) H Q) → (∀ ms : List Int, ms.length = xs.length → Q' (ys ++ ms.map V.int) H) → compGo Ok ρ tt te xs ys H Q'
 | [], ys, _, _, q => ⟨hOk, by simpa using q [] rfl⟩
 | x :: r, ys, ht, he, q => by
  refine ⟨hOk, ht x (.head _) _ ?_⟩
  rw [if_pos rfl]
  refine he x (.head _) _ fun n => compGo_ints hOk (fun y hy => ht y (.tail _ hy)) (fun y hy => he y (.tail _ hy)) fun ms hm => ?_
  have := q (n :: ms) (by simp [hm])
  simpa using this
end Gz
namespace Gz
open PySem PySem.Spec PyProof.Rows L2
def All2 {α : Type} (R : V → α → Prop) : List V → List α → Prop
 | [], [] => True
 | x :: xs, a :: as => R x a ∧ All2 R xs as
 | _, _ => False
section
variable {α : Type} {R R' : V → α → Prop}
theorem All2.len : ∀ {xs : List V} {as : List α}, All2 R xs as → xs.length = as.length
 | [], [], _ => rfl
 | _ :: _, _ :: _, h => by simp [All2.len h.2]
 | [], _ :: _, h => h.elim
 | _ :: _, [], h => h.elim
theorem All2.imp (f : ∀ x a, R x a → R' x a) : ∀ {xs : List V} {as : List α}, All2 R xs as → All2 R' xs as
 | [], [], _ => trivial
 | _ :: _, _ :: _, h => ⟨f _ _ h.1, All2.imp f h.2⟩
 | [], _ :: _, h => h.elim
 | _ :: _, [], h => h.elim
theorem All2.get : ∀ {xs : List V} {as : List α}, All2 R xs as → ∀ {i : Nat} {x : V}, xs[i]? = some x → ∃ a, as[i]? = some a ∧ R x a
 | [], [], _, i, x, e => by simp at e
 | _ :: _, a :: _, h, 0, x, e => by simp at e; subst e; exact ⟨a, by simp, h.1⟩
 | _ :: _, _ :: _, h, i + 1, x, e => by
  simp only [List.getElem?_cons_succ] at e ⊢
  exact All2.get h.2 e
 | [], _ :: _, h, _, _, _ => h.elim
 | _ :: _, [], h, _, _, _ => h.elim
theorem All2.at : ∀ {xs : List V} {as : List α}, All2 R xs as → ∀ {i : Nat} {a : α}, as[i]? = some a → ∃ x, xs[i]? = some x ∧ R x a
 | [], [], _, i, x, e => by simp at e
 | x :: _, _ :: _, h, 0, a, e => by simp at e; subst e; exact ⟨x, by simp, h.1⟩
 | _ :: _, _ :: _, h, i + 1, a, e => by
  simp only [List.getElem?_cons_succ] at e ⊢
  exact All2.at h.2 e
 | [], _ :: _, h, _, _, _ => h.elim
 | _ :: _, [], h, _, _, _ => h.elim
theorem All2.app : ∀ {xs ys : List V} {as bs : List α}, All2 R xs as → All2 R ys bs → All2 R (xs ++ ys) (as ++ bs)
 | [], _, [], _, _, h => h
 | _ :: _, _, _ :: _, _, h, h' => ⟨h.1, All2.app h.2 h'⟩
 | [], _, _ :: _, _, h, _ => h.elim
 | _ :: _, _, [], _, h, _ => h.elim
theorem All2.snoc {xs : List V} {as : List α} {x : V} {a : α} (h : All2 R xs as) (h' : R x a) : All2 R (xs ++ [x]) (as ++ [a]) := h.app ⟨h', trivial⟩
theorem All2.take : ∀ {xs : List V} {as : List α} (n : Nat), All2 R xs as → All2 R (xs.take n) (as.take n)
 | [], [], n, _ => by simp [All2]
 | _ :: _, _ :: _, 0, _ => by simp [All2]
 | _ :: _, _ :: _, n + 1, h => by simpa [All2] using ⟨h.1, All2.take n h.2⟩
 | [], _ :: _, _, h => h.elim
 | _ :: _, [], _, h => h.elim
theorem All2.drop : ∀ {xs : List V} {as : List α} (n : Nat), All2 R xs as → All2 R (xs.drop n) (as.drop n)
 | [], [], n, _ => by simp [All2]
 | _ :: _, _ :: _, 0, h => by simpa using h
 | _ :: _, _ :: _, n + 1, h => by simpa using All2.drop n h.2
 | [], _ :: _, _, h => h.elim
 | _ :: _, [], _, h => h.elim
theorem All2.rng {lo : Int} (n : Nat) : All2 (fun x (k : Nat) => x = V.int (lo + k)) ((List.range n).map fun k => V.int (lo + (k : Nat))) (List.range n) := by
 suffices ∀ l : List Nat, All2 (fun x (k : Nat) => x = V.int (lo + k)) (l.map fun k => V.int (lo + (k : Nat))) l from this _
 intro l
 induction l with
 | nil => trivial
 | cons a l ih => exact ⟨rfl, ih⟩
end
abbrev P2 := Int × Int
def IsPt (H : Hp) (v : V) (p : P2) : Prop := ∃ a, v = .ref a ∧ H a = some (.tup [.int p.1, .int p.2])
theorem IsPt.same {H H' : Hp} {v : V} {p : P2} (h : IsPt H v p) (s : Same H H') : IsPt H' v p := let ⟨a, e, q⟩ := h; ⟨a, e, s _ _ q⟩
theorem IsPt.new {H : Hp} {a : Addr} {x y : Int} : IsPt (upd H a (.tup [.int x, .int y])) (.ref a) (x, y) := ⟨a, rfl, upd_same⟩
theorem IsPt.put {H : Hp} {v : V} {p : P2} {r : Addr} {ys zs : List V} (h : IsPt H v p) (hr : H r = some (.lst ys)) : IsPt (upd H r (.lst zs)) v p := by
 obtain ⟨a, e, q⟩ := h
 refine ⟨a, e, ?_⟩
 rw [upd_ne (ne_of q hr (fun z => nomatch z))]; exact q
abbrev Pts (H : Hp) : List V → List P2 → Prop := All2 (IsPt H)
theorem Pts.put {H : Hp} {xs : List V} {ps : List P2} {r : Addr} {ys zs : List V} (h : Pts H xs ps) (hr : H r = some (.lst ys)) : Pts (upd H r (.lst zs)) xs ps := All2.imp (fun _ _ x => x.put hr) h
def ris (ns : List Int) : Bool := (ns.zip (ns.drop 1)).all fun r => decide (r.1 < r.2)
theorem ris_iff {ns : List Int} : ris ns = true ↔ ∀ i, i + 1 < ns.length → ns.getD i 0 < ns.getD (i + 1) 0 := by
 unfold ris
 rw [List.all_eq_true]
 constructor
 ·intro h i hi
  have e : (ns.zip (ns.drop 1))[i]? = some (ns.getD i 0, ns.getD (i + 1) 0) := by
   rw [List.getElem?_zip_eq_some, List.getElem?_drop, List.getD_eq_getElem?_getD, List.getD_eq_getElem?_getD, List.getElem?_eq_getElem (show i < ns.length by omega), show 1 + i = i + 1 by omega, List.getElem?_eq_getElem hi]
   exact ⟨rfl, rfl⟩
  simpa using h _ (List.mem_of_getElem? e)
 ·intro h r hr
  obtain ⟨i, hi⟩ := List.mem_iff_getElem?.mp hr
  rw [List.getElem?_zip_eq_some, List.getElem?_drop] at hi
  have h1 := (List.getElem?_eq_some_iff.mp hi.2).1
  have := h i (by omega)
  rw [List.getD_eq_getElem?_getD, List.getD_eq_getElem?_getD, hi.1, show i + 1 = 1 + i by omega, hi.2] at this
  simpa using this
def ptD (ps : List P2) (i : Nat) : P2 := ps.getD i (0, 0)
end Gz
namespace Gz
open PySem PySem.Spec PyProof.Rows L2
end Gz
namespace Gz
open PySem PySem.Spec PyProof.Rows L2
end Gz
namespace Gz
open PySem PySem.Spec PyProof.Rows L2
def onl (s e : P2) (p q t b : Int) : Prop := (t - s.2 * b) * (e.1 - s.1) * q = (p - s.1 * q) * (e.2 - s.2) * b
def inP (ks : List P2) (p q : Int) (i : Nat) : Prop := i + 1 < ks.length ∧ (ptD ks i).1 * q ≤ p ∧ p ≤ (ptD ks (i + 1)).1 * q
def hit (ks : List P2) (p q : Int) : Prop := ∃ i, inP ks p q i
structure Led (ks : List P2) (p q t b : Int) : Prop where
 pos : 1 ≤ b
 low : gcdI t b = 1
 on : ∀ i, inP ks p q i → onl (ptD ks i) (ptD ks (i + 1)) p q t b
theorem ptD_map1 {ks : List P2} {i : Nat} (h : i < ks.length) : (ks.map (·.1)).getD i 0 = (ptD ks i).1 := by
 unfold ptD
 rw [List.getD_eq_getElem?_getD, List.getElem?_map, List.getD_eq_getElem?_getD, List.getElem?_eq_getElem h]; rfl
theorem ris_lt1 {ks : List P2} (h : ris (ks.map (·.1)) = true) : ∀ {i j : Nat}, i < j → j < ks.length → (ptD ks i).1 < (ptD ks j).1 := by
 rw [ris_iff] at h
 have st : ∀ i, i + 1 < ks.length → (ptD ks i).1 < (ptD ks (i + 1)).1 := fun i hi => by
  have := h i (by rw [List.length_map]; exact hi)
  rwa [ptD_map1 (by omega), ptD_map1 hi] at this
 intro i j hij hj
 induction j with
 | zero => omega
 | succ j ih =>
  by_cases e : i = j
  ·subst e; exact st i hj
  ·exact Int.lt_trans (ih (by omega) (by omega)) (st j hj)
theorem line_next {a b c : P2} {p q t w : Int} (hq : 0 < q) (hab : a.1 < b.1) (h1 : p = b.1 * q) (h : onl a b p q t w) : onl b c p q t w := by
 unfold onl at *
 subst h1
 have e : (t - b.2 * w) * ((b.1 - a.1) * q) = 0 := by grind
 have n : (b.1 - a.1) * q ≠ 0 := Int.mul_ne_zero (by omega) (by omega)
 have := (Int.mul_eq_zero.mp e).resolve_right n
 have e2 : t - b.2 * w = 0 := this
 rw [e2]; grind
theorem Led.of {ks : List P2} {p q t b : Int} {i : Nat} (hr : ris (ks.map (·.1)) = true) (hq : 0 < q) (h1 : 1 ≤ b) (h2 : gcdI t b = 1) (hi : inP ks p q i) (first : ∀ j, j < i → ¬ inP ks p q j) (h : onl (ptD ks i) (ptD ks (i + 1)) p q t b) : Led ks p q t b := by
 refine ⟨h1, h2, fun j hj => ?_⟩
 by_cases e : j = i
 ·rw [e]; exact h
 by_cases lt : j < i
 ·exact absurd hj (first j lt)
 by_cases e1 : j = i + 1
 ·subst e1
  have l1 := ris_lt1 hr (i := i) (j := i + 1) (by omega) (by have := hj.1; omega)
  exact line_next hq l1 (by have := hi.2.2; have := hj.2.1; omega) h
 ·have l1 := ris_lt1 hr (i := i + 1) (j := j) (by omega) (by have := hj.1; omega)
  have : (ptD ks (i + 1)).1 * q < (ptD ks j).1 * q := Int.mul_lt_mul_of_pos_right l1 hq
  have a1 := hi.2.2
  have a2 := hj.2.1
  omega
def IsR (H : Hp) (v : V) (t b : Int) : Prop := ∃ a, v = .ref a ∧ H a = some (.tup [.int t, .int b])
theorem IsR.p {K : PySem.W.Frag} {H : Hp} {v : V} {t b : Int} (h : IsR H v t b) : IsP K H v t b := let ⟨a, e, q⟩ := h; ⟨a, e, SqT.of q⟩
def SameBut (x : Addr) (H H' : Hp) : Prop := ∀ b o, b ≠ x → H b = some o → H' b = some o
end Gz
namespace Gz
open PySem PySem.Spec PyProof.Rows L2
end Gz
namespace Gz
open PySem PySem.Spec PyProof.Rows L2
theorem compGo_new {α β : Type} {R : Hp → V → α → Prop} {R' : Hp → V → β → Prop} {Ok : Hp → Prop} {ρ : L2.St} {tt : TT} {te : TE} {f : α → β} {Q' : List V → Hp → Prop} (mono : ∀ H H' x a, Same H H' → R H x a → R H' x a) (mono' : ∀ H H' x a, Same H H' → R' H x a → R' H' x a) :
 ∀ {xs : List V} {as : List α} {ys : List V} {bs : List β} {H : Hp}, All2 (R H) xs as → All2 (R' H) ys bs → (∀ H', Same H H' → Ok H') → (∀ x a, a ∈ as → ∀ H', Same H H' → R H' x a → ∀ Q, Q true H' → tt (some x :: ρ) H' Q) →
 (∀ x a, a ∈ as → ∀ H', Same H H' → R H' x a → ∀ Q : VK, (∀ H'' y, Same H' H'' → R' H'' y (f a) → Q y H'') → te (some x :: ρ) H' Q) →
 (∀ H' zs, Same H H' → All2 (R' H') zs (bs ++ as.map f) → Q' zs H') → compGo Ok ρ tt te xs ys H Q'
 | [], [], ys, bs, H, _, hy, hOk, _, _, q => ⟨hOk H (Same.refl H), q H ys (Same.refl H) (by simpa using hy)⟩
 | x :: xs, a :: as, ys, bs, H, h, hy, hOk, ht, he, q => by
  refine ⟨hOk H (Same.refl H), ht x a (.head _) H (Same.refl H) h.1 _ ?_⟩
  rw [if_pos rfl]
  refine he x a (.head _) H (Same.refl H) h.1 _ fun H2 y s2 r2 => ?_
  refine compGo_new mono mono' (bs := bs ++ [f a]) (h.2.imp fun x a r => mono _ _ _ _ s2 r) ((hy.imp fun x a r => mono' _ _ _ _ s2 r).snoc r2) (fun H' s' => hOk H' (s2.trans s')) (fun x a ha H' s' => ht x a (.tail _ ha) H' (s2.trans s')) (fun x a ha H' s' => he x a (.tail _ ha) H' (s2.trans s')) fun H' zs s' hz => ?_
  refine q H' zs (s2.trans s') ?_
  rw [List.map_cons]
  rwa [List.append_assoc] at hz
 | [], _ :: _, _, _, _, h, _, _, _, _, _ => h.elim
 | _ :: _, [], _, _, _, h, _, _, _, _, _ => h.elim
end Gz
namespace Gz
open PySem PySem.Spec PyProof.Rows L2
end Gz
namespace Gz
open PySem PySem.Spec PyProof.Rows L2
theorem vals_ints {us : List Value} {ns : List Int} (h : IntsAre us ns) : Vals (ns.map V.int) us := by
 induction h with
 | nil => exact .nil
 | cons n t r ih => exact .cons ⟨t, rfl⟩ ih
theorem call_sortedL {X : Cx} : CallR X (.builtin "sorted") (fun xs H Q => ∃ (a : Addr) (ns : List Int), xs = [.ref a] ∧ SqL X.K H a (ns.map V.int) ∧ ns.length < 64 ∧ ∀ (l : Addr) (zs : List Int), H l = none → zs.Perm ns → zs.Pairwise (· ≤ ·) → Q (.ref l) (upd H l (.lst (zs.map V.int)))) := by
 intro pins s σ H xs us Q I r h
 obtain ⟨a, ns, rfl, hS, h64, q⟩ := h
 obtain ⟨u, rfl, ru⟩ := vals1 r
 cases ru
 obtain ⟨its, rv, hp, hz⟩ := I.list hS
 have hl : its.length = ns.length := by have := rv.length; rw [List.length_map] at this; omega
 refine sorted_ints hp.isList (intsAre_of rv) (by omega) fun out zs a1 a2 a3 => ?_
 obtain ⟨e, he⟩ := sortedAll_at s.heap its out
 have hlt : s.heap.objs.size ≤ s.heap.objs.size + 1 := Nat.le_succ _
 refine ⟨.ref (s.heap.objs.size + 1), _, I.laid (t' := s.toks) (o := .lst (zs.map V.int)) (fun b o q => sortedAll_old q) hlt ⟨?_, out.toList, e, vals_ints a1, he⟩, rfl, q _ zs (I.hok.fresh hlt) a2 a3⟩
 rw [List.length_map, a2.length_eq]
 exact Nat.le_trans (Nat.le_of_lt h64) (by decide)
theorem compGo_sel {α : Type} {R : Hp → V → α → Prop} {Ok : Hp → Prop} {ρ : L2.St} {tt : TT} {te : TE} {p : α → Bool} {Q' : List V → Hp → Prop} (mono : ∀ H H' x a, Same H H' → R H x a → R H' x a) : ∀ {xs : List V} {as : List α} {ys : List V} {H : Hp}, All2 (R H) xs as → (∀ H', Same H H' → Ok H') →
 (∀ x a, a ∈ as → ∀ H', Same H H' → R H' x a → ∀ Q, (∀ H'', Same H' H'' → Q (p a) H'') → tt (some x :: ρ) H' Q) → (∀ x H', Same H H' → ∀ Q : VK, Q x H' → te (some x :: ρ) H' Q) →
 (∀ H' zs, Same H H' → All2 (R H') zs (as.filter p) → Q' (ys ++ zs) H') → compGo Ok ρ tt te xs ys H Q'
 | [], [], ys, H, _, hOk, _, _, q => ⟨hOk H (Same.refl H), by simpa using q H [] (Same.refl H) trivial⟩
 | x :: xs, a :: as, ys, H, h, hOk, ht, he, q => by
  refine ⟨hOk H (Same.refl H), ht x a (.head _) H (Same.refl H) h.1 _ fun H1 s1 => ?_⟩
  have go := fun (ws : List V) (q2 : ∀ H' zs, Same H1 H' → All2 (R H') zs (as.filter p) → Q' (ws ++ zs) H') => compGo_sel (ys := ws) mono (h.2.imp fun x a r => mono _ _ _ _ s1 r) (fun H' s' => hOk H' (s1.trans s')) (fun x a ha H' s' => ht x a (.tail _ ha) H' (s1.trans s')) (fun x H' s' => he x H' (s1.trans s')) q2
  by_cases hb : p a = true
  ·rw [if_pos hb]
   refine he x H1 s1 _ (go _ fun H' zs s' hz => ?_)
   have := q H' (x :: zs) (s1.trans s') (by rw [List.filter_cons, if_pos hb]; exact ⟨mono _ _ _ _ (s1.trans s') h.1, hz⟩)
   simpa using this
  ·rw [if_neg hb]
   refine go _ fun H' zs s' hz => q H' zs (s1.trans s') ?_
   rw [List.filter_cons, if_neg hb]; exact hz
 | [], _ :: _, _, _, h, _, _, _, _ => h.elim
 | _ :: _, [], _, _, h, _, _, _, _ => h.elim
abbrev IsS2 (H : Hp) (v : V) (s : S2) : Prop := IsS H v s.1 s.2
theorem Sts.all : ∀ {H : Hp} {xs : List V} {ss : List S2}, Sts H xs ss → All2 (IsS2 H) xs ss
 | _, [], [], _ => trivial
 | _, _ :: _, _ :: _, h => ⟨h.1, Sts.all h.2⟩
 | _, [], _ :: _, h => h.elim
 | _, _ :: _, [], h => h.elim
def cellsFrom : En → List Int → List S2
 | lo, [] => [(lo, none)]
 | lo, z :: zs => (lo, some (z - 1)) :: cellsFrom (some z) zs
end Gz
namespace Gz
open PySem PySem.Spec PyProof.Rows L2
end Gz
namespace Gz
open PySem PySem.Spec PyProof.Rows L2
end Gz
namespace Gz
open PySem PySem.Spec PyProof.Rows L2
section
variable {X : Cx} {CX : CXT} {k : Nat} {f C : Addr} {fd : FuncData} {ps : List Str} {ds : List Value} {dvs : List V} {sp : Sp} {E : XK} {x m : Str} {p pos apos : Pos} {e : Expr} {es : List Expr} {t : TA}
end
section
variable {X : Cx}
def tRng (ta : TA) : TE := fun σ H Q => ta σ H fun vs H1 => ∃ j : Int, vs = [.int j] ∧ 0 ≤ j ∧ j ≤ 1000 ∧ ∀ r, H1 r = none → Q (.ref r) (upd H1 r (.rng 0 j))
end
section
variable {X : Cx} {CX : CXT} {k : Nat} {f : Addr} {fd : FuncData} {ps : List Str} {ds : List Value} {dvs : List V} {sp : Sp} {E : XK} {m : Str} {pos apos : Pos} {o e : Expr} {es : List Expr} {ta : TE} {t : TA}
def tMethV (K : PySem.W.Frag) (m : Str) (f : Addr) (sp : Sp) (dvs : List V) (E : XK) (ta : TE) (t : TA) : TE := fun σ H Q => ta σ H fun x H1 => ∃ a C dx fs, x = .ref a ∧ H1 a = some (.ins C dx fs) ∧ Cls K C ∧ Meth K C m f ∧ fs.lookup m = none ∧
 t σ H1 fun vs H2 => sp (.ref a :: (vs ++ dvs)) H2 Q E
end
abbrev W2 := Option S2
def IsW (H : Hp) (v : V) : W2 → Prop
 | none => v = .non
 | some s => IsS H v s.1 s.2
theorem IsW.same {H H' : Hp} {v : V} {w : W2} (h : IsW H v w) (s : Same H H') : IsW H' v w := by
 cases w with
 | none => exact h
 | some a => exact IsS.same h s
end Gz
namespace Gz
open PySem L2 PySem.W PySem.Spec PyProof.Rows
def Bt (n : Nat) (x : Int) : Prop := Builtin.Int.intBits x ≤ n
theorem Bt.add {n : Nat} {x y : Int} (h : Bt n x) (h' : Bt n y) : Bt (n + 1) (x + y) := by
 have := PyProof.Rows.bits_add h h'
 rwa [Nat.max_self] at this
theorem Bt.mul {n m : Nat} {x y : Int} (h : Bt n x) (h' : Bt m y) : Bt (n + m) (x * y) := PyProof.Rows.bits_mul h h'
theorem Bt.up {n m : Nat} {x : Int} (h : Bt n x) (hm : n ≤ m) : Bt m x := Nat.le_trans h hm
theorem Bt.small {x : Int} (h1 : -(2 ^ 64) < x) (h2 : x < 2 ^ 64) : Bt 64 x := PySem.intBits_le_64 h1 h2
def MulG (i j : Int) : Prop := Bt 40000000 i ∧ Bt 40000000 j
theorem MulG.ok {i j : Int} (h : MulG i j) : IntMulOk i j := PyProof.Rows.mulOk_of_bits h.1 h.2 (by decide)
theorem op_mulG {X : Cx} : OpR X (binaryOp .Mult) (rI MulG fun i j => .int (i * j)) := opI fun _ _ _ _ _ _ _ hc q => mul_int q hc.ok
def Scr (ns : List Int) : Prop := ns.length ≤ 63 ∧ ∀ x ∈ ns, Bt 1048576 x
theorem weigh : ∀ (ns : List Int) (x : Int), x ∈ ns → Builtin.Int.intBits x ≤ PySem.W.WData.weightAll (ns.map PySem.W.WData.int)
 | [], x, h => by simp at h
 | y :: ns, x, h => by
  have e : PySem.W.WData.weightAll ((y :: ns).map PySem.W.WData.int) = (if y == 0 then 0 else y.natAbs.log2 + 1) + 1 + PySem.W.WData.weightAll (ns.map PySem.W.WData.int) := by
   rw [List.map_cons]
   simp only [PySem.W.WData.weightAll, PySem.W.WData.weight]
  rw [e]
  rcases List.mem_cons.mp h with rfl | h
  ·unfold Builtin.Int.intBits
   omega
  ·have := weigh ns x h
   omega
theorem scr_bits {ns : List Int} (h : PySem.W.WData.layableAll [PySem.W.WData.list (ns.map PySem.W.WData.int)] = true) : ∀ x ∈ ns, Bt 1048576 x := by
 intro x hx
 have h1 : PySem.W.WData.layable (PySem.W.WData.list (ns.map PySem.W.WData.int)) = true := by
  have : (PySem.W.WData.layable (PySem.W.WData.list (ns.map PySem.W.WData.int)) && true) = true := h
  rwa [Bool.and_true] at this
 unfold PySem.W.WData.layable at h1
 rw [Bool.and_eq_true] at h1
 have h2 := of_decide_eq_true h1.2
 have h3 := weigh ns x hx
 simp only [PySem.W.WData.weight] at h2
 unfold Bt
 omega
theorem walk_big {l : PySem.W.OpenLaw} {k : Nat} {q : Program} {loose : List Str} {XP : (Str → Option Value) → Heap → Prop} {YP : World → Heap → Prop} {d : DefRec} {K : Params → PySem.W.Frag} {CX : World → CXT} {sp : World → Sp} {x : Str}
 (most : l.most = some 63) (plain : d.params.defaults = []) (room : Room k callerA)
 (inK : ∀ (w : World) (h : Heap), YP w h → (K w.params).In h)
 (F : ∀ (w : World) (mg : Str → Option Value) (fa : Addr) (h : Heap), (K w.params).In h → h.Ns mainGlobals mg → mg d.name = some (.ref fa) →
   ∃ fd : FuncData, (∀ (s : Shared) (u : Value), BindsTo s fd ⟨[u], []⟩ [(x, u)]) ∧
    ∀ base : Heap, (K w.params).In base → base.Ns mainGlobals mg → FnOk l.prog w (K w.params) mg base (CX w) k fa fd [x] (sp w))
 (law : ∀ (w : World) (H : Hp) (a : Addr) (ns : List Int), Scr ns → SqL (K w.params) H a (ns.map V.int) → sp w [.ref a] H (fun v _ => v = .bl true) fun _ _ _ => False)
 (calm : ∀ (w : World) (H : Hp) (s : Shared) (e : Value) (s' : Shared), CX w [] H s (fun _ _ _ => False) e s' → False) :
 PySem.W.WalkO q loose XP YP l.row.toRowW d [] (fun f vs => PySem.call f vs) := by
 intro w t₀ t mg mb G Y f ob pm cd doc dV kV look data code defs at_ gens args vals as pre lay _ well _
 have e1 : dV = .none := Dflts.none defs plain
 have e2 : kV = .none := Dflts.noKw defs
 cases e1
 cases e2
 obtain ⟨a, vs, ns, e3, e4, obj, are, len⟩ := Att.script_of most pre well
 cases e3
 cases e4
 have KX := inK w _ Y
 obtain ⟨fd, bind, ok⟩ := F w mg f _ KX G.T.g at_
 have run := law_call KX G.T.g G.T.b G.T.builtins G.T.nolimit gens obj are (Nat.le_trans len (by decide)) room ok bind
  (fun H _ S => law w H a ns ⟨len, scr_bits lay⟩ S) fun H e s' => calm w H t e s'
 refine enter_call (codeAny_mono run ?_)
 rintro r s' ⟨rfl, old, os, bare⟩
 exact ⟨.inl ⟨.bool true, .bool true, [], rfl, fun _ => rfl, .bool true, Att.post_true l _, fun _ => ⟨List.Pairwise.nil, fun _ z => (nomatch z)⟩⟩, old, os, bare⟩
def scell (ns : List Int) (k : Int) : Int := if 0 < (ns.length : Int) then ns.getD (k % (ns.length : Int)).toNat 0 else 0
theorem scell_bits {ns : List Int} (h : Scr ns) (k : Int) : Bt 1048576 (scell ns k) := by
 unfold scell
 split
 ·rw [List.getD_eq_getElem?_getD]
  cases e : ns[(k % (ns.length : Int)).toNat]? with
  | none => exact (Bt.small (by decide) (by decide)).up (by decide)
  | some n => exact h.2 _ (List.mem_of_getElem? e)
 ·exact (Bt.small (by decide) (by decide)).up (by decide)
theorem scell_at {ns : List Int} {k : Int} (h : 0 < (ns.length : Int)) : atI (ns.map V.int) (k % (ns.length : Int)) = some (.int (scell ns k)) := by
 have h1 := Int.emod_nonneg k (show (ns.length : Int) ≠ 0 by omega)
 have h2 := Int.emod_lt_of_pos k h
 unfold scell
 rw [if_pos h]
 have ek : k % (ns.length : Int) = (((k % (ns.length : Int)).toNat : Nat) : Int) := by omega
 refine (congrArg (atI _) ek).trans (atI_nat ?_)
 rw [List.getElem?_map, List.getD_eq_getElem?_getD, List.getElem?_eq_getElem (by omega)]
 rfl
theorem pick_muls {ns : List Int} (h : Scr ns) {k : Int} (hk : -1000000 ≤ k ∧ k ≤ 1000000) : MulG k k ∧ MulG (scell ns k + 1009) (scell ns k + 48271 + k * k) := by
 have c := scell_bits h k
 have k1 : Bt 64 k := Bt.small (by omega) (by omega)
 have k2 : Bt 128 (k * k) := k1.mul k1
 have n1 : Bt 1048576 1009 := (Bt.small (by decide) (by decide)).up (by decide)
 have n2 : Bt 1048576 48271 := (Bt.small (by decide) (by decide)).up (by decide)
 exact ⟨⟨k1.up (by decide), k1.up (by decide)⟩, (c.add n1).up (by decide), ((c.add n2).add (k2.up (by decide))).up (by decide)⟩
theorem wide_muls {ns : List Int} (h : Scr ns) (k : Int) : MulG 2147483629 (scell ns k) ∧ MulG (2147483629 * scell ns k) (scell ns k) ∧ MulG (2147483629 * scell ns k * scell ns k) (scell ns k) := by
 have c := scell_bits h k
 have n1 : Bt 64 2147483629 := Bt.small (by decide) (by decide)
 have c1 := n1.mul c
 have c2 := c1.mul c
 exact ⟨⟨n1.up (by decide), c.up (by decide)⟩, ⟨c1.up (by decide), c.up (by decide)⟩, c2.up (by decide), c.up (by decide)⟩
end Gz
namespace Gz
open PySem PySem.Spec PyProof.Rows L2
end Gz
namespace Gz
open PySem PySem.Spec PyProof.Rows L2
theorem at_mem {vs : List Int} {p : Int} (h0 : 0 ≤ p) (h1 : p < (vs.length : Int)) : ∃ v, v ∈ vs ∧ atI (vs.map V.int) p = some (.int v) := by
 have e : p = ((p.toNat : Nat) : Int) := by omega
 refine ⟨vs[p.toNat]'(by omega), List.getElem_mem _, ?_⟩
 refine (congrArg (atI _) e).trans (atI_nat ?_)
 rw [List.getElem?_map, List.getElem?_eq_getElem (by omega)]
 rfl
theorem bd600 {x : Int} (h : x.natAbs < 2 ^ 600) : Bd 4000 x := Bd.up (n := 600) h (by decide)
theorem mul600 {x y : Int} (h : x.natAbs < 2 ^ 600) (h' : y.natAbs < 2 ^ 600) : MulB x y := ⟨bd600 h, bd600 h'⟩
end Gz
namespace Gz
end Gz
namespace Gz
open PySem L2
theorem seq_cut {a b : TS} {D : Ends} {σ : L2.St} {H : Hp} (I : L2.St → Hp → Prop) (h1 : ∀ N : L2.St → Hp → Prop, (∀ σ H, I σ H → N σ H) → a { D with nx := N } σ H) (h2 : ∀ σ H, I σ H → b D σ H) : tSeq a b D σ H := h1 _ h2
end Gz
namespace Gz
open PySem L2 PySem.W PySem.Spec PyProof.Rows
def pre (f : P2 → Int) (ps : List P2) (i : Nat) : Int := ((ps.take i).map f).sum
def riseF (ps : List P2) (i j : Nat) : Int := if i ≤ j then pre (·.2) ps j - pre (·.2) ps i else pre (·.1) ps j - pre (·.1) ps i
def part (ps : List P2) (i j k : Nat) : Int := if i < j then pre (·.2) ps (min i j + k) - pre (·.2) ps i else pre (·.1) ps j - pre (·.1) ps (min i j + k)
end Gz
namespace Gz
open PySem PySem.Spec PyProof.Rows L2
def bits (bs : List Int) : Prop := ∀ x ∈ bs, x = 0 ∨ x = 1
theorem made_same {H : Hp} {x dx C : Addr} {fs : List (Str × V)} (hx : H x = none) (hd : H dx = none) (hn : dx ≠ x) : Same H (upd (upd H dx (.own x)) x (.ins C dx fs)) :=
 (same_upd hd).trans (same_upd (by rw [upd_ne (Ne.symm hn)]; exact hx))
abbrev Lk := Option (List Int)
def IsLx (xs : List Addr) (H : Hp) (v : V) : Lk → Prop
 | none => v = .non
 | some bs => ∃ l, v = .ref l ∧ l ∉ xs ∧ H l = some (.lst (bs.map V.int))
abbrev IsL := IsLx []
theorem IsLx.l {xs : List Addr} {H : Hp} {v : V} {k : Lk} (h : IsLx xs H v k) : IsL H v k := by
 cases k with
 | none => exact h
 | some bs => obtain ⟨l, a, b, c⟩ := h; exact ⟨l, a, (fun z => nomatch z), c⟩
end Gz
namespace Gz
open PySem PySem.Spec PyProof.Rows L2
local macro_rules | `(tactic| walk_at "om") => `(tactic| ((try simp only [PySem.Addr] at *); omega))
section
variable {κ : Type} [DecidableEq κ]
def outH (xs : List (κ × Addr × Value)) (k : κ) : List (κ × Addr × Value) := xs.filter fun x => decide (x.1 ≠ k)
theorem out_all {xs : List (κ × Addr × Value)} {k : κ} (h : k ∉ xs.map (·.1)) : outH xs k = xs := by
 unfold outH
 rw [List.filter_eq_self]
 intro x hx
 rw [decide_eq_true_eq]
 exact fun z => h (List.mem_map.mpr ⟨x, hx, z⟩)
theorem erase_out : ∀ {xs : List (κ × Addr × Value)} {k : κ} {j : Nat} {p : Addr × Value}, (xs.map (·.1)).Nodup → xs[j]? = some (k, p) → xs.eraseIdx j = outH xs k
 | [], _, _, _, _, h => by simp at h
 | x :: r, k, 0, p, hn, h => by
  rw [List.map_cons, List.nodup_cons] at hn
  simp at h
  subst h
  have e : outH ((k, p) :: r) k = outH r k := by unfold outH; rw [List.filter_cons, if_neg (by simp)]
  rw [e, out_all hn.1]; rfl
 | x :: r, k, j + 1, p, hn, h => by
  rw [List.map_cons, List.nodup_cons] at hn
  rw [List.getElem?_cons_succ] at h
  have ne : ¬ x.1 = k := fun z => hn.1 (z ▸ List.mem_map.mpr ⟨_, List.mem_of_getElem? h, rfl⟩)
  have e : outH (x :: r) k = x :: outH r k := by unfold outH; rw [List.filter_cons, if_pos (by simpa using ne)]
  rw [e, List.eraseIdx_cons_succ, erase_out hn.2 h]
theorem eraseIdx_map {α β : Type} (f : α → β) : ∀ (l : List α) (j : Nat), (l.map f).eraseIdx j = (l.eraseIdx j).map f
 | [], _ => rfl
 | _ :: _, 0 => rfl
 | x :: l, j + 1 => by rw [List.map_cons, List.eraseIdx_cons_succ, eraseIdx_map f l j]; rfl
theorem out_nodup {xs : List (κ × Addr × Value)} {k : κ} (hn : (xs.map (·.1)).Nodup) : ((outH xs k).map (·.1)).Nodup := hn.sublist ((List.filter_sublist).map _)
end
theorem nil_at {prog : Program} {w : World} {K : Type} [DecidableEq K] {knd : HeapKind prog w K} {es : Array DictEntry} {xs : List (K × Addr × Value)} {k : K} (he : es.toList = xs.map (entryOfKey knd)) (h : es.isEmpty = true) : atKey xs k = none := by
 have e : es.size = 0 := by simpa using h
 have l := size_of_entries he
 have : xs = [] := List.length_eq_zero_iff.mp (by omega)
 rw [this]; rfl
theorem KT.out {H : Hp} {kvs : List (List Key × V)} {xs : List (List Key × Addr × Value)} (r : KT H kvs xs) (k : List Key) : KT H (dropK kvs k) (outH xs k) := by
 unfold dropK outH
 induction r with
 | nil => exact .nil
 | @cons p q ps qs h t ih =>
  rw [List.filter_cons, List.filter_cons]
  by_cases e : p.1 = k
  ·rw [if_neg (by simp [e]), if_neg (by simp [h.1.symm.trans e])]; exact ih
  ·rw [if_pos (by simp [e]), if_pos (by rw [decide_eq_true_eq]; exact fun z => e (h.1.trans z))]; exact .cons h ih
section
variable {prog : Program} {w : World} {K : Type} [DecidableEq K] {knd : HeapKind prog w K} {A : Around} {E : Value → Shared → Prop} {s : Shared}
theorem take_outH {d a : Addr} {xs : List (K × Addr × Value)} {k : K} {Q : Option DictEntry → Shared → Prop} (hu : knd.room A) (hkey : knd.is s.heap k a) (hm : s.heap.DictOfH knd d xs) (hsz : xs.length ≤ sizeLine)
 (h0 : atKey xs k = none → Q none { s with toks := s.toks + knd.draws k })
 (h1 : ∀ p e, atKey xs k = some p → e.val = p.2 → ∀ h', h'.DictOfH knd d (outH xs k) → Heap.SameBut d s.heap h' → Q (some e) { s with heap := h', toks := s.toks + knd.draws k }) : wpAny (model prog w) A (Builtin.Dict.takeOut d (.ref a)) Q E s := by
 obtain ⟨o, es, ep, ho, hc, hd, he, his, hn⟩ := hm
 have hes : es.size ≤ sizeLine := by have e := size_of_entries he; omega
 unfold Builtin.Dict.takeOut
 try with_reducible refine wpAny_holding ?_
 refine wpAny_bind (knd.pyHash hu hkey ?_)
 refine wpAny_bind (wpAny_dictFind_heap (s := { s with toks := s.toks + knd.draws k }) hu hkey ho hd he his hn (fun hno => ?_) fun j p hj => ?_)
 ·exact wpAny_pure (h0 (atKey_none_of_get hno))
 ·refine wpAny_bind (wpAny_dictEntries (s := { s with toks := s.toks + knd.draws k }) ho hd ?_)
  have ej := entry_at he j
  rw [hj] at ej
  rw [ej]
  refine wpAny_bind (wpAny_updateDictKeys (hz := hes) (s := { s with toks := s.toks + knd.draws k }) ho hd (wpAny_pure (h1 p (entryOfKey knd (k, p)) (atKey_of_get hn hj) rfl _ ⟨_, _, ep + 1, Heap.get?_update_self _ ho (Obj.isFreed_of_dict (Obj.data_mapDictKeys hd _)), hc.mapDictKeys _, Obj.data_mapDictKeys hd _, ?_, ?_, out_nodup hn⟩ (Heap.SameBut.update ..))))
  ·rw [← erase_out hn hj]
   have lt : j < es.size := by rw [size_of_entries he]; exact (List.getElem?_eq_some_iff.mp hj).1
   rw [Array.eraseIdxIfInBounds, dif_pos lt, Array.toList_eraseIdx, he, eraseIdx_map]
  ·exact fun x hx => knd.keeps (his x (List.mem_filter.mp hx).1) ho hd (Heap.SameBut.update ..)
theorem popH {d a : Addr} {more : List Value} {Q : Value → Shared → Prop} {xs : List (K × Addr × Value)} {k : K} (hu : knd.room A.in1) (hkey : knd.is s.heap k a) (hd : (d == sysModules) = false) (hm : s.heap.DictOfH knd d xs) (hsz : xs.length ≤ sizeLine) (hmo : more = [] ∨ ∃ x, more = [x])
 (h1 : ∀ p, atKey xs k = some p → ∀ h' tk, h'.DictOfH knd d (outH xs k) → Heap.SameBut d s.heap h' → Q p.2 { s with heap := h', toks := tk })
 (h0 : atKey xs k = none → ∃ x, more = [x] ∧ ∀ tk, Q x { s with toks := tk }) : wpAny (model prog w) A (call (.builtin "dict.pop") (.ref d :: .ref a :: more)) Q E s := by
 have ha : argsOk "dict.pop" ⟨.ref d :: .ref a :: more, []⟩ := by
  rcases hmo with q | ⟨x, q⟩
  ·subst q; exact PySem.F.args_dict_pop_2 _ _
  ·subst q; exact PySem.F.args_dict_pop_3 _ _ _
 have g : MeetsIn prog w (Builtin.«dict.pop» ⟨.ref d :: .ref a :: more, []⟩) (fun A R s => knd.room A.in1 ∧ knd.is s.heap k a ∧ s.heap.DictOfH knd d xs ∧ (∀ p, atKey xs k = some p → ∀ h' tk, h'.DictOfH knd d (outH xs k) → Heap.SameBut d s.heap h' → R (.ok (.ret p.2)) { s with heap := h', toks := tk }) ∧
  (atKey xs k = none → ∃ x, more = [x] ∧ ∀ tk, R (.ok (.ret x)) { s with toks := tk })) := .of_wp fun A R s ⟨hu, hkey, hm, h1, h0⟩ => by
  obtain ⟨o, es, ep, ho, hc, hda, he, his, hn⟩ := id hm
  unfold Builtin.«dict.pop»
  refine wpAny_bind ?_
  unfold Builtin.Dict.keyAndDefault
  refine wpAny_bind (wpAny_notOrdered_dict hm.typeIs ?_)
  rcases hmo with rfl | ⟨dflt, rfl⟩
  ·show wpAny _ _ (pure (d, Value.ref a, none)) _ _ s
   refine wpAny_pure ?_
   dsimp only
   rw [if_neg (show ¬ (keyPart (Value.ref a)).isSome = true from fun z => nomatch z)]
   refine wpAny_bind (wpAny_dictEntries ho hda (wpAny_bind (wpAny_pure ?_)))
   by_cases hemp : es.isEmpty = true
   ·rw [if_pos hemp]
    refine wpAny_bind (wpAny_rule (wpAny_bind (wpAny_pure ?_)))
    rw [if_pos (show (none : Option DictEntry).isNone = true from rfl)]
    refine wpAny_bind (wpAny_missedRemoval_other hd ?_)
    obtain ⟨x, ex, hq⟩ := h0 (nil_at he hemp)
    cases ex
   ·rw [if_neg hemp]
    refine wpAny_bind (take_outH hu hkey hm hsz (fun h00 => ?_) fun p e hp hev h' dd hs => ?_)
    ·rw [if_pos (show (none : Option DictEntry).isNone = true from rfl)]
     refine wpAny_bind (wpAny_missedRemoval_other hd ?_)
     obtain ⟨x, ex, hq⟩ := h0 h00
     cases ex
    ·rw [if_neg (show ¬ (some e).isNone = true from by simp)]
     exact wpAny_bind (wpAny_letGo (wpAny_pure ⟨e.val, rfl, by rw [hev]; exact h1 p hp h' _ dd hs⟩))
  ·show wpAny _ _ (pure (d, Value.ref a, some dflt)) _ _ s
   refine wpAny_pure ?_
   dsimp only
   rw [if_neg (show ¬ (keyPart (Value.ref a)).isSome = true from fun z => nomatch z)]
   refine wpAny_bind (wpAny_dictEntries ho hda (wpAny_bind (wpAny_pure ?_)))
   by_cases hemp : es.isEmpty = true
   ·rw [if_pos hemp]
    refine wpAny_bind (wpAny_rule (wpAny_bind (wpAny_pure ?_)))
    rw [if_pos (show (none : Option DictEntry).isNone = true from rfl)]
    refine wpAny_bind (wpAny_missedRemoval_other hd ?_)
    obtain ⟨x, ex, hq⟩ := h0 (nil_at he hemp)
    cases ex; exact wpAny_bind (wpAny_rule (wpAny_pure ⟨dflt, rfl, hq _⟩))
   ·rw [if_neg hemp]
    refine wpAny_bind (take_outH hu hkey hm hsz (fun h00 => ?_) fun p e hp hev h' dd hs => ?_)
    ·rw [if_pos (show (none : Option DictEntry).isNone = true from rfl)]
     refine wpAny_bind (wpAny_missedRemoval_other hd ?_)
     obtain ⟨x, ex, hq⟩ := h0 h00
     cases ex; exact wpAny_bind (wpAny_rule (wpAny_pure ⟨dflt, rfl, hq _⟩))
    ·rw [if_neg (show ¬ (some e).isNone = true from by simp)]
     exact wpAny_bind (wpAny_letGo (wpAny_pure ⟨e.val, rfl, by rw [hev]; exact h1 p hp h' _ dd hs⟩))
 exact call_meetsIn PySem.F.slot_dict_pop hm.typeIs PySem.F.entry_dict_pop ha g ⟨hu, hkey, hm, h1, h0⟩
end
def RawAt (h : Heap) (d : Addr) (es : Array DictEntry) (ep : Nat) : Prop := ∃ o, h.get? d = some o ∧ o.ExactDict ∧ o.data = .dict es ep
theorem RawAt.at {h h' : Heap} {d : Addr} {es : Array DictEntry} {ep : Nat} (x : RawAt h d es ep) (e : ∀ o, h.get? d = some o → h'.get? d = some o) : RawAt h' d es ep := let ⟨o, ho, r⟩ := x; ⟨o, e o ho, r⟩
theorem RawAt.lt {h : Heap} {d : Addr} {es : Array DictEntry} {ep : Nat} (x : RawAt h d es ep) : d < h.objs.size := let ⟨_, ho, _⟩ := x; Heap.lt_size ho
theorem RawAt.ty {s : Shared} {d : Addr} {es : Array DictEntry} {ep : Nat} (x : RawAt s.heap d es ep) : s.TypeIs (.ref d) "dict" := let ⟨o, ho, hc, _⟩ := x; ⟨o, ho, hc.1⟩
section
variable {prog : Program} {w : World} {A : Around} {E : Value → Shared → Prop} {s : Shared} {d it : Addr} {es : Array DictEntry} {i ep : Nat}
theorem iter_raw {Q : Value → Shared → Prop} (lo : (d == sysModules) = false) (x : RawAt s.heap d es ep)
 (q : Q (.ref s.heap.objs.size) { s with heap := s.heap.push { cls := .type "dict_keyiterator", data := .fields #[.ref d, .int 0 0, .int es.size 0, .int ep 0] } }) : wpAny (model prog w) A (pyIter (.ref d)) Q E s := by
 have T := x.ty
 obtain ⟨o, ho, hc, hq⟩ := x
 refine wpAny_pyIter_slot T PySem.F.slot_dict_iter (wpAny_call_entry PySem.F.slot_dict_iter T PySem.F.entry_dict_iter ?_ (PySem.F.args_dict_iter_1 _))
 unfold Builtin.«dict.__iter__»; refine wpAny_bind ?_
 unfold Builtin.Dict.dictSlotNone; refine wpAny_bind (wpAny_notOrdered_dict T ?_)
 refine wpAny_pure (a := Value.ref d) ?_
 show wpAny _ A.in1 (Builtin.Dict.showsAll d >>= _) _ _ s
 unfold Builtin.Dict.showsAll; rw [if_neg (by rw [lo]; exact Bool.false_ne_true)]
 refine wpAny_bind (wpAny_pure (wpAny_bind (wpAny_dictEntries ho hq (wpAny_bind (wpAny_dictEpoch ho hq ?_)))))
 refine wpAny_bind (wpAny_newObj_type (wpAny_pure ⟨_, rfl, "dict_keyiterator", _, ⟨_, Heap.get?_push_size _ rfl, rfl⟩, PySem.F.slot_dict_keyiterator_next.lookup, ?_⟩))
 simpa [rawInt] using q
theorem next_raw {Q : Option Value → Shared → Prop} (hit : s.heap.IsKeyIter it d i es.size ep) (x : RawAt s.heap d es ep) (hi : i < es.size)
 (q : ∀ h', h'.IsKeyIter it d (i + 1) es.size ep → Heap.SameBut it s.heap h' → Q (some es[i].key) { s with heap := h' }) : wpAny (model prog w) A (pyNext (.ref it)) Q E s := by
 obtain ⟨o, ho, hc, hd⟩ := id hit
 obtain ⟨od, hod, hcd, hdd⟩ := x
 have T := hit.typeIs
 unfold pyNext
 refine wpAny_bind (wpAny_attempt (wpAny_callSpecial?_slot (name := Str.ofString "__next__") T PySem.F.slot_dict_keyiterator_next (wpAny_call_entry PySem.F.slot_dict_keyiterator_next T PySem.F.entry_dict_keyiterator_next ?_ (PySem.F.args_dict_keyiterator_next_1 _))))
 refine wpAny_bind (wpAny_pure (wpAny_bind (wpAny_bind ?_)))
 first | refine wpAny_bind (wpAny_typeNameOfWhole_keyiter T (wpAny_pure (wpAny_bind (wpAny_fieldsOf ho hd ?_)))) | refine wpAny_bind (wpAny_typeNameOf_keyiter T (wpAny_pure (wpAny_bind (wpAny_fieldsOf ho hd ?_))))
 have ow : Builtin.Dict_items.ownsTuple "dict_keyiterator" = false := by decide
 simp only [ow, Bool.false_eq_true, if_false]; show wpAny _ A.in1 (if (Value.ref d == Value.none) = true then _ else _) _ _ s
 rw [if_neg (show ¬ (Value.ref d == Value.none) = true from Bool.false_ne_true)]
 refine wpAny_bind (wpAny_pure (wpAny_bind (wpAny_dictEntries hod hdd ?_)))
 rw [if_neg (by simp)]; refine wpAny_bind (wpAny_pure (wpAny_bind (wpAny_dictEpoch hod hdd ?_)))
 rw [if_neg (by simp)]; refine wpAny_pure ?_
 simp only [show ¬ (i : Int) < 0 by omega, if_false, Int.toNat_natCast, Array.getElem?_eq_getElem hi]; refine wpAny_bind ?_
 first | refine wpAny_bind (wpAny_typeNameOfWhole_keyiter T (wpAny_pure (wpAny_bind (wpAny_isOneOf_keyiter T ?_)))) | refine wpAny_bind (wpAny_typeNameOf_keyiter T (wpAny_pure (wpAny_bind (wpAny_isOneOf_keyiter T ?_))))
 show wpAny _ A.in1 (setField (.ref it) 1 (rawInt ((i : Int) + 1)) >>= _) _ _ s
 refine wpAny_bind (wpAny_setField ho hd (by simp) ?_)
 have hit' : (s.heap.update it (Obj.mapFields (·.setIfInBounds 1 (rawInt ((i : Int) + 1))))).IsKeyIter it d (i + 1) es.size ep := ⟨_, Heap.get?_update_self _ ho (Obj.isFreed_of_fields (Obj.data_mapFields hd _)), (Obj.cls_mapFields ..).trans hc, by rw [Obj.data_mapFields hd]; simp [rawInt]⟩
 refine wpAny_bind (wpAny_holding (wpAny_bind (wpAny_isOneOf_keyiter (s := { s with heap := s.heap.update it (Obj.mapFields (·.setIfInBounds 1 (rawInt ((i : Int) + 1)))) }) hit'.typeIs ?_)))
 show wpAny _ A.in1 (pure es[i].key) _ _ _
 exact wpAny_pure (wpAny_pure ⟨_, rfl, wpAny_pure (q _ hit' (Heap.SameBut.update ..))⟩)
theorem end_raw {Q : Option Value → Shared → Prop} (hh : A.handled = none) (hit : s.heap.IsKeyIter it d es.size es.size ep) (x : RawAt s.heap d es ep)
 (q : ∀ h', Heap.ExtBut it s.heap h' → Q none { s with heap := h' }) : wpAny (model prog w) A (pyNext (.ref it)) Q E s := by
 obtain ⟨o, ho, hc, hd⟩ := id hit
 obtain ⟨od, hod, hcd, hdd⟩ := x
 have T := hit.typeIs
 unfold pyNext
 refine wpAny_bind (wpAny_attempt (wpAny_callSpecial?_slot (name := Str.ofString "__next__") T PySem.F.slot_dict_keyiterator_next (wpAny_call_entry PySem.F.slot_dict_keyiterator_next T PySem.F.entry_dict_keyiterator_next ?_ (PySem.F.args_dict_keyiterator_next_1 _))))
 refine wpAny_bind (wpAny_pure (wpAny_bind (wpAny_bind ?_)))
 first | refine wpAny_bind (wpAny_typeNameOfWhole_keyiter T (wpAny_pure (wpAny_bind (wpAny_fieldsOf ho hd ?_)))) | refine wpAny_bind (wpAny_typeNameOf_keyiter T (wpAny_pure (wpAny_bind (wpAny_fieldsOf ho hd ?_))))
 have ow : Builtin.Dict_items.ownsTuple "dict_keyiterator" = false := by decide
 simp only [ow, Bool.false_eq_true, if_false]; show wpAny _ A.in1 (if (Value.ref d == Value.none) = true then _ else _) _ _ s
 rw [if_neg (show ¬ (Value.ref d == Value.none) = true from Bool.false_ne_true)]
 refine wpAny_bind (wpAny_pure (wpAny_bind (wpAny_dictEntries hod hdd ?_)))
 rw [if_neg (by simp)]; refine wpAny_bind (wpAny_pure (wpAny_bind (wpAny_dictEpoch hod hdd ?_)))
 rw [if_neg (by simp)]; refine wpAny_pure ?_
 simp only [show ¬ (es.size : Int) < 0 by omega, if_false, Int.toNat_natCast, Array.getElem?_eq_none (Nat.le_refl es.size)]; refine wpAny_bind ?_
 first | refine wpAny_bind (wpAny_typeNameOfWhole_keyiter T (wpAny_pure ?_)) | refine wpAny_bind (wpAny_typeNameOf_keyiter T (wpAny_pure ?_))
 show wpAny _ A.in1 (setField (.ref it) 0 .none >>= _) _ _ s
 refine wpAny_bind (wpAny_setField ho hd (by simp) ?_); show wpAny _ A.in1 (newExc (.type "StopIteration") [] >>= _) _ _ _
 refine wpAny_bind ?_; simp only [newExc, newTuple]
 refine wpAny_bind (wpAny_newObj_type ?_ (by size_fits)); refine wpAny_bind (m := firstArgMember _ _) (wpAny_of_eq (a := Value.none) (by first | rfl | (simp only [firstArgMember]; rfl)) ?_)
 refine wpAny_newObj_type ?_ (by size_fits); simp only [raiseNew]
 refine wpAny_bind (wpAny_handled ?_); rw [show A.in1.handled = none from hh]
 refine wpAny_bind (wpAny_pure (wpAny_throw ?_)); refine wpAny_bind (wpAny_isInstance (T := "StopIteration") (b := true) ⟨_, Heap.get?_push_size _ rfl, rfl⟩ isSubtype_stop ?_)
 exact wpAny_pure (q _ (((Heap.SameBut.update ..).extBut.push _).push _))
theorem walk_raw (hh : A.handled = none) (I d : Addr) (hne : d ≠ I) (es : Array DictEntry) (ep : Nat) :
 Walks prog w A I [I, d] [I] es.size (fun i v => ∃ e, es[i]? = some e ∧ v = e.key) (fun i h => h.IsKeyIter I d i es.size ep ∧ RawAt h d es ep) where
 sub := fun b hb => by simp at hb; simp [hb]
 frame := fun _ _ _ st hk => ⟨st.1.at fun o e => hk I (by simp) o e, st.2.at fun o e => hk d (by simp) o e⟩
 item := fun i s Q E hi st hQ => by
  refine next_raw st.1 st.2 hi fun h' hit' hs' => ?_
  exact hQ _ h' s.toks ⟨es[i], Array.getElem?_eq_getElem hi, rfl⟩ ⟨hit', st.2.at fun o e => hs'.extBut d o hne e⟩ fun b o hb e => hs'.extBut b o (fun h => hb (by simp [h])) e
 done := fun s Q E st hQ => end_raw hh st.1 st.2 fun h' he' => hQ h' s.toks fun b o hb e => he' b o (fun h => hb (by simp [h])) e
 self := fun _ _ _ _ st hQ => wpAny_pyIter_keyiter st.1 hQ
theorem src_raw (lo : (d == sysModules) = false) : PySem.W.KdlSrc prog w "dict" d d es.size (fun i v => ∃ e, es[i]? = some e ∧ v = e.key) (fun h => RawAt h d es ep) where
 type := fun _ x => x.ty
 there := fun _ x => ⟨x.lt, x.lt⟩
 keep := fun _ _ x hk => x.at fun o e => hk d (.inl rfl) o e
 notList := by decide
 notTuple := by decide
 hint := fun _ _ _ _ x hq => PySem.W.kdl_hint_dict x.ty hq
 iter := fun _ _ hh x => ⟨_, _, (fun _ _ hq => iter_raw lo x hq), walk_raw hh _ d (Nat.ne_of_lt x.lt) es ep, ⟨⟨_, Heap.get?_push_size _ rfl, rfl, rfl⟩, x.at fun o e => Heap.get?_push_of_some _ e⟩⟩
end
section
variable {prog : Program} {w : World} {A : Around} {E : Value → Shared → Prop} {s : Shared}
def TupI (h : Heap) (vs : List Value) (kis : List (List Int)) (i : Nat) : Prop := ∃ (p : Addr) (o : Obj) (its : List Value) (m : Nat), vs[i]? = some (.ref p) ∧ h.get? p = some o ∧ o.cls = .type "tuple" ∧ o.data = .seq its.toArray m ∧ IntsAre its (kis.getD i []) ∧ its ≠ []
theorem TupI.keep {h h' : Heap} {vs : List Value} {kis : List (List Int)} {i : Nat} (x : TupI h vs kis i) (k : ∀ b o, h.get? b = some o → (∀ n xs, o ≠ seqObj "list" xs n) → h'.get? b = some o) : TupI h' vs kis i := by
 obtain ⟨p, o, its, m, h1, h2, h3, r⟩ := x
 exact ⟨p, o, its, m, h1, k p o h2 (fun n xs z => by rw [z] at h3; exact absurd (Value.type.inj h3) (by decide)), h3, r⟩
theorem ints_first {its : List Value} {ns : List Int} (h : IntsAre its ns) (hn : its ≠ []) : ∃ i t, its[0]? = some (.int i t) := by
 cases h with
 | nil => exact absurd rfl hn
 | cons => exact ⟨_, _, rfl⟩
theorem katTups_of {h : Heap} : ∀ (vs : List Value) (kis : List (List Int)), kis.length = vs.length → (∀ i, i < vs.length → TupI h vs kis i) → ∃ fs, PySem.W.KatTups h vs fs ∧ fs.length = vs.length ∧ ∀ v ∈ fs, ∃ i t, v = .int i t
 | [], _, _, _ => ⟨[], PySem.W.KatTups.nil, rfl, fun v z => by simp at z⟩
 | v :: vs, [], e, _ => by simp at e
 | v :: vs, k :: kis, e, hh => by
  obtain ⟨p, o, its, m, h1, h2, h3, h4, h5, h6⟩ := hh 0 (by simp)
  have h1' : v = .ref p := by simpa using h1
  subst h1'
  obtain ⟨i, t, hf⟩ := ints_first h5 h6
  obtain ⟨fs, a1, a2, a3⟩ := katTups_of vs kis (by simpa using e) fun i hi => by
   obtain ⟨p, o, its, m, h1, r⟩ := hh (i + 1) (by simpa using hi)
   exact ⟨p, o, its, m, by simpa using h1, by simpa using r⟩
  refine ⟨.int i t :: fs, PySem.W.KatTups.cons h2 h3 h4 (by simpa using hf) a1, by simp [a2], fun v hv => ?_⟩
  rcases List.mem_cons.mp hv with z | z
  ·exact ⟨i, t, z⟩
  ·exact a3 v z
theorem sort_tups {a : Addr} {vs : List Value} {kis : List (List Int)} {n : Nat} {P : PySem.Fin → Shared → Prop} (ho : s.heap.get? a = some (seqObj "list" vs.toArray n)) (hl : kis.length = vs.length) (h64 : vs.length < 64) (hk : ∀ i, i < vs.length → TupI s.heap vs kis i)
 (fin : ∀ h', (∀ b o, b ≠ a → s.heap.get? b = some o → h'.get? b = some o) → (∃ c, h'.get? a = some (seqObj "list" (List.toArray ((sortIx (ltK kis) vs.length).toList.map fun i => vs.getD i Value.none)) c)) → P (.done (.ret .none)) { s with heap := h' }) :
 wpAny (model prog w) A (Builtin.«list.sort» ⟨[.ref a], []⟩) P E s := by
 rw [list_sort_plain]
 have la : a < s.heap.objs.size := Heap.lt_size ho
 refine wpAny_bind (listItems_at ho rfl (wpAny_bind (listUpdate_at ho rfl ?_ (by rw [List.size_toArray, sizeLine_eq]; walk_at "om") (Nat.zero_le _))))
 obtain ⟨e1, oa⟩ : ∃ e1, (s.heap.update a (Obj.mapSeq fun _ => (#[] : Array Value))).get? a = some (seqObj "list" #[] e1) := ⟨_, get?_update_seq ho fun _ => #[]⟩
 have keep : ∀ b o, b ≠ a → s.heap.get? b = some o → (s.heap.update a (Obj.mapSeq fun _ => (#[] : Array Value))).get? b = some o := fun b o z e => (Heap.get?_update_other _ _ (Ne.symm z)).trans e
 refine wpAny_bind (seqEpoch_at oa rfl ?_)
 generalize s.heap.update a (Obj.mapSeq fun _ => (#[] : Array Value)) = g at oa keep ⊢
 refine wpAny_bind (wpAny_newTuple ?_ (by show vs.length ≤ _; rw [sizeLine_eq]; walk_at "om")); refine wpAny_bind (wpAny_newList ?_ (Nat.zero_le _))
 refine wpAny_holding ?_
 show wpAny (model prog w) A _ P E { s with heap := (g.push (seqObj "tuple" vs.toArray 0)).push (seqObj "list" #[] 0) }
 have oa2 : ((g.push (seqObj "tuple" vs.toArray 0)).push (seqObj "list" #[] 0)).get? a = some (seqObj "list" #[] e1) := Heap.get?_push_of_some _ (Heap.get?_push_of_some _ oa)
 have keep2 : ∀ b o, b ≠ a → s.heap.get? b = some o → ((g.push (seqObj "tuple" vs.toArray 0)).push (seqObj "list" #[] 0)).get? b = some o := fun b o z e => Heap.get?_push_of_some _ (Heap.get?_push_of_some _ (keep b o z e))
 generalize (g.push (seqObj "tuple" vs.toArray 0)).push (seqObj "list" #[] 0) = g2 at oa2 keep2 ⊢
 dsimp only
 have neT : ∀ b o, s.heap.get? b = some o → (∀ n xs, o ≠ seqObj "list" xs n) → b ≠ a := fun b o e z y => by rw [y, ho] at e; cases e; exact z _ _ rfl
 have out_len : ((sortIx (ltK kis) vs.length).toList.map fun i => vs.getD i Value.none).length = vs.length := by
  rw [List.length_map, (sortIx_ok (n := vs.length) (ltK_ord kis)).1.length_eq, List.length_range]
 have sz : (List.toArray ((sortIx (ltK kis) vs.length).toList.map fun i => vs.getD i Value.none)).size ≤ sizeLine + 1 := by rw [List.size_toArray, out_len, sizeLine_eq]; walk_at "om"
 have done : P (.done (.ret .none)) { s with heap := g2.update a (Obj.mapSeq fun _ => List.toArray ((sortIx (ltK kis) vs.length).toList.map fun i => vs.getD i Value.none)) } :=
  fin _ (fun b o z e => (Heap.get?_update_other _ _ (Ne.symm z)).trans (keep2 b o z e)) ⟨_, get?_update_seq oa2 fun _ => _⟩
 by_cases h2 : vs.toArray.size < 2
 ·rw [if_pos h2, if_pos h2]
  refine wpAny_bind (wpAny_pure ?_)
  rw [StateT.run_pure]
  refine wpAny_bind (wpAny_pure ?_)
  dsimp only
  have self : (List.range vs.length).map (fun i => vs.getD i Value.none) = vs := by
   apply List.ext_getElem
   ·simp
   ·intro i h1 h2
    simp [List.getD_eq_getElem?_getD, h2]
  have e0 : (arrOf (SortSt.mk' general' (vs.toArray.zip vs.toArray) #[] 7 none)).map (·.2) = List.toArray ((sortIx (ltK kis) vs.length).toList.map fun i => vs.getD i Value.none) := by
   unfold sortIx
   rw [if_pos (by simpa using h2)]
   apply Array.toList_inj.mp
   rw [show (List.range vs.length).toArray.toList = List.range vs.length from rfl, self]
   show ((vs.toArray.zip vs.toArray).map (·.2)).toList = _
   simp [List.map_snd_zip]
  rw [e0]
  refine wpAny_bind (seqEpoch_at oa2 rfl (wpAny_bind (listUpdate_at oa2 rfl ?_ (Nat.zero_le _) sz)))
  simp only [bne_self_eq_false, Bool.false_eq_true, if_false]
  exact wpAny_pure done
 ·rw [if_neg h2, if_neg h2]
  have h2' : 2 ≤ vs.length := by rw [List.size_toArray] at h2; walk_at "om"
  have hk2 : ∀ i, i < vs.length → TupI g2 vs kis i := fun i hi => (hk i hi).keep fun b o e z => keep2 b o (neT b o e z) e
  obtain ⟨fs, ht, lf, hi⟩ := katTups_of vs kis hl hk2
  have eT : (Value.type "int" != Value.type "tuple") = true := by decide
  refine wpAny_bind (PySem.W.kat_kind (s := { s with heap := g2 }) (T := .type "int") ht (by walk_at "om") (fun v hv => ?_) (by decide) ?_)
  ·obtain ⟨i, t, rfl⟩ := hi v hv
   exact PySem.W.Looks.now
  rw [eT]
  have ask : (PySem.W.kas_sort vs.length).kasWp (PySem.W.kas_ask prog w A (tuples' true) vs) (fun p s' => s' = { s with heap := g2 } ∧ p = sortIx (ltK kis) vs.length) { s with heap := g2 } := by
   have pv := kasP_is _ (sort_ok (n := vs.length) (ltK_ord kis) (by walk_at "om"))
   refine kasP_wp (lt := ltK kis) (n := vs.length) (Ok := fun s' => s' = { s with heap := g2 }) (fun i j C s' hi hj e q => ?_) (fun p s' e q => ⟨e, ?_⟩) _ _ rfl pv
   ·subst e
    obtain ⟨p1, o1, i1, m1, a1, b1, _, c1, d1, _⟩ := hk2 i hi
    obtain ⟨p2, o2, i2, m2, a2, b2, _, c2, d2, _⟩ := hk2 j hj
    show wpAny _ _ (keyLt' (tuples' true) (vs.getD i Value.none) (vs.getD j Value.none)) C _ _
    rw [List.getD_eq_getElem?_getD, List.getD_eq_getElem?_getD, a1, a2]
    have z1 := d1.length
    have z2 := d2.length
    exact PySem.W.kat_lt b1 c1 b2 c2 (by simpa using lex_run (b := true) (i := 0) d1 d2 (by simp [z1, z2]) (q _ rfl))
   ·rw [q]; unfold sortIx; rw [if_neg (by walk_at "om")]
  refine wpAny_bind (wpAny_mono (PySem.W.kat_run (κ := tuples' true) (ks := vs) (vs := vs) (Q := fun st s' => s' = { s with heap := g2 } ∧ arrOf st = (sortIx (ltK kis) vs.length).map (PySem.W.kas_item (vs.toArray.zip vs.toArray)) ∧ failedOf st = none)
   rfl h2' h64 (fun p st s' b1 b2 b3 b4 => ⟨b4.1, by rw [b2, b4.2], b3⟩) ask) ?_ fun _ _ z => z)
  rintro ⟨⟨⟩, st⟩ s' ⟨rfl, har, hf⟩
  dsimp only
  rw [PySem.W.kat_snds rfl har]
  refine wpAny_bind (seqEpoch_at oa2 rfl (wpAny_bind (listUpdate_at oa2 rfl ?_ (Nat.zero_le _) sz)))
  rw [hf]
  simp only [bne_self_eq_false, Bool.false_eq_true, if_false]
  exact wpAny_pure done
theorem sorted_tups {r : Addr} {vs : List Value} {kis : List (List Int)} {Q : Value → Shared → Prop} (hl : kis.length = vs.length) (h64 : vs.length < 64) (hk : ∀ i, i < vs.length → TupI s.heap vs kis i)
 (hcol : ∀ (A' : Around) (Q' : List Value → Shared → Prop) (E' : Value → Shared → Prop), A'.handled = A.handled → (∀ h' tk, (∀ b o, s.heap.get? b = some o → h'.get? b = some o) → s.heap.objs.size ≤ h'.objs.size → Q' vs { s with heap := h', toks := tk }) → wpAny (model prog w) A' (collect (.ref r)) Q' E' s)
 (q : ∀ l h' tk, s.heap.objs.size ≤ l → (∀ b o, s.heap.get? b = some o → h'.get? b = some o) → (∃ c, h'.get? l = some (seqObj "list" (List.toArray ((sortIx (ltK kis) vs.length).toList.map fun i => vs.getD i Value.none)) c)) → Q (.ref l) { s with heap := h', toks := tk }) :
 wpAny (model prog w) A (call (.builtin "sorted") [.ref r]) Q E s := by
 refine Calls.call_function_entry kind_sorted plain_sorted entry_sorted (args_sorted1 _) ?_
 unfold Builtin.«sorted»
 refine wpAny_bind (m := checkCount "sorted" 1 1 _) (wpAny_pure (wpAny_bind (hcol _ _ _ rfl fun h1 tk keep hsz => ?_)))
 refine wpAny_bind (wpAny_newList ?_ (by rw [sizeLine_eq]; walk_at "om"))
 have oL : (h1.push (seqObj "list" vs.toArray 0)).get? h1.objs.size = some (seqObj "list" vs.toArray 0) := Heap.get?_push_size _ rfl
 have keep1 : ∀ b o, s.heap.get? b = some o → b ≠ h1.objs.size ∧ (h1.push (seqObj "list" vs.toArray 0)).get? b = some o := fun b o e => by
  have := Heap.lt_size e
  exact ⟨by walk_at "om", Heap.get?_push_of_some _ (keep b o e)⟩
 show wpAny _ A.in1 (holding [.ref h1.objs.size] (call (.builtin "list.sort") [.ref h1.objs.size]) >>= _) _ _ { s with heap := h1.push (seqObj "list" vs.toArray 0), toks := tk }
 generalize h1.push (seqObj "list" vs.toArray 0) = h2 at oL keep1 ⊢
 generalize h1.objs.size = l at oL keep1 hsz ⊢
 refine wpAny_bind (wpAny_holding (wpAny_call_entry slot_list_sort ⟨_, oL, rfl⟩ entry_list_sort ?body (args_list_sort _)))
 case body =>
  refine sort_tups (s := { s with heap := h2, toks := tk }) oL hl h64 (fun i hi => (hk i hi).keep fun b o e _ => (keep1 b o e).2) fun h' k c => ⟨_, rfl, wpAny_pure ⟨_, rfl, q l h' tk hsz (fun b o e => k b o (keep1 b o e).1 (keep1 b o e).2) c⟩⟩
theorem collect_srcT {T : String} {r d : Addr} {n : Nat} {P : Nat → Value → Prop} {OK : Heap → Prop} {Q : List Value → Shared → Prop} (K : PySem.W.KdlSrc prog w T r d n P OK) (hh : A.handled = none) (hok : OK s.heap) (hn : n ≤ sizeLine)
 (q : ∀ h' tk acc, (∀ b o, s.heap.get? b = some o → h'.get? b = some o) → s.heap.objs.size ≤ h'.objs.size → ItemsOf P acc n → Q acc.toList { s with heap := h', toks := tk }) : wpAny (model prog w) A (collect (.ref r)) Q E s := by
 have lt := K.there _ hok
 unfold collect
 refine wpAny_bind (wpAny_runValue (codeAny_builtin entry_proto_collect' ?_))
 rw [Around.under_plainId PySem.F.plain_proto_collect _]
 show wpAny _ A.in1 (newList [] >>= fun l => again (.builtin "list.__iadd__" ⟨[l, .ref r], []⟩)) _ _ s
 refine wpAny_bind (wpAny_newObj_type (wpAny_pure ⟨Code.quiet_builtin _ (by decide +kernel), codeAny_builtin entry_list_iadd' ?_⟩))
 rw [Around.under_plainId PySem.F.plain_list_iadd _]
 have oS : (s.heap.push { cls := .type "list", data := .seq ([] : List Value).toArray }).get? s.heap.objs.size = some { cls := .type "list", data := .seq #[] 0 } := Heap.get?_push_size _ rfl
 show wpAny _ A.in1 (Builtin.List.listExtendWith (.ref s.heap.objs.size) (.ref r) (.ref s.heap.objs.size)) _ _ { s with heap := s.heap.push { cls := .type "list", data := .seq ([] : List Value).toArray } }
 refine PySem.W.kdl_extend (R := fun r s' => match r with
  | .ok (.ret v) => wpAny (model prog w) A (match v with | .ref a => (do match (← load a).data with | .seq xs _ => pure xs.toList | _ => unsupported "internal:collect") | _ => unsupported "internal:collect") Q E s'
  | .ok _ => False
  | .error e => E e s') (s := { s with heap := s.heap.push { cls := .type "list", data := .seq ([] : List Value).toArray } }) K hh (K.keep _ _ hok fun b _ o e => Heap.get?_push_of_some _ e) s.heap.objs.size (Nat.ne_of_gt lt.1) (Nat.ne_of_gt lt.2) (.ref s.heap.objs.size) 0 oS (fun h' tk acc c hk hS hacc => ?_) hn
 show wpAny _ A (load s.heap.objs.size >>= _) _ _ _
 refine wpAny_bind (wpAny_load hS (wpAny_pure ?_))
 exact q h' tk acc (fun b o e => hk b o (Nat.ne_of_lt (Heap.lt_size e)) (Heap.get?_push_of_some _ e)) (Nat.le_of_lt (Heap.lt_size hS)) hacc
end
def KeyAs (H : Hp) (xs : List V) (kvs : List (List Key × V)) : Prop := All2 (fun x (kv : List Key × V) => ∃ a, x = .ref a ∧ H a = some (.tup (kv.1.map kV))) xs kvs
theorem KT.keyAs {H : Hp} {kvs : List (List Key × V)} {xs : List (List Key × Addr × Value)} (r : KT H kvs xs) : KeyAs H ((xs.map (·.2.1)).map V.ref) kvs := by
 induction r with
 | nil => exact trivial
 | cons h t ih => exact ⟨⟨_, rfl, h.2.1⟩, ih⟩
theorem KeyAs.keyT {K : PySem.W.Frag} {H : Hp} : ∀ {ys : List V} {kvs : List (List Key × V)} {kis : List (List Int)}, KeyAs H ys kvs → kvs.map (·.1) = kis.map (fun k => k.map Sum.inl) → (∀ k ∈ kis, k ≠ []) → KeyT K H ys kis
 | [], [], [], _, _, _ => trivial
 | [], [], _ :: _, _, e, _ => by simp at e
 | _ :: _, kv :: kvs, [], _, e, _ => by simp at e
 | y :: ys, kv :: kvs, k :: kis, h, e, hn => by
  rw [List.map_cons, List.map_cons] at e
  injection e with e1 e2
  obtain ⟨⟨a, rfl, ha⟩, t⟩ := h
  refine ⟨⟨a, rfl, ?_, hn k (.head _)⟩, KeyAs.keyT t e2 fun k hk => hn k (.tail _ hk)⟩
  rw [e1, List.map_map] at ha
  exact .inl (.inl ha)
 | [], _ :: _, _, h, _, _ => h.elim
 | _ :: _, [], _, h, _, _ => h.elim
theorem vals_refs : ∀ (as : List Addr), Vals (as.map V.ref) (as.map Value.ref)
 | [] => .nil
 | _ :: as => .cons rfl (vals_refs as)
section
variable {X : Cx} {pins : List (Addr × Obj)} {σ : L2.St} {H : Hp} {s : Shared} {p : Addr} {kvs : List (List Key × V)}
theorem raw_of (I : Inv X pins σ H s) (e : H p = some (.dT kvs)) : ∃ (as : List Addr) (es : Array DictEntry) (ep : Nat), KeyAs H (as.map V.ref) kvs ∧ (p == sysModules) = false ∧ RawAt s.heap p es ep ∧ es.size = as.length ∧ (∀ acc : Array Value, ItemsOf (fun i v => ∃ e, es[i]? = some e ∧ v = e.key) acc es.size → acc.toList = as.map Value.ref) ∧ as.length ≤ sizeLine := by
 obtain ⟨z, hd, xs, rel, o, es, ep, ho, hc, hdt, he, his, hn⟩ := dt_of I.hok e
 have hl : xs.length = kvs.length := (Paired.length rel).symm
 have hs : es.size = xs.length := size_of_entries he
 refine ⟨xs.map (·.2.1), es, ep, KT.keyAs rel, hd, ⟨o, ho, hc, hdt⟩, by rw [List.length_map]; exact hs, fun acc ha => ?_, by rw [List.length_map, hl]; exact z⟩
 refine List.ext_getElem? fun i => ?_
 rw [List.getElem?_map, List.getElem?_map]
 have la : acc.toList.length = es.size := by rw [Array.length_toList]; exact ha.1
 by_cases hi : i < es.size
 ·obtain ⟨v, hv⟩ : ∃ v, acc.toList[i]? = some v := ⟨_, List.getElem?_eq_getElem (by omega)⟩
  obtain ⟨en, h1, h2⟩ := ha.2 i v (by rw [← Array.getElem?_toList]; exact hv)
  rw [entry_at he i] at h1
  cases hx : xs[i]? with
  | none => rw [hx] at h1; cases h1
  | some y => rw [hx] at h1; cases h1; rw [hv, h2]; rfl
 ·rw [List.getElem?_eq_none (by omega), List.getElem?_eq_none (by omega)]; rfl
theorem call_listD (hc : X.calm = true) : CallR X (.type "list") (fun xs H Q => ∃ p kvs, xs = [.ref p] ∧ H p = some (.dT kvs) ∧ ∀ l ys, H l = none → KeyAs H ys kvs → Q (.ref l) (upd H l (.lst ys))) := by
 intro pins s σ H xs us Q I r h
 obtain ⟨p, kvs, rfl, e, q⟩ := h
 obtain ⟨u, rfl, rx⟩ := vals1 r
 cases rx
 obtain ⟨as, es, ep, hk, lo, ra, hs, hacc, hz⟩ := raw_of I e
 refine PySem.W.kdl_call (src_raw lo) (I.ok.hd hc) ra (by rw [hs]; exact hz) fun h' tk acc c keep hD ha => ?_
 have ea := hacc acc ha
 exact ⟨.ref s.heap.objs.size, _, I.laid (t' := tk) keep (Nat.le_refl _) (show ObjOk X.prog X.w _ h' _ (.lst (as.map V.ref)) from ⟨by rw [List.length_map]; exact hz, as.map Value.ref, c, vals_refs as, by rw [← ea, Array.toArray_toList]; exact hD⟩), rfl, q _ _ (I.hok.fresh (Nat.le_refl _)) hk⟩
theorem tupI_of (I : Inv X pins σ H s) {ks : List V} {kis : List (List Int)} {us : List Value} (h : KeyT X.K H ks kis) (r : Vals ks us) : ∀ i, i < us.length → TupI s.heap us kis i := fun i hi => by
 have hk : i < ks.length := by rw [r.length]; exact hi
 have hki : i < kis.length := by rw [← h.len]; exact hk
 obtain ⟨p, ep, hp⟩ := h.get (List.getElem?_eq_getElem hk)
 obtain ⟨u, eu, ru⟩ := r.get (List.getElem?_eq_getElem hk)
 rw [ep] at ru
 cases ru
 obtain ⟨its, rv, ⟨o, ho, hc, m, hd⟩, _⟩ := I.tuple hp
 refine ⟨p, o, its, m, eu, ho, hc, hd, intsAre_of rv, fun z => ?_⟩
 have nn : kis.getD i [] ≠ [] := by
  have all : ∀ {ks : List V} {ns : List (List Int)}, KeyT X.K H ks ns → ∀ n ∈ ns, n ≠ [] := by
   intro ks
   induction ks with
   | nil => intro ns h n hn; cases ns with
    | nil => simp at hn
    | cons _ _ => exact h.elim
   | cons k ks ih => intro ns h n hn; cases ns with
    | nil => exact h.elim
    | cons m ns =>
     obtain ⟨⟨_, _, _, hne⟩, t⟩ := h
     rcases List.mem_cons.mp hn with z | z
     ·rw [z]; exact hne
     ·exact ih t n z
  rw [List.getD_eq_getElem?_getD, List.getElem?_eq_getElem hki]
  exact all h _ (List.getElem_mem _)
 have := rv.length
 rw [List.length_map, z] at this
 exact nn (List.length_eq_zero_iff.mp this)
theorem sorted_fin (I : Inv X pins σ H s) {ks : List V} {kis : List (List Int)} {us : List Value} {Q : VK} {l : Addr} {h' : Heap} {tk : Nat} (r : Vals ks us) (hz : ks.length ≤ sizeLine) (hl : s.heap.objs.size ≤ l) (keep : ∀ b o, s.heap.get? b = some o → h'.get? b = some o)
 (hD : ∃ c, h'.get? l = some (seqObj "list" (List.toArray ((sortIx (ltK kis) us.length).toList.map fun i => us.getD i Value.none)) c)) (q : ∀ l, H l = none → Q (.ref l) (upd H l (.lst (sortL kis .non ks)))) : EP X pins σ Q (.ref l) { s with heap := h', toks := tk } := by
 obtain ⟨c, hD⟩ := hD
 have sv := sortL_vals (kis := kis) r
 rw [r.length] at sv
 exact ⟨.ref l, _, I.laid (t' := tk) keep hl (show ObjOk X.prog X.w _ h' _ (.lst (sortL kis .non ks)) from ⟨by rw [sortL_length]; exact hz, _, c, sv, hD⟩), rfl, q l (I.hok.fresh hl)⟩
theorem call_sortedT : CallR X (.builtin "sorted") (fun xs H Q => ∃ (a : Addr) (ks : List V) (kis : List (List Int)), xs = [.ref a] ∧ SqL X.K H a ks ∧ KeyT X.K H ks kis ∧ ks.length < 64 ∧ ∀ l, H l = none → Q (.ref l) (upd H l (.lst (sortL kis .non ks)))) := by
 intro pins s σ H xs us Q I r h
 obtain ⟨a, ks, kis, rfl, hS, hK, h64, q⟩ := h
 obtain ⟨u, rfl, ru⟩ := vals1 r
 cases ru
 obtain ⟨its, rv, hp, hz⟩ := I.list hS
 have hl : its.length = ks.length := rv.length.symm
 refine sorted_tups (kis := kis) (by rw [← hK.len, hl]) (by omega) (tupI_of I hK rv) (fun A' Q' E' _ hq => collect_list hp.isList (hq _ s.toks (fun b o e => ?_) ?_) (by rw [hl]; exact hz)) fun l h' tk h1 h2 h3 => sorted_fin I rv hz h1 h2 h3 q
 ·have := Heap.lt_size e
  exact (Heap.get?_update_other _ _ (by walk_at "om")).trans (Heap.get?_push_of_some _ e)
 ·rw [Heap.size_update, size_push']; exact Nat.le_succ _
theorem call_sortedD (hc : X.calm = true) : CallR X (.builtin "sorted") (fun xs H Q => ∃ (p : Addr) (kvs : List (List Key × V)) (kis : List (List Int)), xs = [.ref p] ∧ H p = some (.dT kvs) ∧ kvs.map (·.1) = kis.map (fun k => k.map Sum.inl) ∧ (∀ k ∈ kis, k ≠ []) ∧ kvs.length < 64 ∧
 ∀ l ys, H l = none → KeyAs H ys kvs → Q (.ref l) (upd H l (.lst (sortL kis .non ys)))) := by
 intro pins s σ H xs us Q I r h
 obtain ⟨p, kvs, kis, rfl, e, ek, hne, h64, q⟩ := h
 obtain ⟨u, rfl, rx⟩ := vals1 r
 cases rx
 obtain ⟨as, es, ep, hk, lo, ra, hs, hacc, hz⟩ := raw_of I e
 have la : as.length = kvs.length := by have := hk.len; rwa [List.length_map] at this
 have lk : kis.length = kvs.length := by have := congrArg List.length ek; simpa using this.symm
 have hK : KeyT X.K H (as.map V.ref) kis := hk.keyT ek hne
 have rv := vals_refs as
 refine sorted_tups (kis := kis) (vs := as.map Value.ref) (by rw [List.length_map]; omega) (by rw [List.length_map]; omega) (tupI_of I hK rv) (fun A' Q' E' hA hq => collect_srcT (src_raw lo) (hA.trans (I.ok.hd hc)) ra (by rw [hs]; exact hz) fun h' tk acc k1 k2 ha => ?_) fun l h' tk h1 h2 h3 => sorted_fin I rv (by rw [List.length_map]; exact hz) h1 h2 h3 fun l hl => q l _ hl hk
 rw [hacc acc ha]
 exact hq h' tk k1 k2
end
theorem dt_newH {P : Program} {w : World} {H' : Hp} {h' : Heap} {a : Addr} {kvs : List (List Key × V)} {xs : List (List Key × Addr × Value)} (z : kvs.length ≤ sizeLine) (lo : (a == sysModules) = false) (rel : KT H' kvs xs) (dd : h'.DictOfH (tupleKind (mixKind P w)) a xs) : ObjOk P w H' h' a (.dT kvs) := by
 obtain ⟨o, es, ep, h1, h2, h3, h4, _, h5⟩ := dd
 exact ⟨z, lo, xs, rel, o, es, ep, h1, h2, h3, h4, h5⟩
section
variable {X : Cx} {pins : List (Addr × Obj)} {σ : L2.St} {H : Hp} {s : Shared} {p b : Addr} {kvs : List (List Key × V)} {k : List Key} {A : Around} {E : Value → Shared → Prop}
theorem kt_upd {ob : HO} {xs : List (List Key × Addr × Value)} (e : H p = some (.dT kvs)) {kvs' : List (List Key × V)} (r : KT H kvs' xs) : KT (upd H p ob) kvs' xs :=
 KT.keeps r fun b ys z => by rw [upd_ne (fun y => by rw [y, e] at z; cases z)]; exact z
theorem d_popT {more : List Value} {Q : Value → Shared → Prop} (hu : A.units + 1 < cLine) (I : Inv X pins σ H s) (e : H p = some (.dT kvs)) (eb : H b = some (.tup (k.map kV))) (hm : more = [] ∨ ∃ x, more = [x])
 (h1 : ∀ v, valV kvs k = some v → ∀ w' s', Inv X pins σ (upd H p (.dT (dropK kvs k))) s' → RelV v w' → Q w' s') (h0 : valV kvs k = none → ∃ x, more = [x] ∧ ∀ s', Inv X pins σ H s' → Q x s') :
 wpAny (model X.prog X.w) A (call (.builtin "dict.pop") (.ref p :: .ref b :: more)) Q E s := by
 obtain ⟨z, lo, xs, rel, dd⟩ := dt_of I.hok e
 have hl : xs.length = kvs.length := (Paired.length rel).symm
 refine popH (tupleKind_room_in1 hu) (key_of I.hok eb) lo dd (by rw [hl]; exact z) hm (fun y hy h' tk dd' hs => ?_) fun hn => ?_
 ·have rv := rel.val k
  rw [hy] at rv
  cases hv : valV kvs k with
  | none => rw [hv] at rv; exact (show False from rv).elim
  | some v =>
   rw [hv] at rv
   have he : ∃ q, h'.get? p = some q := let ⟨q, _, _, hq, _⟩ := dd'; ⟨q, hq⟩
   exact h1 v hv _ _ (d_write (t' := tk) I (by rw [e]; exact True.intro) hs he (dt_newH (Nat.le_trans (dropK_le kvs k) z) lo (kt_upd e (KT.out rel k)) dd')) rv
 ·have rv := rel.val k
  rw [hn] at rv
  cases hv : valV kvs k with
  | some v => rw [hv] at rv; exact (show False from rv).elim
  | none =>
   obtain ⟨x, ex, q⟩ := h0 hv
   exact ⟨x, ex, fun tk => q _ (I.tok tk)⟩
end
def tDPopT1 (td ty : TE) : TE := fun σ H Q => td σ H fun x H1 => ∃ a, x = .ref a ∧ IsD H1 a ∧ ty σ H1 fun y H2 => ∃ b kvs k v, y = .ref b ∧ H2 a = some (.dT kvs) ∧ H2 b = some (.tup (k.map kV)) ∧ valV kvs k = some v ∧ Q v (upd H2 a (.dT (dropK kvs k)))
def tDPopT2 (td ty tx : TE) : TE := fun σ H Q => td σ H fun x H1 => ∃ a, x = .ref a ∧ IsD H1 a ∧ ty σ H1 fun y H2 => tx σ H2 fun z H3 => ∃ b kvs k, y = .ref b ∧ H3 a = some (.dT kvs) ∧ H3 b = some (.tup (k.map kV)) ∧
 (∀ v, valV kvs k = some v → Q v (upd H3 a (.dT (dropK kvs k)))) ∧ (valV kvs k = none → Q z H3)
section
variable {X : Cx} {o e f : Expr} {td ty tx : TE} {apos cpos : Pos}
theorem pe_dpopT1 (hu : X.A.units + 1 < cLine) (ho : PE X o td) (he : PE X e ty) (m : M1 X o "pop" apos e cpos) : PE X (.Call (.Attribute o "pop" apos) [e] [] cpos) (tDPopT1 td ty) := by
 intro pins s σ H Q I h
 refine wpAny_Call_method m.base m.few m.line PySem.F.plainAttrs_dict PySem.F.slot_dict_pop PySem.F.type_dict_pop (thn (ho pins s σ H _ I h) fun u s1 ⟨x, H1, I1, rx, a, ex, d, q1⟩ => ?_)
 subst ex; obtain rfl : u = Value.ref a := rx
 obtain ⟨t1, t2, _⟩ := isD_at I1 d
 refine ⟨t1, t2, ?_⟩; rw [m.trees]
 refine Calls.callWith_builtin rfl (Calls.evalArgs_plain (Calls.spliced_cons (thn (he pins s1 σ H1 _ I1 q1) fun iv s2 ⟨y, H2, I2, ry, b, kvs, k, v, ey, ea, eb, l, q2⟩ => Calls.spliced_nil ?_)))
 subst ey; obtain rfl : iv = Value.ref b := ry
 exact d_popT hu I2 ea eb (.inl rfl) (fun v' l' w' s3 I3 rw' => ⟨v', _, I3, rw', by rw [l] at l'; cases l'; exact q2⟩) fun l' => by rw [l] at l'; cases l'
theorem call_lenD : CallR X (.builtin "len") (fun xs H Q => ∃ p kvs, xs = [.ref p] ∧ H p = some (.dT kvs) ∧ Q (.int kvs.length) H) := by
 intro pins s σ H xs us Q I r h
 obtain ⟨p, kvs, rfl, e, q⟩ := h
 obtain ⟨u, rfl, rx⟩ := vals1 r
 cases rx
 obtain ⟨z, lo, xs, rel, o, es, ep, ho, hc, hdt, he, his, hn⟩ := dt_of I.hok e
 have hs : es.size = kvs.length := (size_of_entries he).trans (Paired.length rel).symm
 have T : s.TypeIs (.ref p) "dict" := ⟨o, ho, hc.1⟩
 have g : MeetsIn X.prog X.w (Builtin.«dict.__len__» ⟨[.ref p], []⟩) (fun _ R s => s.heap.get? p = some o ∧ R (.ok (.ret (.int kvs.length s.toks))) { s with toks := s.toks + 1 }) := .of_wp fun A R s ⟨ho, h⟩ => by
  show wpAny _ _ (dictSize p >>= _) _ _ s
  unfold dictSize
  refine wpAny_bind (wpAny_bind (wpAny_dictEntries ho hdt (wpAny_pure ?_))); show wpAny _ _ (Builtin.Dict.pendingCount p >>= _) _ _ s
  refine wpAny_bind (wpAny_pendingCount_other lo (wpAny_ret_mkInt ?_))
  rw [Nat.add_zero, hs]; exact h
 refine Calls.call_function_entry kind_len plain_len entry_len (args_len1 _) ?_
 unfold Builtin.«len»
 refine wpAny_bind (m := oneArg "len" _) (wpAny_pure (wpAny_bind (m := callSpecial? (.ref p) (Str.ofString "__len__")) (wpAny_callSpecial?_slot (name := Str.ofString "__len__") T PySem.F.slot_dict_len (call_meetsIn PySem.F.slot_dict_len T PySem.F.entry_dict_len (PySem.F.args_dict_len_1 _) g ⟨ho, ?_⟩))))
 show wpAny _ _ _ _ _ { s with toks := s.toks + 1 }
 refine wpAny_bind (wpAny_holding (wpAny_pure (wpAny_bind (wpAny_letGo ?_))))
 show wpAny _ _ (if ((kvs.length : Nat) : Int) < 0 then _ else _) _ _ _; rw [if_neg (by omega)]
 rw [sizeLine_eq] at z
 show wpAny _ _ (if ((kvs.length : Nat) : Int) ≥ 2 ^ 63 then _ else _) _ _ _; rw [if_neg (by omega)]
 exact wpAny_bind (wpAny_mkInt (wpAny_pure ⟨_, rfl, .int kvs.length, H, I.tok _, ⟨_, rfl⟩, q⟩))
end
section
variable {prog : Program} {w : World} {K : Type} [DecidableEq K] {knd : KeyKind prog w K} {A : Around} {E : Value → Shared → Prop} {s : Shared} {o d : Addr} {es : Array DictEntry} {ep : Nat}
end
end Gz
namespace Gz
open PySem PySem.Spec PyProof.Rows L2
local macro_rules | `(tactic| walk_at "om") => `(tactic| ((try simp only [PySem.Addr] at *); omega))
section
variable {prog : Program} {w : World} {A : Around} {E : Value → Shared → Prop} {s : Shared}
end
abbrev KD (prog : Program) (w : World) := tupleKind (mixKind prog w)
abbrev Row := Addr × List Key × Addr × Value
section
variable {prog : Program} {w : World} {A : Around} {E : Value → Shared → Prop} {s : Shared}
theorem tup_keep {h h' : Heap} {k : List Key} {a : Addr} (x : (KD prog w).is h k a) (e : ∀ o, h.get? a = some o → h'.get? a = some o) : (KD prog w).is h' k a :=
 let ⟨o, its, n, h1, r⟩ := x; ⟨o, its, n, e o h1, r⟩
def RowAt (prog : Program) (w : World) (h : Heap) (r : Row) : Prop := (∃ o m, h.get? r.1 = some o ∧ o.cls = .type "tuple" ∧ o.data = .seq #[.ref r.2.2.1, r.2.2.2] m) ∧ (KD prog w).is h r.2.1 r.2.2.1
theorem RowAt.keep {h h' : Heap} {r : Row} (x : RowAt prog w h r) (e1 : ∀ o, h.get? r.1 = some o → h'.get? r.1 = some o) (e2 : ∀ o, h.get? r.2.2.1 = some o → h'.get? r.2.2.1 = some o) : RowAt prog w h' r :=
 let ⟨⟨o, m, a, b⟩, c⟩ := x; ⟨⟨o, m, e1 o a, b⟩, tup_keep c e2⟩
end
section
variable {X : Cx} {pins : List (Addr × Obj)} {σ : L2.St} {H : Hp} {s : Shared}
end
end Gz
namespace Gz
open PySem PySem.Spec PyProof.Rows L2
theorem ite_by {c : Prop} [Decidable c] {a b : Prop} (h : c → a) (h' : ¬ c → b) : if c then a else b := by
 by_cases z : c
 ·rw [if_pos z]; exact h z
 ·rw [if_neg z]; exact h' z
theorem dk_new {P : Program} {w : World} {H : Hp} (h : Heap) (hb : sysModules < h.objs.size) : ObjOk P w H (h.push { cls := .type "dict", data := .dict #[] }) h.objs.size (.dK []) :=
 ⟨Nat.zero_le _, beq_eq_false_iff_ne.mpr (Ne.symm (Nat.ne_of_lt hb)), [], .nil, Heap.DictOf.new h⟩
section
variable {X : Cx} {pos : Pos}
theorem Inv.big' {pins : List (Addr × Obj)} {σ : L2.St} {H : Hp} {s : Shared} (I : Inv X pins σ H s) : sysModules < s.heap.objs.size := by
 have h : mainGlobals < s.heap.objs.size := (I.mod.glob.keeps I.bk).lt
 exact Nat.lt_trans (by decide) h
def tDNew2 : TE := fun _ H Q => ∀ p, H p = none → Q (.ref p) (upd H p (.dT []))
theorem pe_dnew2 : PE X (.Dict [] [] pos) tDNew2 := fun pins s σ H Q I h => wpAny_Dict_empty
 ⟨.ref s.heap.objs.size, _, I.laid (a := s.heap.objs.size) (o := .dT []) (t' := s.toks) (fun _ _ z => Heap.get?_push_of_some _ z) (Nat.le_refl _)
  ⟨Nat.zero_le _, beq_eq_false_iff_ne.mpr (Ne.symm (Nat.ne_of_lt (Inv.big' I))), [], .nil, _, #[], 0, Heap.get?_push_size _ rfl, ⟨rfl, rfl, rfl⟩, rfl, rfl, List.nodup_nil⟩, rfl, h _ (I.hok.fresh (Nat.le_refl _))⟩
theorem pe_globI {x : Str} {n : Int} (h : ∃ t, X.mg x = some (.int n t)) (hg : Gl X x) (hd : (x == ("__debug__" : Str)) = false := by decide) : PE X (.Name x pos) (tC (.int n)) := by
 obtain ⟨t, ht⟩ := h
 exact pe_glob (v := .int n) hg ht ⟨t, rfl⟩ hd
end
end Gz
namespace Gz
open PySem PySem.Spec PyProof.Rows L2
local macro_rules | `(tactic| walk_at "om") => `(tactic| ((try simp only [PySem.Addr] at *); omega))
section
variable {M : Model} {A : Around} {E : Value → Shared → Prop} {s : Shared} {B : Heap} {l outer : List Env} {env : Env} {L x C : Addr} {cls a0 mk : Value} {Q : Unit → Shared → Prop}
end
section
variable {P : Program} {w : World} {K : PySem.W.Frag} {mg : Str → Option Value} {base : Heap} {N : List Str} {qual : Str} {scope : Scope} {f : Addr} {cd : Value} {A : Around} {outer : List Env} {s : Shared} {H : Hp} {E : XK}
end
section
variable {X : Cx} {pins : List (Addr × Obj)} {σ : L2.St} {H2 : Hp} {s2 : Shared} {x : Str} {px pos : Pos} {elt iter : Expr} {ifs : List Expr} {scope : Scope} {cl : List (Str × Addr)} {fr : List Nat} {ys : List Str} {tt : TT} {te : TE}
end
section
variable {X : Cx} {F : Value → Shared → Prop} {pins pn : List (Addr × Obj)} {σ : L2.St} {H : Hp} {s : Shared} {A' : Around}
end
end Gz
namespace Gz
open PySem PySem.Spec PyProof.Rows L2
def inB (ks : List P2) (r : Int) (i : Nat) : Bool := decide ((ptD ks i).1 ≤ r) && decide (r ≤ (ptD ks (i + 1)).1)
end Gz
namespace Gz
open PySem PySem.Spec PyProof.Rows L2
local macro_rules | `(tactic| walk_at "om") => `(tactic| ((try simp only [PySem.Addr] at *); omega))
theorem pe_dgetA {X : Cx} {A : Around} {o i : Expr} {pos : Pos} {td ty : TE} (hu : A.units + 1 < cLine) (ho : PE X o td) (hi : PE X i ty) (hs : NoSl i) (eA : X.A = A := by rfl) : PE X (.Subscript o i pos) (tDGet td ty) := by
 subst eA; exact pe_dget hu ho hi hs
theorem pe_fldK {X : Cx} {K : PySem.W.Frag} {e : Expr} {f : Str} {pos : Pos} {ta : TE} (he : PE X e ta) (hb : attributeBase e f X.env (eval e X.env) = eval e X.env) (eK : X.K = K := by rfl) : PE X (.Attribute e f pos) (tFld K ta f) := by
 subst eK; exact pe_fld he hb
abbrev Tb := List (P2 × S2)
def spot (i j : Int) : List Key := [.inl i, .inl j]
theorem spot_inj {a b : P2} (h : spot a.1 a.2 = spot b.1 b.2) : a = b := by
 unfold spot at h
 injection h with h1 h2
 injection h2 with h2 _
 exact Prod.ext (Sum.inl.inj h1) (Sum.inl.inj h2)
def valT (tb : Tb) (s : P2) : Option S2 := (tb.find? fun r => decide (r.1 = s)).map (·.2)
def putT (tb : Tb) (s : P2) (w : S2) : Tb := if (tb.any fun r => decide (r.1 = s)) = true then tb.map (fun r => if r.1 = s then (r.1, w) else r) else tb ++ [(s, w)]
def dropT (tb : Tb) (s : P2) : Tb := tb.filter fun r => decide (r.1 ≠ s)
def TabAs (H : Hp) : List (List Key × V) → Tb → Prop
 | [], [] => True
 | kv :: kvs, r :: tb => (kv.1 = spot r.1.1 r.1.2 ∧ IsS H kv.2 r.2.1 r.2.2) ∧ TabAs H kvs tb
 | _, _ => False
section
variable {H H' : Hp} {kvs : List (List Key × V)} {tb : Tb}
theorem TabAs.len : ∀ {kvs : List (List Key × V)} {tb : Tb}, TabAs H kvs tb → kvs.length = tb.length
 | [], [], _ => rfl
 | _ :: kvs, _ :: tb, h => congrArg (· + 1) (TabAs.len (kvs := kvs) (tb := tb) h.2)
 | [], _ :: _, h => h.elim
 | _ :: _, [], h => h.elim
theorem TabAs.imp (f : ∀ v a b, IsS H v a b → IsS H' v a b) : ∀ {kvs : List (List Key × V)} {tb : Tb}, TabAs H kvs tb → TabAs H' kvs tb
 | [], [], _ => trivial
 | _ :: kvs, _ :: tb, h => ⟨⟨h.1.1, f _ _ _ h.1.2⟩, TabAs.imp f (kvs := kvs) (tb := tb) h.2⟩
 | [], _ :: _, h => h.elim
 | _ :: _, [], h => h.elim
theorem TabAs.app : ∀ {kvs kvs' : List (List Key × V)} {tb tb' : Tb}, TabAs H kvs tb → TabAs H kvs' tb' → TabAs H (kvs ++ kvs') (tb ++ tb')
 | [], _, [], _, _, h => h
 | _ :: kvs, kvs', _ :: tb, tb', h, h' => ⟨h.1, TabAs.app (kvs := kvs) (tb := tb) h.2 h'⟩
 | [], _, _ :: _, _, h, _ => h.elim
 | _ :: _, _, [], _, h, _ => h.elim
theorem TabAs.keys : ∀ {kvs : List (List Key × V)} {tb : Tb}, TabAs H kvs tb → kvs.map (·.1) = tb.map fun r => spot r.1.1 r.1.2
 | [], [], _ => rfl
 | kv :: kvs, r :: tb, h => by rw [List.map_cons, List.map_cons, h.1.1, TabAs.keys (kvs := kvs) (tb := tb) h.2]
 | [], _ :: _, h => h.elim
 | _ :: _, [], h => h.elim
theorem TabAs.any (s : P2) : ∀ {kvs : List (List Key × V)} {tb : Tb}, TabAs H kvs tb → (kvs.any fun kv => decide (kv.1 = spot s.1 s.2)) = tb.any fun r => decide (r.1 = s)
 | [], [], _ => rfl
 | kv :: kvs, r :: tb, h => by
  rw [List.any_cons, List.any_cons, TabAs.any s (kvs := kvs) (tb := tb) h.2, h.1.1]
  congr 1
  by_cases e : r.1 = s
  ·rw [e, decide_eq_true rfl, decide_eq_true rfl]
  ·rw [decide_eq_false e, decide_eq_false fun z => e (spot_inj z)]
 | [], _ :: _, h => h.elim
 | _ :: _, [], h => h.elim
theorem TabAs.val (s : P2) : ∀ {kvs : List (List Key × V)} {tb : Tb}, TabAs H kvs tb → (valT tb s = none → valV kvs (spot s.1 s.2) = none) ∧ ∀ w, valT tb s = some w → ∃ v, valV kvs (spot s.1 s.2) = some v ∧ IsS H v w.1 w.2
 | [], [], _ => ⟨fun _ => rfl, fun w h => by cases h⟩
 | kv :: kvs, r :: tb, h => by
  have ih := TabAs.val s (kvs := kvs) (tb := tb) h.2
  by_cases e : r.1 = s
  ·have e1 : valT (r :: tb) s = some r.2 := by simp [valT, List.find?_cons, e]
   rw [e1, valV_pos (h.1.1.trans (by rw [e]))]
   exact ⟨fun z => (by cases z), fun w z => (by cases z; exact ⟨_, rfl, h.1.2⟩)⟩
  ·have e1 : valT (r :: tb) s = valT tb s := by simp [valT, List.find?_cons, e]
   rw [e1, valV_neg (fun z => e (spot_inj (h.1.1.symm.trans z)))]
   exact ih
 | [], _ :: _, h => h.elim
 | _ :: _, [], h => h.elim
theorem TabAs.repl {s : P2} {v : V} {w : S2} (hv : IsS H v w.1 w.2) : ∀ {kvs : List (List Key × V)} {tb : Tb}, TabAs H kvs tb → TabAs H (kvs.map fun kv => if kv.1 = spot s.1 s.2 then (kv.1, v) else kv) (tb.map fun r => if r.1 = s then (r.1, w) else r)
 | [], [], _ => trivial
 | kv :: kvs, r :: tb, h => by
  rw [List.map_cons, List.map_cons]
  refine ⟨?_, TabAs.repl hv (kvs := kvs) (tb := tb) h.2⟩
  by_cases e : r.1 = s
  ·rw [if_pos e, if_pos (h.1.1.trans (by rw [e]))]; exact ⟨h.1.1, hv⟩
  ·rw [if_neg e, if_neg (fun z => e (spot_inj (h.1.1.symm.trans z)))]; exact h.1
 | [], _ :: _, h => h.elim
 | _ :: _, [], h => h.elim
theorem TabAs.put {s : P2} {v : V} {w : S2} (h : TabAs H kvs tb) (hv : IsS H v w.1 w.2) : TabAs H (putK kvs (spot s.1 s.2) v) (putT tb s w) := by
 unfold putK putT
 rw [h.any s]
 split
 ·exact h.repl hv
 ·exact h.app ⟨⟨rfl, hv⟩, trivial⟩
theorem TabAs.drop {s : P2} : ∀ {kvs : List (List Key × V)} {tb : Tb}, TabAs H kvs tb → TabAs H (dropK kvs (spot s.1 s.2)) (dropT tb s)
 | [], [], _ => trivial
 | kv :: kvs, r :: tb, h => by
  have ih := TabAs.drop (s := s) (kvs := kvs) (tb := tb) h.2
  unfold dropK dropT at *
  rw [List.filter_cons, List.filter_cons]
  by_cases e : r.1 = s
  ·have e2 : kv.1 = spot s.1 s.2 := h.1.1.trans (by rw [e])
   rw [if_neg (by simp [e2]), if_neg (by simp [e])]; exact ih
  ·have e2 : ¬ kv.1 = spot s.1 s.2 := fun z => e (spot_inj (h.1.1.symm.trans z))
   rw [if_pos (by simp [e2]), if_pos (by simp [e])]; exact ⟨h.1, ih⟩
 | [], _ :: _, h => h.elim
 | _ :: _, [], h => h.elim
theorem TabAs.pts : ∀ {ys : List V} {kvs : List (List Key × V)} {tb : Tb}, TabAs H kvs tb → KeyAs H ys kvs → Pts H ys (tb.map (·.1))
 | [], [], [], _, _ => trivial
 | y :: ys, kv :: kvs, r :: tb, h, ⟨⟨a, e, ha⟩, t⟩ => ⟨⟨a, e, by rw [h.1.1] at ha; exact ha⟩, TabAs.pts (ys := ys) (kvs := kvs) (tb := tb) h.2 t⟩
 | [], _ :: _, _, _, h => h.elim
 | _ :: _, [], _, _, h => h.elim
 | _, [], _ :: _, h, _ => h.elim
 | _, _ :: _, [], h, _ => h.elim
end
def TabAt (H : Hp) (p : Addr) (tb : Tb) : Prop := ∃ kvs, H p = some (.dT kvs) ∧ TabAs H kvs tb
def Fr (H H' : Hp) : Prop := ∀ b o, (∀ kvs, o ≠ HO.dT kvs) → H b = some o → H' b = some o
def But (ps : List Addr) (H H' : Hp) : Prop := ∀ b o, b ∉ ps → H b = some o → H' b = some o
def Dcts (H : Hp) (ps : List Addr) : Prop := ∀ p ∈ ps, ∃ kvs, H p = some (.dT kvs)
section
variable {H H' H2 : Hp} {ps qs : List Addr} {p q : Addr} {tb : Tb}
theorem Fr.trans (a : Fr H H') (b : Fr H' H2) : Fr H H2 := fun c o h e => b c o h (a c o h e)
theorem _root_.L2.Same.fr (s : Same H H') : Fr H H' := fun b o _ e => s b o e
theorem But.trans (a : But ps H H') (b : But ps H' H2) : But ps H H2 := fun c o h e => b c o h (a c o h e)
theorem SameBut.but (a : SameBut p H H') (h : p ∈ ps) : But ps H H' := fun c o z e => a c o (fun y => z (y ▸ h)) e
theorem But.fr (a : But ps H H') (d : Dcts H ps) : Fr H H' := fun b o ho e => by
 by_cases hb : b ∈ ps
 ·obtain ⟨kvs, hk⟩ := d b hb
  rw [hk] at e
  exact absurd (Option.some.inj e).symm (ho kvs)
 ·exact a b o hb e
theorem fr_upd {kvs : List (List Key × V)} {o : HO} (h : H p = some (.dT kvs)) : Fr H (upd H p o) := fun b u hu e => by
 rw [upd_ne (fun z => by rw [z, h] at e; exact hu _ (Option.some.inj e).symm)]; exact e
theorem dcts1 {kvs : List (List Key × V)} (h : H p = some (.dT kvs)) : Dcts H [p] := fun b hb => ⟨kvs, (List.mem_singleton.mp hb) ▸ h⟩
theorem SameBut.fr {kvs : List (List Key × V)} (a : SameBut p H H') (h : H p = some (.dT kvs)) : Fr H H' := But.fr (SameBut.but a (.head _)) (dcts1 h)
theorem But.new (s : Same H H') (a : But ps H' H2) (h : ∀ b ∈ ps, b ∉ qs → H b = none) : But qs H H2 := fun b o hb e => by
 by_cases hp : b ∈ ps
 ·have := h b hp hb; rw [this] at e; cases e
 ·exact a b o hp (s b o e)
theorem IsS.fr {v : V} {a b : En} (h : IsS H v a b) (f : Fr H H') : IsS H' v a b := let ⟨p, e, hp⟩ := h; ⟨p, e, f _ _ (fun _ z => nomatch z) hp⟩
theorem IsPt.fr {v : V} {a : P2} (h : IsPt H v a) (f : Fr H H') : IsPt H' v a := let ⟨p, e, hp⟩ := h; ⟨p, e, f _ _ (fun _ z => nomatch z) hp⟩
theorem TabAt.fr (h : TabAt H p tb) (f : Fr H H') (e : ∀ kvs, H p = some (.dT kvs) → H' p = some (.dT kvs)) : TabAt H' p tb := let ⟨kvs, a, b⟩ := h; ⟨kvs, e _ a, b.imp fun _ _ _ z => z.fr f⟩
theorem TabAt.same (h : TabAt H p tb) (s : Same H H') : TabAt H' p tb := h.fr s.fr fun _ e => s _ _ e
theorem TabAt.dct (h : TabAt H p tb) : ∃ kvs, H p = some (.dT kvs) := let ⟨kvs, a, _⟩ := h; ⟨kvs, a⟩
theorem TabAt.ne (h : TabAt H p tb) (hq : H q = none) : p ≠ q := fun z => by obtain ⟨kvs, a, _⟩ := h; rw [z, hq] at a; cases a
end
theorem valT_mem {tb : Tb} {r : P2 × S2} (hn : (tb.map (·.1)).Nodup) (h : r ∈ tb) : valT tb r.1 = some r.2 := by
 induction tb with
 | nil => cases h
 | cons x l ih =>
  rw [List.map_cons, List.nodup_cons] at hn
  rcases List.mem_cons.mp h with z | z
  ·rw [← z]; simp [valT, List.find?_cons]
  ·have e : ¬ x.1 = r.1 := fun y => hn.1 (y ▸ List.mem_map.mpr ⟨r, z, rfl⟩)
   have : valT (x :: l) r.1 = valT l r.1 := by simp [valT, List.find?_cons, e]
   rw [this, ih hn.2 z]
theorem valT_in {tb : Tb} {s : P2} {w : S2} (h : valT tb s = some w) : (s, w) ∈ tb := by
 unfold valT at h
 obtain ⟨r, h1, h2⟩ := Option.map_eq_some_iff.mp h
 have := List.mem_of_find?_eq_some h1
 have e := List.find?_some h1
 have e : r.1 = s := by simpa using e
 rw [← h2, ← e]; exact this
def onB (e t : Int) (s : P2) : Prop := (0 ≤ s.1 ∧ s.1 < e) ∧ 0 ≤ s.2 ∧ s.2 < t
instance (e t : Int) (s : P2) : Decidable (onB e t s) := by unfold onB; infer_instance
def okT (e t : Int) (tb : Tb) : Prop := (tb.map (·.1)).Nodup ∧ ∀ r ∈ tb, onB e t r.1
theorem putT_len (tb : Tb) (s : P2) (w : S2) : (putT tb s w).length ≤ tb.length + 1 := by
 unfold putT; split <;> simp
theorem okT.put {e t : Int} {tb : Tb} {s : P2} {w : S2} (h : okT e t tb) (hs : onB e t s) : okT e t (putT tb s w) := by
 unfold putT
 split
 ·refine ⟨?_, fun r hr => ?_⟩
  ·have : (tb.map fun r => if r.1 = s then (r.1, w) else r).map (·.1) = tb.map (·.1) := by
    rw [List.map_map]
    refine List.map_congr_left fun r _ => ?_
    show (if r.1 = s then (r.1, w) else r).1 = r.1
    split <;> rfl
   rw [this]; exact h.1
  ·obtain ⟨x, hx, rfl⟩ := List.mem_map.mp hr
   have := h.2 x hx
   split <;> exact this
 ·rename_i z
  refine ⟨?_, fun r hr => ?_⟩
  ·rw [List.map_append]
   refine nd_snoc h.1 fun y => z ?_
   obtain ⟨x, hx, e⟩ := List.mem_map.mp y
   rw [List.any_eq_true]
   exact ⟨x, hx, by simpa using e⟩
  ·rcases List.mem_append.mp hr with y | y
   ·exact h.2 r y
   ·rw [List.mem_singleton.mp y]; exact hs
theorem okT.drop {e t : Int} {tb : Tb} {s : P2} (h : okT e t tb) : okT e t (dropT tb s) :=
 ⟨h.1.sublist ((List.filter_sublist).map _), fun r hr => h.2 r (List.mem_filter.mp hr).1⟩
theorem okT.nil {e t : Int} : okT e t [] := ⟨List.nodup_nil, fun r h => by cases h⟩
def keyI (tb : Tb) : List (List Int) := tb.map fun r => [r.1.1, r.1.2]
def srtT (tb : Tb) : Tb := sortL (keyI tb) ((0, 0), (none, none)) tb
theorem srtT_mem {tb : Tb} {r : P2 × S2} (h : r ∈ srtT tb) : r ∈ tb := sortL_perm.mem_iff.mp h
theorem srtT_len {tb : Tb} : (srtT tb).length = tb.length := sortL_length
theorem All2.sort {α : Type} {R : V → α → Prop} {xs : List V} {as : List α} {d : α} {kis : List (List Int)} (h : All2 R xs as) : All2 R (sortL kis .non xs) (sortL kis d as) := by
 have hl := h.len
 have hp := (sortIx_ok (n := xs.length) (ltK_ord kis)).1
 unfold sortL
 rw [← hl]
 have gen : ∀ l : List Nat, (∀ i ∈ l, i < xs.length) → All2 R (l.map fun i => xs.getD i .non) (l.map fun i => as.getD i d) := by
  intro l
  induction l with
  | nil => intro _; exact trivial
  | cons i l ih =>
   intro q
   have hi := q i (.head _)
   obtain ⟨s, es, hs⟩ := h.get (List.getElem?_eq_getElem hi)
   refine ⟨?_, ih fun j hj => q j (.tail _ hj)⟩
   show R (xs.getD i .non) (as.getD i d)
   rw [List.getD_eq_getElem?_getD, List.getD_eq_getElem?_getD, es, List.getElem?_eq_getElem hi]
   exact hs
 exact gen _ fun i hi => by simpa using hp.mem_iff.mp hi
theorem All2.bind {α β : Type} {R : V → α → Prop} {f : β → α} : ∀ {xs : List V} {bs : List β}, All2 R xs (bs.map f) → All2 (fun x b => R x (f b)) xs bs
 | [], [], _ => trivial
 | _ :: _, _ :: _, h => ⟨h.1, All2.bind h.2⟩
 | [], _ :: _, h => h.elim
 | _ :: _, [], h => h.elim
theorem keyI_keys {H : Hp} {kvs : List (List Key × V)} {tb : Tb} (h : TabAs H kvs tb) : kvs.map (·.1) = (keyI tb).map fun k => k.map Sum.inl := by
 rw [h.keys]; unfold keyI; rw [List.map_map]; rfl
theorem keyI_ne {tb : Tb} : ∀ k ∈ keyI tb, k ≠ [] := fun k hk => by
 obtain ⟨r, _, rfl⟩ := List.mem_map.mp hk
 exact fun z => nomatch z
theorem pts_sort {H : Hp} {kvs : List (List Key × V)} {ys : List V} {tb : Tb} (h : TabAs H kvs tb) (hk : KeyAs H ys kvs) : All2 (fun x (r : P2 × S2) => IsPt H x r.1) (sortL (keyI tb) .non ys) (srtT tb) := All2.sort (All2.bind (h.pts hk))
theorem keyT_pts {K : PySem.W.Frag} {H : Hp} : ∀ {ys : List V} {tb : Tb}, All2 (fun x (r : P2 × S2) => IsPt H x r.1) ys tb → KeyT K H ys (keyI tb)
 | [], [], _ => trivial
 | y :: ys, r :: tb, ⟨⟨a, e, ha⟩, t⟩ => ⟨⟨a, e, .inl (.inl ha), fun z => nomatch z⟩, keyT_pts (ys := ys) (tb := tb) t⟩
 | [], _ :: _, h => h.elim
 | _ :: _, [], h => h.elim
def IsTr (H : Hp) (v : V) (r : P2 × S2) : Prop := ∃ a w, v = .ref a ∧ H a = some (.tup [.int r.1.1, .int r.1.2, w]) ∧ IsS H w r.2.1 r.2.2
theorem IsTr.same {H H' : Hp} {v : V} {r : P2 × S2} (h : IsTr H v r) (s : Same H H') : IsTr H' v r := let ⟨a, w, e, ha, hw⟩ := h; ⟨a, w, e, s _ _ ha, hw.same s⟩
theorem IsTr.fr {H H' : Hp} {v : V} {r : P2 × S2} (h : IsTr H v r) (s : Fr H H') : IsTr H' v r := let ⟨a, w, e, ha, hw⟩ := h; ⟨a, w, e, s _ _ (fun _ z => nomatch z) ha, hw.fr s⟩
def datTr (r : P2 × S2) : PyData := .tuple [.int r.1.1, .int r.1.2, datS r.2]
theorem tr_dat {K : PySem.W.Frag} {H : Hp} : ∀ {xs : List V} {tb : Tb}, All2 (IsTr H) xs tb → Dats K H xs (tb.map datTr)
 | [], [], _ => .nil
 | x :: xs, r :: tb, ⟨⟨a, w, e, ha, hw⟩, t⟩ => by
  subst e
  exact .cons (.tup (SqT.of ha) (.cons (.int _) (.cons (.int _) (.cons (IsS.dat hw) .nil)))) (tr_dat t)
 | [], _ :: _, h => h.elim
 | _ :: _, [], h => h.elim
end Gz
namespace Gz
open PySem PySem.Spec PyProof.Rows L2
theorem crossed_mono {a b c d : En} (h : crossed a b = true) : crossed (maxE a c) (minE b d) = true := by
 rcases a with _ | x <;> rcases b with _ | y <;> rcases c with _ | z <;> rcases d with _ | w <;> simp [crossed, maxE, minE] at h ⊢ <;> omega
def comE (e : S2) (ss : List S2) : S2 := ss.foldl (fun e s => (maxE e.1 s.1, minE e.2 s.2)) e
theorem comE_cons (e s : S2) (ss : List S2) : comE e (s :: ss) = comE (maxE e.1 s.1, minE e.2 s.2) ss := rfl
theorem comE_crossed : ∀ (ss : List S2) {e : S2}, crossed e.1 e.2 = true → crossed (comE e ss).1 (comE e ss).2 = true
 | [], _, h => h
 | s :: ss, e, h => by
  rw [comE_cons]
  exact comE_crossed ss (crossed_mono h)
theorem comE_take {ss : List S2} {e : S2} {i : Nat} (h : crossed (comE e (ss.take i)).1 (comE e (ss.take i)).2 = true) : crossed (comE e ss).1 (comE e ss).2 = true := by
 have : comE e ss = comE (comE e (ss.take i)) (ss.drop i) := by
  unfold comE
  rw [← List.foldl_append, List.take_append_drop]
 rw [this]
 exact comE_crossed _ h
theorem comE_succ {ss : List S2} {e s : S2} {i : Nat} (h : ss[i]? = some s) : comE e (ss.take (i + 1)) = (maxE (comE e (ss.take i)).1 s.1, minE (comE e (ss.take i)).2 s.2) := by
 unfold comE
 rw [List.take_succ, h, List.foldl_append]
 rfl
def comW (e : S2) (ss : List S2) : W2 := if crossed (comE e ss).1 (comE e ss).2 = true then none else some (comE e ss)
theorem sts_all2 {H : Hp} : ∀ {xs : List V} {ss : List S2}, Sts H xs ss ↔ All2 (fun x s => IsS H x s.1 s.2) xs ss
 | [], [] => Iff.rfl
 | _ :: _, _ :: _ => and_congr Iff.rfl sts_all2
 | [], _ :: _ => Iff.rfl
 | _ :: _, [] => Iff.rfl
abbrev Pa := Str × Int × S2
def IsPa (H : Hp) (v : V) (p : Pa) : Prop := ∃ (t q : Addr), v = .ref t ∧ H t = some (.tup [.str p.1, .int p.2.1, .ref q]) ∧ H q = some (.tup [ev p.2.2.1, ev p.2.2.2])
theorem IsPa.same {H H' : Hp} {v : V} {p : Pa} (h : IsPa H v p) (s : Same H H') : IsPa H' v p := let ⟨t, q, e, a, b⟩ := h; ⟨t, q, e, s _ _ a, s _ _ b⟩
abbrev Pas (H : Hp) : List V → List Pa → Prop := All2 (IsPa H)
theorem Pas.same {H H' : Hp} {xs : List V} {ps : List Pa} (h : Pas H xs ps) (s : Same H H') : Pas H' xs ps := All2.imp (fun _ _ r => r.same s) h
theorem IsPa.fr {H : Hp} {v : V} {p : Pa} {r : Addr} {ys : List V} {o : HO} (h : IsPa H v p) (hr : H r = some (.lst ys)) : IsPa (upd H r o) v p := by
 obtain ⟨t, q, e, a, b⟩ := h
 have h1 : t ≠ r := fun z => by rw [z, hr] at a; cases a
 have h2 : q ≠ r := fun z => by rw [z, hr] at b; cases b
 exact ⟨t, q, e, by rw [upd_ne h1]; exact a, by rw [upd_ne h2]; exact b⟩
def selB (k : Str) (t : Int) (p : Pa) : Bool := decide (p.1 = k) && decide (p.2.1 = t)
def sel (ps : List Pa) (k : Str) (t : Int) : List S2 := (ps.filter (selB k t)).map (·.2.2)
def hasB (n : Int) (k : Str) (t : Int) : Bool := if k = "step" then decide (0 ≤ t ∧ t < n) && decide (0 ≤ t + 1 ∧ t + 1 < n) else decide (k = "at") && decide (0 ≤ t ∧ t < n)
def okCl (n : Int) (ps : List Pa) : Prop := ∀ p ∈ ps, hasB n p.1 p.2.1 = true
theorem int_at {cs : List Int} {t : Int} (h0 : 0 ≤ t) (h1 : t < (cs.length : Int)) : atI (cs.map V.int) t = some (.int (cs.getD t.toNat 0)) := by
 have e : t = ((t.toNat : Nat) : Int) := by omega
 refine (congrArg (atI _) e).trans (atI_nat ?_)
 rw [List.getElem?_map, List.getD_eq_getElem?_getD, List.getElem?_eq_getElem (by omega)]
 rfl
structure Gd (n : Nat) (d : PyData) : Prop where
 eqv : PyData.eqv d d = true
 lay : d.canLay0 = true
 dep : d.depth ≤ n
theorem Gd.up {n m : Nat} {d : PyData} (h : Gd n d) (hm : n ≤ m) : Gd m d := ⟨h.eqv, h.lay, Nat.le_trans h.dep hm⟩
theorem Gd.of {n : Nat} {d : PyData} (h : plainD n d = true) : Gd n d := let ⟨a, b, c⟩ := plain_ok d h; ⟨a, b, c⟩
theorem Gd.int (i : Int) : Gd 0 (.int i) := .of rfl
theorem Gd.all : ∀ {ds : List PyData} {n : Nat}, (∀ d ∈ ds, Gd n d) → PyData.eqvAll ds ds = true ∧ PyData.canLayAll0 ds = true ∧ PyData.depthAll ds ≤ n
 | [], n, _ => ⟨rfl, rfl, Nat.zero_le _⟩
 | d :: ds, n, h => by
  obtain ⟨a, b, c⟩ := h d (.head _)
  obtain ⟨a', b', c'⟩ := Gd.all (ds := ds) fun x hx => h x (.tail _ hx)
  exact ⟨by simp only [PyData.eqvAll, a, a', Bool.and_self], by simp only [PyData.canLayAll0, b, b', Bool.and_self], by simp only [PyData.depthAll]; omega⟩
theorem Gd.lst {ds : List PyData} {n : Nat} (h : ∀ d ∈ ds, Gd n d) : Gd (n + 1) (.list ds) := by
 obtain ⟨a, b, c⟩ := Gd.all h
 exact ⟨by simpa only [PyData.eqv] using a, by simpa only [PyData.canLay0] using b, by simp only [PyData.depth]; omega⟩
theorem Gd.tup {ds : List PyData} {n : Nat} (h : ∀ d ∈ ds, Gd n d) : Gd (n + 1) (.tuple ds) := by
 obtain ⟨a, b, c⟩ := Gd.all h
 exact ⟨by simpa only [PyData.eqv] using a, by simpa only [PyData.canLay0] using b, by simp only [PyData.depth]; omega⟩
theorem eq_good {K : PySem.W.Frag} {H : Hp} {x y : V} {d : PyData} {n : Nat} {neg : Bool} {Q : VK} (hx : Dat K H x d) (hy : Dat K H y d) (g : Gd n d) (hn : n ≤ 60) (q : Q (.bl (!neg)) H) : rEqD K neg x y H Q := by
 refine ⟨d, d, hx, hy, g.lay, g.lay, Nat.le_trans g.dep hn, ?_⟩
 rw [g.eqv]
 cases neg <;> exact q
theorem gd_S (s : S2) : Gd 1 (datS s) := .of (by
 obtain ⟨a, b⟩ := s
 cases a <;> cases b <;> rfl)
end Gz
namespace Gz
open PySem PySem.Spec PyProof.Rows L2
theorem compGo_pick {α β : Type} {R : V → α → Prop} {R' : V → β → Prop} {Ok : Hp → Prop} {ρ : L2.St} {tt : TT} {te : TE} {p : α → Bool} {f : α → β} {Q' : List V → Hp → Prop} {H : Hp} (hOk : Ok H) : ∀ {xs : List V} {as : List α} {ys : List V}, All2 R xs as →
 (∀ x a, R x a → ∀ Q, Q (p a) H → tt (some x :: ρ) H Q) → (∀ x a, p a = true → R x a → ∀ Q : VK, (∀ y, R' y (f a) → Q y H) → te (some x :: ρ) H Q) → (∀ zs, All2 R' zs ((as.filter p).map f) → Q' (ys ++ zs) H) → compGo Ok ρ tt te xs ys H Q'
 | [], [], ys, _, _, _, q => ⟨hOk, by simpa using q [] trivial⟩
 | x :: xs, a :: as, ys, h, ht, he, q => by
  refine ⟨hOk, ht x a h.1 _ ?_⟩
  by_cases hb : p a = true
  ·rw [if_pos hb]
   refine he x a hb h.1 _ fun y ry => compGo_pick hOk h.2 ht he fun zs hz => ?_
   have := q (y :: zs) (by rw [List.filter_cons, if_pos hb]; exact ⟨ry, hz⟩)
   simpa using this
  ·rw [if_neg hb]
   refine compGo_pick hOk h.2 ht he fun zs hz => q zs ?_
   rw [List.filter_cons, if_neg hb]
   exact hz
 | [], _ :: _, _, h, _, _, _ => h.elim
 | _ :: _, [], _, h, _, _, _ => h.elim
end Gz
namespace Gz
open PySem PySem.Spec PyProof.Rows L2
theorem gTup3 {K : PySem.W.Frag} {i j k : Nat} {p : Addr} {x y z : V} {σ : L2.St} {H : Hp} {Q : L2.St → Hp → Prop} (h : SqT K H p [x, y, z]) (q : Q (((σ.set i (some x)).set j (some y)).set k (some z)) H) : gTup K 3 (gCons (gName i) (gCons (gName j) (gCons (gName k) gNil))) (.ref p) σ H Q :=
 ⟨p, _, rfl, h, rfl, _, _, rfl, _, _, rfl, _, _, rfl, rfl, q⟩
end Gz
namespace Gz
open PySem PySem.Spec PyProof.Rows L2
end Gz
namespace Gz
open PySem L2
end Gz
namespace Gz
open PySem L2
abbrev Mk := Nat × S2
def leO (a : Option P2) (v : Int) : Prop := ∃ w k, a = some (w, k) ∧ w ≤ v
def valOk (ps : List P2) (ms : List Mk) (t : Nat) (a : Option P2) : Prop := ∀ v k, a = some (v, k) → ∃ (i : Nat) (m : Mk) (h : Int), k = (i : Int) ∧ ms[i]? = some m ∧ m.2.2 = some h ∧ h + riseF ps m.1 t ≤ v
structure T1 (ps : List P2) (ms : List Mk) (j : Nat) (tp : Nat → Option P2) : Prop where
 val : ∀ t, t ≤ ps.length → valOk ps ms t (tp t)
 top : ∀ m ∈ ms.take j, ∀ h, m.2.2 = some h → leO (tp m.1) h
theorem T1.nil {ps : List P2} {ms : List Mk} : T1 ps ms 0 fun _ => none := ⟨fun _ _ _ _ e => (nomatch e), fun _ h => by simp at h⟩
structure T2 (ps : List P2) (ms : List Mk) (j : Nat) (tp : Nat → Option P2) : Prop where
 val : ∀ t, t ≤ ps.length → valOk ps ms t (tp t)
 top : ∀ m ∈ ms, ∀ h, m.2.2 = some h → leO (tp m.1) h
 fwd : ∀ t, t < j → ∀ v, leO (tp t) v → leO (tp (t + 1)) (v + (ptD ps t).2)
structure T3 (ps : List P2) (ms : List Mk) (j : Nat) (tp : Nat → Option P2) : Prop where
 val : ∀ t, t ≤ ps.length → valOk ps ms t (tp t)
 top : ∀ m ∈ ms, ∀ h, m.2.2 = some h → leO (tp m.1) h
 fwd : ∀ t, t < ps.length → ∀ v, leO (tp t) v → leO (tp (t + 1)) (v + (ptD ps t).2)
 bwd : ∀ t, j ≤ t → t < ps.length → ∀ v, leO (tp (t + 1)) v → leO (tp t) (v - (ptD ps t).1)
end Gz
namespace Gz
open PySem L2
end Gz
namespace Gz
open PySem PySem.Spec PyProof.Rows L2
def rowOf (H : Hp) : V → List V
 | .ref p => match H p with
  | some (.tup xs) => xs
  | _ => []
 | _ => []
theorem rowOf_tup {H : Hp} {p : Addr} {xs : List V} (h : H p = some (.tup xs)) : rowOf H (.ref p) = xs := by
 show (match H p with
  | some (.tup xs) => xs
  | _ => []) = xs
 rw [h]
def rowT (row : V → List V) (tt : TT) : TT := fun σ H Q => match σ with
 | some v :: ρ => tt ((row v).map some ++ ρ) H Q
 | _ => False
def rowE (row : V → List V) (te : TE) : TE := fun σ H Q => match σ with
 | some v :: ρ => te ((row v).map some ++ ρ) H Q
 | _ => False
section
variable {K : PySem.W.Frag} {ρ : L2.St} {tt : TT} {te : TE} {H : Hp} {Q : VK} {a : Addr} {xs : List V} {row : V → List V}
def RowOk (K : PySem.W.Frag) (a : Addr) (xs : List V) (row : V → List V) (k : Nat) (H : Hp) : Prop := SqL K H a xs ∧ ∀ x ∈ xs, ∃ p, x = .ref p ∧ SqT K H p (row x) ∧ (row x).length = k
theorem blk_rows {k : Nat} {g : TG} (hg : ∀ (p : Addr) (ys : List V) (os : List (Option V)) (H : Hp) (Q : L2.St → Hp → Prop), os.length = k → ys.length = k → SqT K H p ys → Q (ys.map some ++ ρ) H → g (.ref p) (os ++ ρ) H Q)
 (hn : xs.length ≤ sizeLine) (h : compGo (RowOk K a xs row k) ρ (rowT row tt) (rowE row te) xs [] H fun zs H' => ∀ l, H' l = none → Q (.ref l) (upd H' l (.lst zs))) :
 tBlkG k (Itl K a) g ρ tt te H Q := by
 refine ⟨fun i m ys H => m = xs.length - i ∧ i ≤ xs.length ∧ ys.length ≤ i ∧ compGo (RowOk K a xs row k) ρ (rowT row tt) (rowE row te) (xs.drop i) ys H fun ys H' => ∀ l, H' l = none → Q (.ref l) (upd H' l (.lst ys)), ⟨_, rfl, Nat.zero_le _, Nat.le_refl _, h⟩, ?_⟩
 rintro i m ys H ⟨rfl, hi, hy, c⟩
 by_cases hlt : i < xs.length
 ·have e := List.drop_eq_getElem_cons hlt
  rw [e] at c
  obtain ⟨⟨c0, c1⟩, c2⟩ := c
  have l1 : ∀ y : V, (ys ++ [y]).length ≤ i + 1 := fun y => by rw [List.length_append, List.length_singleton]; omega
  have l2 : ys.length ≤ i + 1 := by omega
  refine .inr ⟨⟨xs, _, c0, List.getElem?_eq_getElem hlt⟩, by omega, fun zs H' => zs.length ≤ i + 1 ∧ compGo (RowOk K a xs row k) ρ (rowT row tt) (rowE row te) (xs.drop (i + 1)) zs H' fun ys H' => ∀ l, H' l = none → Q (.ref l) (upd H' l (.lst ys)), fun zs H' q => ⟨_, by omega, rfl, hlt, q.1, q.2⟩, fun os hos v H' y => ?_⟩
  obtain ⟨rfl, ex⟩ := y
  have ex := ex xs c0
  rw [List.getElem?_eq_getElem hlt] at ex
  obtain ⟨p, ep, hp, hl⟩ := c1 xs[i] (List.getElem_mem _)
  cases ex
  rw [ep] at hp hl c2 ⊢
  refine hg p _ os _ _ hos hl hp ⟨(row (.ref p)).map some, by rw [List.length_map]; exact hl, rfl, ?_⟩
  simp only [l1, l2, true_and]
  exact c2
 ·have e : i = xs.length := by omega
  subst e
  rw [List.drop_length] at c
  exact .inl ⟨⟨xs, c.1.1, Nat.le_refl _⟩, by omega, c.2⟩
theorem g_two {p : Addr} {ys : List V} {os : List (Option V)} {H : Hp} {Q : L2.St → Hp → Prop} (ho : os.length = 2) (hy : ys.length = 2) (h : SqT K H p ys) (q : Q (ys.map some ++ ρ) H) : gTup K 2 (gCons (gName 0) (gCons (gName 1) gNil)) (.ref p) (os ++ ρ) H Q := by
 match os, ho, ys, hy with
 | [o1, o2], _, [x, y], _ => exact gTup2 h q
theorem g_three {p : Addr} {ys : List V} {os : List (Option V)} {H : Hp} {Q : L2.St → Hp → Prop} (ho : os.length = 3) (hy : ys.length = 3) (h : SqT K H p ys) (q : Q (ys.map some ++ ρ) H) : gTup K 3 (gCons (gName 0) (gCons (gName 1) (gCons (gName 2) gNil))) (.ref p) (os ++ ρ) H Q := by
 match os, ho, ys, hy with
 | [o1, o2, o3], _, [x, y, z], _ => exact gTup3 h q
theorem blk_row2 (hn : xs.length ≤ sizeLine) (h : compGo (RowOk K a xs row 2) ρ (rowT row tt) (rowE row te) xs [] H fun zs H' => ∀ l, H' l = none → Q (.ref l) (upd H' l (.lst zs))) :
 tBlkG 2 (Itl K a) (gTup K 2 (gCons (gName 0) (gCons (gName 1) gNil))) ρ tt te H Q := blk_rows (fun _ _ _ _ _ ho hy h q => g_two ho hy h q) hn h
theorem blk_row3 (hn : xs.length ≤ sizeLine) (h : compGo (RowOk K a xs row 3) ρ (rowT row tt) (rowE row te) xs [] H fun zs H' => ∀ l, H' l = none → Q (.ref l) (upd H' l (.lst zs))) :
 tBlkG 3 (Itl K a) (gTup K 3 (gCons (gName 0) (gCons (gName 1) (gCons (gName 2) gNil)))) ρ tt te H Q := blk_rows (fun _ _ _ _ _ ho hy h q => g_three ho hy h q) hn h
end
end Gz
namespace Gz
open PySem PySem.Spec PyProof.Rows L2
theorem compGo_fnew {α β : Type} {R : Hp → V → α → Prop} {R' : Hp → V → β → Prop} {Ok : Hp → Prop} {ρ : L2.St} {tt : TT} {te : TE} {p : α → Bool} {f : α → β} {Q' : List V → Hp → Prop} (mono : ∀ H H' x a, Same H H' → R H x a → R H' x a) (mono' : ∀ H H' x a, Same H H' → R' H x a → R' H' x a) : ∀ {xs : List V} {as : List α} {zs : List V} {bs : List β} {H : Hp}, All2 (R H) xs as → All2 (R' H) zs bs → (∀ H', Same H H' → Ok H') →
 (∀ x a, a ∈ as → ∀ H', Same H H' → R H' x a → ∀ Q : Bool → Hp → Prop, Q (p a) H' → tt (some x :: ρ) H' Q) → (∀ x a, a ∈ as → p a = true → ∀ H', Same H H' → R H' x a → ∀ Q : VK, (∀ H2 y, Same H' H2 → R' H2 y (f a) → Q y H2) → te (some x :: ρ) H' Q) → (∀ H' ws, Same H H' → All2 (R' H') ws (bs ++ (as.filter p).map f) → Q' ws H') → compGo Ok ρ tt te xs zs H Q'
 | [], [], zs, bs, H, _, hz, hOk, _, _, q => ⟨hOk H (Same.refl H), q H zs (Same.refl H) (by simpa using hz)⟩
 | x :: xs, a :: as, zs, bs, H, h, hz, hOk, ht, he, q => by
  refine ⟨hOk H (Same.refl H), ht x a (.head _) H (Same.refl H) h.1 _ ?_⟩
  by_cases hp : p a = true
  ·rw [if_pos hp]
   refine he x a (.head _) hp H (Same.refl H) h.1 _ fun H2 y s2 ry => ?_
   refine compGo_fnew mono mono' (bs := bs ++ [f a]) (h.2.imp fun _ _ r => mono _ _ _ _ s2 r) ((hz.imp fun _ _ r => mono' _ _ _ _ s2 r).snoc ry) (fun H' s' => hOk H' (s2.trans s')) (fun x b hb H' s' => ht x b (.tail _ hb) H' (s2.trans s')) (fun x b hb hp H' s' => he x b (.tail _ hb) hp H' (s2.trans s')) fun H' ws s' hw => q H' ws (s2.trans s') ?_
   rw [List.filter_cons, if_pos hp]
   simpa using hw
  ·rw [if_neg hp]
   refine compGo_fnew mono mono' h.2 hz hOk (fun x b hb => ht x b (.tail _ hb)) (fun x b hb hp => he x b (.tail _ hb) hp) fun H' ws s' hw => q H' ws s' ?_
   rw [List.filter_cons, if_neg hp]
   exact hw
 | [], _ :: _, _, _, _, h, _, _, _, _, _ => h.elim
 | _ :: _, [], _, _, _, h, _, _, _, _, _ => h.elim
end Gz
namespace Gz
open PySem PySem.Spec PyProof.Rows L2
section
variable {X : Cx} {e st : Expr} {te ts : TE} {p2 pos : Pos}
def tRevS (K : PySem.W.Frag) (te ts : TE) : TE := fun σ H Q => te σ H fun x H1 => ts σ H1 fun y H2 => y = .int (-1) ∧ ∃ a xs, x = .ref a ∧ SqL K H2 a xs ∧ ∀ p, H2 p = none → Q (.ref p) (upd H2 p (.lst xs.reverse))
end
end Gz
namespace Gz
open PySem PySem.Spec PyProof.Rows L2
theorem flat_ints (es : List Int) : (es.map V.int).all flatV = true := by
 rw [List.all_map]
 exact List.all_eq_true.mpr fun _ _ => rfl
theorem in_ints (a : Int) : ∀ (es : List Int), inV (.int a) (es.map V.int) = es.contains a
 | [] => rfl
 | e :: es => by
  have ih := in_ints a es
  unfold inV at *
  rw [List.map_cons, List.any_cons, ih, List.contains_cons]
  congr 1
  show (e == a) = (a == e)
  rw [Bool.eq_iff_iff]
  simp only [beq_iff_eq]
  exact eq_comm
theorem tr_rows {K : PySem.W.Frag} {H1 H' : Hp} {l : Addr} {ys : List V} {tb : Tb} (hl : H1 l = some (.lst ys)) (hM : All2 (IsTr H1) ys tb) (s : Same H1 H') : RowOk K l ys (rowOf H1) 3 H' := by
 refine ⟨SqL.of (s _ _ hl), fun x hx => ?_⟩
 obtain ⟨i, hi⟩ := List.mem_iff_getElem?.mp hx
 obtain ⟨m, _, t, p, rfl, h1, h2⟩ := hM.get hi
 rw [rowOf_tup h1]
 exact ⟨t, rfl, SqT.of (s _ _ h1), rfl⟩
theorem map_some {α β : Type} {f : α → Option β} : ∀ (l : List α), (l.map f).filterMap id = l.filterMap f
 | [] => rfl
 | a :: l => by
  rw [List.map_cons, List.filterMap_cons, List.filterMap_cons, map_some l]
  rfl
end Gz
namespace Gz
open PySem PySem.Spec PyProof.Rows L2
theorem gap2.trans {p q r : S2} (hq : okS q) (h : gap2 p q) (h' : gap2 q r) : gap2 p r := by
 obtain ⟨a, b, e1, e2, h1⟩ := h
 obtain ⟨c, d, e3, e4, h2⟩ := h'
 unfold okS at hq
 rw [e2, e3] at hq
 have : b ≤ c := by simpa [crossed] using hq
 exact ⟨a, d, e1, e4, by omega⟩
theorem pw_or {α : Type} {R : α → α → Prop} : ∀ {l : List α}, l.Pairwise R → ∀ {p q : α}, p ∈ l → q ∈ l → p = q ∨ R p q ∨ R q p
 | [], _, _, _, h, _ => by cases h
 | x :: l, h, p, q, hp, hq => by
  have h1 := List.pairwise_cons.mp h
  rcases List.mem_cons.mp hp with e1 | i1 <;> rcases List.mem_cons.mp hq with e2 | i2
  ·exact .inl (e1.trans e2.symm)
  ·rw [e1]; exact .inr (.inl (h1.1 q i2))
  ·rw [e2]; exact .inr (.inr (h1.1 p i1))
  ·exact pw_or h1.2 i1 i2
theorem lexT_eq : ∀ {a b : List Int}, HT.lexLt a b = false → HT.lexLt b a = false → a = b
 | [], [], _, _ => rfl
 | [], _ :: _, h, _ => by cases h
 | _ :: _, [], _, h => by cases h
 | x :: a, y :: b, h1, h2 => by
  rw [HT.lexLt_cons] at h1 h2
  by_cases e : x = y
  ·subst e
   rw [if_pos rfl] at h1 h2
   rw [lexT_eq h1 h2]
  ·rw [if_neg e] at h1
   rw [if_neg (Ne.symm e)] at h2
   have a1 : ¬ x < y := by simpa using h1
   have a2 : ¬ y < x := by simpa using h2
   exact absurd (Int.le_antisymm (Int.not_lt.mp a2) (Int.not_lt.mp a1)) e
theorem srtT_uniq {α : Type} {R : α → α → Prop} : ∀ {as bs : List α}, (∀ x ∈ as, ∀ y ∈ as, R x y → R y x → x = y) → as.Pairwise R → bs.Pairwise R → as.Perm bs → as = bs
 | [], bs, _, _, _, h => h.nil_eq
 | a :: as, [], _, _, _, h => by cases h.length_eq
 | a :: as, b :: bs, ha, s1, s2, h => by
  have e : a = b := by
   have m1 : a ∈ b :: bs := h.mem_iff.mp (.head _)
   have m2 : b ∈ a :: as := h.mem_iff.mpr (.head _)
   rcases List.mem_cons.mp m1 with z | z
   ·exact z
   ·rcases List.mem_cons.mp m2 with y | y
    ·exact y.symm
    ·exact ha a (.head _) b (.tail _ y) ((List.pairwise_cons.mp s1).1 b y) ((List.pairwise_cons.mp s2).1 a z)
  subst e
  rw [srtT_uniq (fun x hx y hy => ha x (.tail _ hx) y (.tail _ hy)) (List.pairwise_cons.mp s1).2 (List.pairwise_cons.mp s2).2 (List.Perm.cons_inv h)]
theorem srtT_perm {tb : Tb} : (srtT tb).Perm tb := sortL_perm
theorem srtT_sorted {tb : Tb} : (srtT tb).Pairwise fun a b => HT.lexLt [b.1.1, b.1.2] [a.1.1, a.1.2] = false := sortL_sorted (f := fun r : P2 × S2 => [r.1.1, r.1.2]) rfl
theorem ndT_inj {tb : Tb} (hn : (tb.map (·.1)).Nodup) {x y : P2 × S2} (hx : x ∈ tb) (hy : y ∈ tb) (e : x.1 = y.1) : x = y := by
 induction tb with
 | nil => cases hx
 | cons r tb ih =>
  rw [List.map_cons, List.nodup_cons] at hn
  rcases List.mem_cons.mp hx with a | a <;> rcases List.mem_cons.mp hy with b | b
  ·rw [a, b]
  ·exact absurd (List.mem_map.mpr ⟨y, b, by rw [← e, a]⟩) hn.1
  ·exact absurd (List.mem_map.mpr ⟨x, a, by rw [e, b]⟩) hn.1
  ·exact ih hn.2 a b
theorem srtT_eq {tb tb' : Tb} (hn : (tb.map (·.1)).Nodup) (h : tb.Perm tb') : srtT tb = srtT tb' := by
 refine srtT_uniq (fun x hx y hy r1 r2 => ndT_inj hn (srtT_mem hx) (srtT_mem hy) ?_) srtT_sorted srtT_sorted (srtT_perm.trans (h.trans srtT_perm.symm))
 have := lexT_eq r1 r2
 injection this with e1 e2
 injection e2 with e2 _
 exact Prod.ext e1.symm e2.symm
end Gz
namespace Gz
open PySem PySem.Spec PyProof.Rows L2
local macro_rules | `(tactic| walk_at "om") => `(tactic| ((try simp only [PySem.Addr] at *); omega))
theorem tyc3 (a b c : Value) : checkTypeCall "zip" ⟨[a, b, c], []⟩ = pure () := by kernel_rfl
theorem nwc3 (a b c : Value) : checkBuiltinCall "zip.__new__" ⟨[.type "zip", a, b, c], []⟩ = pure () := by kernel_rfl
theorem oin4 (a b c d : Value) : argsOk "object.__init__" ⟨[a, b, c, d], []⟩ := by
 unfold argsOk; rw [PySem.signature?_of (id := "object.__init__") (n := ['_', '_', 't', 'i', 'n', 'i', '_', '_']) (o := ['t', 'c', 'e', 'j', 'b', 'o']) (by kernel_rfl) PySem.F.owner_object]; kernel_rfl
abbrev IsTrip (h : Heap) (T : Addr) (a b c : Value) : Prop := h.get? T = some { cls := .type "tuple", data := .seq #[a, b, c] }
section
variable {prog : Program} {w : World} {A : Around} {E : Value → Shared → Prop} {s : Shared}
theorem upd_trip {T : Addr} {a b c x : Value} {k : Nat} {Q : Unit → Shared → Prop} (hT : IsTrip s.heap T a b c)
 (h : ∀ h', h'.get? T = some { cls := .type "tuple", data := .seq ((#[a, b, c] : Array Value).setIfInBounds k x) } → Heap.SameBut T s.heap h' → Q () { s with heap := h' }) : wpAny (model prog w) A (updateSeq T (·.setIfInBounds k x)) Q E s := by
 refine wpAny_updateSeq hT rfl (h _ ?_ (Heap.SameBut.update ..)); rw [Heap.get?_update_self _ hT rfl]; simp [Obj.mapSeq]
structure Z3 (n : Nat) (l1 l2 l3 : Addr) (h : Heap) (k : Nat) (f0 : Value) : Prop where
 z : IsZip h (n + 5 : Nat) (n + 3 : Nat) (n + 4 : Nat) f0
 ti : IsTrip h (n + 3 : Nat) (.ref n) (.ref (n + 1 : Nat)) (.ref (n + 2 : Nat))
 to : ∃ a b c, IsTrip h (n + 4 : Nat) a b c
 i1 : h.IsListIter n l1 k
 i2 : h.IsListIter (n + 1 : Nat) l2 k
 i3 : h.IsListIter (n + 2 : Nat) l3 k
theorem zip3_item {n : Nat} {l1 l2 l3 : Addr} {k : Nat} {xs ys zs : Array Value} {x y u : Value} {Q : Value → Shared → Prop} (d1 : l1 < n) (d2 : l2 < n) (d3 : l3 < n) (S : Z3 n l1 l2 l3 s.heap k .none)
 (hl1 : s.heap.IsList l1 xs) (hl2 : s.heap.IsList l2 ys) (hl3 : s.heap.IsList l3 zs) (hx : xs[k]? = some x) (hy : ys[k]? = some y) (hu : zs[k]? = some u)
 (hQ : ∀ h', Z3 n l1 l2 l3 h' (k + 1) (rawInt s.heap.objs.size) → IsTrip h' s.heap.objs.size x y u → (∀ c o, (c < n ∨ n + 5 < c) → s.heap.get? c = some o → h'.get? c = some o) → Q (.ref s.heap.objs.size) { s with heap := h' }) :
 wpAny (model prog w) A (Builtin.«zip.__next__» ⟨[.ref (n + 5 : Nat)], []⟩) (fun fin s' => ∃ v, fin = .done (.ret v) ∧ Q v s') E s := by
 obtain ⟨hz, hTI, ⟨a, b, c, hTO⟩, h1, h2, h3⟩ := S
 show wpAny _ A (field (.ref (n + 5 : Nat)) 2 >>= _) _ _ _; refine wpAny_bind (wpAny_field hz rfl (x := .bool false) rfl ?_)
 show wpAny _ A (field (.ref (n + 5 : Nat)) 3 >>= _) _ _ _; refine wpAny_bind (wpAny_field hz rfl (x := .ref (n + 3 : Nat)) rfl (wpAny_bind (wpAny_seqItems hTI rfl ?_)))
 show wpAny _ A (Builtin.SmallTypes.ownedTupleIsFree (.ref (n + 5 : Nat)) >>= _) _ _ _; refine wpAny_bind ?_
 unfold Builtin.SmallTypes.ownedTupleIsFree; refine wpAny_bind (wpAny_field hz rfl (x := .none) rfl (wpAny_pure ?_))
 simp only [if_true]; refine wpAny_bind (wpAny_rule (wpAny_bind (wpAny_field hz rfl (x := .ref (n + 4 : Nat)) rfl ?_)))
 refine wpAny_bind (wpAny_setField_rec hz (by simp) fun g1 z1 w1 => ?_)
 replace z1 : IsZip g1 (n + 5 : Nat) (n + 3 : Nat) (n + 4 : Nat) .ellipsis := z1
 refine wpAny_bind ?_; simp only [List.zipIdx_cons, List.zipIdx_nil, List.forIn_cons, List.forIn_nil]
 have E1 : ∀ q o, q ≠ (n + 5 : Nat) → s.heap.get? q = some o → g1.get? q = some o := fun q o hq e => w1.extBut q o hq e
 refine wpAny_bind (wpAny_bind (wpAny_onRaise ?_)); show wpAny _ A (Builtin.SmallTypes.nextOf (.ref n) >>= _) _ _ _
 refine wpAny_bind (wpAny_nextOf_list_item (h1.extBut w1.extBut (by walk_at "om")) (hl1.extBut w1.extBut (by walk_at "om")) hx fun g2 j1 w2 => wpAny_pure ?_)
 have T2 : IsTrip g2 (n + 4 : Nat) a b c := w2.extBut _ _ (by walk_at "om") (w1.extBut _ _ (by walk_at "om") hTO)
 refine wpAny_bind (wpAny_seqItems T2 rfl (wpAny_bind (upd_trip T2 fun g3 T3 w3 => ?_)))
 replace T3 : IsTrip g3 (n + 4 : Nat) x b c := T3
 refine wpAny_bind (wpAny_letGo (wpAny_pure ?_))
 refine wpAny_bind (wpAny_bind (wpAny_onRaise ?_)); show wpAny _ A (Builtin.SmallTypes.nextOf (.ref (n + 1 : Nat)) >>= _) _ _ _
 refine wpAny_bind (wpAny_nextOf_list_item (((h2.extBut w1.extBut (by walk_at "om")).extBut w2.extBut (by walk_at "om")).extBut w3.extBut (by walk_at "om")) (((hl2.extBut w1.extBut (by walk_at "om")).extBut w2.extBut (by walk_at "om")).extBut w3.extBut (by walk_at "om")) hy fun g4 j2 w4 => wpAny_pure ?_)
 have T4 : IsTrip g4 (n + 4 : Nat) x b c := w4.extBut _ _ (by walk_at "om") T3
 refine wpAny_bind (wpAny_seqItems T4 rfl (wpAny_bind (upd_trip T4 fun g5 T5 w5 => ?_)))
 replace T5 : IsTrip g5 (n + 4 : Nat) x y c := T5
 refine wpAny_bind (wpAny_letGo (wpAny_pure ?_))
 refine wpAny_bind (wpAny_bind (wpAny_onRaise ?_)); show wpAny _ A (Builtin.SmallTypes.nextOf (.ref (n + 2 : Nat)) >>= _) _ _ _
 have k5 : ∀ q o, q ≠ (n + 5 : Nat) → q ≠ (n + 4 : Nat) → q ≠ n → q ≠ (n + 1 : Nat) → s.heap.get? q = some o → g5.get? q = some o := fun q o c1 c2 c3 c4 e => w5.extBut _ _ c2 (w4.extBut _ _ c4 (w3.extBut _ _ c2 (w2.extBut _ _ c3 (w1.extBut _ _ c1 e))))
 refine wpAny_bind (wpAny_nextOf_list_item (h3.at fun o e => k5 _ o (by walk_at "om") (by walk_at "om") (by walk_at "om") (by walk_at "om") e) (hl3.at fun o e => k5 _ o (by walk_at "om") (by walk_at "om") (by walk_at "om") (by walk_at "om") e) hu fun g6 j3 w6 => wpAny_pure ?_)
 have T6 : IsTrip g6 (n + 4 : Nat) x y c := w6.extBut _ _ (by walk_at "om") T5
 refine wpAny_bind (wpAny_seqItems T6 rfl (wpAny_bind (upd_trip T6 fun g7 T7 w7 => ?_)))
 replace T7 : IsTrip g7 (n + 4 : Nat) x y u := T7
 refine wpAny_bind (wpAny_letGo (wpAny_pure (wpAny_pure ?_)))
 refine wpAny_bind (wpAny_seqItems T7 rfl (wpAny_bind (wpAny_newTuple ?_)))
 have sz : g7.objs.size = s.heap.objs.size := by rw [w7.1, w6.1, w5.1, w4.1, w3.1, w2.1, w1.1]
 have z7 : IsZip g7 (n + 5 : Nat) (n + 3 : Nat) (n + 4 : Nat) .ellipsis := w7.extBut _ _ (by walk_at "om") (w6.extBut _ _ (by walk_at "om") (w5.extBut _ _ (by walk_at "om") (w4.extBut _ _ (by walk_at "om") (w3.extBut _ _ (by walk_at "om") (w2.extBut _ _ (by walk_at "om") z1)))))
 have k7 : ∀ q o, (q < n ∨ q = n + 3 ∨ n + 5 < q) → s.heap.get? q = some o → g7.get? q = some o := fun q o hq e => w7.extBut _ _ (by walk_at "om") (w6.extBut _ _ (by walk_at "om") (k5 q o (by walk_at "om") (by walk_at "om") (by walk_at "om") (by walk_at "om") e))
 have n1 : g7.IsListIter n l1 (k + 1) := ((((j1.extBut w3.extBut (by walk_at "om")).extBut w4.extBut (by walk_at "om")).extBut w5.extBut (by walk_at "om")).extBut w6.extBut (by walk_at "om")).extBut w7.extBut (by walk_at "om")
 have n2 : g7.IsListIter (n + 1 : Nat) l2 (k + 1) := ((j2.extBut w5.extBut (by walk_at "om")).extBut w6.extBut (by walk_at "om")).extBut w7.extBut (by walk_at "om")
 have n3 : g7.IsListIter (n + 2 : Nat) l3 (k + 1) := j3.extBut w7.extBut (by walk_at "om")
 have zl : (n + 5 : Nat) < g7.objs.size := Heap.lt_size z7
 show wpAny _ A (Builtin.SmallTypes.ownedTupleHandOut (.ref (n + 5 : Nat)) (.ref g7.objs.size) >>= _) _ _ _; refine wpAny_bind ?_
 unfold Builtin.SmallTypes.ownedTupleHandOut
 have z8 : IsZip (g7.push { cls := .type "tuple", data := .seq #[x, y, u] }) (n + 5 : Nat) (n + 3 : Nat) (n + 4 : Nat) .ellipsis := Heap.get?_push_of_some _ z7
 refine wpAny_bind (wpAny_setField_rec z8 (by simp) fun g9 z9 w9 => ?_)
 replace z9 : IsZip g9 (n + 5 : Nat) (n + 3 : Nat) (n + 4 : Nat) (rawInt g7.objs.size) := z9
 refine wpAny_setField_rec z9 (by simp) fun ga za wa => ?_
 replace za : IsZip ga (n + 5 : Nat) (n + 3 : Nat) (n + 4 : Nat) (rawInt g7.objs.size) := za
 have up : ∀ q o, q ≠ (n + 5 : Nat) → g7.get? q = some o → ga.get? q = some o := fun q o c1 e => wa.extBut _ _ c1 (w9.extBut _ _ c1 (Heap.get?_push_of_some _ e))
 have Ta : IsTrip ga g7.objs.size x y u := wa.extBut _ _ (Nat.ne_of_gt zl) (w9.extBut _ _ (Nat.ne_of_gt zl) (Heap.get?_push_size _ rfl))
 rw [sz] at za Ta
 refine wpAny_pure ⟨_, rfl, ?_⟩
 show Q (.ref g7.objs.size) _; rw [sz]
 exact hQ ga ⟨za, up (n + 3 : Nat) _ (by walk_at "om") (k7 (n + 3 : Nat) _ (.inr (.inl rfl)) hTI), ⟨_, _, _, up (n + 4 : Nat) _ (by walk_at "om") T7⟩, n1.at fun o e => up _ o (by walk_at "om") e, n2.at fun o e => up _ o (by walk_at "om") e, n3.at fun o e => up _ o (by walk_at "om") e⟩ Ta fun q o hq e => up q o (by walk_at "om") (k7 q o (by walk_at "om") e)
theorem zip3_end {n : Nat} {l1 l2 l3 : Addr} {k : Nat} {xs : Array Value} {Q : PySem.Fin → Shared → Prop} (hh : A.handled = none) (d1 : l1 < n) (S : Z3 n l1 l2 l3 s.heap k .none) (hl1 : s.heap.IsList l1 xs) (hx : xs[k]? = none)
 (hE : ∀ h' e, (∀ c o, (c < n ∨ n + 5 < c) → s.heap.get? c = some o → h'.get? c = some o) → (∃ o, h'.get? e = some o ∧ o.cls = .type "StopIteration") → E (.ref e) { s with heap := h' }) :
 wpAny (model prog w) A (Builtin.«zip.__next__» ⟨[.ref (n + 5 : Nat)], []⟩) Q E s := by
 obtain ⟨hz, hTI, ⟨a, b, c, hTO⟩, h1, h2, h3⟩ := S
 show wpAny _ A (field (.ref (n + 5 : Nat)) 2 >>= _) _ _ _; refine wpAny_bind (wpAny_field hz rfl (x := .bool false) rfl ?_)
 show wpAny _ A (field (.ref (n + 5 : Nat)) 3 >>= _) _ _ _; refine wpAny_bind (wpAny_field hz rfl (x := .ref (n + 3 : Nat)) rfl (wpAny_bind (wpAny_seqItems hTI rfl ?_)))
 show wpAny _ A (Builtin.SmallTypes.ownedTupleIsFree (.ref (n + 5 : Nat)) >>= _) _ _ _; refine wpAny_bind ?_
 unfold Builtin.SmallTypes.ownedTupleIsFree; refine wpAny_bind (wpAny_field hz rfl (x := .none) rfl (wpAny_pure ?_))
 simp only [if_true]; refine wpAny_bind (wpAny_rule (wpAny_bind (wpAny_field hz rfl (x := .ref (n + 4 : Nat)) rfl ?_)))
 refine wpAny_bind (wpAny_setField_rec hz (by simp) fun g1 z1 w1 => ?_)
 replace z1 : IsZip g1 (n + 5 : Nat) (n + 3 : Nat) (n + 4 : Nat) .ellipsis := z1
 refine wpAny_bind ?_; simp only [List.zipIdx_cons, List.zipIdx_nil, List.forIn_cons, List.forIn_nil]
 refine wpAny_bind (wpAny_bind (wpAny_onRaise ?_)); show wpAny _ A (Builtin.SmallTypes.nextOf (.ref n) >>= _) _ _ _
 refine wpAny_bind (wpAny_nextOf_list_end hh (h1.extBut w1.extBut (by walk_at "om")) (hl1.extBut w1.extBut (by walk_at "om")) hx fun g2 e w2 he => ?_)
 obtain ⟨oe, he1, he2⟩ := he
 have z2 : IsZip g2 (n + 5 : Nat) (n + 3 : Nat) (n + 4 : Nat) .ellipsis := w2 _ _ (by walk_at "om") z1
 have ne : e ≠ (n + 5 : Nat) := fun q => by subst q; rw [z2] at he1; cases he1; simp at he2
 exact wpAny_setField_rec z2 (by simp) fun g3 _ w3 => hE g3 e (fun q o hq e0 => w3.extBut _ _ (by walk_at "om") (w2 _ _ (by walk_at "om") (w1.extBut _ _ (by walk_at "om") e0))) ⟨oe, w3.extBut _ _ ne he1, he2⟩
theorem next3_item {n : Nat} {l1 l2 l3 : Addr} {k : Nat} {xs ys zs : Array Value} {x y u : Value} {Q : Option Value → Shared → Prop} (d1 : l1 < n) (d2 : l2 < n) (d3 : l3 < n) (S : Z3 n l1 l2 l3 s.heap k .none)
 (hl1 : s.heap.IsList l1 xs) (hl2 : s.heap.IsList l2 ys) (hl3 : s.heap.IsList l3 zs) (hx : xs[k]? = some x) (hy : ys[k]? = some y) (hu : zs[k]? = some u)
 (hQ : ∀ h', Z3 n l1 l2 l3 h' (k + 1) (rawInt s.heap.objs.size) → IsTrip h' s.heap.objs.size x y u → (∀ c o, (c < n ∨ n + 5 < c) → s.heap.get? c = some o → h'.get? c = some o) → Q (some (.ref s.heap.objs.size)) { s with heap := h' }) :
 wpAny (model prog w) A (pyNext (.ref (n + 5 : Nat))) Q E s := by
 have T : s.TypeIs (.ref (n + 5 : Nat)) "zip" := ⟨_, S.z, rfl⟩
 unfold pyNext; exact wpAny_bind (wpAny_attempt (wpAny_callSpecial?_slot (name := Str.ofString "__next__") T PySem.F.slot_zip_next (wpAny_call_entry PySem.F.slot_zip_next T PySem.F.entry_zip_next (zip3_item d1 d2 d3 S hl1 hl2 hl3 hx hy hu fun h' a1 a2 a3 => wpAny_pure (hQ h' a1 a2 a3)) (PySem.F.args_zip_next_1 _))))
theorem next3_end {n : Nat} {l1 l2 l3 : Addr} {k : Nat} {xs : Array Value} {Q : Option Value → Shared → Prop} (hh : A.handled = none) (d1 : l1 < n) (S : Z3 n l1 l2 l3 s.heap k .none) (hl1 : s.heap.IsList l1 xs) (hx : xs[k]? = none)
 (hQ : ∀ h', (∀ c o, (c < n ∨ n + 5 < c) → s.heap.get? c = some o → h'.get? c = some o) → Q none { s with heap := h' }) : wpAny (model prog w) A (pyNext (.ref (n + 5 : Nat))) Q E s := by
 have T : s.TypeIs (.ref (n + 5 : Nat)) "zip" := ⟨_, S.z, rfl⟩
 unfold pyNext; refine wpAny_bind (wpAny_attempt (wpAny_callSpecial?_slot (name := Str.ofString "__next__") T PySem.F.slot_zip_next (wpAny_call_entry PySem.F.slot_zip_next T PySem.F.entry_zip_next (zip3_end hh d1 S hl1 hx fun h' e hk he => ?_) (PySem.F.args_zip_next_1 _))))
 obtain ⟨o, h1, h2⟩ := he
 refine wpAny_bind (wpAny_isInstance (T := "StopIteration") (b := true) ⟨o, h1, h2⟩ isSubtype_stop ?_); exact wpAny_pure (hQ _ hk)
end
abbrev z3a (h : Heap) (l1 : Addr) : Heap := h.push { cls := .type "list_iterator", data := .fields #[.ref l1, .int 0 0] }
abbrev z3b (h : Heap) (l1 l2 : Addr) : Heap := (z3a h l1).push { cls := .type "list_iterator", data := .fields #[.ref l2, .int 0 0] }
abbrev z3c (h : Heap) (l1 l2 l3 : Addr) : Heap := (z3b h l1 l2).push { cls := .type "list_iterator", data := .fields #[.ref l3, .int 0 0] }
abbrev z3d (h : Heap) (l1 l2 l3 : Addr) : Heap := (z3c h l1 l2 l3).push { cls := .type "tuple", data := .seq #[.ref h.objs.size, .ref (z3a h l1).objs.size, .ref (z3b h l1 l2).objs.size] }
abbrev z3e (h : Heap) (l1 l2 l3 : Addr) : Heap := (z3d h l1 l2 l3).push { cls := .type "tuple", data := .seq #[.none, .none, .none] }
abbrev z3f (h : Heap) (l1 l2 l3 : Addr) : Heap := (z3e h l1 l2 l3).push { cls := .type "zip", data := .fields #[.none, .bool false, .bool false, .ref (z3c h l1 l2 l3).objs.size, .ref (z3d h l1 l2 l3).objs.size] }
theorem mts3 (l1 l2 l3 : Addr) (xs ys zs : Array Value) : Meets (Builtin.«zip.__new__» ⟨[.type "zip", .ref l1, .ref l2, .ref l3], []⟩) (fun _ R s => s.heap.IsList l1 xs ∧ s.heap.IsList l2 ys ∧ s.heap.IsList l3 zs ∧ R (.ok (.ret (.ref (z3e s.heap l1 l2 l3).objs.size))) { s with heap := z3f s.heap l1 l2 l3 }) :=
 .of_wp fun prog w A R s h => by
  obtain ⟨hp, g, d, tk, os⟩ := s; obtain ⟨q1, q2, q3, h⟩ := h
  have sub := sub_zip
  have L1 : Heap.IsList (Shared.heap ⟨hp, g, d, tk, os⟩) l1 xs := q1
  have L2 : Heap.IsList (Shared.heap ⟨z3a hp l1, g, d, tk, os⟩) l2 ys := Heap.IsList.push q2 _
  have L3 : Heap.IsList (Shared.heap ⟨z3b hp l1 l2, g, d, tk, os⟩) l3 zs := Heap.IsList.push (Heap.IsList.push q3 _) _
  wp_walk using wpAny_pyIter_list L1, wpAny_pyIter_list L2, wpAny_pyIter_list L3
  exact ⟨_, rfl, h⟩
theorem call_zip_3 {prog : Program} {w : World} {A : Around} {E : Value → Shared → Prop} {s : Shared} {l1 l2 l3 : Addr} {xs ys zs : Array Value} {Q : Value → Shared → Prop} (hl1 : s.heap.IsList l1 xs) (hl2 : s.heap.IsList l2 ys) (hl3 : s.heap.IsList l3 zs)
 (h : ∀ h', Z3 s.heap.objs.size l1 l2 l3 h' 0 .none → (∀ c o, s.heap.get? c = some o → h'.get? c = some o) → Q (.ref (s.heap.objs.size + 5 : Nat)) { s with heap := h' }) : wpAny (model prog w) A (call (.type "zip") [.ref l1, .ref l2, .ref l3]) Q E s := by
 refine callType_new PySem.F.called_zip (by decide) (tyc3 _ _ _) (nwc3 _ _ _) (fun obj => oin4 obj _ _ _) PySem.F.entry_zip_new (mts3 l1 l2 l3 xs ys zs) ⟨hl1, hl2, hl3, ?_⟩
 have s1 : (z3a s.heap l1).objs.size = s.heap.objs.size + 1 := Heap.size_push ..
 have s2 : (z3b s.heap l1 l2).objs.size = s.heap.objs.size + 2 := by rw [Heap.size_push, s1]
 have s3 : (z3c s.heap l1 l2 l3).objs.size = s.heap.objs.size + 3 := by rw [Heap.size_push, s2]
 have s4 : (z3d s.heap l1 l2 l3).objs.size = s.heap.objs.size + 4 := by rw [Heap.size_push, s3]
 have s5 : (z3e s.heap l1 l2 l3).objs.size = s.heap.objs.size + 5 := by rw [Heap.size_push, s4]
 have p6 : (z3f s.heap l1 l2 l3).get? (z3e s.heap l1 l2 l3).objs.size = some _ := Heap.get?_push_size _ rfl
 have p5 : (z3f s.heap l1 l2 l3).get? (z3d s.heap l1 l2 l3).objs.size = some _ := Heap.get?_push_of_some _ (Heap.get?_push_size _ rfl)
 have p4 : (z3f s.heap l1 l2 l3).get? (z3c s.heap l1 l2 l3).objs.size = some _ := Heap.get?_push_of_some _ (Heap.get?_push_of_some _ (Heap.get?_push_size _ rfl))
 have p3 : (z3f s.heap l1 l2 l3).get? (z3b s.heap l1 l2).objs.size = some _ := Heap.get?_push_of_some _ (Heap.get?_push_of_some _ (Heap.get?_push_of_some _ (Heap.get?_push_size _ rfl)))
 have p2 : (z3f s.heap l1 l2 l3).get? (z3a s.heap l1).objs.size = some _ := Heap.get?_push_of_some _ (Heap.get?_push_of_some _ (Heap.get?_push_of_some _ (Heap.get?_push_of_some _ (Heap.get?_push_size _ rfl))))
 have p1 : (z3f s.heap l1 l2 l3).get? s.heap.objs.size = some _ := Heap.get?_push_of_some _ (Heap.get?_push_of_some _ (Heap.get?_push_of_some _ (Heap.get?_push_of_some _ (Heap.get?_push_of_some _ (Heap.get?_push_size _ rfl)))))
 show _ ∧ _
 rw [s3, s4, s5] at p6
 rw [s1, s2, s3] at p4
 rw [s4] at p5
 rw [s2] at p3
 rw [s1] at p2
 rw [s5]
 exact ⟨⟨_, p6, rfl⟩, h _ ⟨p6, p4, ⟨_, _, _, p5⟩, ⟨_, p1, rfl, rfl⟩, ⟨_, p2, rfl, rfl⟩, ⟨_, p3, rfl, rfl⟩⟩ fun c o q => Heap.get?_push_of_some _ (Heap.get?_push_of_some _ (Heap.get?_push_of_some _ (Heap.get?_push_of_some _ (Heap.get?_push_of_some _ (Heap.get?_push_of_some _ q)))))⟩
def Itz3 (K : PySem.W.Frag) (a b c : Addr) : It :=
 ⟨fun i H => ∃ xs ys zs x y z, SqL K H a xs ∧ SqL K H b ys ∧ SqL K H c zs ∧ xs[i]? = some x ∧ ys[i]? = some y ∧ zs[i]? = some z, fun i H v H' => ∃ (p : Addr) (x y z : V), v = .ref p ∧ H p = none ∧ H' = upd H p (.tup [x, y, z]) ∧ (∀ xs, SqL K H a xs → xs[i]? = some x) ∧ (∀ ys, SqL K H b ys → ys[i]? = some y) ∧ ∀ zs, SqL K H c zs → zs[i]? = some z,
  fun i H => ∃ xs, SqL K H a xs ∧ xs.length ≤ i⟩
theorem turn_zip3 {P : Program} {w : World} {K : PySem.W.Frag} {es : List Expr} {k : Nat} {tp : Pos} (n : Nat) (a b c : Addr) (d1 : a < n) (d2 : b < n) (d3 : c < n) : Turn P w K (.Tuple es k tp) (Itz3 K a b c) [(n + 5 : Nat), (n + 3 : Nat), (n + 4 : Nat), n, (n + 1 : Nat), (n + 2 : Nat)] (n + 5 : Nat) (fun i h => Z3 n a b c h i .none) where
 mem := by simp
 obj := fun i h st q hq => by
  obtain ⟨hz, hTI, ⟨ta, tb, tc, hTO⟩, ⟨o1, h1, c1, e1⟩, ⟨o2, h2, c2, e2⟩, ⟨o3, h3, c3, e3⟩⟩ := st
  have hq' : q = (n + 5 : Nat) ∨ q = (n + 3 : Nat) ∨ q = (n + 4 : Nat) ∨ q = n ∨ q = (n + 1 : Nat) ∨ q = (n + 2 : Nat) := by simpa using hq
  rcases hq' with rfl | rfl | rfl | rfl | rfl | rfl
  ·exact ⟨_, hz, fun v q => by
    have q' : Data.fields _ = Data.cell v := q
    cases q'⟩
  ·exact ⟨_, hTI, fun v q => by
    have q' : Data.seq _ _ = Data.cell v := q
    cases q'⟩
  ·exact ⟨_, hTO, fun v q => by
    have q' : Data.seq _ _ = Data.cell v := q
    cases q'⟩
  ·exact ⟨o1, h1, fun v q => by rw [e1] at q; cases q⟩
  ·exact ⟨o2, h2, fun v q => by rw [e2] at q; cases q⟩
  ·exact ⟨o3, h3, fun v q => by rw [e3] at q; cases q⟩
 keep := fun i h h' st kk => by
  obtain ⟨hz, hTI, ⟨ta, tb, tc, hTO⟩, h1, h2, h3⟩ := st
  exact ⟨kk _ (by simp) _ hz, kk _ (by simp) _ hTI, ⟨ta, tb, tc, kk _ (by simp) _ hTO⟩, h1.at fun o e => kk _ (by simp) o e, h2.at fun o e => kk _ (by simp) o e, h3.at fun o e => kk _ (by simp) o e⟩
 item := by
  intro X hP hw hK hc i pins s σ H E I hf st hg
  subst hP hw hK
  obtain ⟨xs, ys, zs, x, y, z, hqx, hqy, hqz, hx, hy, hz⟩ := hg
  obtain ⟨its, rv, p1, _⟩ := I.list hqx
  obtain ⟨jts, rv2, p2, _⟩ := I.list hqy
  obtain ⟨kts, rv3, p3, _⟩ := I.list hqz
  obtain ⟨u, hu, ru⟩ := rv.get hx
  obtain ⟨v, hv, rv'⟩ := rv2.get hy
  obtain ⟨t, ht, rt'⟩ := rv3.get hz
  have lz := Heap.lt_size st.z
  refine next3_item d1 d2 d3 st p1.isList p2.isList p3.isList (x := u) (y := v) (u := t) (by simpa using hu) (by simpa using hv) (by simpa using ht) fun h' S1 pT hk => ?_
  refine ⟨_, rfl, wpAny_letOwnedTupleGo_zip S1.z fun h3 z3 hs3 => ?_⟩
  have hs3' : Heap.SameBut (n + 5 : Nat) h' h3 := hs3
  have neT : s.heap.objs.size ≠ (n + 5 : Nat) := Nat.ne_of_gt lz
  have up : ∀ b o, b ∉ [((n + 5 : Nat) : Addr), (n + 3 : Nat), (n + 4 : Nat), n, (n + 1 : Nat), (n + 2 : Nat)] → s.heap.get? b = some o → h3.get? b = some o := fun b o hb q => by
   have hb' : b ≠ (n + 5 : Nat) ∧ b ≠ (n + 3 : Nat) ∧ b ≠ (n + 4 : Nat) ∧ b ≠ n ∧ b ≠ (n + 1 : Nat) ∧ b ≠ (n + 2 : Nat) := by simpa using hb
   exact hs3'.extBut b o hb'.1 (hk b o (by walk_at "om") q)
  have hn : H s.heap.objs.size = none := I.hok.fresh (Nat.le_refl _)
  obtain ⟨_, s2, ⟨ta, tb, tc, s3⟩, s4, s5, s6⟩ := S1
  refine ⟨.ref s.heap.objs.size, upd H s.heap.objs.size (.tup [x, y, z]), Inv_turnsLaid (s := s) (h' := h3) (t' := s.toks) I up hf (Nat.le_refl _) ⟨show 3 ≤ sizeLine by decide, [u, v, t], .cons ru (.cons rv' (.cons rt' .nil)), ?_⟩, rfl, ⟨_, x, y, z, rfl, hn, rfl, fun q hq => by rw [I.list_inj hq hqx]; exact hx, fun q hq => by rw [I.list_inj hq hqy]; exact hy, fun q hq => by rw [I.list_inj hq hqz]; exact hz⟩,
   ⟨z3, hs3'.extBut _ _ (by walk_at "om") s2, ⟨_, _, _, hs3'.extBut _ _ (by walk_at "om") s3⟩, s4.at fun o q => hs3'.extBut _ _ (by walk_at "om") q, s5.at fun o q => hs3'.extBut _ _ (by walk_at "om") q, s6.at fun o q => hs3'.extBut _ _ (by walk_at "om") q⟩, fun b hb => ?_⟩
  ·exact ⟨_, hs3'.extBut _ _ neT pT, rfl, _, rfl⟩
  ·rw [upd_ne]
   ·exact (hf b hb).1
   ·have hb' : b = (n + 5 : Nat) ∨ b = (n + 3 : Nat) ∨ b = (n + 4 : Nat) ∨ b = n ∨ b = (n + 1 : Nat) ∨ b = (n + 2 : Nat) := by simpa using hb
    walk_at "om"
 done := by
  intro X hP hw hK hc i pins s σ H E I hf st hg
  subst hP hw hK
  obtain ⟨xs, hqx, hx⟩ := hg
  obtain ⟨its, rv, p1, _⟩ := I.list hqx
  have l1 := rv.length
  refine next3_end (I.ok.hd hc) d1 st p1.isList (by simp; omega) fun h' hk => ⟨rfl, Inv_turns (t' := s.toks) I (fun b o hb q => ?_) hf⟩
  have hb' : b ≠ (n + 5 : Nat) ∧ b ≠ (n + 3 : Nat) ∧ b ≠ (n + 4 : Nat) ∧ b ≠ n ∧ b ≠ (n + 1 : Nat) ∧ b ≠ (n + 2 : Nat) := by simpa using hb
  exact hk b o (by walk_at "om") q
 self := fun _ i s Q E st h => wpAny_pyIter_zip st.z h
def iZip3 (K : PySem.W.Frag) (ta : TA) : TI := fun σ H R => ta σ H fun vs H1 => ∃ a b c, vs = [.ref a, .ref b, .ref c] ∧ (∃ xs, SqL K H1 a xs) ∧ (∃ ys, SqL K H1 b ys) ∧ (∃ zs, SqL K H1 c zs) ∧ R (Itz3 K a b c) H1
theorem pi_zip3 {X : Cx} {es : List Expr} {k : Nat} {tp : Pos} {e f g : Expr} {ta : TA} {p pos : Pos} (hg : Gl X "zip") (hm : X.mg "zip" = none) (ha : PA X [e, f, g] ta) (hs : starEach [e, f, g] X.env = (false, eval e X.env) :: starEach [f, g] X.env := by rfl) (hs2 : starEach [f, g] X.env = (false, eval f X.env) :: starEach [g] X.env := by rfl) (hs3 : starEach [g] X.env = [(false, eval g X.env)] := by rfl) : PI X (.Tuple es k tp) (.Call (.Name "zip" p) [e, f, g] [] pos) (iZip3 X.K ta) := by
 intro pins s σ H R I h
 refine Call_ (ld_blt I hg hm b_zip (PyProof.Rows.callWith_type1 (thn (ha pos pins s σ H _ I h) fun us s1 ⟨vs, H1, I1, r1, q1⟩ => ?_) hs (by rw [hs2, hs3]; rfl)))
 obtain ⟨a, b, c, rfl, ⟨xs, hqx⟩, ⟨ys, hqy⟩, ⟨zs, hqz⟩, q⟩ := q1
 obtain ⟨u, v, t, rfl, ru, rv0, rt0⟩ : ∃ u v t, us = [u, v, t] ∧ RelV (.ref a) u ∧ RelV (.ref b) v ∧ RelV (.ref c) t := by
  cases r1 with
  | cons h1 r => cases r with
   | cons h2 r => cases r with
    | cons h3 r => cases r; exact ⟨_, _, _, rfl, h1, h2, h3⟩
 cases ru
 cases rv0
 cases rt0
 obtain ⟨its, rv, p1, _⟩ := I1.list hqx
 obtain ⟨jts, rv2, p2, _⟩ := I1.list hqy
 obtain ⟨kts, rv3, p3, _⟩ := I1.list hqz
 have a1 : a < s1.heap.objs.size := by obtain ⟨_, e, _⟩ := p1.isList; exact Heap.lt_size e
 have a2 : b < s1.heap.objs.size := by obtain ⟨_, e, _⟩ := p2.isList; exact Heap.lt_size e
 have a3 : c < s1.heap.objs.size := by obtain ⟨_, e, _⟩ := p3.isList; exact Heap.lt_size e
 refine call_zip_3 p1.isList p2.isList p3.isList fun h' S hk => wpAny_pyIter_zip S.z ?_
 have I2 : Inv X pins σ H1 { s1 with heap := h' } := I1.kept (t' := s1.toks) hk
 refine ⟨_, _, _, _, H1, rfl, I2, turn_zip3 s1.heap.objs.size a b c a1 a2 a3, S, fun q hq => ?_, q⟩
 have hq' : s1.heap.objs.size ≤ q := by
  simp only [List.mem_cons, List.not_mem_nil, or_false] at hq
  walk_at "om"
 exact I1.fpOk hq' (I1.hok.fresh hq')
end Gz
namespace Gz
open PySem PySem.Spec PyProof.Rows L2
local macro_rules | `(tactic| walk_at "om") => `(tactic| ((try simp only [PySem.Addr] at *); omega))
section
variable {X : Cx} {pins : List (Addr × Obj)} {σ : L2.St} {H : Hp} {s : Shared} {a : Addr} {kvs : List (List Key × V)} {o : Obj} {u u' : HO}
def Loose : HO → Prop
 | .dT _ => True
 | .frz _ (.dT _) => True
 | _ => False
theorem inv_swap (I : Inv X pins σ H s) (e : H a = some u) (lu : Loose u) (h0 : ∀ o v, X.H₀ a ≠ some (.frz o v)) (new : ObjOk X.prog X.w (upd H a u') s.heap a u') : Inv X pins σ (upd H a u') s := by
 have nn : ∀ b, H b = none → b ≠ a := fun b h z => by rw [z, e] at h; cases h
 have nt : ∀ b xs, H b = some (.tup xs) → b ≠ a := fun b xs h z => by rw [z, e] at h; cases h; exact lu
 have no : ∀ b x, H b = some (.own x) → b ≠ a := fun b x h z => by rw [z, e] at h; cases h; exact lu
 have nb : ∀ b ps, H b = some (.tbl ps) → b ≠ a := fun b ps h z => by rw [z, e] at h; cases h; exact lu
 refine ⟨I.ok, I.os, I.bare, ⟨I.base.keep, I.base.slot, fun b o e1 n hx => ?_, I.base.there, fun b xs e1 => ?_, fun b o v e1 => ?_, fun b ps e1 => ?_⟩, I.loc, I.cell, ?_, fun x c e1 => ?_, fun p hp => ?_, fun b ob e1 => ?_, I.len⟩
 ·have := I.base.free b o e1 n hx
  rw [upd_ne (nn b this)]; exact this
 ·have := I.base.tups b xs e1
  rw [upd_ne (nt b xs this)]; exact this
 ·have := I.base.frzs b o v e1
  rw [upd_ne (show b ≠ a from fun z => h0 o v (by rw [← z]; exact e1))]; exact this
 ·obtain ⟨more, this⟩ := I.base.tbls b ps e1
  exact ⟨more, by rw [upd_ne (nb b _ this)]; exact this⟩
 ·rw [upd_ne (nn _ I.free)]; exact I.free
 ·have := I.freeC x c e1
  rw [upd_ne (nn c this)]; exact this
 ·obtain ⟨p1, p2, p3⟩ := I.pin p hp
  exact ⟨p1, by rw [upd_ne (nn _ p2)]; exact p2, p3⟩
 ·by_cases hb : b = a
  ·subst hb
   rw [upd_same] at e1
   cases e1
   exact new
  ·rw [upd_ne hb] at e1
   exact (I.hok b ob e1).stay (fun _ _ _ q => q) (fun c h => by rw [upd_ne (no c _ h)]; exact h) fun c xs h => by rw [upd_ne (nt c xs h)]; exact h
theorem inv_freeze (I : Inv X pins σ H s) (e : H a = some (.dT kvs)) : ∃ o, Inv X pins σ (upd H a (.frz o (.dT kvs))) s ∧ ∀ o v, X.H₀ a ≠ some (.frz o v) := by
 have h0 : ∀ o v, X.H₀ a ≠ some (.frz o v) := fun o v z => by
  have := I.base.frzs a o v z
  rw [e] at this; cases this
 have ok := I.hok a _ e
 obtain ⟨_, _, _, _, o, _, _, ho, _⟩ := id ok
 refine ⟨o, inv_swap I e trivial h0 ⟨ho, ok.stay (fun _ _ _ q => q) (fun c h => ?_) fun c xs h => ?_⟩, h0⟩
 ·rw [upd_ne fun z => by rw [z, e] at h; cases h]; exact h
 ·rw [upd_ne fun z => by rw [z, e] at h; cases h]; exact h
theorem inv_thaw (I : Inv X pins σ H s) (e : H a = some (.frz o (.dT kvs))) (h0 : ∀ o v, X.H₀ a ≠ some (.frz o v)) : Inv X pins σ (upd H a (.dT kvs)) s := by
 obtain ⟨_, ok⟩ := I.hok a _ e
 refine inv_swap I e trivial h0 (ok.stay (fun _ _ _ q => q) (fun c h => ?_) fun c xs h => ?_)
 ·rw [upd_ne fun z => by rw [z, e] at h; cases h]; exact h
 ·rw [upd_ne fun z => by rw [z, e] at h; cases h]; exact h
def thD (a : Addr) (o : Obj) (kvs : List (List Key × V)) (D : Ends) : Ends where
 nx := fun σ H => H a = some (.frz o (.dT kvs)) ∧ D.nx σ (upd H a (.dT kvs))
 rt := fun v H => H a = some (.frz o (.dT kvs)) ∧ D.rt v (upd H a (.dT kvs))
 bk := fun σ H => H a = some (.frz o (.dT kvs)) ∧ D.bk σ (upd H a (.dT kvs))
 ct := fun σ H => H a = some (.frz o (.dT kvs)) ∧ D.ct σ (upd H a (.dT kvs))
def sFrz (t : TS) : TS := fun D σ H => ∃ a kvs, H a = some (.dT kvs) ∧ ∀ o, t (thD a o kvs D) σ (upd H a (.frz o (.dT kvs)))
theorem ps_frz {st : Stmt} {t : TS} (h : PS X st t) : PS X st (sFrz t) := by
 rintro pins s σ H D I ⟨a, kvs, e, q⟩
 obtain ⟨o, I1, h0⟩ := inv_freeze I e
 refine thn (h pins s σ _ _ I1 (q o)) fun f s' hf => ?_
 cases f with
 | next => obtain ⟨σ', H', I', e', q'⟩ := hf; exact ⟨σ', _, inv_thaw I' e' h0, q'⟩
 | brk => obtain ⟨σ', H', I', e', q'⟩ := hf; exact ⟨σ', _, inv_thaw I' e' h0, q'⟩
 | cont => obtain ⟨σ', H', I', e', q'⟩ := hf; exact ⟨σ', _, inv_thaw I' e' h0, q'⟩
 | ret v => obtain ⟨v', σ', H', I', r', e', q'⟩ := hf; exact ⟨v', σ', _, inv_thaw I' e' h0, r', q'⟩
def tFrz (t : TE) : TE := fun σ H Q => ∃ a kvs, H a = some (.dT kvs) ∧ ∀ o, t σ (upd H a (.frz o (.dT kvs))) fun v H' => H' a = some (.frz o (.dT kvs)) ∧ Q v (upd H' a (.dT kvs))
def keysO (o : Obj) : List V := match o.data with
 | .dict es _ => es.toList.map fun e => match e.key with
  | .ref a => V.ref a
  | _ => V.non
 | _ => []
def Itd (a : Addr) (o : Obj) (kvs : List (List Key × V)) : It where
 go i H := H a = some (.frz o (.dT kvs)) ∧ i < kvs.length
 yld i H x H' := H' = H ∧ (keysO o)[i]? = some x
 stop i H := H a = some (.frz o (.dT kvs)) ∧ kvs.length ≤ i
def iDict (tl : TE) : TI := fun σ H R => tl σ H fun x H1 => ∃ a o kvs, x = .ref a ∧ H1 a = some (.frz o (.dT kvs)) ∧ (KeyAs H1 (keysO o) kvs → R (Itd a o kvs) H1)
theorem frz_raw {P : Program} {w : World} {h : Heap} (ok : HOk P w H h) (e : H a = some (.frz o (.dT kvs))) : ∃ (as : List Addr) (es : Array DictEntry) (ep : Nat), KeyAs H (keysO o) kvs ∧ (a == sysModules) = false ∧ RawAt h a es ep ∧ o.data = .dict es ep ∧ es.size = kvs.length ∧ kvs.length ≤ sizeLine ∧ ∀ i (hi : i < es.size), ∃ b, es[i].key = .ref b ∧ (keysO o)[i]? = some (.ref b) := by
 obtain ⟨ho, z, lo, xs, rel, o', es, ep, ho', hc, hd, he, hn⟩ := ok a _ e
 rw [ho] at ho'
 cases ho'
 have hl : xs.length = kvs.length := (Paired.length rel).symm
 have hs : es.size = xs.length := size_of_entries he
 have ek : keysO o = (xs.map (·.2.1)).map V.ref := by
  unfold keysO
  rw [hd]
  show es.toList.map _ = _
  rw [he, List.map_map, List.map_map]
  exact List.map_congr_left fun x _ => rfl
 refine ⟨xs.map (·.2.1), es, ep, ?_, lo, ⟨o, ho, hc, hd⟩, hd, hs.trans hl, z, fun i hi => ?_⟩
 ·rw [ek]; exact KT.keyAs rel
 ·have hx : i < xs.length := by omega
  have e1 := entry_at he i
  rw [Array.getElem?_eq_getElem hi, List.getElem?_eq_getElem hx] at e1
  have e2 : es[i] = entryOfKey (tupleKind (mixKind P w)) xs[i] := by simpa using e1
  refine ⟨xs[i].2.1, by rw [e2]; rfl, ?_⟩
  rw [ek, List.getElem?_map, List.getElem?_map, List.getElem?_eq_getElem hx]
  rfl
theorem turn_dict {P : Program} {w : World} {K : PySem.W.Frag} {tg : Expr} (a it : Addr) (o : Obj) (kvs : List (List Key × V)) (hne : a ≠ it) : Turn P w K tg (Itd a o kvs) [it] it (fun i h => ∃ es ep, o.data = .dict es ep ∧ i ≤ es.size ∧ h.IsKeyIter it a i es.size ep) where
 mem := by simp
 obj := fun i h st b hb => by
  have e : b = it := by simpa using hb
  subst e
  obtain ⟨es, ep, _, _, ob, e, c, d⟩ := st
  exact ⟨ob, e, fun v z => by rw [d] at z; cases z⟩
 keep := fun i h h' st k => by
  obtain ⟨es, ep, h1, h2, ob, e, c, d⟩ := st
  exact ⟨es, ep, h1, h2, ob, k it (by simp) ob e, c, d⟩
 item := by
  intro X hP hw hK hc i pins s σ H E I hf st hg
  subst hP hw hK
  obtain ⟨e, hi⟩ := hg
  obtain ⟨es, ep, hd, hle, hit⟩ := st
  obtain ⟨as, es', ep', hk, lo, raw, hd', hs, hz, hkey⟩ := frz_raw I.hok e
  rw [hd] at hd'
  cases hd'
  obtain ⟨f0, f1, f2, f3, f4, f5⟩ := hf it (by simp)
  have hi' : i < es.size := by omega
  obtain ⟨b, eb, kb⟩ := hkey i hi'
  refine next_raw hit raw hi' fun h' hit' sb => ?_
  have I1 : Inv X pins σ H { s with heap := h' } := I.turned (t' := s.toks) (fun b o hb e => (sb.2 b hb).trans e) f0 f1 f3 f4 f5
  obtain ⟨ob, e1, c1, d1⟩ := id hit'
  exact ⟨es[i].key, rfl, go_of (s := { s with heap := h' }) e1 c1 d1 (by decide) ⟨.ref b, H, I1, eb, ⟨rfl, kb⟩, ⟨es, ep, hd, hi', hit'⟩, fun b hb => (hf b hb).1⟩⟩
 done := by
  intro X hP hw hK hc i pins s σ H E I hf st hg
  subst hP hw hK
  obtain ⟨e, hi⟩ := hg
  obtain ⟨es, ep, hd, hle, hit⟩ := st
  obtain ⟨as, es', ep', hk, lo, raw, hd', hs, hz, hkey⟩ := frz_raw I.hok e
  rw [hd] at hd'
  cases hd'
  obtain ⟨f0, f1, f2, f3, f4, f5⟩ := hf it (by simp)
  have ei : i = es.size := by omega
  subst ei
  exact end_raw (I.ok.hd hc) hit raw fun h' eb => ⟨rfl, I.turned (t' := s.toks) (fun b o hb e => eb b o hb e) f0 f1 f3 f4 f5⟩
 self := fun _ _ _ _ _ st h => by
  obtain ⟨es, ep, _, _, hit⟩ := st
  exact wpAny_pyIter_keyiter hit h
theorem pi_dict {tg l : Expr} {tl : TE} (hl : PE X l tl) : PI X tg l (iDict tl) := by
 intro pins s σ H R I h
 refine thn (hl pins s σ H _ I h) fun v s1 ⟨x, H1, I1, r1, q1⟩ => ?_
 obtain ⟨a, o, kvs, e, hf, q⟩ := q1
 subst e
 cases r1
 obtain ⟨as, es, ep, hk, lo, raw, hd, hs, hz, hkey⟩ := frz_raw I1.hok hf
 refine iter_raw lo raw ?_
 refine ⟨s1.heap.objs.size, [s1.heap.objs.size], _, _, H1, rfl, I1.kept (t' := s1.toks) fun b o e => Heap.get?_push_of_some _ e, turn_dict a _ o kvs (Nat.ne_of_lt raw.lt), ⟨es, ep, hd, Nat.zero_le _, _, Heap.get?_push_size _ rfl, rfl, rfl⟩, fun b hb => ?_, q hk⟩
 have e : b = s1.heap.objs.size := by simpa using hb
 subst e
 exact I1.fpOk (Nat.le_refl _) (I1.hok.fresh (Nat.le_refl _))
theorem for_dct {tl : TE} {g : TG} {tb : TS} {D : Ends} : tFor (iDict tl) g tb D σ H = tl σ H (fun x H1 => ∃ a o kvs, x = .ref a ∧ H1 a = some (.frz o (.dT kvs)) ∧ (KeyAs H1 (keysO o) kvs → FJ (Itd a o kvs) g tb D σ H1)) := rfl
theorem by_dict {g : TG} {tb : TS} {D : Ends} {xs : List V} (Pv : Nat → L2.St → Hp → Prop) (hk : keysO o = xs) (hxl : xs.length = kvs.length) (h0 : Pv 0 σ H) (hl : ∀ i σ H, i ≤ xs.length → Pv i σ H → H a = some (.frz o (.dT kvs)))
 (hs : ∀ i x σ H, xs[i]? = some x → Pv i σ H → g x σ H fun σ2 H2 => tb { D with nx := Pv (i + 1), ct := Pv (i + 1), bk := D.nx } σ2 H2) (hd : ∀ σ H, Pv xs.length σ H → D.nx σ H) : FJ (Itd a o kvs) g tb D σ H := by
 refine ⟨fun i m σ H => m = xs.length - i ∧ i ≤ xs.length ∧ Pv i σ H, ⟨xs.length, by simp, Nat.zero_le _, h0⟩, ?_⟩
 rintro i m σ H ⟨rfl, hi, p⟩
 have q := hl i σ H hi p
 by_cases hlt : i < xs.length
 ·refine .inr ⟨⟨q, by omega⟩, Pv (i + 1), fun σ' H' p' => ⟨xs.length - (i + 1), by omega, rfl, hlt, p'⟩, fun x H' y => ?_⟩
  obtain ⟨e, y⟩ := y
  subst e
  rw [hk] at y
  exact hs i x σ _ y p
 ·have e : i = xs.length := by omega
  subst e
  exact .inl ⟨⟨q, by omega⟩, hd σ H p⟩
end
theorem upd_keep {H : Hp} {a p : Addr} {u v w : HO} (e : H a = some u) (h : H p = some v) (ne : v ≠ u) : upd H a w p = some v := by rw [upd_ne (ne_of h e ne)]; exact h
section
variable {H H0 H1 : Hp} {a p : Addr} {kvs : List (List Key × V)} {o : Obj}
theorem same_thaw (e : H0 a = some (.dT kvs)) (s : Same (upd H0 a (.frz o (.dT kvs))) H1) : Same H0 (upd H1 a (.dT kvs)) := fun b u h => by
 by_cases hb : b = a
 ·subst hb; rw [e] at h; cases h; exact upd_same
 ·rw [upd_ne hb]; exact s b u (by rw [upd_ne hb]; exact h)
theorem frz_tup {xs : List V} (e : H a = some (.dT kvs)) (h : H p = some (.tup xs)) {u : HO} : upd H a u p = some (.tup xs) := upd_keep e h fun z => nomatch z
theorem frz_lst {xs : List V} (e : H a = some (.dT kvs)) (h : H p = some (.lst xs)) {u : HO} : upd H a u p = some (.lst xs) := upd_keep e h fun z => nomatch z
theorem thaw_lst {xs : List V} (e : H a = some (.frz o (.dT kvs))) (h : H p = some (.lst xs)) {u : HO} : upd H a u p = some (.lst xs) := upd_keep e h fun z => nomatch z
theorem IsS.frz {v : V} {x y : En} (h : IsS H v x y) (e : H a = some (.dT kvs)) {u : HO} : IsS (upd H a u) v x y := let ⟨t, e1, h1⟩ := h; ⟨t, e1, frz_tup e h1⟩
theorem TabAs.frz {tb : Tb} (h : TabAs H kvs tb) (e : H a = some (.dT kvs)) {u : HO} : TabAs (upd H a u) kvs tb := h.imp fun _ _ _ z => z.frz e
theorem seq_frz {K : PySem.W.Frag} {xs : List V} (e : H a = some (.dT kvs)) (h : SqL K H p xs) : SqL K (upd H a (.frz o (.dT kvs))) p xs := by
 rcases h with (h | ⟨z, h⟩) | h
 ·exact .inl (.inl (frz_lst e h))
 ·exact .inl (.inr ⟨z, upd_keep e h fun z => nomatch z⟩)
 ·exact .inr h
end
theorem DGet.z {H : Hp} {a b : Addr} {kvs : List (List Key × V)} {k : List Key} {o : Obj} (e : H a = some (.frz o (.dT kvs))) (eb : H b = some (.tup (k.map kV))) : DGet H a (.ref b) (valV kvs k) := .inr ⟨kvs, k, b, .inr ⟨o, e⟩, rfl, eb, rfl⟩
end Gz
namespace Gz
open PySem PySem.Spec PyProof.Rows L2
def marksO (tb : Tb) (i : Int) : List Mk := ((srtT tb).filter fun r => decide (r.1.1 = i)).map fun r => (r.1.2.toNat, r.2)
theorem mem_marksO {tb : Tb} {i : Int} {k : Mk} : k ∈ marksO tb i ↔ ∃ r ∈ tb, r.1.1 = i ∧ k = (r.1.2.toNat, r.2) := by
 unfold marksO
 rw [List.mem_map]
 constructor
 ·rintro ⟨r, hr, rfl⟩
  obtain ⟨h1, h2⟩ := List.mem_filter.mp hr
  exact ⟨r, srtT_mem h1, by simpa using h2, rfl⟩
 ·rintro ⟨r, hr, hn, rfl⟩
  exact ⟨r, List.mem_filter.mpr ⟨srtT_perm.mem_iff.mpr hr, by simpa using hn⟩, rfl⟩
def nAt (cs : List Int) (t : Nat) : Int := cs.getD t 0
theorem nAt_get {cs : List Int} {t : Nat} (h : t < cs.length) : (cs.map V.int)[t]? = some (V.int (nAt cs t)) := by
 rw [List.getElem?_map, List.getElem?_eq_getElem h]
 unfold nAt
 rw [List.getD_eq_getElem?_getD, List.getElem?_eq_getElem h]
 rfl
def lyB (tb : Tb) (cs : List Int) (i : Int) : Bool := !((marksO tb i).all fun m => hold m.2.1 m.2.2 (nAt cs m.1))
theorem lyB_iff {tb : Tb} {cs : List Int} {i : Int} : lyB tb cs i = true ↔ ∃ r ∈ tb, r.1.1 = i ∧ hs r.2 (nAt cs r.1.2.toNat) = false := by
 unfold lyB
 rw [Bool.not_eq_true', List.all_eq_false]
 constructor
 ·rintro ⟨m, hm, h⟩
  obtain ⟨r, hr, e, rfl⟩ := mem_marksO.mp hm
  have h : hold r.2.1 r.2.2 (nAt cs r.1.2.toNat) = false := by simpa using h
  exact ⟨r, hr, e, h⟩
 ·rintro ⟨r, hr, e, h⟩
  refine ⟨_, mem_marksO.mpr ⟨r, hr, e, rfl⟩, ?_⟩
  have h : hold r.2.1 r.2.2 (nAt cs r.1.2.toNat) = false := h
  rw [h]; simp
def liarL (e : Int) (tb : Tb) (cs : List Int) : List Int := ((List.range e.toNat).map fun (k : Nat) => (k : Int)).filter (lyB tb cs)
theorem liarL_len (e : Int) (tb : Tb) (cs : List Int) : (liarL e tb cs).length ≤ e.toNat := by
 refine Nat.le_trans (List.length_filter_le _ _) ?_
 rw [List.length_map, List.length_range]
 exact Nat.le_refl _
theorem mem_liarL {e t : Int} {tb : Tb} {cs : List Int} (hok : okT e t tb) {i : Int} : i ∈ liarL e tb cs ↔ ∃ r ∈ tb, r.1.1 = i ∧ hs r.2 (nAt cs r.1.2.toNat) = false := by
 unfold liarL
 rw [List.mem_filter, lyB_iff]
 refine ⟨fun h => h.2, fun h => ⟨?_, h⟩⟩
 obtain ⟨r, hr, rfl, _⟩ := h
 have := (hok.2 r hr).1
 exact List.mem_map.mpr ⟨r.1.1.toNat, List.mem_range.mpr (by omega), by omega⟩
theorem liarL_asc (e : Int) (tb : Tb) (cs : List Int) : (liarL e tb cs).Pairwise (· < ·) := by
 refine List.Pairwise.sublist List.filter_sublist ?_
 rw [List.pairwise_map]
 exact (List.pairwise_lt_range).imp fun h => by omega
theorem liarL_uniq {e t : Int} {tb : Tb} {cs es zs : List Int} (hok : okT e t tb) (hn : es.Nodup) (hm : ∀ i, i ∈ es ↔ ∃ r ∈ tb, r.1.1 = i ∧ hs r.2 (nAt cs r.1.2.toNat) = false) (hp : zs.Perm es) (hs0 : zs.Pairwise (· ≤ ·)) : zs = liarL e tb cs := by
 have asc := liarL_asc e tb cs
 have nd : (liarL e tb cs).Nodup := asc.imp fun h => by omega
 refine srtT_uniq (R := (· ≤ ·)) (fun x _ y _ h1 h2 => by omega) hs0 (asc.imp fun h => by omega) ?_
 refine hp.trans ((List.perm_ext_iff_of_nodup hn nd).mpr fun i => ?_)
 rw [hm i, mem_liarL hok]
theorem lyB_perm {tb rs : Tb} (hn : (tb.map (·.1)).Nodup) (h : tb.Perm rs) (cs : List Int) (i : Int) : lyB tb cs i = lyB rs cs i := by
 unfold lyB marksO
 rw [srtT_eq hn h]
theorem liarL_perm {e : Int} {tb rs : Tb} (hn : (tb.map (·.1)).Nodup) (h : tb.Perm rs) (cs : List Int) : liarL e tb cs = liarL e rs cs := by
 unfold liarL
 exact List.filter_congr fun i _ => lyB_perm hn h cs i
theorem putT_permT {tb rs : Tb} {s : P2} {w : S2} (h : tb.Perm rs) : (putT tb s w).Perm (putT rs s w) := by
 have e : (tb.any fun r => decide (r.1 = s)) = rs.any fun r => decide (r.1 = s) := by
  rw [Bool.eq_iff_iff, List.any_eq_true, List.any_eq_true]
  exact ⟨fun ⟨x, h1, h2⟩ => ⟨x, h.mem_iff.mp h1, h2⟩, fun ⟨x, h1, h2⟩ => ⟨x, h.mem_iff.mpr h1, h2⟩⟩
 unfold putT
 rw [e]
 split
 ·exact h.map _
 ·exact h.append_right _
theorem dropT_permT {tb rs : Tb} {s : P2} (h : tb.Perm rs) : (dropT tb s).Perm (dropT rs s) := h.filter _
theorem putT_at {tb : Tb} {s : P2} {w : S2} {r : P2 × S2} (h : r ∈ putT tb s w) : r ∈ tb ∨ r = (s, w) := by
 unfold putT at h
 split at h
 ·obtain ⟨x, hx, rfl⟩ := List.mem_map.mp h
  by_cases e : x.1 = s
  ·rw [if_pos e, e]; exact .inr rfl
  ·rw [if_neg e]; exact .inl hx
 ·rcases List.mem_append.mp h with z | z
  ·exact .inl z
  ·exact .inr (List.mem_singleton.mp z)
theorem blk_zip3 {K : PySem.W.Frag} {ρ : L2.St} {te : TE} {H : Hp} {Q : VK} {a b c : Addr} {xs ys zs : List V} {n : Nat} {f : Nat → V} (hn : n ≤ sizeLine) (ha : SqL K H a xs) (hb : SqL K H b ys) (hc : SqL K H c zs) (h1 : xs.length = n) (h2 : n ≤ ys.length) (h3 : n ≤ zs.length)
 (hs : ∀ i x y z H', i < n → xs[i]? = some x → ys[i]? = some y → zs[i]? = some z → Same H H' → ∀ Q : VK, (∀ H'', Same H' H'' → Q (f i) H'') → te (some x :: some y :: some z :: ρ) H' Q)
 (q : ∀ H', Same H H' → ∀ l, H' l = none → Q (.ref l) (upd H' l (.lst ((List.range n).map f)))) : tBlkG 3 (Itz3 K a b c) (gTup K 3 (gCons (gName 0) (gCons (gName 1) (gCons (gName 2) gNil)))) ρ tAll te H Q := by
 refine ⟨fun i m ws H1 => m = n - i ∧ i ≤ n ∧ ws = (List.range i).map f ∧ Same H H1, ⟨_, rfl, Nat.zero_le _, rfl, Same.refl _⟩, ?_⟩
 rintro i m ws H1 ⟨rfl, hi, rfl, s1⟩
 by_cases hlt : i < n
 ·obtain ⟨x, hx⟩ : ∃ x, xs[i]? = some x := ⟨_, List.getElem?_eq_getElem (by omega)⟩
  obtain ⟨y, hy⟩ : ∃ y, ys[i]? = some y := ⟨_, List.getElem?_eq_getElem (by omega)⟩
  obtain ⟨z, hz⟩ : ∃ z, zs[i]? = some z := ⟨_, List.getElem?_eq_getElem (by omega)⟩
  refine .inr ⟨⟨xs, ys, zs, x, y, z, s1.seq ha, s1.seq hb, s1.seq hc, hx, hy, hz⟩, by rw [List.length_map, List.length_range]; omega, fun ws' H' => ws' = (List.range (i + 1)).map f ∧ Same H H', fun ws' H' q' => ⟨_, by omega, rfl, hlt, q'.1, q'.2⟩, fun os hos v H' yy => ?_⟩
  obtain ⟨p, x', y', z', rfl, hp, rfl, ex, ey, ez⟩ := yy
  have ex := (ex xs (s1.seq ha)).symm.trans hx
  have ey := (ey ys (s1.seq hb)).symm.trans hy
  have ez := (ez zs (s1.seq hc)).symm.trans hz
  cases ex
  cases ey
  cases ez
  match os, hos with
  | [o1, o2, o3], _ =>
   refine gTup3 (SqT.of upd_same) ⟨[some x, some y, some z], rfl, rfl, ?_⟩
   have u := s1.trans (same_upd (o := .tup [x, y, z]) hp)
   unfold tAll
   dsimp only
   rw [if_pos rfl]
   refine hs i x y z _ hlt hx hy hz u _ fun H'' s'' => ⟨?_, u.trans s''⟩
   rw [List.range_succ, List.map_append]
   rfl
 ·have e : i = n := by omega
  subst e
  exact .inl ⟨⟨xs, s1.seq ha, by omega⟩, by rw [List.length_map, List.length_range]; omega, q H1 s1⟩
end Gz
namespace Gz
open PySem PySem.Spec PyProof.Rows L2
local macro_rules | `(tactic| walk_at "om") => `(tactic| ((try simp only [PySem.Addr] at *); omega))
structure CompOkN (X : Cx) (x : Str) (scope : Scope) (cl : List (Str × Addr)) (fr : List Nat) (ys : List Str) : Prop where
 clos : closureFor scope X.env = pure cl
 one : ∀ n acc, PySem.cellsFrom n scope.names acc = (x, n) :: acc
 push : ∀ h, pushCells h scope.names = h.push { cls := .type "cell", data := .cell none }
 kind : scope.kind = .function
 names : (scope.names.all fun p => p.2 != .local || scope.names.lookup p.1 == some .local) = true
 own : scope.names.lookup x = some .cell
 kinds : ((relabel scope X.env).names.all fun p => (p.2 != .cell && p.2 != .free) || p.1 == x || (cl.lookup p.1).isSome) = true
 cls : ClOk X cl
 frs : FrOk X scope cl fr ys
 nd : (x :: ys).Nodup
 kfr : (ys.all fun y => (relabel scope X.env).names.lookup y == some .cell) = true
section
variable {X : Cx} {pins : List (Addr × Obj)} {σ : L2.St} {H2 : Hp} {s2 : Shared} {x : Str} {px pos : Pos} {elt iter : Expr} {ifs : List Expr} {scope : Scope} {cl : List (Str × Addr)} {fr : List Nat} {ys : List Str} {tt : TT} {te : TE}
theorem CompOkN.low (S : CompOkN X x scope cl fr ys) (I2 : Inv X pins σ H2 s2) {y : Str} {c : Addr} (e : cl.lookup y = some c) : c < s2.heap.objs.size := by
 obtain ⟨v, o, ho, _⟩ := I2.cell y c (S.cls.get y c e)
 exact Heap.lt_size ho
end
end Gz
namespace K40
open PySem L2 Gz
local macro_rules | `(tactic| walk_at "gz") => `(tactic| try simp only [ev_none, ev_some, tMethV, tRng, tDNew2, tDGet, tDIn, tDNotIn, sDPut, tDGet1, tDPopT1, tDPopT2, tRevS, rReverse, tBM0, rowT, rowE, List.map_cons, List.map_nil, sFrz, tFrz, thD, iDict, for_dct, iZip3, tSeq, tIfS, tTest, tOp, tUn, tVar, tC, tRet, tNext, tAsg, gName, tCB, tCons, tNil, tCall, tIsN, tNotN, tB, tAnd, tOr, tNot, tAndV, tOrV, tNotV, tIf, tDrop, rI, rI0, rU, rEq, rNe, scal_ii, scal_bb, scal_in, scal_ni, scal_nn, isi_ii, isi_ib, isi_bi, isi_bb, isi_ni, isi_nt, ite_tt, ite_ff, L2.start, cxK, cxN, List.map_cons, List.map_nil, List.length_cons, List.length_nil, List.replicate, List.append_nil, List.nil_append, List.cons_append, List.getElem?_cons_zero, List.getElem?_cons_succ, List.set_cons_zero, List.set_cons_succ, Option.some.injEq, V.int.injEq, V.bl.injEq, V.ref.injEq, List.cons.injEq, exists_eq_left, exists_eq_left', exists_and_left, true_and, and_true, decide_eq_true_eq, Nat.zero_add, Nat.sub_self, Nat.add_one_sub_one, Nat.reduceAdd, Nat.reduceSub, reduceCtorEq, decide_true, decide_false, Bool.not_true, Bool.not_false, Bool.not_eq_true', decide_eq_false_iff_not, false_and, exists_false, and_assoc, tTup, tLst, tBM, tBM0, rAppend, rExtend, for_rng1, for_lst, for_tpl, ↓reduceIte, not_false_eq_true, not_true_eq_false, tComp, tMM, tSortK, tSetC, iTup, iList, tAll, gSub, rSetL, iRng3, iRng2, iRng1, for_rng2, for_rng3, tFld, sFld, tMeth, tMake, tSl, tNoPart, tPart, rSlL, rCat, for_rev, for_enum, for_zip, tChain, tCompG, iRev, iEnum, iZip, Option.join_some])
local macro_rules | `(tactic| walk_at "gzp") => `(tactic| simp only [ev_none, ev_some, tMethV, tRng, tDNew2, tDGet, tDIn, tDNotIn, sDPut, tDGet1, tDPopT1, tDPopT2, tRevS, rReverse, tBM0, rowT, rowE, List.map_cons, List.map_nil, sFrz, tFrz, thD, iDict, for_dct, iZip3, tSeq, tIfS, tTest, tOp, tUn, tVar, tC, tRet, tNext, tAsg, gName, tCB, tCons, tNil, tCall, tIsN, tNotN, tB, tAnd, tOr, tNot, tAndV, tOrV, tNotV, tIf, tDrop, rI, rI0, rU, rEq, rNe, scal_ii, scal_bb, scal_in, scal_ni, scal_nn, isi_ii, isi_ib, isi_bi, isi_bb, isi_ni, isi_nt, ite_tt, ite_ff, L2.start, cxK, cxN, List.map_cons, List.map_nil, List.length_cons, List.length_nil, List.replicate, List.append_nil, List.nil_append, List.cons_append, List.getElem?_cons_zero, List.getElem?_cons_succ, List.set_cons_zero, List.set_cons_succ, Option.some.injEq, V.int.injEq, V.bl.injEq, V.ref.injEq, List.cons.injEq, exists_eq_left, exists_eq_left', exists_and_left, true_and, and_true, decide_eq_true_eq, Nat.zero_add, Nat.sub_self, Nat.add_one_sub_one, Nat.reduceAdd, Nat.reduceSub, reduceCtorEq, decide_true, decide_false, Bool.not_true, Bool.not_false, Bool.not_eq_true', decide_eq_false_iff_not, false_and, exists_false, and_assoc, tTup, tLst, tBM, tBM0, rAppend, rExtend, for_rng1, for_lst, for_tpl, ↓reduceIte, not_false_eq_true, not_true_eq_false, tComp, tMM, tSortK, tSetC, iTup, iList, tAll, gSub, rSetL, iRng3, iRng2, iRng1, for_rng2, for_rng3, tFld, sFld, tMeth, tMake, tSl, tNoPart, tPart, rSlL, rCat, for_rev, for_enum, for_zip, tChain, tCompG, iRev, iEnum, iZip, Option.join_some])
local macro_rules | `(tactic| walk_at "gza") => `(tactic| simp only [ev_none, ev_some, tMethV, tRng, tDNew2, tDGet, tDIn, tDNotIn, sDPut, tDGet1, tDPopT1, tDPopT2, tRevS, rReverse, tBM0, rowT, rowE, List.map_cons, List.map_nil, sFrz, tFrz, thD, iDict, for_dct, iZip3, tSeq, tIfS, tTest, tOp, tUn, tVar, tC, tRet, tNext, tAsg, gName, tCB, tCons, tNil, tCall, tIsN, tNotN, tB, tAnd, tOr, tNot, tAndV, tOrV, tNotV, tIf, tDrop, rI, rI0, rU, rEq, rNe, scal_ii, scal_bb, scal_in, scal_ni, scal_nn, isi_ii, isi_ib, isi_bi, isi_bb, isi_ni, isi_nt, ite_tt, ite_ff, L2.start, cxK, cxN, List.map_cons, List.map_nil, List.length_cons, List.length_nil, List.replicate, List.append_nil, List.nil_append, List.cons_append, List.getElem?_cons_zero, List.getElem?_cons_succ, List.set_cons_zero, List.set_cons_succ, Option.some.injEq, V.int.injEq, V.bl.injEq, V.ref.injEq, List.cons.injEq, exists_eq_left, exists_eq_left', exists_and_left, true_and, and_true, decide_eq_true_eq, Nat.zero_add, Nat.sub_self, Nat.add_one_sub_one, Nat.reduceAdd, Nat.reduceSub, reduceCtorEq, decide_true, decide_false, Bool.not_true, Bool.not_false, Bool.not_eq_true', decide_eq_false_iff_not, false_and, exists_false, and_assoc, tTup, tLst, tBM, tBM0, rAppend, rExtend, for_rng1, for_lst, for_tpl, ↓reduceIte, not_false_eq_true, not_true_eq_false, tComp, tMM, tSortK, tSetC, iTup, iList, tAll, gSub, rSetL, iRng3, iRng2, iRng1, for_rng2, for_rng3, tFld, sFld, tMeth, tMake, tSl, tNoPart, tPart, rSlL, rCat, for_rev, for_enum, for_zip, tChain, tCompG, iRev, iEnum, iZip, Option.join_some] at *)
local macro_rules | `(tactic| walk_at "sd") => `(tactic| (and_intros <;> first | assumption | exact bd200 (by decide) | exact bd200 (em30 _) | exact mul200 (by decide) (by decide) | exact ⟨by decide, by decide, by decide⟩ | decide | omega))
local macro_rules | `(tactic| walk_at "gzn") => `(tactic| (try simp only [ev_none, ev_some, tMethV, tRng, tDNew2, tDGet, tDIn, tDNotIn, sDPut, tDGet1, tDPopT1, tDPopT2, tRevS, rReverse, tBM0, rowT, rowE, List.map_cons, List.map_nil, sFrz, tFrz, thD, iDict, for_dct, iZip3, tSeq, tIfS, tTest, tOp, tUn, tVar, tC, tRet, tNext, tAsg, gName, tCB, tCons, tNil, tCall, tIsN, tNotN, tB, tAnd, tOr, tNot, tAndV, tOrV, tNotV, tIf, tDrop, rI, rI0, rU, rEq, rNe, scal_ii, scal_bb, scal_in, scal_ni, scal_nn, isi_ii, isi_ib, isi_bi, isi_bb, isi_ni, isi_nt, ite_tt, ite_ff, L2.start, cxK, cxN, List.map_cons, List.map_nil, List.length_cons, List.length_nil, List.replicate, List.append_nil, List.nil_append, List.cons_append, List.getElem?_cons_zero, List.getElem?_cons_succ, List.set_cons_zero, List.set_cons_succ, Option.some.injEq, V.int.injEq, V.bl.injEq, V.ref.injEq, List.cons.injEq, exists_eq_left, exists_eq_left', exists_and_left, true_and, and_true, decide_eq_true_eq, Nat.zero_add, Nat.sub_self, Nat.add_one_sub_one, Nat.reduceAdd, Nat.reduceSub, reduceCtorEq, decide_true, decide_false, Bool.not_true, Bool.not_false, Bool.not_eq_true', decide_eq_false_iff_not, false_and, exists_false, and_assoc, tTup, tLst, tBM, tBM0, rAppend, rExtend, for_rng1, for_lst, for_tpl, ↓reduceIte, not_false_eq_true, not_true_eq_false, tComp, tMM, tSortK, tSetC, iTup, iList, tAll, gSub, rSetL, iRng3, iRng2, iRng1, for_rng2, for_rng3, tFld, sFld, tMeth, tMake, tSl, tNoPart, tPart, rSlL, rCat, for_rev, for_enum, for_zip, tChain, tCompG, iRev, iEnum, iZip, Option.join_some, Int.reducePow, Int.reduceToNat, Int.reduceMul, Int.reduceAdd]))
def IsMk (H : Hp) (v : V) (m : Mk) : Prop := ∃ (t p : Addr), v = .ref t ∧ H t = some (.tup [.int m.1, .ref p]) ∧ H p = some (.tup [ev m.2.1, ev m.2.2])
theorem IsMk.same {H H' : Hp} {v : V} {m : Mk} (h : IsMk H v m) (s : Same H H') : IsMk H' v m := let ⟨t, p, e, a, b⟩ := h; ⟨t, p, e, s _ _ a, s _ _ b⟩
def top (i : Nat) : Stmt := PySem.Challenge.pw_gaze_k40_liars_and_fits.main.body.getD i (.Pass ⟨0, 0, 0, 0⟩)
abbrev s_is_crossed : Stmt := top 7
abbrev s_holds : Stmt := top 8
abbrev s_meet : Stmt := top 9
abbrev s_common : Stmt := top 10
abbrev s_has_part : Stmt := top 12
abbrev s_check_claim : Stmt := top 13
abbrev s_stretches_of : Stmt := top 14
abbrev s_paces : Stmt := top 15
abbrev s_marks_of : Stmt := top 17
abbrev s_is_lying : Stmt := top 18
abbrev s_liars : Stmt := top 19
abbrev s_keeps : Stmt := top 20
abbrev s_fits : Stmt := top 21
abbrev s_Board_init__ : Stmt := inClass (top 25) 0
abbrev s_Board_has_eye : Stmt := inClass (top 25) 1
abbrev s_Board_has_turn : Stmt := inClass (top 25) 2
abbrev s_Board_tell : Stmt := inClass (top 25) 3
abbrev s_Board_hush : Stmt := inClass (top 25) 4
abbrev s_Board_tellings : Stmt := inClass (top 25) 6
abbrev s_Board_check_spot : Stmt := inClass (top 25) 10
abbrev s_Board_check_word : Stmt := inClass (top 25) 11
abbrev s_law_pick : Stmt := top 27
abbrev s_law_wide : Stmt := top 28
abbrev s_law_shape : Stmt := top 29
abbrev s_law_course : Stmt := top 30
abbrev s_law_word : Stmt := top 31
abbrev s_law_words : Stmt := top 32
abbrev s_law_board : Stmt := top 33
abbrev s_law_in : Stmt := top 34
abbrev s_law_whole : Stmt := top 35
abbrev s_law_liars : Stmt := top 36
abbrev s_law_same : Stmt := top 37
abbrev s_law_moved : Stmt := top 38
abbrev s_law_deed : Stmt := top 39
abbrev s_law_allowed : Stmt := top 40
abbrev s_law_told : Stmt := top 41
abbrev s_law : Stmt := top 42
theorem sc_is_crossed : FnScope ["lo", "hi"] ["lo", "hi"] (defScope s_is_crossed) := ⟨rfl, rfl, rfl, by decide +kernel, rfl, by decide +kernel, by decide +kernel⟩
theorem sc_holds : FnScope ["one", "number"] ["one", "number"] (defScope s_holds) := ⟨rfl, rfl, rfl, by decide +kernel, rfl, by decide +kernel, by decide +kernel⟩
theorem sc_meet : FnScope ["one", "other", "lo", "hi"] ["one", "other"] (defScope s_meet) := ⟨rfl, rfl, rfl, by decide +kernel, rfl, by decide +kernel, by decide +kernel⟩
theorem sc_common : FnScope ["some", "whole", "one"] ["some"] (defScope s_common) := ⟨rfl, rfl, rfl, by decide +kernel, rfl, by decide +kernel, by decide +kernel⟩
theorem sc_has_part : FnScope ["board", "kind", "turn"] ["board", "kind", "turn"] (defScope s_has_part) := ⟨rfl, rfl, rfl, by decide +kernel, rfl, by decide +kernel, by decide +kernel⟩
theorem sc_check_claim : FnScope ["board", "claim", "part"] ["board", "claim"] (defScope s_check_claim) := ⟨rfl, rfl, rfl, by decide +kernel, rfl, by decide +kernel, by decide +kernel⟩
theorem sc_stretches_of : FnScope ["claim", "kind", "turn"] ["claim", "kind", "turn"] (defScope s_stretches_of) := ⟨rfl, rfl, rfl, by decide +kernel, rfl, by decide +kernel, by decide +kernel⟩
theorem sc_paces : FnScope ["board", "claim", "own"] ["board", "claim"] (defScope s_paces) := ⟨rfl, rfl, rfl, by decide +kernel, rfl, by decide +kernel, by decide +kernel⟩
theorem sc_marks_of : FnScope ["board", "eye"] ["board", "eye"] (defScope s_marks_of) := ⟨rfl, rfl, rfl, by decide +kernel, rfl, by decide +kernel, by decide +kernel⟩
theorem sc_is_lying : FnScope ["board", "eye", "course"] ["board", "eye", "course"] (defScope s_is_lying) := ⟨rfl, rfl, rfl, by decide +kernel, rfl, by decide +kernel, by decide +kernel⟩
theorem sc_liars : FnScope ["board", "course"] ["board", "course"] (defScope s_liars) := ⟨rfl, rfl, rfl, by decide +kernel, rfl, by decide +kernel, by decide +kernel⟩
theorem sc_keeps : FnScope ["steps", "course"] ["steps", "course"] (defScope s_keeps) := ⟨rfl, rfl, rfl, by decide +kernel, rfl, by decide +kernel, by decide +kernel⟩
theorem sc_fits : FnScope ["board", "course"] ["board", "course"] (defScope s_fits) := ⟨rfl, rfl, rfl, by decide +kernel, rfl, by decide +kernel, by decide +kernel⟩
theorem sc_Board_init__ : FnScope ["self", "eyes", "turns", "up", "down", "most"] ["self", "eyes", "turns", "up", "down", "most"] (defScope s_Board_init__) := ⟨rfl, rfl, rfl, by decide +kernel, rfl, by decide +kernel, by decide +kernel⟩
theorem sc_Board_has_eye : FnScope ["self", "eye"] ["self", "eye"] (defScope s_Board_has_eye) := ⟨rfl, rfl, rfl, by decide +kernel, rfl, by decide +kernel, by decide +kernel⟩
theorem sc_Board_has_turn : FnScope ["self", "turn"] ["self", "turn"] (defScope s_Board_has_turn) := ⟨rfl, rfl, rfl, by decide +kernel, rfl, by decide +kernel, by decide +kernel⟩
theorem sc_Board_tell : FnScope ["self", "eye", "turn", "lo", "hi"] ["self", "eye", "turn", "lo", "hi"] (defScope s_Board_tell) := ⟨rfl, rfl, rfl, by decide +kernel, rfl, by decide +kernel, by decide +kernel⟩
theorem sc_Board_hush : FnScope ["self", "eye", "turn"] ["self", "eye", "turn"] (defScope s_Board_hush) := ⟨rfl, rfl, rfl, by decide +kernel, rfl, by decide +kernel, by decide +kernel⟩
theorem sc_Board_tellings : FnScope ["self"] ["self"] (defScope s_Board_tellings) := ⟨rfl, rfl, rfl, by decide +kernel, rfl, by decide +kernel, by decide +kernel⟩
theorem sc_Board_check_spot : FnScope ["self", "eye", "turn"] ["self", "eye", "turn"] (defScope s_Board_check_spot) := ⟨rfl, rfl, rfl, by decide +kernel, rfl, by decide +kernel, by decide +kernel⟩
theorem sc_Board_check_word : FnScope ["self", "eye", "turn"] ["self", "eye", "turn"] (defScope s_Board_check_word) := ⟨rfl, rfl, rfl, by decide +kernel, rfl, by decide +kernel, by decide +kernel⟩
theorem sc_law_pick : FnScope ["_law_script", "_law_k", "_law_many", "_law_cell"] ["_law_script", "_law_k", "_law_many"] (defScope s_law_pick) := ⟨rfl, rfl, rfl, by decide +kernel, rfl, by decide +kernel, by decide +kernel⟩
theorem sc_law_wide : FnScope ["_law_script", "_law_k", "_law_many", "_law_cell"] ["_law_script", "_law_k", "_law_many"] (defScope s_law_wide) := ⟨rfl, rfl, rfl, by decide +kernel, rfl, by decide +kernel, by decide +kernel⟩
theorem sc_law_shape : FnScope ["_law_script", "_law_way", "_law_eyes", "_law_turns", "_law_most", "_law_far", "_law_up", "_law_down"] ["_law_script"] (defScope s_law_shape) := ⟨rfl, rfl, rfl, by decide +kernel, rfl, by decide +kernel, by decide +kernel⟩
theorem sc_law_course : FnScope ["_law_script", "_law_shape_here", "_law_size", "_law_number", "_law_course_here", "_law_k"] ["_law_script", "_law_shape_here"] (defScope s_law_course) := ⟨rfl, rfl, rfl, by decide +kernel, rfl, by decide +kernel, by decide +kernel⟩
theorem sc_law_word : FnScope ["_law_script", "_law_k", "_law_far", "_law_number", "_law_false", "_law_by", "_law_lo", "_law_hi", "_law_end"] ["_law_script", "_law_k", "_law_far", "_law_number", "_law_false"] (defScope s_law_word) := ⟨rfl, rfl, rfl, by decide +kernel, rfl, by decide +kernel, by decide +kernel⟩
theorem sc_law_words : FnScope ["_law_script", "_law_shape_here", "_law_course_here", "_law_told_here", "_law_dense", "_law_limit", "_law_eye", "_law_false", "_law_turn", "_law_k"] ["_law_script", "_law_shape_here", "_law_course_here"] (defScope s_law_words) := ⟨rfl, rfl, rfl, by decide +kernel, rfl, by decide +kernel, by decide +kernel⟩
theorem sc_law_board : FnScope ["_law_script", "_law_shape_here", "_law_told_here", "_law_board_here", "_law_spots", "_law_eye", "_law_turn"] ["_law_script", "_law_shape_here", "_law_told_here"] (defScope s_law_board) := ⟨rfl, rfl, rfl, by decide +kernel, rfl, by decide +kernel, by decide +kernel⟩
theorem sc_law_in : FnScope ["_law_span", "_law_number"] ["_law_span", "_law_number"] (defScope s_law_in) := ⟨rfl, rfl, rfl, by decide +kernel, rfl, by decide +kernel, by decide +kernel⟩
theorem sc_law_whole : FnScope ["_law_found"] ["_law_found"] (defScope s_law_whole) := ⟨rfl, rfl, rfl, by decide +kernel, rfl, by decide +kernel, by decide +kernel⟩
theorem sc_law_liars : FnScope ["_law_told_here", "_law_course_here", "_law_eyes", "_law_eye", "_law_turn"] ["_law_told_here", "_law_course_here"] (defScope s_law_liars) := ⟨rfl, rfl, rfl, by decide +kernel, rfl, by decide +kernel, by decide +kernel⟩
theorem sc_law_same : FnScope ["_law_board_here", "_law_told_here", "_law_spots"] ["_law_board_here", "_law_told_here"] (defScope s_law_same) := ⟨rfl, rfl, rfl, by decide +kernel, rfl, by decide +kernel, by decide +kernel⟩
theorem sc_law_moved : FnScope ["_law_script", "_law_shape_here", "_law_course_here", "_law_way", "_law_at", "_law_step", "_law_by"] ["_law_script", "_law_shape_here", "_law_course_here"] (defScope s_law_moved) := ⟨rfl, rfl, rfl, by decide +kernel, rfl, by decide +kernel, by decide +kernel⟩
theorem sc_law_deed : FnScope ["_law_script", "_law_shape_here", "_law_course_here", "_law_told_here", "_law_board_here", "_law_spot"] ["_law_script", "_law_shape_here", "_law_course_here", "_law_told_here", "_law_board_here"] (defScope s_law_deed) := ⟨rfl, rfl, rfl, by decide +kernel, rfl, by decide +kernel, by decide +kernel⟩
theorem sc_law_allowed : FnScope ["_law_shape_here", "_law_course_here", "_law_k"] ["_law_shape_here", "_law_course_here"] (defScope s_law_allowed) := ⟨rfl, rfl, rfl, by decide +kernel, rfl, by decide +kernel, by decide +kernel⟩
theorem sc_law_told : FnScope ["_law_board_here", "_law_shape_here", "_law_told_here", "_law_course_here", "_law_handed", "_law_due", "_law_found", "_law_good"] ["_law_board_here", "_law_shape_here", "_law_told_here", "_law_course_here"] (defScope s_law_told) := ⟨rfl, rfl, rfl, by decide +kernel, rfl, by decide +kernel, by decide +kernel⟩
theorem sc_law : FnScope ["_law_script", "_law_shape_here", "_law_course_here", "_law_told_here", "_law_board_here", "_law_other"] ["_law_script"] (defScope s_law) := ⟨rfl, rfl, rfl, by decide +kernel, rfl, by decide +kernel, by decide +kernel⟩
set_option genInjectivity false
set_option genSizeOf false
structure Tx (K : PySem.W.Frag) (mg : Str → Option Value) where
 a_is_crossed : Addr
 fd_is_crossed : FuncData
 F_is_crossed : Fun K "is_crossed" "is_crossed" s_is_crossed a_is_crossed fd_is_crossed
 m_is_crossed : mg "is_crossed" = some (.ref a_is_crossed)
 b_is_crossed : Binds K fd_is_crossed ["lo", "hi"] []
 a_holds : Addr
 fd_holds : FuncData
 F_holds : Fun K "holds" "holds" s_holds a_holds fd_holds
 m_holds : mg "holds" = some (.ref a_holds)
 b_holds : Binds K fd_holds ["one", "number"] []
 a_meet : Addr
 fd_meet : FuncData
 F_meet : Fun K "meet" "meet" s_meet a_meet fd_meet
 m_meet : mg "meet" = some (.ref a_meet)
 b_meet : Binds K fd_meet ["one", "other"] []
 a_common : Addr
 fd_common : FuncData
 F_common : Fun K "common" "common" s_common a_common fd_common
 m_common : mg "common" = some (.ref a_common)
 b_common : Binds K fd_common ["some"] []
 a_has_part : Addr
 fd_has_part : FuncData
 F_has_part : Fun K "has_part" "has_part" s_has_part a_has_part fd_has_part
 m_has_part : mg "has_part" = some (.ref a_has_part)
 b_has_part : Binds K fd_has_part ["board", "kind", "turn"] []
 a_check_claim : Addr
 fd_check_claim : FuncData
 F_check_claim : Fun K "check_claim" "check_claim" s_check_claim a_check_claim fd_check_claim
 m_check_claim : mg "check_claim" = some (.ref a_check_claim)
 b_check_claim : Binds K fd_check_claim ["board", "claim"] []
 a_stretches_of : Addr
 fd_stretches_of : FuncData
 F_stretches_of : Fun K "stretches_of" "stretches_of" s_stretches_of a_stretches_of fd_stretches_of
 m_stretches_of : mg "stretches_of" = some (.ref a_stretches_of)
 b_stretches_of : Binds K fd_stretches_of ["claim", "kind", "turn"] []
 a_paces : Addr
 fd_paces : FuncData
 F_paces : Fun K "paces" "paces" s_paces a_paces fd_paces
 m_paces : mg "paces" = some (.ref a_paces)
 b_paces : Binds K fd_paces ["board", "claim"] []
 a_marks_of : Addr
 fd_marks_of : FuncData
 F_marks_of : Fun K "marks_of" "marks_of" s_marks_of a_marks_of fd_marks_of
 m_marks_of : mg "marks_of" = some (.ref a_marks_of)
 b_marks_of : Binds K fd_marks_of ["board", "eye"] []
 a_is_lying : Addr
 fd_is_lying : FuncData
 F_is_lying : Fun K "is_lying" "is_lying" s_is_lying a_is_lying fd_is_lying
 m_is_lying : mg "is_lying" = some (.ref a_is_lying)
 b_is_lying : Binds K fd_is_lying ["board", "eye", "course"] []
 a_liars : Addr
 fd_liars : FuncData
 F_liars : Fun K "liars" "liars" s_liars a_liars fd_liars
 m_liars : mg "liars" = some (.ref a_liars)
 b_liars : Binds K fd_liars ["board", "course"] []
 a_keeps : Addr
 fd_keeps : FuncData
 F_keeps : Fun K "keeps" "keeps" s_keeps a_keeps fd_keeps
 m_keeps : mg "keeps" = some (.ref a_keeps)
 b_keeps : Binds K fd_keeps ["steps", "course"] []
 a_fits : Addr
 fd_fits : FuncData
 F_fits : Fun K "fits" "fits" s_fits a_fits fd_fits
 m_fits : mg "fits" = some (.ref a_fits)
 b_fits : Binds K fd_fits ["board", "course"] []
 a_Board_init__ : Addr
 fd_Board_init__ : FuncData
 F_Board_init__ : Fun K "__init__" "Board.__init__" s_Board_init__ a_Board_init__ fd_Board_init__
 b_Board_init__ : Binds K fd_Board_init__ ["self", "eyes", "turns", "up", "down", "most"] []
 a_Board_has_eye : Addr
 fd_Board_has_eye : FuncData
 F_Board_has_eye : Fun K "has_eye" "Board.has_eye" s_Board_has_eye a_Board_has_eye fd_Board_has_eye
 b_Board_has_eye : Binds K fd_Board_has_eye ["self", "eye"] []
 a_Board_has_turn : Addr
 fd_Board_has_turn : FuncData
 F_Board_has_turn : Fun K "has_turn" "Board.has_turn" s_Board_has_turn a_Board_has_turn fd_Board_has_turn
 b_Board_has_turn : Binds K fd_Board_has_turn ["self", "turn"] []
 a_Board_tell : Addr
 fd_Board_tell : FuncData
 F_Board_tell : Fun K "tell" "Board.tell" s_Board_tell a_Board_tell fd_Board_tell
 b_Board_tell : Binds K fd_Board_tell ["self", "eye", "turn", "lo", "hi"] []
 a_Board_hush : Addr
 fd_Board_hush : FuncData
 F_Board_hush : Fun K "hush" "Board.hush" s_Board_hush a_Board_hush fd_Board_hush
 b_Board_hush : Binds K fd_Board_hush ["self", "eye", "turn"] []
 a_Board_tellings : Addr
 fd_Board_tellings : FuncData
 F_Board_tellings : Fun K "tellings" "Board.tellings" s_Board_tellings a_Board_tellings fd_Board_tellings
 b_Board_tellings : Binds K fd_Board_tellings ["self"] []
 a_Board_check_spot : Addr
 fd_Board_check_spot : FuncData
 F_Board_check_spot : Fun K "check_spot" "Board.check_spot" s_Board_check_spot a_Board_check_spot fd_Board_check_spot
 b_Board_check_spot : Binds K fd_Board_check_spot ["self", "eye", "turn"] []
 a_Board_check_word : Addr
 fd_Board_check_word : FuncData
 F_Board_check_word : Fun K "check_word" "Board.check_word" s_Board_check_word a_Board_check_word fd_Board_check_word
 b_Board_check_word : Binds K fd_Board_check_word ["self", "eye", "turn"] []
 a_law_pick : Addr
 fd_law_pick : FuncData
 F_law_pick : Fun K "_law_pick" "_law_pick" s_law_pick a_law_pick fd_law_pick
 m_law_pick : mg "_law_pick" = some (.ref a_law_pick)
 b_law_pick : Binds K fd_law_pick ["_law_script", "_law_k", "_law_many"] []
 a_law_wide : Addr
 fd_law_wide : FuncData
 F_law_wide : Fun K "_law_wide" "_law_wide" s_law_wide a_law_wide fd_law_wide
 m_law_wide : mg "_law_wide" = some (.ref a_law_wide)
 b_law_wide : Binds K fd_law_wide ["_law_script", "_law_k", "_law_many"] []
 a_law_shape : Addr
 fd_law_shape : FuncData
 F_law_shape : Fun K "_law_shape" "_law_shape" s_law_shape a_law_shape fd_law_shape
 m_law_shape : mg "_law_shape" = some (.ref a_law_shape)
 b_law_shape : Binds K fd_law_shape ["_law_script"] []
 a_law_course : Addr
 fd_law_course : FuncData
 F_law_course : Fun K "_law_course" "_law_course" s_law_course a_law_course fd_law_course
 m_law_course : mg "_law_course" = some (.ref a_law_course)
 b_law_course : Binds K fd_law_course ["_law_script", "_law_shape_here"] []
 a_law_word : Addr
 fd_law_word : FuncData
 F_law_word : Fun K "_law_word" "_law_word" s_law_word a_law_word fd_law_word
 m_law_word : mg "_law_word" = some (.ref a_law_word)
 b_law_word : Binds K fd_law_word ["_law_script", "_law_k", "_law_far", "_law_number", "_law_false"] []
 a_law_words : Addr
 fd_law_words : FuncData
 F_law_words : Fun K "_law_words" "_law_words" s_law_words a_law_words fd_law_words
 m_law_words : mg "_law_words" = some (.ref a_law_words)
 b_law_words : Binds K fd_law_words ["_law_script", "_law_shape_here", "_law_course_here"] []
 a_law_board : Addr
 fd_law_board : FuncData
 F_law_board : Fun K "_law_board" "_law_board" s_law_board a_law_board fd_law_board
 m_law_board : mg "_law_board" = some (.ref a_law_board)
 b_law_board : Binds K fd_law_board ["_law_script", "_law_shape_here", "_law_told_here"] []
 a_law_in : Addr
 fd_law_in : FuncData
 F_law_in : Fun K "_law_in" "_law_in" s_law_in a_law_in fd_law_in
 m_law_in : mg "_law_in" = some (.ref a_law_in)
 b_law_in : Binds K fd_law_in ["_law_span", "_law_number"] []
 a_law_whole : Addr
 fd_law_whole : FuncData
 F_law_whole : Fun K "_law_whole" "_law_whole" s_law_whole a_law_whole fd_law_whole
 m_law_whole : mg "_law_whole" = some (.ref a_law_whole)
 b_law_whole : Binds K fd_law_whole ["_law_found"] []
 a_law_liars : Addr
 fd_law_liars : FuncData
 F_law_liars : Fun K "_law_liars" "_law_liars" s_law_liars a_law_liars fd_law_liars
 m_law_liars : mg "_law_liars" = some (.ref a_law_liars)
 b_law_liars : Binds K fd_law_liars ["_law_told_here", "_law_course_here"] []
 a_law_same : Addr
 fd_law_same : FuncData
 F_law_same : Fun K "_law_same" "_law_same" s_law_same a_law_same fd_law_same
 m_law_same : mg "_law_same" = some (.ref a_law_same)
 b_law_same : Binds K fd_law_same ["_law_board_here", "_law_told_here"] []
 a_law_moved : Addr
 fd_law_moved : FuncData
 F_law_moved : Fun K "_law_moved" "_law_moved" s_law_moved a_law_moved fd_law_moved
 m_law_moved : mg "_law_moved" = some (.ref a_law_moved)
 b_law_moved : Binds K fd_law_moved ["_law_script", "_law_shape_here", "_law_course_here"] []
 a_law_deed : Addr
 fd_law_deed : FuncData
 F_law_deed : Fun K "_law_deed" "_law_deed" s_law_deed a_law_deed fd_law_deed
 m_law_deed : mg "_law_deed" = some (.ref a_law_deed)
 b_law_deed : Binds K fd_law_deed ["_law_script", "_law_shape_here", "_law_course_here", "_law_told_here", "_law_board_here"] []
 a_law_allowed : Addr
 fd_law_allowed : FuncData
 F_law_allowed : Fun K "_law_allowed" "_law_allowed" s_law_allowed a_law_allowed fd_law_allowed
 m_law_allowed : mg "_law_allowed" = some (.ref a_law_allowed)
 b_law_allowed : Binds K fd_law_allowed ["_law_shape_here", "_law_course_here"] []
 a_law_told : Addr
 fd_law_told : FuncData
 F_law_told : Fun K "_law_told" "_law_told" s_law_told a_law_told fd_law_told
 m_law_told : mg "_law_told" = some (.ref a_law_told)
 b_law_told : Binds K fd_law_told ["_law_board_here", "_law_shape_here", "_law_told_here", "_law_course_here"] []
 a_law : Addr
 fd_law : FuncData
 F_law : Fun K "law" "law" s_law a_law fd_law
 m_law : mg "law" = some (.ref a_law)
 b_law : Binds K fd_law ["_law_script"] []
 n_all : mg "all" = none
 n_bool : mg "bool" = none
 n_int : mg "int" = none
 n_isinstance : mg "isinstance" = none
 n_len : mg "len" = none
 n_list : mg "list" = none
 n_max : mg "max" = none
 n_min : mg "min" = none
 n_range : mg "range" = none
 n_sorted : mg "sorted" = none
 n_zip : mg "zip" = none
 C_GazeError : Addr
 c_GazeError : mg "GazeError" = some (.ref C_GazeError)
 C_NoBoard : Addr
 c_NoBoard : mg "NoBoard" = some (.ref C_NoBoard)
 C_NoTelling : Addr
 c_NoTelling : mg "NoTelling" = some (.ref C_NoTelling)
 C_NoClaim : Addr
 c_NoClaim : mg "NoClaim" = some (.ref C_NoClaim)
 C_Board : Addr
 c_Board : mg "Board" = some (.ref C_Board)
 cl_Board : Cls K C_Board
 no_Board_eyes : NoAttr K C_Board "eyes"
 no_Board_turns : NoAttr K C_Board "turns"
 no_Board_up : NoAttr K C_Board "up"
 no_Board_down : NoAttr K C_Board "down"
 no_Board_most : NoAttr K C_Board "most"
 no_Board_told : NoAttr K C_Board "told"
 mk_Board : Mk K C_Board a_Board_init__
 me_Board_has_eye : Meth K C_Board "has_eye" a_Board_has_eye
 me_Board_has_turn : Meth K C_Board "has_turn" a_Board_has_turn
 me_Board_tell : Meth K C_Board "tell" a_Board_tell
 me_Board_hush : Meth K C_Board "hush" a_Board_hush
 me_Board_tellings : Meth K C_Board "tellings" a_Board_tellings
 me_Board_check_spot : Meth K C_Board "check_spot" a_Board_check_spot
 me_Board_check_word : Meth K C_Board "check_word" a_Board_check_word
 xc_NoBoard : XC K C_NoBoard
 xc_NoTelling : XC K C_NoTelling
 xc_NoClaim : XC K C_NoClaim
 g_EYES_AT_MOST : ∃ t, mg "EYES_AT_MOST" = some (.int 7 t)
 g_TURNS_AT_MOST : ∃ t, mg "TURNS_AT_MOST" = some (.int 12 t)
set_option genInjectivity true
set_option genSizeOf true
section
seal L2.PE L2.PS L2.PSs L2.PA
variable {P : Program} {w : World} {K : PySem.W.Frag} {mg : Str → Option Value} {base : Heap}
def sp_pick (K : PySem.W.Frag) : Sp := fun vs H Q _ => ∃ (a : Addr) (ns : List Int) (k m : Int), vs = [.ref a, .int k, .int m] ∧ SqL K H a (ns.map V.int) ∧ Scr ns ∧ (-1000000 ≤ k ∧ k ≤ 1000000) ∧ 0 < m ∧ ∀ p : Int, 0 ≤ p → p < m → Q (.int p) H
theorem ok_law_pick (T : Tx K mg) : FnOk P w K mg base (CXX P w) 1 T.a_law_pick T.fd_law_pick ["_law_script", "_law_k", "_law_many"] (sp_pick K) := by
 refine okN T.F_law_pick sc_law_pick (fun vs H Q E h => ?_) (fun cdv A outer s H vs Q E hr h => ?_)
 ·obtain ⟨a, ns, k, m, rfl, _⟩ := h
  rfl
 ·obtain ⟨a, ns, k, m, rfl, hS, hn, hk, hm, q⟩ := h
  refine ⟨_, (pss_cons (ps_set (i := 3) sc_law_pick.nd rfl (Or.inl rfl) pe_int)
  (pss_cons (ps_if (pt_cmpR op_gt (pe_callB call_len (by rfl) T.n_len b_len (pa_cons (pv 0) pa_nil)) pe_int (nomark _)) (pss_one (ps_set (i := 3) sc_law_pick.nd rfl (Or.inl rfl) (pe_ix ix_seq (pv 0) (pe_op op_mod (pv 1) (pe_callB call_len (by rfl) T.n_len b_len (pa_cons (pv 0) pa_nil))) (fun _ _ => rfl)))) pss_nil)
  (pss_one (ps_ret (pe_op op_mod (pe_op op_mod (pe_op op_mod (pe_op op_mulG (pe_op op_add (pv 3) pe_int) (pe_op op_add (pe_op op_add (pv 3) pe_int) (pe_op op_mulG (pv 1) (pv 1)))) pe_int) pe_int) (pv 2)))))), ?_⟩
  walk_at "gz"
  refine ⟨_, lenL hS, ?_⟩
  rw [List.length_map]
  have pm := pick_muls hn hk
  have fin : ∀ x : Int, Q (.int (x % 2147483629 % 999983 % m)) H := fun x => q _ (Int.emod_nonneg _ (by omega)) (Int.emod_lt_of_pos _ hm)
  split
  ·rename_i h
   refine ⟨_, lenL hS, ?_⟩
   rw [List.length_map]
   refine ⟨h, ixL hS (scell_at h) ?_⟩
   walk_at "gz"
   exact ⟨pm.1, pm.2, by decide, by decide, hm, fin _⟩
  ·rename_i h
   have e : scell ns k = 0 := if_neg h
   rw [e] at pm
   exact ⟨pm.1, pm.2, by decide, by decide, hm, fin _⟩
def sp_wide (K : PySem.W.Frag) : Sp := fun vs H Q _ => ∃ (a : Addr) (ns : List Int) (k m : Int), vs = [.ref a, .int k, .int m] ∧ SqL K H a (ns.map V.int) ∧ Scr ns ∧ (-1000000 ≤ k ∧ k ≤ 1000000) ∧ 0 < m ∧ ∀ p : Int, 0 ≤ p → p < m → Q (.int p) H
theorem ok_law_wide (T : Tx K mg) : FnOk P w K mg base (CXX P w) 2 T.a_law_wide T.fd_law_wide ["_law_script", "_law_k", "_law_many"] (sp_wide K) := by
 refine okN T.F_law_wide sc_law_wide (fun vs H Q E h => ?_) (fun cdv A outer s H vs Q E hr h => ?_)
 ·obtain ⟨a, ns, k, m, rfl, _⟩ := h
  rfl
 ·obtain ⟨a, ns, k, m, rfl, hS, hn, hk, hm, q⟩ := h
  refine ⟨_, (pss_cons (ps_set (i := 3) sc_law_wide.nd rfl (Or.inl rfl) pe_int)
  (pss_cons (ps_if (pt_cmpR op_gt (pe_callB call_len (by rfl) T.n_len b_len (pa_cons (pv 0) pa_nil)) pe_int (nomark _)) (pss_one (ps_set (i := 3) sc_law_wide.nd rfl (Or.inl rfl) (pe_ix ix_seq (pv 0) (pe_op op_mod (pv 1) (pe_callB call_len (by rfl) T.n_len b_len (pa_cons (pv 0) pa_nil))) (fun _ _ => rfl)))) pss_nil)
  (pss_one (ps_ret (pe_op op_mod (pe_op op_add (pe_call (ok_law_pick T) (hr.mono (by decide)) rfl T.m_law_pick T.F_law_pick.kp T.b_law_pick .nil passE0 (pa_cons (pv 0) (pa_cons (pv 1) (pa_cons pe_int pa_nil)))) (pe_op op_mulG (pe_op op_mulG (pe_op op_mulG pe_int (pv 3)) (pv 3)) (pv 3))) (pv 2)))))), ?_⟩
  walk_at "gz"
  refine ⟨_, lenL hS, ?_⟩
  rw [List.length_map]
  have pm := wide_muls hn k
  have fin : ∀ x : Int, Q (.int (x % m)) H := fun x => q _ (Int.emod_nonneg _ (by omega)) (Int.emod_lt_of_pos _ hm)
  split
  ·rename_i h
   refine ⟨_, lenL hS, ?_⟩
   rw [List.length_map]
   refine ⟨h, ixL hS (scell_at h) ?_⟩
   walk_at "gz"
   refine ⟨a, ns, k, 999983, rfl, hS, hn, hk, by decide, fun p _ _ => ?_⟩
   walk_at "gz"
   exact ⟨pm.1, pm.2.1, pm.2.2, hm, fin _⟩
  ·rename_i h
   have e : scell ns k = 0 := if_neg h
   rw [e] at pm
   refine ⟨a, ns, k, 999983, rfl, hS, hn, hk, by decide, fun p _ _ => ?_⟩
   walk_at "gz"
   exact ⟨pm.1, pm.2.1, pm.2.2, hm, fin _⟩
def sp_whole : Sp := fun vs H Q _ => ∃ (v : V), vs = [v] ∧ (v = .non ∨ ∃ i, v = .int i) ∧ Q (.bl (isWhole v)) H
theorem ok_law_whole (T : Tx K mg) : FnOk P w K mg base (CXX P w) 1 T.a_law_whole T.fd_law_whole ["_law_found"] sp_whole := by
 refine okN T.F_law_whole sc_law_whole (fun vs H Q E h => ?_) (fun cdv A outer s H vs Q E hr h => ?_)
 ·obtain ⟨v, rfl, _⟩ := h
  rfl
 ·obtain ⟨v, rfl, hv, q⟩ := h
  refine ⟨_, (pss_one (ps_ret (pe_and (pe_callB call_isiA (by rfl) T.n_isinstance b_isinstance (pa_cons (pv 0) (pa_cons (pe_bltn (v := .ty "int") rfl T.n_int b_int rfl) pa_nil))) (pe_one (pe_not (pe_callB call_isiA (by rfl) T.n_isinstance b_isinstance (pa_cons (pv 0) (pa_cons (pe_bltn (v := .ty "bool") rfl T.n_bool b_bool rfl) pa_nil)))))))), ?_⟩
  rcases hv with rfl | ⟨i, rfl⟩
  ·walk_at "gz"
   exact q
  ·walk_at "gz"
   exact q
def sp_crossed : Sp := fun vs H Q _ => ∃ (a b : En), vs = [ev a, ev b] ∧ Q (.bl (crossed a b)) H
theorem ok_is_crossed (T : Tx K mg) : FnOk P w K mg base (CXX P w) 1 T.a_is_crossed T.fd_is_crossed ["lo", "hi"] sp_crossed := by
 refine okN T.F_is_crossed sc_is_crossed (fun vs H Q E h => ?_) (fun cdv A outer s H vs Q E hr h => ?_)
 ·obtain ⟨a, b, rfl, _⟩ := h
  rfl
 ·obtain ⟨a, b, rfl, q⟩ := h
  refine ⟨_, (pss_one (ps_ret (pe_and (pe_cmp (pc_notN (pv 0))) (pe_and (pe_cmp (pc_notN (pv 1))) (pe_one (pe_cmpR op_gt (pv 0) (pv 1) (nomark _))))))), ?_⟩
  rcases a with _ | x
  ·walk_at "gz"
   exact q
  rcases b with _ | y
  ·walk_at "gz"
   exact q
  walk_at "gz"
  exact q
def sp_holds : Sp := fun vs H Q _ => ∃ (v : V) (a b : En) (n : Int), vs = [v, .int n] ∧ IsS H v a b ∧ Q (.bl (hold a b n)) H
theorem ok_holds (T : Tx K mg) : FnOk P w K mg base (CXX P w) 2 T.a_holds T.fd_holds ["one", "number"] sp_holds := by
 refine okN T.F_holds sc_holds (fun vs H Q E h => ?_) (fun cdv A outer s H vs Q E hr h => ?_)
 ·obtain ⟨v, a, b, n, rfl, _⟩ := h
  rfl
 ·obtain ⟨v, a, b, n, rfl, ⟨p, rfl, hp⟩, q⟩ := h
  refine ⟨_, (pss_one (ps_ret (pe_and (pe_not (pe_call (ok_is_crossed T) (hr.mono (by decide)) rfl T.m_is_crossed T.F_is_crossed.kp T.b_is_crossed .nil passE0 (pa_cons (pe_ix ix_seq (pv 0) pe_int (fun _ _ => rfl)) (pa_cons (pv 1) pa_nil)))) (pe_one (pe_not (pe_call (ok_is_crossed T) (hr.mono (by decide)) rfl T.m_is_crossed T.F_is_crossed.kp T.b_is_crossed .nil passE0 (pa_cons (pv 1) (pa_cons (pe_ix ix_seq (pv 0) pe_int (fun _ _ => rfl)) pa_nil)))))))), ?_⟩
  walk_at "gz"
  refine ixT (SqT.of hp) rfl ⟨a, some n, rfl, ?_⟩
  unfold hold at q
  walk_at "gz"
  cases hc : crossed a (some n) with
  | true =>
   rw [hc] at q
   walk_at "gz"
   exact q
  | false =>
   rw [hc] at q
   walk_at "gz"
   refine ixT (SqT.of hp) rfl ⟨some n, b, rfl, ?_⟩
   walk_at "gz"
   exact q
def sp_meet : Sp := fun vs H Q _ => ∃ (v u : V) (a b c d : En), vs = [v, u] ∧ IsS H v a b ∧ IsS H u c d ∧ ∀ x H', Same H H' → MeetIs H' x (maxE a c) (minE b d) → Q x H'
theorem ok_meet (T : Tx K mg) : FnOk P w K mg base (CXX P w) 2 T.a_meet T.fd_meet ["one", "other"] sp_meet := by
 refine okN T.F_meet sc_meet (fun vs H Q E h => ?_) (fun cdv A outer s H vs Q E hr h => ?_)
 ·obtain ⟨v, u, a, b, c, d, rfl, _⟩ := h
  rfl
 ·obtain ⟨v, u, a, b, c, d, rfl, ⟨p, rfl, hp⟩, ⟨r, rfl, hr0⟩, q⟩ := h
  refine ⟨_, (pss_cons (ps_set (i := 2) sc_meet.nd rfl (Or.inl rfl) (pe_maxD rfl rfl T.n_max (pe_comp (CompOk.mk (fr := []) (ys := []) rfl (by decide +kernel) rfl (by decide +kernel) rfl rfl .nil .nil (by decide) rfl) rfl (pi_tup (pe_tup (pa_cons (pe_ix ix_seq (pv 0) pe_int (fun _ _ => rfl)) (pa_cons (pe_ix ix_seq (pv 1) pe_int (fun _ _ => rfl)) pa_nil)))) (fun C s2 H2 ex pn => ⟨(pts_one (pt_cmp (pc_notN (pv 0)))), (pv 0)⟩)) pe_non))
  (pss_cons (ps_set (i := 3) sc_meet.nd rfl (Or.inl rfl) (pe_minD rfl rfl T.n_min (pe_comp (CompOk.mk (fr := []) (ys := []) rfl (by decide +kernel) rfl (by decide +kernel) rfl rfl .nil .nil (by decide) rfl) rfl (pi_tup (pe_tup (pa_cons (pe_ix ix_seq (pv 0) pe_int (fun _ _ => rfl)) (pa_cons (pe_ix ix_seq (pv 1) pe_int (fun _ _ => rfl)) pa_nil)))) (fun C s2 H2 ex pn => ⟨(pts_one (pt_cmp (pc_notN (pv 0)))), (pv 0)⟩)) pe_non))
  (pss_cons (ps_if (pt_val (pe_call (ok_is_crossed T) (hr.mono (by decide)) rfl T.m_is_crossed T.F_is_crossed.kp T.b_is_crossed .nil passE0 (pa_cons (pv 2) (pa_cons (pv 3) pa_nil)))) (pss_one (ps_ret pe_non)) pss_nil)
  (pss_one (ps_ret (pe_tup (pa_cons (pv 2) (pa_cons (pv 3) pa_nil)))))))), ?_⟩
  walk_at "gz"
  refine ixT (SqT.of hp) rfl (ixT (SqT.of hr0) rfl ?_)
  walk_at "gz"
  refine ⟨line2, fun t ht => ⟨⟨_, SqT.of upd_same⟩, comp_ends upd_same (fun x H Q h => ?_) (fun x H Q h => ?_) fun l hl => ?_⟩⟩
  ·walk_at "gz"
   exact h
  ·walk_at "gz"
   exact h
  refine ⟨l, rfl, nums a c, SqL.of upd_same, ?_⟩
  rw [max_nums]
  have s2 := (same_upd (o := .tup [ev a, ev c]) ht).trans (same_upd (o := .lst ((nums a c).map V.int)) hl)
  generalize upd (upd H t (.tup [ev a, ev c])) l (.lst ((nums a c).map V.int)) = H2 at s2 ⊢
  refine ixT (SqT.of (s2 _ _ hp)) rfl (ixT (SqT.of (s2 _ _ hr0)) rfl ?_)
  walk_at "gz"
  refine ⟨line2, fun t' ht' => ⟨⟨_, SqT.of upd_same⟩, comp_ends upd_same (fun x H Q h => ?_) (fun x H Q h => ?_) fun l' hl' => ?_⟩⟩
  ·walk_at "gz"
   exact h
  ·walk_at "gz"
   exact h
  refine ⟨l', rfl, nums b d, SqL.of upd_same, ?_⟩
  rw [min_nums]
  have s3 := s2.trans ((same_upd (o := .tup [ev b, ev d]) ht').trans (same_upd (o := .lst ((nums b d).map V.int)) hl'))
  generalize upd (upd H2 t' (.tup [ev b, ev d])) l' (.lst ((nums b d).map V.int)) = H3 at s3 ⊢
  refine ⟨_, _, rfl, ?_⟩
  cases hc : crossed (maxE a c) (minE b d) with
  | true =>
   walk_at "gz"
   exact q _ _ s3 ⟨fun _ => rfl, fun z => nomatch hc.symm.trans z⟩
  | false =>
   walk_at "gz"
   exact ⟨line2, fun p' hp' => q _ _ (s3.trans (same_upd hp')) ⟨fun z => (nomatch hc.symm.trans z), fun _ => IsS.new⟩⟩
def okB (e t u d m : Int) : Prop := (1 ≤ e ∧ e ≤ 7) ∧ (1 ≤ t ∧ t ≤ 12) ∧ 0 ≤ u ∧ 0 ≤ d ∧ 0 ≤ m ∧ m ≤ e
def bFs (e t u d m : Int) (p : Addr) : List (Str × V) := [("eyes", .int e), ("turns", .int t), ("up", .int u), ("down", .int d), ("most", .int m), ("told", .ref p)]
def sp_binit (B C : Addr) : Sp := fun vs H Q E => ∃ (x dx : Addr) (e t u d m : Int), vs = [.ref x, .int e, .int t, .int u, .int d, .int m] ∧ H x = some (.ins B dx []) ∧ (¬ okB e t u d m → E (.ref C) none H) ∧
 (okB e t u d m → ∀ p H', H p = none → SameBut x H H' → H' x = some (.ins B dx (bFs e t u d m p)) → H' p = some (.dT []) → Q .non H')
theorem ok_Board_init__ (T : Tx K mg) : FnOk P w K mg base (CXX P w) 1 T.a_Board_init__ T.fd_Board_init__ ["self", "eyes", "turns", "up", "down", "most"] (sp_binit T.C_Board T.C_NoBoard) := by
 refine okX T.F_Board_init__ sc_Board_init__ (fun vs H Q E h => ?_) (fun cdv A outer s H vs Q E hr h => ?_)
 ·obtain ⟨x, dx, e, t, u, d, m, rfl, _⟩ := h
  rfl
 ·obtain ⟨x, dx, e, t, u, d, m, rfl, hx, q0, q⟩ := h
  refine ⟨_, (pss_cons (ps_if (PW.pt (pw_or (pt_not (pt_chain op_le op_le pe_int (pv 1) (pe_globI T.g_EYES_AT_MOST rfl))) (pw_or1 (pt_not (pt_chain op_le op_le pe_int (pv 2) (pe_globI T.g_TURNS_AT_MOST rfl)))))) (pss_one (ps_raise raise_up rfl T.c_NoBoard T.xc_NoBoard rfl (pa_cons pe_str pa_nil))) pss_nil)
  (pss_cons (ps_if (PW.pt (pw_or (pt_cmpR op_lt (pv 3) pe_int (nomark _)) (pw_or1 (pt_cmpR op_lt (pv 4) pe_int (nomark _))))) (pss_one (ps_raise raise_up rfl T.c_NoBoard T.xc_NoBoard rfl (pa_cons pe_str pa_nil))) pss_nil)
  (pss_cons (ps_if (pt_not (pt_chain op_le op_le pe_int (pv 5) (pv 1))) (pss_one (ps_raise raise_up rfl T.c_NoBoard T.xc_NoBoard rfl (pa_cons pe_str pa_nil))) pss_nil)
  (pss_cons (ps_fld (pv 0) (pv 1) rfl)
  (pss_cons (ps_fld (pv 0) (pv 2) rfl)
  (pss_cons (ps_fld (pv 0) (pv 3) rfl)
  (pss_cons (ps_fld (pv 0) (pv 4) rfl)
  (pss_cons (ps_fld (pv 0) (pv 5) rfl)
  (pss_one (ps_fld (pv 0) pe_dnew2 rfl)))))))))), ?_⟩
  walk_at "gz"
  have no : ∀ D σ, ¬ okB e t u d m → ∀ x, tRaise T.C_NoBoard E (tCons (tC (.str x)) tNil) D σ H := fun D σ z x => ⟨by show 1 ≤ sizeLine; decide, q0 z⟩
  refine ite_by (fun h1 => ite_by (fun h2 => no _ _ (fun z => by unfold okB at z; omega) _) fun h2 => ?_) fun h1 => no _ _ (fun z => by unfold okB at z; omega) _
  refine ite_by (fun h3 => ite_by (fun h4 => no _ _ (fun z => by unfold okB at z; omega) _) fun h4 => ?_) fun h3 => no _ _ (fun z => by unfold okB at z; omega) _
  refine ite_by (fun h5 => no _ _ (fun z => by unfold okB at z; omega) _) fun h5 => ite_by (fun h6 => no _ _ (fun z => by unfold okB at z; omega) _) fun h6 => ?_
  refine ite_by (fun h7 => ite_by (fun h8 => no _ _ (fun z => by unfold okB at z; omega) _) fun h8 => ?_) fun h7 => no _ _ (fun z => by unfold okB at z; omega) _
  replace q := q (by unfold okB; omega)
  refine ⟨_, _, _, hx, T.cl_Board, T.no_Board_eyes, (by show 0 < 1000; decide), _, _, _, upd_same, T.cl_Board, T.no_Board_turns, (by show 1 < 1000; decide), _, _, _, upd_same, T.cl_Board, T.no_Board_up, (by show 2 < 1000; decide), _, _, _, upd_same, T.cl_Board, T.no_Board_down, (by show 3 < 1000; decide), _, _, _, upd_same, T.cl_Board, T.no_Board_most, (by show 4 < 1000; decide), ?_⟩
  rw [upd_upd, upd_upd, upd_upd, upd_upd]
  intro p hp
  have hpx : p ≠ x := fun z => by rw [z, upd_same] at hp; cases hp
  refine ⟨_, _, _, (same_upd hp) _ _ upd_same, T.cl_Board, T.no_Board_told, (by show 5 < 1000; decide), q p _ (by rw [upd_ne hpx] at hp; exact hp) (fun b o hb e => ?_) upd_same ?_⟩
  ·rw [upd_ne hb]
   exact (same_upd hp) _ _ (by rw [upd_ne hb]; exact e)
  ·rw [upd_ne hpx, upd_same]
structure BrdAt (B : Addr) (H : Hp) (x : Addr) (e t u d m : Int) (p : Addr) (kvs : List (List Key × V)) : Prop where
 ob : ∃ dx, H x = some (.ins B dx (bFs e t u d m p))
 tb : H p = some (.dT kvs)
def sp_haseye (B : Addr) : Sp := fun vs H Q _ => ∃ (x p : Addr) (e t u d m i : Int) (kvs : List (List Key × V)), vs = [.ref x, .int i] ∧ BrdAt B H x e t u d m p kvs ∧ Q (.bl (decide (0 ≤ i ∧ i < e))) H
def sp_hasturn (B : Addr) : Sp := fun vs H Q _ => ∃ (x p : Addr) (e t u d m i : Int) (kvs : List (List Key × V)), vs = [.ref x, .int i] ∧ BrdAt B H x e t u d m p kvs ∧ Q (.bl (decide (0 ≤ i ∧ i < t))) H
theorem ok_Board_has_eye (T : Tx K mg) : FnOk P w K mg base (CXX P w) 1 T.a_Board_has_eye T.fd_Board_has_eye ["self", "eye"] (sp_haseye T.C_Board) := by
 refine okN T.F_Board_has_eye sc_Board_has_eye (fun vs H Q E h => ?_) (fun cdv A outer s H vs Q E hr h => ?_)
 ·obtain ⟨x, p, e, t, u, d, m, i, kvs, rfl, _⟩ := h
  rfl
 ·obtain ⟨x, p, e, t, u, d, m, i, kvs, rfl, ⟨⟨dx, hx⟩, hp⟩, q⟩ := h
  refine ⟨_, (pss_one (ps_ret (pe_chain op_le op_lt pe_int (pv 1) (pe_fld (pv 0) rfl)))), ?_⟩
  walk_at "gz"
  refine ite_by (fun h1 => ?_) fun h1 => ?_
  ·refine ⟨_, _, _, hx, T.cl_Board, T.no_Board_eyes, _, rfl, ?_⟩
   walk_at "gz"
   rw [show decide (0 ≤ i ∧ i < e) = decide (i < e) by simp [h1]] at q
   exact q
  ·rw [show decide (0 ≤ i ∧ i < e) = false by simp [h1]] at q
   exact q
theorem ok_Board_has_turn (T : Tx K mg) : FnOk P w K mg base (CXX P w) 1 T.a_Board_has_turn T.fd_Board_has_turn ["self", "turn"] (sp_hasturn T.C_Board) := by
 refine okN T.F_Board_has_turn sc_Board_has_turn (fun vs H Q E h => ?_) (fun cdv A outer s H vs Q E hr h => ?_)
 ·obtain ⟨x, p, e, t, u, d, m, i, kvs, rfl, _⟩ := h
  rfl
 ·obtain ⟨x, p, e, t, u, d, m, i, kvs, rfl, ⟨⟨dx, hx⟩, hp⟩, q⟩ := h
  refine ⟨_, (pss_one (ps_ret (pe_chain op_le op_lt pe_int (pv 1) (pe_fld (pv 0) rfl)))), ?_⟩
  walk_at "gz"
  refine ite_by (fun h1 => ?_) fun h1 => ?_
  ·refine ⟨_, _, _, hx, T.cl_Board, T.no_Board_turns, _, rfl, ?_⟩
   walk_at "gz"
   rw [show decide (0 ≤ i ∧ i < t) = decide (i < t) by simp [h1]] at q
   exact q
  ·rw [show decide (0 ≤ i ∧ i < t) = false by simp [h1]] at q
   exact q
def sp_spotX (B C : Addr) : Sp := fun vs H Q E => ∃ (x p : Addr) (e t u d m i j : Int) (kvs : List (List Key × V)), vs = [.ref x, .int i, .int j] ∧ BrdAt B H x e t u d m p kvs ∧ (¬ ((0 ≤ i ∧ i < e) ∧ 0 ≤ j ∧ j < t) → E (.ref C) none H) ∧ ((0 ≤ i ∧ i < e) ∧ 0 ≤ j ∧ j < t → Q .non H)
theorem ok_Board_check_spot (T : Tx K mg) : FnOk P w K mg base (CXX P w) 2 T.a_Board_check_spot T.fd_Board_check_spot ["self", "eye", "turn"] (sp_spotX T.C_Board T.C_NoTelling) := by
 refine okX T.F_Board_check_spot sc_Board_check_spot (fun vs H Q E h => ?_) (fun cdv A outer s H vs Q E hr h => ?_)
 ·obtain ⟨x, p, e, t, u, d, m, i, j, kvs, rfl, _⟩ := h
  rfl
 ·obtain ⟨x, p, e, t, u, d, m, i, j, kvs, rfl, hb, q0, q⟩ := h
  refine ⟨_, (pss_one (ps_if (PW.pt (pw_or (pt_not (pt_val (pe_meth (pv 0) T.cl_Board T.me_Board_has_eye (ok_Board_has_eye T) (hr.mono (by decide)) T.b_Board_has_eye .nil passE0 (pa_cons (pv 1) pa_nil)))) (pw_or1 (pt_not (pt_val (pe_meth (pv 0) T.cl_Board T.me_Board_has_turn (ok_Board_has_turn T) (hr.mono (by decide)) T.b_Board_has_turn .nil passE0 (pa_cons (pv 2) pa_nil))))))) (pss_one (ps_raise raise_up rfl T.c_NoTelling T.xc_NoTelling rfl (pa_cons pe_str pa_nil))) pss_nil)), ?_⟩
  obtain ⟨⟨dx, hx⟩, hp⟩ := id hb
  walk_at "gz"
  refine ⟨_, _, hx, rfl, x, p, e, t, u, d, m, i, kvs, rfl, hb, ?_⟩
  by_cases h1 : 0 ≤ i ∧ i < e
  ·rw [decide_eq_true h1]
   walk_at "gz"
   refine ⟨_, _, hx, rfl, x, p, e, t, u, d, m, j, kvs, rfl, hb, ?_⟩
   by_cases h2 : 0 ≤ j ∧ j < t
   ·rw [decide_eq_true h2]
    walk_at "gz"
    exact q ⟨h1, h2⟩
   ·rw [decide_eq_false h2]
    walk_at "gz"
    exact ⟨by decide, q0 fun z => h2 z.2⟩
  ·rw [decide_eq_false h1]
   walk_at "gz"
   exact ⟨by decide, q0 fun z => h1 z.1⟩
def sp_wordX (B C : Addr) : Sp := fun vs H Q E => ∃ (x p : Addr) (e t u d m i j : Int) (kvs : List (List Key × V)), vs = [.ref x, .int i, .int j] ∧ BrdAt B H x e t u d m p kvs ∧ (valV kvs (spot i j) = none → ∀ H', Same H H' → E (.ref C) none H') ∧ (∀ v, valV kvs (spot i j) = some v → ∀ H', Same H H' → Q .non H')
theorem ok_Board_check_word (T : Tx K mg) : FnOk P w K mg base (CXX P w) 1 T.a_Board_check_word T.fd_Board_check_word ["self", "eye", "turn"] (sp_wordX T.C_Board T.C_NoTelling) := by
 refine okX T.F_Board_check_word sc_Board_check_word (fun vs H Q E h => ?_) (fun cdv A outer s H vs Q E hr h => ?_)
 ·obtain ⟨x, p, e, t, u, d, m, i, j, kvs, rfl, _⟩ := h
  rfl
 ·obtain ⟨x, p, e, t, u, d, m, i, j, kvs, rfl, hb, q0, q⟩ := h
  refine ⟨_, (pss_one (ps_if (pt_cmp (pc_dnotin (hu_of hr) (pe_tup (pa_cons (pv 1) (pa_cons (pv 2) pa_nil))) (pe_fld (pv 0) rfl))) (pss_one (ps_raise raise_up rfl T.c_NoTelling T.xc_NoTelling rfl (pa_cons pe_str pa_nil))) pss_nil)), ?_⟩
  obtain ⟨⟨dx, hx⟩, hp⟩ := id hb
  walk_at "gz"
  refine ⟨line2, fun k hk => ⟨_, _, _, (same_upd hk) _ _ hx, T.cl_Board, T.no_Board_told, _, rfl, p, rfl, valV kvs (spot i j), DGet.t (k := spot i j) ((same_upd hk) _ _ hp) upd_same, ?_⟩⟩
  cases hv : valV kvs (spot i j) with
  | none => exact ⟨by decide, q0 hv _ (same_upd hk)⟩
  | some v => exact q v hv _ (same_upd hk)
def sp_tellX (B C : Addr) : Sp := fun vs H Q E => ∃ (x p : Addr) (e t u d m i j : Int) (lo hi : En) (kvs : List (List Key × V)), vs = [.ref x, .int i, .int j, ev lo, ev hi] ∧ BrdAt B H x e t u d m p kvs ∧ kvs.length < 1000 ∧ (¬ (((0 ≤ i ∧ i < e) ∧ 0 ≤ j ∧ j < t) ∧ crossed lo hi = false) → E (.ref C) none H) ∧
 (((0 ≤ i ∧ i < e) ∧ 0 ≤ j ∧ j < t) ∧ crossed lo hi = false → ∀ v H', SameBut p H H' → H' p = some (.dT (putK kvs (spot i j) v)) → IsS H' v lo hi → Q .non H')
theorem ok_Board_tell (T : Tx K mg) : FnOk P w K mg base (CXX P w) 3 T.a_Board_tell T.fd_Board_tell ["self", "eye", "turn", "lo", "hi"] (sp_tellX T.C_Board T.C_NoTelling) := by
 refine okX T.F_Board_tell sc_Board_tell (fun vs H Q E h => ?_) (fun cdv A outer s H vs Q E hr h => ?_)
 ·obtain ⟨x, p, e, t, u, d, m, i, j, lo, hi, kvs, rfl, _⟩ := h
  rfl
 ·obtain ⟨x, p, e, t, u, d, m, i, j, lo, hi, kvs, rfl, hb, hl, q0, q⟩ := h
  refine ⟨_, (pss_cons (ps_expr (pe_meth (pv 0) T.cl_Board T.me_Board_check_spot (ok_Board_check_spot T) (hr.mono (by decide)) T.b_Board_check_spot .nil pass_up (pa_cons (pv 1) (pa_cons (pv 2) pa_nil))))
  (pss_cons (ps_if (pt_val (pe_call (ok_is_crossed T) (hr.mono (by decide)) rfl T.m_is_crossed T.F_is_crossed.kp T.b_is_crossed .nil passE0 (pa_cons (pv 3) (pa_cons (pv 4) pa_nil)))) (pss_one (ps_raise raise_up rfl T.c_NoTelling T.xc_NoTelling rfl (pa_cons pe_str pa_nil))) pss_nil)
  (pss_one (ps_dput (hu_of hr) (pe_fld (pv 0) rfl) (pe_tup (pa_cons (pv 1) (pa_cons (pv 2) pa_nil))) (pe_tup (pa_cons (pv 3) (pa_cons (pv 4) pa_nil))) rfl)))), ?_⟩
  obtain ⟨⟨dx, hx⟩, hp⟩ := id hb
  walk_at "gz"
  refine ⟨_, _, hx, rfl, x, p, e, t, u, d, m, i, j, kvs, rfl, hb, fun z => q0 fun y => z y.1, fun hin => ?_⟩
  refine ⟨lo, hi, rfl, ?_⟩
  cases hc : crossed lo hi with
  | true =>
   walk_at "gz"
   exact ⟨by decide, q0 fun z => by rw [hc] at z; cases z.2⟩
  | false =>
   walk_at "gz"
   refine ⟨line2, fun v hv => ⟨_, _, _, (same_upd hv) _ _ hx, T.cl_Board, T.no_Board_told, _, rfl, line2, fun k hk => ?_⟩⟩
   have s2 := (same_upd (o := .tup [ev lo, ev hi]) hv).trans (same_upd (o := .tup [.int i, .int j]) hk)
   refine ⟨p, rfl, _, DPut.t (k := spot i j) (s2 _ _ hp) upd_same (Nat.lt_trans hl (by decide)), q ⟨hin, hc⟩ (.ref v) _ (fun b o hb2 e => ?_) upd_same ⟨v, rfl, ?_⟩⟩
   ·rw [upd_ne hb2]; exact s2 _ _ e
   ·have vp : v ≠ p := fun z => by rw [z] at hv; rw [hp] at hv; cases hv
    rw [upd_ne vp]; exact (same_upd hk) _ _ upd_same
end
section
seal L2.PE L2.PS L2.PSs L2.PA
variable {P : Program} {w : World} {K : PySem.W.Frag} {mg : Str → Option Value} {base : Heap}
structure BrdT (B : Addr) (H : Hp) (x : Addr) (e t u d m : Int) (p : Addr) (tb : Tb) : Prop where
 ob : ∃ dx, H x = some (.ins B dx (bFs e t u d m p))
 tb : TabAt H p tb
theorem BrdT.same {B : Addr} {H H' : Hp} {x p : Addr} {e t u d m : Int} {tb : Tb} (h : BrdT B H x e t u d m p tb) (s : Same H H') : BrdT B H' x e t u d m p tb := let ⟨⟨dx, a⟩, b⟩ := h; ⟨⟨dx, s _ _ a⟩, b.same s⟩
def sp_hushX (B C : Addr) : Sp := fun vs H Q E => ∃ (x p : Addr) (e t u d m i j : Int) (kvs : List (List Key × V)), vs = [.ref x, .int i, .int j] ∧ BrdAt B H x e t u d m p kvs ∧ (valV kvs (spot i j) = none → ∀ H', Same H H' → E (.ref C) none H') ∧
 (∀ v, valV kvs (spot i j) = some v → ∀ H', SameBut p H H' → H' p = some (.dT (dropK kvs (spot i j))) → Q .non H')
theorem ok_Board_hush (T : Tx K mg) : FnOk P w K mg base (CXX P w) 2 T.a_Board_hush T.fd_Board_hush ["self", "eye", "turn"] (sp_hushX T.C_Board T.C_NoTelling) := by
 refine okX T.F_Board_hush sc_Board_hush (fun vs H Q E h => ?_) (fun cdv A outer s H vs Q E hr h => ?_)
 ·obtain ⟨x, p, e, t, u, d, m, i, j, kvs, rfl, _⟩ := h
  rfl
 ·obtain ⟨x, p, e, t, u, d, m, i, j, kvs, rfl, hb, q0, q⟩ := h
  refine ⟨_, (pss_cons (ps_expr (pe_meth (pv 0) T.cl_Board T.me_Board_check_word (ok_Board_check_word T) (hr.mono (by decide)) T.b_Board_check_word .nil pass_up (pa_cons (pv 1) (pa_cons (pv 2) pa_nil))))
  (pss_one (ps_expr (pe_dpopT1 (hu_of hr) (pe_fld (pv 0) rfl) (pe_tup (pa_cons (pv 1) (pa_cons (pv 2) pa_nil))) ⟨rfl, rfl, rfl, rfl⟩)))), ?_⟩
  obtain ⟨⟨dx, hx⟩, hp⟩ := id hb
  walk_at "gz"
  refine ⟨_, _, hx, rfl, x, p, e, t, u, d, m, i, j, kvs, rfl, hb, q0, fun v hv H1 s1 => ?_⟩
  have hx1 := s1 _ _ hx
  have hp1 := s1 _ _ hp
  walk_at "gz"
  refine ⟨_, _, _, hx1, T.cl_Board, T.no_Board_told, _, rfl, p, rfl, .inr ⟨kvs, .inl hp1⟩, line2, fun k hk => ?_⟩
  refine ⟨kvs, (same_upd hk) _ _ hp1, spot i j, upd_same, v, hv, q v hv _ (fun b o hb2 e => ?_) upd_same⟩
  rw [upd_ne hb2]; exact (same_upd hk) _ _ (s1 _ _ e)
def sp_tells (B : Addr) : Sp := fun vs H Q _ => ∃ (x p : Addr) (e t u d m : Int) (tb : Tb), vs = [.ref x] ∧ BrdT B H x e t u d m p tb ∧ (tb.map (·.1)).Nodup ∧ tb.length < 64 ∧ ∀ l xs H', Same H H' → H l = none → H' l = some (.lst xs) → All2 (IsTr H') xs (srtT tb) → Q (.ref l) H'
theorem ok_Board_tellings (T : Tx K mg) : FnOk P w K mg base (CXX P w) 1 T.a_Board_tellings T.fd_Board_tellings ["self"] (sp_tells T.C_Board) := by
 refine okN T.F_Board_tellings sc_Board_tellings (fun vs H Q E h => ?_) (fun cdv A outer s H vs Q E hr h => ?_)
 ·obtain ⟨x, p, e, t, u, d, m, tb, rfl, _⟩ := h
  rfl
 ·obtain ⟨x, p, e, t, u, d, m, tb, rfl, ⟨⟨dx, hx⟩, kvs, hp, hT⟩, hn, h64, q⟩ := h
  refine ⟨_, (pss_one (ps_ret (pe_comp (CompOk.mk (fr := [0]) (ys := ["self"]) rfl (by decide +kernel) rfl (by decide +kernel) rfl rfl (.cons rfl .nil) (.cons rfl rfl rfl rfl .nil) (by decide) rfl) rfl (pi_list (pe_callB (call_sortedD rfl) (by rfl) T.n_sorted b_sorted (pa_cons (pe_fld (pv 0) rfl) pa_nil))) (fun C s2 H2 ex pn => ⟨pts_nil, (pe_tup (pa_cons (pe_ix (ix_seqK (K := K) rfl) (pv 0) pe_int (fun _ _ => rfl)) (pa_cons (pe_ix (ix_seqK (K := K) rfl) (pv 0) pe_int (fun _ _ => rfl)) (pa_cons (pe_dgetA (hu_of hr) (pe_fldK (K := K) (pv 1) rfl) (pv 0) (fun _ _ => rfl)) pa_nil))))⟩)))), ?_⟩
  walk_at "gz"
  refine ⟨_, _, _, hx, T.cl_Board, T.no_Board_told, _, rfl, p, rfl, kvs, hp, keyI tb, keyI_keys hT, keyI_ne, by rw [hT.len]; exact h64, fun l ys hl hk => ?_⟩
  have PS := pts_sort hT hk
  have s1 := same_upd (o := .lst (sortL (keyI tb) .non ys)) hl
  have L1 : upd H l (.lst (sortL (keyI tb) .non ys)) l = some (.lst (sortL (keyI tb) .non ys)) := upd_same
  generalize upd H l (.lst (sortL (keyI tb) .non ys)) = H1 at s1 L1 ⊢
  refine ⟨⟨_, SqL.of L1⟩, blk_of it_list (Nat.le_trans (by rw [PS.len, srtT_len]; exact Nat.le_of_lt h64 : _ ≤ 64) (by decide)) (compGo_new (R := fun H x (r : P2 × S2) => IsPt H x r.1) (R' := fun H y (r : P2 × S2) => IsTr H y r) (f := fun r => r) (bs := []) (fun _ _ _ _ s r => IsPt.same r s) (fun _ _ _ _ s r => IsTr.same r s) (PS.imp fun x r z => IsPt.same z s1) trivial (fun H' s' => SqL.of (s' _ _ L1)) (fun x r _ H' s' hr0 Q h => ?_) (fun x r hr0 H' s' h0 Q h => ?_) fun H2 zs s2 hz => ?_)⟩
  ·walk_at "gz"
   exact h
  ·obtain ⟨a, rfl, ha⟩ := id h0
   have S := s1.trans s'
   have hT' := hT.imp fun v a b z => IsS.same z S
   obtain ⟨w, hw, iw⟩ := (hT'.val r.1).2 _ (valT_mem hn (srtT_mem hr0))
   walk_at "gz"
   refine ixT (SqT.of ha) rfl (ixT (SqT.of ha) rfl ⟨_, _, _, S _ _ hx, T.cl_Board, T.no_Board_told, _, rfl, p, rfl, w, ?_, ?_⟩)
   ·rw [← hw]; exact DGet.t (k := spot r.1.1 r.1.2) (S _ _ hp) ha
   ·exact ⟨by decide, fun z hz => h _ _ (same_upd hz) ⟨z, w, rfl, upd_same, IsS.same iw (same_upd hz)⟩⟩
  rw [List.nil_append, List.map_id'] at hz
  exact fun l2 hl2 => q l2 zs _ (s1.trans (s2.trans (same_upd hl2))) ((s1.trans s2).free hl2) upd_same (hz.imp fun x r z => IsTr.same z (same_upd hl2))
def sp_common (K : PySem.W.Frag) : Sp := fun vs H Q _ => ∃ (a : Addr) (xs : List V) (ss : List S2), vs = [.ref a] ∧ SqL K H a xs ∧ Sts H xs ss ∧ xs.length ≤ 1000 ∧ ∀ v H', Same H H' → IsW H' v (comW (none, none) ss) → Q v H'
def inv_common (K : PySem.W.Frag) (H : Hp) (a : Addr) (xs : List V) (ss : List S2) (i : Nat) (σ : St) (H1 : Hp) : Prop := ∃ (v : V) (e : Option V), σ = [some (.ref a), some v, e] ∧ Same H H1 ∧ IsS H1 v (comE (none, none) (ss.take i)).1 (comE (none, none) (ss.take i)).2 ∧ crossed (comE (none, none) (ss.take i)).1 (comE (none, none) (ss.take i)).2 = false
theorem ok_common (T : Tx K mg) : FnOk P w K mg base (CXX P w) 3 T.a_common T.fd_common ["some"] (sp_common K) := by
 refine okN T.F_common sc_common (fun vs H Q E h => ?_) (fun cdv A outer s H vs Q E hr h => ?_)
 ·obtain ⟨a, xs, ss, rfl, _⟩ := h
  rfl
 ·obtain ⟨a, xs, ss, rfl, hS, hP, hn, q⟩ := h
  refine ⟨_, (pss_cons (ps_set (i := 1) sc_common.nd rfl (Or.inl rfl) (pe_tup (pa_cons pe_non (pa_cons pe_non pa_nil))))
  (pss_cons (ps_for PassesOwn.never rfl (pi_list (pv 0)) (pg_name (i := 2) sc_common.nd rfl (Or.inl rfl)) (pss_cons (ps_set (i := 1) sc_common.nd rfl (Or.inl rfl) (pe_call (ok_meet T) (hr.mono (by decide)) rfl T.m_meet T.F_meet.kp T.b_meet .nil passE0 (pa_cons (pv 1) (pa_cons (pv 2) pa_nil))))
    (pss_one (ps_if (pt_cmp (pc_isN (pv 1))) (pss_one (ps_ret pe_non)) pss_nil))))
  (pss_one (ps_ret (pv 1))))), ?_⟩
  have hA := sts_all2.mp hP
  have hl := hA.len
  walk_at "gz"
  refine ⟨line2, fun p hp => ?_⟩
  have s0 := same_upd (o := .tup [.non, .non]) hp
  refine ⟨⟨_, s0.seq hS⟩, by_list (xs := xs) (inv_common K H a xs ss) ⟨_, _, rfl, s0, ⟨p, rfl, upd_same⟩, rfl⟩ ?_ ?_ ?_⟩
  ·rintro i σ H1 _ ⟨_, _, _, s1, _⟩
   exact s1.seq hS
  ·rintro i x σ H1 hx ⟨v, e, rfl, s1, hv, hc⟩
   obtain ⟨w, hw, r⟩ := hA.get hx
   have e1 := comE_succ (e := (none, none)) hw
   walk_at "gz"
   refine ⟨v, x, _, _, w.1, w.2, rfl, hv, r.same s1, fun y H2 s2 hm => ?_⟩
   have hm2 : MeetIs H2 y (comE (none, none) (ss.take (i + 1))).1 (comE (none, none) (ss.take (i + 1))).2 := by rw [e1]; exact hm
   cases hk : crossed (comE (none, none) (ss.take (i + 1))).1 (comE (none, none) (ss.take (i + 1))).2 with
   | true =>
    have ey := hm2.1 hk
    subst ey
    walk_at "gz"
    refine q _ _ (s1.trans s2) ?_
    unfold comW
    rw [if_pos (comE_take hk)]
    rfl
   | false =>
    have hy := hm2.2 hk
    obtain ⟨t, rfl, ht⟩ := id hy
    walk_at "gz"
    exact ⟨_, _, rfl, s1.trans s2, hy, hk⟩
  ·rintro σ H1 ⟨v, e, rfl, s1, hv, hc⟩
   walk_at "gz"
   rw [hl, List.take_length] at hv hc
   refine q _ _ s1 ?_
   unfold comW
   rw [if_neg (by rw [hc]; simp)]
   exact hv
def sp_haspart (B : Addr) : Sp := fun vs H Q _ => ∃ (x p : Addr) (e t u d m i : Int) (k : Str) (kvs : List (List Key × V)), vs = [.ref x, .str k, .int i] ∧ BrdAt B H x e t u d m p kvs ∧ Q (.bl (hasB t k i)) H
theorem ok_has_part (T : Tx K mg) : FnOk P w K mg base (CXX P w) 2 T.a_has_part T.fd_has_part ["board", "kind", "turn"] (sp_haspart T.C_Board) := by
 refine okN T.F_has_part sc_has_part (fun vs H Q E h => ?_) (fun cdv A outer s H vs Q E hr h => ?_)
 ·obtain ⟨x, p, e, t, u, d, m, i, k, kvs, rfl, _⟩ := h
  rfl
 ·obtain ⟨x, p, e, t, u, d, m, i, k, kvs, rfl, hb, q⟩ := h
  refine ⟨_, (pss_cons (ps_if (pt_cmpR op_eq (pv 1) pe_str (nomark _)) (pss_one (ps_ret (pe_and (pe_meth (pv 0) T.cl_Board T.me_Board_has_turn (ok_Board_has_turn T) (hr.mono (by decide)) T.b_Board_has_turn .nil passE0 (pa_cons (pv 2) pa_nil)) (pe_one (pe_meth (pv 0) T.cl_Board T.me_Board_has_turn (ok_Board_has_turn T) (hr.mono (by decide)) T.b_Board_has_turn .nil passE0 (pa_cons (pe_op op_add (pv 2) pe_int) pa_nil)))))) pss_nil)
  (pss_one (ps_ret (pe_and (pe_cmpR op_eq (pv 1) pe_str (nomark _)) (pe_one (pe_meth (pv 0) T.cl_Board T.me_Board_has_turn (ok_Board_has_turn T) (hr.mono (by decide)) T.b_Board_has_turn .nil passE0 (pa_cons (pv 2) pa_nil))))))), ?_⟩
  obtain ⟨⟨dx, hx⟩, hp⟩ := id hb
  unfold hasB at q
  walk_at "gz"
  try refine ⟨rfl, ?_⟩
  by_cases hk : k = "step"
  ·subst hk
   rw [if_pos rfl] at q ⊢
   refine ⟨_, _, hx, rfl, x, p, e, t, u, d, m, i, kvs, rfl, hb, ?_⟩
   by_cases h1 : 0 ≤ i ∧ i < t
   ·rw [decide_eq_true h1] at q ⊢
    walk_at "gz"
    refine ⟨_, _, hx, rfl, x, p, e, t, u, d, m, _, kvs, rfl, hb, ?_⟩
    rw [Bool.true_and] at q
    exact q
   ·rw [decide_eq_false h1] at q ⊢
    walk_at "gz"
    exact q
  ·rw [if_neg hk] at q
   rw [if_neg fun z => hk (V.str.inj z)]
   try refine ⟨rfl, ?_⟩
   by_cases hk2 : k = "at"
   ·subst hk2
    rw [decide_eq_true rfl, Bool.true_and] at q
    rw [if_pos rfl]
    refine ⟨_, _, hx, rfl, x, p, e, t, u, d, m, i, kvs, rfl, hb, ?_⟩
    exact q
   ·rw [decide_eq_false hk2, Bool.false_and] at q
    rw [if_neg fun z => hk2 (V.str.inj z)]
    exact q
def sp_chkcl (K : PySem.W.Frag) (B C : Addr) : Sp := fun vs H Q E => ∃ (x p b : Addr) (e t u d m : Int) (kvs : List (List Key × V)) (xs : List V) (ps : List Pa), vs = [.ref x, .ref b] ∧ BrdAt B H x e t u d m p kvs ∧ SqL K H b xs ∧ Pas H xs ps ∧ (¬ okCl t ps → E (.ref C) none H) ∧ (okCl t ps → Q .non H)
def inv_chkcl (H : Hp) (x b : Addr) (t : Int) (ps : List Pa) (i : Nat) (σ : St) (H1 : Hp) : Prop := ∃ (e : Option V), σ = [some (.ref x), some (.ref b), e] ∧ H1 = H ∧ okCl t (ps.take i)
theorem ok_check_claim (T : Tx K mg) : FnOk P w K mg base (CXX P w) 3 T.a_check_claim T.fd_check_claim ["board", "claim"] (sp_chkcl K T.C_Board T.C_NoClaim) := by
 refine okX T.F_check_claim sc_check_claim (fun vs H Q E h => ?_) (fun cdv A outer s H vs Q E hr h => ?_)
 ·obtain ⟨x, p, b, e, t, u, d, m, kvs, xs, ps, rfl, _⟩ := h
  rfl
 ·obtain ⟨x, p, b, e, t, u, d, m, kvs, xs, ps, rfl, hb, hX, hP, q0, q⟩ := h
  refine ⟨_, (pss_one (ps_for PassesOwn.leaving rfl (pi_list (pv 1)) (pg_name (i := 2) sc_check_claim.nd rfl (Or.inl rfl)) (pss_one (ps_if (pt_not (pt_val (pe_call (ok_has_part T) (hr.mono (by decide)) rfl T.m_has_part T.F_has_part.kp T.b_has_part .nil passE0 (pa_cons (pv 0) (pa_cons (pe_ix ix_seq (pv 2) pe_int (fun _ _ => rfl)) (pa_cons (pe_ix ix_seq (pv 2) pe_int (fun _ _ => rfl)) pa_nil)))))) (pss_one (ps_raise raise_up rfl T.c_NoClaim T.xc_NoClaim rfl (pa_cons pe_str pa_nil))) pss_nil)))), ?_⟩
  have hl := hP.len
  walk_at "gz"
  refine ⟨⟨_, hX⟩, by_list (xs := xs) (inv_chkcl H x b t ps) ⟨_, rfl, rfl, fun _ h => by simp at h⟩ ?_ ?_ ?_⟩
  ·rintro i σ H1 _ ⟨_, _, rfl, _⟩
   exact hX
  ·rintro i y σ H1 hy ⟨e1, rfl, rfl, hk⟩
   obtain ⟨pa, hpa, ta, qa, rfl, h1, h2⟩ := hP.get hy
   walk_at "gz"
   refine ixT (SqT.of h1) rfl (ixT (SqT.of h1) rfl ?_)
   refine ⟨x, p, e, t, u, d, m, pa.2.1, pa.1, kvs, rfl, hb, ?_⟩
   cases hc : hasB t pa.1 pa.2.1 with
   | true =>
    walk_at "gz"
    refine ⟨_, rfl, rfl, fun z hz => ?_⟩
    rw [List.take_succ, hpa] at hz
    rcases List.mem_append.mp hz with h | h
    ·exact hk z h
    ·have : z = pa := by simpa using h
     rw [this]; exact hc
   | false =>
    walk_at "gz"
    refine ⟨by decide, q0 fun z => ?_⟩
    rw [z pa (List.mem_of_getElem? hpa)] at hc
    cases hc
  ·rintro σ H1 ⟨e1, rfl, rfl, hk⟩
   rw [hl, List.take_length] at hk
   walk_at "gz"
   exact q hk
def sp_strof (K : PySem.W.Frag) : Sp := fun vs H Q _ => ∃ (b : Addr) (xs : List V) (ps : List Pa) (k : Str) (t : Int), vs = [.ref b, .str k, .int t] ∧ SqL K H b xs ∧ Pas H xs ps ∧ ps.length ≤ 1000 ∧ ∀ l ys H', Same H H' → H l = none → H' l = some (.lst ys) → Sts H' ys (sel ps k t) → Q (.ref l) H'
theorem ok_stretches_of (T : Tx K mg) : FnOk P w K mg base (CXX P w) 1 T.a_stretches_of T.fd_stretches_of ["claim", "kind", "turn"] (sp_strof K) := by
 refine okN T.F_stretches_of sc_stretches_of (fun vs H Q E h => ?_) (fun cdv A outer s H vs Q E hr h => ?_)
 ·obtain ⟨b, xs, ps, k, t, rfl, _⟩ := h
  rfl
 ·obtain ⟨b, xs, ps, k, t, rfl, hX, hP, hn, q⟩ := h
  refine ⟨_, (pss_one (ps_ret (pe_comp (CompOk.mk (fr := [1, 2]) (ys := ["kind", "turn"]) rfl (by decide +kernel) rfl (by decide +kernel) rfl rfl (.cons rfl (.cons rfl .nil)) (.cons rfl rfl rfl rfl (.cons rfl rfl rfl rfl .nil)) (by decide) rfl) rfl (pi_list (pv 0)) (fun C s2 H2 ex pn => ⟨(pts_one (PW.pt (pw_and (pt_cmpR op_eq (pe_ix (ix_seqK (K := K) rfl) (pv 0) pe_int (fun _ _ => rfl)) (pv 1) (nomark _)) (pw_and1 (pt_cmpR op_eq (pe_ix (ix_seqK (K := K) rfl) (pv 0) pe_int (fun _ _ => rfl)) (pv 2) (nomark _)))))), (pe_ix (ix_seqK (K := K) rfl) (pv 0) pe_int (fun _ _ => rfl))⟩)))), ?_⟩
  have hl := hP.len
  walk_at "gz"
  refine ⟨⟨_, hX⟩, blk_of it_list (Nat.le_trans (by omega : xs.length ≤ 1000) (by decide)) (compGo_pick (R := fun x p => IsPa H x p) (R' := fun y (s : S2) => IsS H y s.1 s.2) (p := selB k t) (f := fun p => p.2.2) hX hP (fun x p r Q h => ?_) (fun x p _ r Q h => ?_) fun zs hz => ?_)⟩
  ·obtain ⟨tt, u, rfl, ht, hu⟩ := r
   unfold selB at h
   walk_at "gz"
   refine ixT (SqT.of ht) rfl ?_
   walk_at "gz"
   try refine ⟨rfl, ?_⟩
   by_cases hk : p.1 = k
   ·rw [decide_eq_true hk, Bool.true_and] at h
    rw [if_pos (by rw [hk])]
    refine ixT (SqT.of ht) rfl ?_
    walk_at "gz"
    exact h
   ·rw [decide_eq_false hk, Bool.false_and] at h
    rw [if_neg fun z => hk (V.str.inj z)]
    exact h
  ·obtain ⟨tt, u, rfl, ht, hu⟩ := r
   walk_at "gz"
   exact ixT (SqT.of ht) rfl (h _ ⟨u, rfl, hu⟩)
  ·rw [List.nil_append]
   intro l hl2
   exact q l zs _ (same_upd hl2) hl2 upd_same (sts_all2.mpr (hz.imp fun _ _ r => r.same (same_upd hl2)))
def pacesW (u d : Int) (ps : List Pa) (n : Nat) : List W2 := (List.range n).map fun (k : Nat) => comW (none, none) ((some (-d), some u) :: sel ps "step" (k : Int))
def sp_ppaces (K : PySem.W.Frag) (B C : Addr) : Sp := fun vs H Q E => ∃ (x p b : Addr) (e t u d m : Int) (kvs : List (List Key × V)) (xs : List V) (ps : List Pa), vs = [.ref x, .ref b] ∧ BrdAt B H x e t u d m p kvs ∧ 1 ≤ t ∧ t ≤ 12 ∧ SqL K H b xs ∧ Pas H xs ps ∧ ps.length ≤ 900 ∧ (¬ okCl t ps → E (.ref C) none H) ∧ (okCl t ps → ∀ l ys H', Same H H' → H l = none → H' l = some (.lst ys) → All2 (IsW H') ys (pacesW u d ps (t - 1).toNat) → Q (.ref l) H')
theorem ok_paces (T : Tx K mg) : FnOk P w K mg base (CXX P w) 4 T.a_paces T.fd_paces ["board", "claim"] (sp_ppaces K T.C_Board T.C_NoClaim) := by
 refine okX T.F_paces sc_paces (fun vs H Q E h => ?_) (fun cdv A outer s H vs Q E hr h => ?_)
 ·obtain ⟨x, p, b, e, t, u, d, m, kvs, xs, ps, rfl, _⟩ := h
  rfl
 ·obtain ⟨x, p, b, e, t, u, d, m, kvs, xs, ps, rfl, hb, t1, t2, hX, hP, hn, q0, q⟩ := h
  refine ⟨_, (pss_cons (ps_expr (pe_call (ok_check_claim T) (hr.mono (by decide)) rfl T.m_check_claim T.F_check_claim.kp T.b_check_claim .nil pass_up (pa_cons (pv 0) (pa_cons (pv 1) pa_nil))))
  (pss_cons (ps_set (i := 2) sc_paces.nd rfl (Or.inr rfl) (pe_lst (pa_cons (pe_tup (pa_cons (pe_un un_neg (pe_fld (pv 0) rfl)) (pa_cons (pe_fld (pv 0) rfl) pa_nil))) pa_nil)))
  (pss_one (ps_ret (pe_comp (CompOk.mk (fr := [2, 1]) (ys := ["own", "claim"]) rfl (by decide +kernel) rfl (by decide +kernel) rfl rfl (.cons rfl (.cons rfl .nil)) (.cons rfl rfl rfl rfl (.cons rfl rfl rfl rfl .nil)) (by decide) rfl) rfl (pi_range1 rfl T.n_range (pa_cons (pe_op op_sub (pe_fld (pv 0) rfl) pe_int) pa_nil)) (fun C s2 H2 ex pn => ⟨pts_nil, (pe_call (ok_common T) (hr.mono (by decide)) rfl T.m_common T.F_common.kp T.b_common .nil passE0 (pa_cons (pe_op op_cat (pv 1) (pe_call (ok_stretches_of T) (hr.mono (by decide)) rfl T.m_stretches_of T.F_stretches_of.kp T.b_stretches_of .nil passE0 (pa_cons (pv 2) (pa_cons pe_str (pa_cons (pv 0) pa_nil))))) pa_nil))⟩)))))), ?_⟩
  obtain ⟨⟨dx, hx⟩, hp⟩ := id hb
  walk_at "gz"
  refine ⟨x, p, b, e, t, u, d, m, kvs, xs, ps, rfl, hb, hX, hP, q0, fun hk => ?_⟩
  walk_at "gz"
  refine ⟨_, _, _, hx, T.cl_Board, T.no_Board_down, _, rfl, _, rfl, _, _, _, hx, T.cl_Board, T.no_Board_up, _, rfl, line2, fun o ho => ⟨by decide, fun l hl => ?_⟩⟩
  have s1 := (same_upd (o := .tup [.int (-d), .int u]) ho).trans (same_upd (o := .lst [.ref o]) hl)
  have O1 : IsS (upd (upd H o (.tup [.int (-d), .int u])) l (.lst [.ref o])) (.ref o) (some (-d)) (some u) := ⟨o, rfl, (same_upd hl) _ _ upd_same⟩
  have L1 : (upd (upd H o (.tup [.int (-d), .int u])) l (.lst [.ref o])) l = some (.lst [.ref o]) := upd_same
  generalize upd (upd H o (.tup [.int (-d), .int u])) l (.lst [.ref o]) = H1 at s1 O1 L1 ⊢
  refine ⟨_, _, _, s1 _ _ hx, T.cl_Board, T.no_Board_turns, _, rfl, _, rfl, by omega, by omega, ?_⟩
  refine blk_of it_rng (by rw [List.length_map, List.length_range]; exact Nat.le_trans (by omega : _ ≤ 12) (by decide)) (compGo_new (R := fun _ x (k : Nat) => x = V.int ((0 : Int) + k)) (R' := IsW) (f := fun (k : Nat) => comW (none, none) ((some (-d), some u) :: sel ps "step" (k : Int))) (fun _ _ _ _ _ h => h) (fun _ _ _ _ s' h => h.same s') (All2.rng _) (bs := []) trivial (fun _ _ => trivial) (fun x k _ H2 s2 r Q h => ?_) (fun x k _ H2 s2 r Q h => ?_) fun H2 zs s2 hz => ?_)
  ·walk_at "gz"
   exact h
  ·subst r
   have S2 := s1.trans s2
   walk_at "gz"
   refine ⟨b, xs, ps, "step", _, rfl, S2.seq hX, hP.same S2, by omega, fun r ys H3 s3 _ R3 hR => ?_⟩
   rw [Int.zero_add] at hR
   walk_at "gz"
   have hlen : ys.length ≤ 900 := by
    have := (sts_all2.mp hR).len
    have h2 : (sel ps "step" (k : Int)).length ≤ ps.length := by
     unfold sel
     rw [List.length_map]
     exact List.length_filter_le _ _
    omega
   refine ⟨[.ref o], s3 _ _ (s2 _ _ L1), ys, R3, Nat.le_trans (by show 1 + ys.length ≤ 1000; omega) (by decide), fun c hc => ?_⟩
   have s4 := same_upd (o := .lst ([.ref o] ++ ys)) hc
   refine ⟨c, _, (some (-d), some u) :: sel ps "step" (k : Int), rfl, SqL.of upd_same, ⟨(O1.same (s2.trans s3)).same s4, ?_⟩, by rw [List.length_append, List.length_singleton]; omega, fun v H5 s5 hv => h _ _ ((s3.trans s4).trans s5) hv⟩
   exact sts_all2.mpr ((sts_all2.mp hR).imp fun _ _ r => r.same s4)
  ·intro c hc
   refine q hk c zs _ ((s1.trans s2).trans (same_upd hc)) ((s1.trans s2).free hc) upd_same ?_
   rw [List.nil_append] at hz
   exact hz.imp fun _ _ r => r.same (same_upd hc)
end
section
seal L2.PE L2.PS L2.PSs L2.PA
variable {P : Program} {w : World} {K : PySem.W.Frag} {mg : Str → Option Value} {base : Heap}
structure Shp (e t u d m f : Int) : Prop where
 he : 1 ≤ e ∧ e ≤ 7
 ht : 1 ≤ t ∧ t ≤ 12
 hu : 0 ≤ u ∧ u ≤ 6 * 1000000000000000000000000000000000000000000000000000000000
 hd : 0 ≤ d ∧ d ≤ 6 * 1000000000000000000000000000000000000000000000000000000000
 hm : 0 ≤ m ∧ m ≤ e
 hf : 1 ≤ f ∧ f ≤ 1000000000000000000000000000000000000000000000000000000000
def row6 (e t u d m f : Int) : List V := [.int e, .int t, .int u, .int d, .int m, .int f]
def sp_shape (K : PySem.W.Frag) : Sp := fun vs H Q _ => ∃ (a : Addr) (ns : List Int), vs = [.ref a] ∧ SqL K H a (ns.map V.int) ∧ Scr ns ∧ ∀ (l : Addr) (e t u d m f : Int) (H' : Hp), Same H H' → H l = none → H' l = some (.lst (row6 e t u d m f)) → Shp e t u d m f → Q (.ref l) H'
def shA (w e t m : Int) : Prop := (1 ≤ t ∧ t ≤ 12) ∧ (1 ≤ e ∧ e ≤ 7) ∧ (0 ≤ m ∧ m ≤ e) ∧ (w = 1 ∨ w = 3 ∨ e ≤ 4)
def shB (e t m : Int) : Prop := (1 ≤ t ∧ t ≤ 12) ∧ (1 ≤ e ∧ e ≤ 7) ∧ (0 ≤ m ∧ m ≤ e)
def shI (a : Addr) (H : Hp) (σ : St) (H' : Hp) : Prop := ∃ w e t m : Int, σ = [some (.ref a), some (.int w), some (.int e), some (.int t), some (.int m), none, none, none] ∧ H' = H ∧ shA w e t m
def shI4 (a : Addr) (H : Hp) (σ : St) (H' : Hp) : Prop := ∃ w e t m : Int, σ = [some (.ref a), some (.int w), some (.int e), some (.int t), some (.int m), none, none, none] ∧ H' = H ∧ shB e t m
def shJ (a : Addr) (H : Hp) (σ : St) (H' : Hp) : Prop := ∃ w e t m f : Int, σ = [some (.ref a), some (.int w), some (.int e), some (.int t), some (.int m), some (.int f), none, none] ∧ Same H H' ∧ shB e t m ∧ 1 ≤ f ∧ f ≤ 1000000000000000000000000000000000000000000000000000000000
def shK (a : Addr) (H : Hp) (σ : St) (H' : Hp) : Prop := ∃ w e t m f u : Int, σ = [some (.ref a), some (.int w), some (.int e), some (.int t), some (.int m), some (.int f), some (.int u), none] ∧ Same H H' ∧ shB e t m ∧ (1 ≤ f ∧ f ≤ 1000000000000000000000000000000000000000000000000000000000) ∧ 0 ≤ u ∧ u ≤ 6 * 1000000000000000000000000000000000000000000000000000000000
def shL (a : Addr) (H : Hp) (σ : St) (H' : Hp) : Prop := ∃ w e t m f u d : Int, σ = [some (.ref a), some (.int w), some (.int e), some (.int t), some (.int m), some (.int f), some (.int u), some (.int d)] ∧ Same H H' ∧ shB e t m ∧ (1 ≤ f ∧ f ≤ 1000000000000000000000000000000000000000000000000000000000) ∧ (0 ≤ u ∧ u ≤ 6 * 1000000000000000000000000000000000000000000000000000000000) ∧ 0 ≤ d ∧ d ≤ 6 * 1000000000000000000000000000000000000000000000000000000000
theorem mul6 {p f : Int} (h0 : 0 ≤ p) (h1 : p < 7) (f1 : 1 ≤ f) (f2 : f ≤ 1000000000000000000000000000000000000000000000000000000000) : 0 ≤ p * f ∧ p * f ≤ 6 * 1000000000000000000000000000000000000000000000000000000000 := by
 have a := Int.mul_le_mul (show p ≤ 6 by omega) f2 (by omega) (by decide)
 exact ⟨Int.mul_nonneg h0 (by omega), a⟩
theorem ok_law_shape (T : Tx K mg) : FnOk P w K mg base (CXX P w) 3 T.a_law_shape T.fd_law_shape ["_law_script"] (sp_shape K) := by
 refine okN T.F_law_shape sc_law_shape (fun vs H Q E h => ?_) (fun cdv A outer s H vs Q E hr h => ?_)
 ·obtain ⟨a, ns, rfl, _⟩ := h
  rfl
 ·obtain ⟨a, ns, rfl, hS, hn, q⟩ := h
  refine ⟨_, (pss_cons (ps_set (i := 1) sc_law_shape.nd rfl (Or.inl rfl) (pe_call (ok_law_pick T) (hr.mono (by decide)) rfl T.m_law_pick T.F_law_pick.kp T.b_law_pick .nil passE0 (pa_cons (pv 0) (pa_cons pe_int (pa_cons pe_int pa_nil)))))
  (pss_cons (ps_set (i := 2) sc_law_shape.nd rfl (Or.inl rfl) (pe_op op_add pe_int (pe_call (ok_law_pick T) (hr.mono (by decide)) rfl T.m_law_pick T.F_law_pick.kp T.b_law_pick .nil passE0 (pa_cons (pv 0) (pa_cons pe_int (pa_cons pe_int pa_nil))))))
  (pss_cons (ps_set (i := 3) sc_law_shape.nd rfl (Or.inl rfl) (pe_op op_add pe_int (pe_call (ok_law_pick T) (hr.mono (by decide)) rfl T.m_law_pick T.F_law_pick.kp T.b_law_pick .nil passE0 (pa_cons (pv 0) (pa_cons pe_int (pa_cons pe_int pa_nil))))))
  (pss_cons (ps_set (i := 4) sc_law_shape.nd rfl (Or.inl rfl) (pe_callB (call_min2 rfl) (by rfl) T.n_min b_min (pa_cons (pv 2) (pa_cons (pe_call (ok_law_pick T) (hr.mono (by decide)) rfl T.m_law_pick T.F_law_pick.kp T.b_law_pick .nil passE0 (pa_cons (pv 0) (pa_cons pe_int (pa_cons pe_int pa_nil)))) pa_nil))))
  (pss_cons (ps_if (pt_cmpR op_eq (pv 1) pe_int (nomark _)) (pss_cons (ps_set (i := 2) sc_law_shape.nd rfl (Or.inl rfl) pe_int)
    (pss_cons (ps_set (i := 3) sc_law_shape.nd rfl (Or.inl rfl) (pe_op op_add pe_int (pe_op op_mod (pv 3) pe_int)))
    (pss_one (ps_set (i := 4) sc_law_shape.nd rfl (Or.inl rfl) (pe_call (ok_law_pick T) (hr.mono (by decide)) rfl T.m_law_pick T.F_law_pick.kp T.b_law_pick .nil passE0 (pa_cons (pv 0) (pa_cons pe_int (pa_cons pe_int pa_nil)))))))) pss_nil)
  (pss_cons (ps_if (pt_cmpR op_eq (pv 1) pe_int (nomark _)) (pss_cons (ps_set (i := 2) sc_law_shape.nd rfl (Or.inl rfl) (pe_op op_add pe_int (pe_op op_mod (pv 2) pe_int)))
    (pss_cons (ps_set (i := 3) sc_law_shape.nd rfl (Or.inl rfl) (pe_op op_add pe_int (pe_call (ok_law_pick T) (hr.mono (by decide)) rfl T.m_law_pick T.F_law_pick.kp T.b_law_pick .nil passE0 (pa_cons (pv 0) (pa_cons pe_int (pa_cons pe_int pa_nil))))))
    (pss_one (ps_set (i := 4) sc_law_shape.nd rfl (Or.inl rfl) (pe_callB (call_min2 rfl) (by rfl) T.n_min b_min (pa_cons (pv 2) (pa_cons (pv 4) pa_nil))))))) pss_nil)
  (pss_cons (ps_if (pt_cmpR op_eq (pv 1) pe_int (nomark _)) (pss_cons (ps_set (i := 2) sc_law_shape.nd rfl (Or.inl rfl) (pe_op op_add pe_int (pe_op op_mod (pv 2) pe_int)))
    (pss_cons (ps_set (i := 3) sc_law_shape.nd rfl (Or.inl rfl) pe_int)
    (pss_one (ps_set (i := 4) sc_law_shape.nd rfl (Or.inl rfl) (pe_call (ok_law_pick T) (hr.mono (by decide)) rfl T.m_law_pick T.F_law_pick.kp T.b_law_pick .nil passE0 (pa_cons (pv 0) (pa_cons pe_int (pa_cons (pe_op op_add (pv 2) pe_int) pa_nil)))))))) pss_nil)
  (pss_cons (ps_if (pt_cmpR op_eq (pv 1) pe_int (nomark _)) (pss_cons (ps_set (i := 2) sc_law_shape.nd rfl (Or.inl rfl) (pe_op op_add pe_int (pv 2)))
    (pss_cons (ps_set (i := 3) sc_law_shape.nd rfl (Or.inl rfl) (pe_op op_add pe_int (pe_call (ok_law_pick T) (hr.mono (by decide)) rfl T.m_law_pick T.F_law_pick.kp T.b_law_pick .nil passE0 (pa_cons (pv 0) (pa_cons pe_int (pa_cons pe_int pa_nil))))))
    (pss_one (ps_set (i := 4) sc_law_shape.nd rfl (Or.inl rfl) (pe_callB (call_min2 rfl) (by rfl) T.n_min b_min (pa_cons (pv 4) (pa_cons pe_int pa_nil))))))) pss_nil)
  (pss_cons (ps_set (i := 5) sc_law_shape.nd rfl (Or.inl rfl) (pe_ix ix_seq (pe_lst (pa_cons pe_int (pa_cons pe_int (pa_cons pe_int (pa_cons pe_int (pa_cons (pe_op op_add (pe_op op_pow pe_int pe_int) pe_int) (pa_cons (pe_op op_add pe_int (pe_call (ok_law_wide T) (hr.mono (by decide)) rfl T.m_law_wide T.F_law_wide.kp T.b_law_wide .nil passE0 (pa_cons (pv 0) (pa_cons pe_int (pa_cons (pe_op op_pow pe_int pe_int) pa_nil))))) pa_nil))))))) (pe_call (ok_law_pick T) (hr.mono (by decide)) rfl T.m_law_pick T.F_law_pick.kp T.b_law_pick .nil passE0 (pa_cons (pv 0) (pa_cons pe_int (pa_cons pe_int pa_nil)))) (fun _ _ => rfl)))
  (pss_cons (ps_set (i := 6) sc_law_shape.nd rfl (Or.inl rfl) (pe_op op_mulB (pe_call (ok_law_pick T) (hr.mono (by decide)) rfl T.m_law_pick T.F_law_pick.kp T.b_law_pick .nil passE0 (pa_cons (pv 0) (pa_cons pe_int (pa_cons pe_int pa_nil)))) (pv 5)))
  (pss_cons (ps_set (i := 7) sc_law_shape.nd rfl (Or.inl rfl) (pe_op op_mulB (pe_call (ok_law_pick T) (hr.mono (by decide)) rfl T.m_law_pick T.F_law_pick.kp T.b_law_pick .nil passE0 (pa_cons (pv 0) (pa_cons pe_int (pa_cons pe_int pa_nil)))) (pv 5)))
  (pss_cons (ps_if (pt_cmpR op_eq (pe_call (ok_law_pick T) (hr.mono (by decide)) rfl T.m_law_pick T.F_law_pick.kp T.b_law_pick .nil passE0 (pa_cons (pv 0) (pa_cons pe_int (pa_cons pe_int pa_nil)))) pe_int (nomark _)) (pss_cons (ps_set (i := 6) sc_law_shape.nd rfl (Or.inl rfl) pe_int)
    (pss_one (ps_set (i := 7) sc_law_shape.nd rfl (Or.inl rfl) pe_int))) pss_nil)
  (pss_one (ps_ret (pe_lst (pa_cons (pv 2) (pa_cons (pv 3) (pa_cons (pv 6) (pa_cons (pv 7) (pa_cons (pv 4) (pa_cons (pv 5) pa_nil))))))))))))))))))))), ?_⟩
  refine seq_cut (fun σ H' => ∃ w : Int, σ = [some (.ref a), some (.int w), none, none, none, none, none, none] ∧ H' = H) (fun N hN => ?_) ?_
  ·walk_at "gzn"
   refine ⟨a, ns, _, _, rfl, hS, hn, by omega, by omega, fun p p1 p2 => ?_⟩
   walk_at "gzn"
   exact hN _ _ ⟨_, rfl, rfl⟩
  rintro σ H' ⟨w, rfl, rfl⟩
  refine seq_cut (fun σ H1 => ∃ e : Int, σ = [some (.ref a), some (.int w), some (.int e), none, none, none, none, none] ∧ H1 = H' ∧ 1 ≤ e ∧ e ≤ 4) (fun N hN => ?_) ?_
  ·walk_at "gzn"
   refine ⟨a, ns, _, _, rfl, hS, hn, by omega, by omega, fun p p1 p2 => ?_⟩
   walk_at "gzn"
   exact hN _ _ ⟨_, rfl, rfl, by omega, by omega⟩
  rintro σ H ⟨e, rfl, rfl, e1, e2⟩
  refine seq_cut (fun σ H1 => ∃ t : Int, σ = [some (.ref a), some (.int w), some (.int e), some (.int t), none, none, none, none] ∧ H1 = H ∧ 1 ≤ t ∧ t ≤ 4) (fun N hN => ?_) ?_
  ·walk_at "gzn"
   refine ⟨a, ns, _, _, rfl, hS, hn, by omega, by omega, fun p p1 p2 => ?_⟩
   walk_at "gzn"
   exact hN _ _ ⟨_, rfl, rfl, by omega, by omega⟩
  rintro σ H' ⟨t, rfl, rfl, t1, t2⟩
  refine seq_cut (shI a H') (fun N hN => ?_) ?_
  ·walk_at "gzn"
   refine ⟨a, ns, _, _, rfl, hS, hn, by omega, by omega, fun p p1 p2 => ?_⟩
   walk_at "gzn"
   refine hN _ _ ⟨_, _, _, _, rfl, rfl, by omega, by omega, ?_, .inr (.inr e2)⟩
   split <;> omega
  rintro σ H ⟨w, e, t, m, rfl, rfl, hA⟩
  refine seq_cut (shI a H) (fun N hN => ?_) ?_
  ·obtain ⟨a1, a2, a3, a4⟩ := id hA
   walk_at "gzn"
   refine ite_by (fun hw => ?_) fun hw => ?_
   ·subst hw
    refine ⟨by decide, ?_⟩
    refine ⟨a, ns, _, _, rfl, hS, hn, by omega, by omega, fun p p1 p2 => ?_⟩
    walk_at "gzn"
    exact hN _ _ ⟨_, _, _, _, rfl, rfl, by omega, by omega, by omega, .inl rfl⟩
   ·exact hN _ _ ⟨_, _, _, _, rfl, rfl, hA⟩
  rintro σ H' ⟨w, e, t, m, rfl, rfl, hA⟩
  refine seq_cut (shI a H') (fun N hN => ?_) ?_
  ·obtain ⟨a1, a2, a3, a4⟩ := id hA
   walk_at "gzn"
   refine ite_by (fun hw => ?_) fun hw => ?_
   ·subst hw
    refine ⟨by decide, ?_⟩
    refine ⟨a, ns, _, _, rfl, hS, hn, by omega, by omega, fun p p1 p2 => ?_⟩
    walk_at "gzn"
    refine hN _ _ ⟨_, _, _, _, rfl, rfl, by omega, by omega, ?_, .inr (.inr (by omega))⟩
    split <;> omega
   ·exact hN _ _ ⟨_, _, _, _, rfl, rfl, hA⟩
  rintro σ H ⟨w, e, t, m, rfl, rfl, hA⟩
  refine seq_cut (shI a H) (fun N hN => ?_) ?_
  ·obtain ⟨a1, a2, a3, a4⟩ := id hA
   walk_at "gzn"
   refine ite_by (fun hw => ?_) fun hw => ?_
   ·subst hw
    refine ⟨by decide, ?_⟩
    refine ⟨a, ns, _, _, rfl, hS, hn, by omega, by omega, fun p p1 p2 => ?_⟩
    walk_at "gzn"
    exact hN _ _ ⟨_, _, _, _, rfl, rfl, by omega, by omega, by omega, .inr (.inl rfl)⟩
   ·exact hN _ _ ⟨_, _, _, _, rfl, rfl, hA⟩
  rintro σ H' ⟨w, e, t, m, rfl, rfl, hA⟩
  refine seq_cut (shI4 a H') (fun N hN => ?_) ?_
  ·obtain ⟨a1, a2, a3, a4⟩ := id hA
   walk_at "gzn"
   refine ite_by (fun hw => ?_) fun hw => ?_
   ·subst hw
    refine ⟨a, ns, _, _, rfl, hS, hn, by omega, by omega, fun p p1 p2 => ?_⟩
    walk_at "gzn"
    refine hN _ _ ⟨_, _, _, _, rfl, rfl, by omega, by omega, ?_⟩
    split <;> omega
   ·exact hN _ _ ⟨_, _, _, _, rfl, rfl, a1, a2, a3⟩
  rintro σ H ⟨w, e, t, m, rfl, rfl, hA⟩
  refine seq_cut (shJ a H) (fun N hN => ?_) ?_
  ·walk_at "gzn"
   refine ⟨⟨by decide, by decide, by decide⟩, ⟨by decide, by decide, by decide⟩, ?_⟩
   refine ⟨a, ns, _, _, rfl, hS, hn, by omega, by omega, fun f f1 f2 => ?_⟩
   walk_at "gzn"
   refine ⟨by decide, fun l hl => ?_⟩
   refine ⟨a, ns, _, _, rfl, (same_upd hl).seq hS, hn, by omega, by omega, fun p p1 p2 => ?_⟩
   obtain ⟨v, hv, ev⟩ := at_mem (vs := [1, 1, 1, 1, 1000000007, 1 + f]) p1 p2
   refine ixL (SqL.of upd_same) ev ?_
   walk_at "gzn"
   refine hN _ _ ⟨_, _, _, _, _, rfl, same_upd hl, hA, ?_⟩
   simp only [List.mem_cons, List.not_mem_nil, or_false] at hv
   omega
  rintro σ H1 ⟨w, e, t, m, f, rfl, s1, hA, f1, f2⟩
  refine seq_cut (shK a H) (fun N hN => ?_) ?_
  ·walk_at "gzn"
   refine ⟨a, ns, _, _, rfl, s1.seq hS, hn, by omega, by omega, fun p p1 p2 => ?_⟩
   walk_at "gzn"
   refine ⟨mul600 (by omega) (by omega), ?_⟩
   exact hN _ _ ⟨_, _, _, _, _, _, rfl, s1, hA, ⟨f1, f2⟩, mul6 p1 p2 f1 f2⟩
  rintro σ H2 ⟨w, e, t, m, f, u, rfl, s2, hA, ⟨f1, f2⟩, hu⟩
  refine seq_cut (shL a H) (fun N hN => ?_) ?_
  ·walk_at "gzn"
   refine ⟨a, ns, _, _, rfl, s2.seq hS, hn, by omega, by omega, fun p p1 p2 => ?_⟩
   walk_at "gzn"
   refine ⟨mul600 (by omega) (by omega), ?_⟩
   exact hN _ _ ⟨_, _, _, _, _, _, _, rfl, s2, hA, ⟨f1, f2⟩, hu, mul6 p1 p2 f1 f2⟩
  rintro σ H3 ⟨w, e, t, m, f, u, d, rfl, s3, hA, ⟨f1, f2⟩, hu, hd⟩
  refine seq_cut (shL a H) (fun N hN => ?_) ?_
  ·walk_at "gzn"
   refine ⟨a, ns, _, _, rfl, s3.seq hS, hn, by omega, by omega, fun p p1 p2 => ?_⟩
   walk_at "gzn"
   refine ite_by (fun hw => ?_) fun hw => ?_
   ·exact hN _ _ ⟨_, _, _, _, _, _, _, rfl, s3, hA, ⟨f1, f2⟩, by decide, by decide⟩
   ·exact hN _ _ ⟨_, _, _, _, _, _, _, rfl, s3, hA, ⟨f1, f2⟩, hu, hd⟩
  rintro σ H4 ⟨w, e, t, m, f, u, d, rfl, s4, hA, hf, hu, hd⟩
  walk_at "gzn"
  refine ⟨by decide, fun l hl => ?_⟩
  obtain ⟨a1, a2, a3⟩ := hA
  exact q l e t u d m f _ (s4.trans (same_upd hl)) (s4.free hl) upd_same ⟨a2, a1, hu, hd, a3, hf⟩
def okSteps (u d : Int) (cs : List Int) : Prop := ∀ i, i + 1 < cs.length → -d ≤ cs.getD (i + 1) 0 - cs.getD i 0 ∧ cs.getD (i + 1) 0 - cs.getD i 0 ≤ u
theorem okSteps.snoc {u d n k : Int} {cs : List Int} (h : okSteps u d (cs ++ [n])) (h1 : -d ≤ k - n) (h2 : k - n ≤ u) : okSteps u d (cs ++ [n] ++ [k]) := by
 intro i hi
 rw [List.length_append, List.length_append, List.length_singleton, List.length_singleton] at hi
 by_cases e : i + 1 < (cs ++ [n]).length
 ·have := h i e
  simp only [List.getD_eq_getElem?_getD] at this ⊢
  rw [List.getElem?_append_left (l₁ := cs ++ [n]) e, List.getElem?_append_left (l₁ := cs ++ [n]) (by omega)]
  exact this
 ·rw [List.length_append, List.length_singleton] at e
  have ei : i = cs.length := by omega
  subst ei
  have a1 : (cs ++ [n] ++ [k])[cs.length + 1]? = some k := by simp
  have a2 : (cs ++ [n] ++ [k])[cs.length]? = some n := by simp
  simp only [List.getD_eq_getElem?_getD, a1, a2, Option.getD_some]
  exact ⟨h1, h2⟩
def sp_course (K : PySem.W.Frag) : Sp := fun vs H Q _ => ∃ (a b : Addr) (ns : List Int) (e t u d m f : Int), vs = [.ref a, .ref b] ∧ SqL K H a (ns.map V.int) ∧ Scr ns ∧ SqL K H b (row6 e t u d m f) ∧ Shp e t u d m f ∧ ∀ (l : Addr) (cs : List Int) (H' : Hp), Same H H' → H l = none → H' l = some (.lst (cs.map V.int)) → cs.length = t.toNat → okSteps u d cs → Q (.ref l) H'
def inv_course (H : Hp) (a b l : Addr) (z u d : Int) (i : Nat) (σ : St) (H1 : Hp) : Prop := ∃ (cs : List Int) (n : Int) (e1 : Option V), σ = [some (.ref a), some (.ref b), some (.int z), some (.int n), some (.ref l), e1] ∧ Same H H1 ∧ H1 l = some (.lst ((cs ++ [n]).map V.int)) ∧ cs.length = i ∧ okSteps u d (cs ++ [n])
theorem ok_law_course (T : Tx K mg) : FnOk P w K mg base (CXX P w) 3 T.a_law_course T.fd_law_course ["_law_script", "_law_shape_here"] (sp_course K) := by
 refine okN T.F_law_course sc_law_course (fun vs H Q E h => ?_) (fun cdv A outer s H vs Q E hr h => ?_)
 ·obtain ⟨a, b, ns, e, t, u, d, m, f, rfl, _⟩ := h
  rfl
 ·obtain ⟨a, b, ns, e, t, u, d, m, f, rfl, hS, hn, hb, sh, q⟩ := h
  refine ⟨_, (pss_cons (ps_set (i := 2) sc_law_course.nd rfl (Or.inl rfl) (pe_ix ix_seq (pe_lst (pa_cons pe_int (pa_cons pe_int (pa_cons (pe_op op_pow pe_int pe_int) (pa_cons (pe_op op_mulB (pe_op op_pow pe_int pe_int) (pe_op op_pow pe_int pe_int)) pa_nil))))) (pe_call (ok_law_pick T) (hr.mono (by decide)) rfl T.m_law_pick T.F_law_pick.kp T.b_law_pick .nil passE0 (pa_cons (pv 0) (pa_cons pe_int (pa_cons pe_int pa_nil)))) (fun _ _ => rfl)))
  (pss_cons (ps_set (i := 3) sc_law_course.nd rfl (Or.inl rfl) (pe_op op_sub (pe_call (ok_law_wide T) (hr.mono (by decide)) rfl T.m_law_wide T.F_law_wide.kp T.b_law_wide .nil passE0 (pa_cons (pv 0) (pa_cons pe_int (pa_cons (pe_op op_add (pe_op op_mulB pe_int (pv 2)) pe_int) pa_nil)))) (pv 2)))
  (pss_cons (ps_set (i := 4) sc_law_course.nd rfl (Or.inl rfl) (pe_lst (pa_cons (pv 3) pa_nil)))
  (pss_cons (ps_for PassesOwn.never rfl (pi_range1 rfl T.n_range (pa_cons (pe_op op_sub (pe_ix ix_seq (pv 1) pe_int (fun _ _ => rfl)) pe_int) pa_nil)) (pg_name (i := 5) sc_law_course.nd rfl (Or.inl rfl)) (pss_cons (ps_set (i := 3) sc_law_course.nd rfl (Or.inl rfl) (pe_op op_sub (pe_op op_add (pv 3) (pe_call (ok_law_wide T) (hr.mono (by decide)) rfl T.m_law_wide T.F_law_wide.kp T.b_law_wide .nil passE0 (pa_cons (pv 0) (pa_cons (pe_op op_add pe_int (pv 5)) (pa_cons (pe_op op_add (pe_op op_add (pe_ix ix_seq (pv 1) pe_int (fun _ _ => rfl)) (pe_ix ix_seq (pv 1) pe_int (fun _ _ => rfl))) pe_int) pa_nil))))) (pe_ix ix_seq (pv 1) pe_int (fun _ _ => rfl))))
    (pss_one (ps_expr (pe_bm PySem.F.plainAttrs_list PySem.F.slot_list_append PySem.F.type_list_append mt_append (pv 4) (pa_cons (pv 3) pa_nil))))))
  (pss_one (ps_ret (pv 4))))))), ?_⟩
  obtain ⟨⟨e1, e2⟩, ⟨t1, t2⟩, ⟨u1, u2⟩, ⟨d1, d2⟩, -, -⟩ := id sh
  walk_at "gzn"
  refine ⟨⟨by decide, by decide, by decide⟩, ⟨by decide, by decide, by decide⟩, ⟨by decide, by decide, by decide⟩, mul200 (by decide) (by decide), by decide, fun r hr0 => ?_⟩
  have P1 : upd H r (.lst [V.int 9, V.int 1000, V.int 1000000000000000000, V.int 1000000000000000000000000000000000000000000000000000000000000000000000000000000000000000000000000000000000000000000000000]) r = some (.lst (([9, 1000, 1000000000000000000, 1000000000000000000000000000000000000000000000000000000000000000000000000000000000000000000000000000000000000000000000000] : List Int).map V.int)) := upd_same
  have s1 := same_upd (o := .lst [V.int 9, V.int 1000, V.int 1000000000000000000, V.int 1000000000000000000000000000000000000000000000000000000000000000000000000000000000000000000000000000000000000000000000000]) hr0
  refine ⟨a, ns, _, _, rfl, s1.seq hS, hn, by decide, by decide, fun k h1 h2 => ?_⟩
  obtain ⟨z, hz, ez⟩ := at_mem (vs := ([9, 1000, 1000000000000000000, 1000000000000000000000000000000000000000000000000000000000000000000000000000000000000000000000000000000000000000000000000] : List Int)) h1 h2
  have hz : 0 ≤ z ∧ z ≤ 1000000000000000000000000000000000000000000000000000000000000000000000000000000000000000000000000000000000000000000000000 := by
   simp only [List.mem_cons, List.not_mem_nil, or_false] at hz
   omega
  refine ixL (SqL.of P1) ez ?_
  walk_at "gzn"
  generalize upd H r (.lst [V.int 9, V.int 1000, V.int 1000000000000000000, V.int 1000000000000000000000000000000000000000000000000000000000000000000000000000000000000000000000000000000000000000000000000]) = H1 at s1 ⊢
  refine ⟨mul600 (by decide) (by omega), ?_⟩
  refine ⟨a, ns, _, _, rfl, s1.seq hS, hn, by decide, by omega, fun n0 _ _ => ?_⟩
  walk_at "gzn"
  refine ⟨by decide, fun l hl => ?_⟩
  have hl0 : H l = none := s1.free hl
  have s2 := s1.trans (same_upd (o := .lst [V.int (n0 - z)]) hl)
  refine ixL (s2.seq hb) (v := .int t) rfl ?_
  walk_at "gzn"
  refine ⟨by omega, by omega, by_range (inv_course H a b l z u d) ⟨[], _, _, rfl, s2, upd_same, rfl, fun i hi => ?_⟩ ?_ ?_⟩
  ·simp at hi
  ·rintro i σ H3 hi ⟨cs, n, e1, rfl, s3, L3, hlen, hst⟩
   walk_at "gzn"
   refine ixL (s3.seq hb) (v := .int u) rfl (ixL (s3.seq hb) (v := .int d) rfl ?_)
   walk_at "gzn"
   refine ⟨a, ns, _, _, rfl, s3.seq hS, hn, by omega, by omega, fun k k1 k2 => ?_⟩
   walk_at "gzn"
   refine ixL (s3.seq hb) (v := .int d) rfl ?_
   walk_at "gzn"
   refine ⟨.inl ⟨rfl, _, SqL.of L3⟩, _, L3, ?_, cs ++ [n], _, _, rfl, same_put hl0 s3, ?_, ?_, ?_⟩
   ·rw [List.length_map, List.length_append, List.length_singleton]
    exact Nat.lt_of_le_of_lt (by omega : _ ≤ 13) (by decide)
   ·simp only [upd_same, List.map_append, List.map_cons, List.map_nil]
   ·rw [List.length_append, List.length_singleton, hlen]
   ·exact hst.snoc (by omega) (by omega)
  ·rintro σ H3 ⟨cs, n, e1, rfl, s3, L3, hlen, hst⟩
   walk_at "gzn"
   exact q l _ H3 s3 hl0 L3 (by rw [List.length_append, List.length_singleton]; omega) hst
def sp_word (K : PySem.W.Frag) : Sp := fun vs H Q _ => ∃ (a : Addr) (ns : List Int) (k f n : Int) (b : Bool), vs = [.ref a, .int k, .int f, .int n, .bl b] ∧ SqL K H a (ns.map V.int) ∧ Scr ns ∧ (-900000 ≤ k ∧ k ≤ 900000) ∧ (1 ≤ f ∧ f ≤ 1000000000000000000000000000000000000000000000000000000000) ∧ ∀ (p : Addr) (lo hi : En) (H' : Hp), Same H H' → H p = none → H' p = some (.tup [ev lo, ev hi]) → crossed lo hi = false → (b = false → hold lo hi n = true) → Q (.ref p) H'
def wdI (a : Addr) (H : Hp) (k f n : Int) (b : Bool) (σ : St) (H' : Hp) : Prop := ∃ y lo hi : Int, σ = [some (.ref a), some (.int k), some (.int f), some (.int n), some (.bl b), some (.int y), some (.int lo), some (.int hi), none] ∧ Same H H' ∧ (1 ≤ y ∧ y ≤ 1000000000000000000000000000000000000000000000000000000000) ∧ lo ≤ hi ∧ (b = false → lo ≤ n ∧ n ≤ hi)
def wdI2 (a : Addr) (H : Hp) (k f n : Int) (b : Bool) (σ : St) (H' : Hp) : Prop := ∃ y lo hi : Int, σ = [some (.ref a), some (.int k), some (.int f), some (.int n), some (.bl b), some (.int y), some (.int lo), some (.int hi), none] ∧ Same H H' ∧ lo ≤ hi ∧ (b = false → lo ≤ n ∧ n ≤ hi)
def wdJ (a : Addr) (H : Hp) (k f n : Int) (b : Bool) (σ : St) (H' : Hp) : Prop := ∃ (y g lo : Int) (l h : En) (hi : Int), σ = [some (.ref a), some (.int k), some (.int f), some (.int n), some (.bl b), some (.int y), some (ev l), some (ev h), some (.int g)] ∧ Same H H' ∧ (l = none ∨ l = some lo) ∧ (h = none ∨ h = some hi) ∧ lo ≤ hi ∧ (b = false → lo ≤ n ∧ n ≤ hi)
theorem mulP {p y : Int} (h0 : 0 ≤ p) (y0 : 0 ≤ y) : 0 ≤ p * y := Int.mul_nonneg h0 y0
theorem ok_law_word (T : Tx K mg) : FnOk P w K mg base (CXX P w) 2 T.a_law_word T.fd_law_word ["_law_script", "_law_k", "_law_far", "_law_number", "_law_false"] (sp_word K) := by
 refine okN T.F_law_word sc_law_word (fun vs H Q E h => ?_) (fun cdv A outer s H vs Q E hr h => ?_)
 ·obtain ⟨a, ns, k, f, n, b, rfl, _⟩ := h
  rfl
 ·obtain ⟨a, ns, k, f, n, b, rfl, hS, hn, hk, hf, q⟩ := h
  refine ⟨_, (pss_cons (ps_set (i := 5) sc_law_word.nd rfl (Or.inl rfl) (pe_ix ix_seq (pe_lst (pa_cons pe_int (pa_cons (pv 2) pa_nil))) (pe_call (ok_law_pick T) (hr.mono (by decide)) rfl T.m_law_pick T.F_law_pick.kp T.b_law_pick .nil passE0 (pa_cons (pv 0) (pa_cons (pv 1) (pa_cons pe_int pa_nil)))) (fun _ _ => rfl)))
  (pss_cons (ps_set (i := 6) sc_law_word.nd rfl (Or.inl rfl) (pe_op op_sub (pv 3) (pe_op op_mulB (pe_call (ok_law_pick T) (hr.mono (by decide)) rfl T.m_law_pick T.F_law_pick.kp T.b_law_pick .nil passE0 (pa_cons (pv 0) (pa_cons (pe_op op_add (pv 1) pe_int) (pa_cons pe_int pa_nil)))) (pv 5))))
  (pss_cons (ps_set (i := 7) sc_law_word.nd rfl (Or.inl rfl) (pe_op op_add (pv 3) (pe_op op_mulB (pe_call (ok_law_pick T) (hr.mono (by decide)) rfl T.m_law_pick T.F_law_pick.kp T.b_law_pick .nil passE0 (pa_cons (pv 0) (pa_cons (pe_op op_add (pv 1) pe_int) (pa_cons pe_int pa_nil)))) (pv 5))))
  (pss_cons (ps_if (pt_val (pv 4)) (pss_cons (ps_set (i := 5) sc_law_word.nd rfl (Or.inl rfl) (pe_op op_mulB (pe_op op_sub (pe_call (ok_law_pick T) (hr.mono (by decide)) rfl T.m_law_pick T.F_law_pick.kp T.b_law_pick .nil passE0 (pa_cons (pv 0) (pa_cons (pe_op op_add (pv 1) pe_int) (pa_cons pe_int pa_nil)))) pe_int) (pv 5)))
    (pss_cons (ps_set (i := 6) sc_law_word.nd rfl (Or.inl rfl) (pe_op op_add (pv 6) (pv 5)))
    (pss_one (ps_set (i := 7) sc_law_word.nd rfl (Or.inl rfl) (pe_op op_add (pv 7) (pv 5)))))) pss_nil)
  (pss_cons (ps_set (i := 8) sc_law_word.nd rfl (Or.inl rfl) (pe_call (ok_law_pick T) (hr.mono (by decide)) rfl T.m_law_pick T.F_law_pick.kp T.b_law_pick .nil passE0 (pa_cons (pv 0) (pa_cons (pe_op op_add (pv 1) pe_int) (pa_cons pe_int pa_nil)))))
  (pss_cons (ps_if (PW.pt (pw_or (pt_cmpR op_eq (pv 8) pe_int (nomark _)) (pw_or1 (pt_cmpR op_eq (pv 8) pe_int (nomark _))))) (pss_one (ps_set (i := 6) sc_law_word.nd rfl (Or.inl rfl) pe_non)) pss_nil)
  (pss_cons (ps_if (PW.pt (pw_or (pt_cmpR op_eq (pv 8) pe_int (nomark _)) (pw_or1 (pt_cmpR op_eq (pv 8) pe_int (nomark _))))) (pss_one (ps_set (i := 7) sc_law_word.nd rfl (Or.inl rfl) pe_non)) pss_nil)
  (pss_one (ps_ret (pe_tup (pa_cons (pv 6) (pa_cons (pv 7) pa_nil)))))))))))), ?_⟩
  refine seq_cut (fun σ H' => ∃ y : Int, σ = [some (.ref a), some (.int k), some (.int f), some (.int n), some (.bl b), some (.int y), none, none, none] ∧ Same H H' ∧ 1 ≤ y ∧ y ≤ 1000000000000000000000000000000000000000000000000000000000) (fun N hN => ?_) ?_
  ·walk_at "gzn"
   refine ⟨by decide, fun l hl => ?_⟩
   refine ⟨a, ns, _, _, rfl, (same_upd hl).seq hS, hn, by omega, by omega, fun p p1 p2 => ?_⟩
   obtain ⟨v, hv, ev⟩ := at_mem (vs := [1, f]) p1 p2
   refine ixL (SqL.of upd_same) ev ?_
   walk_at "gzn"
   refine hN _ _ ⟨_, rfl, same_upd hl, ?_⟩
   simp only [List.mem_cons, List.not_mem_nil, or_false] at hv
   omega
  rintro σ H1 ⟨y, rfl, s1, y1, y2⟩
  refine seq_cut (fun σ H' => ∃ lo : Int, σ = [some (.ref a), some (.int k), some (.int f), some (.int n), some (.bl b), some (.int y), some (.int lo), none, none] ∧ H' = H1 ∧ lo ≤ n) (fun N hN => ?_) ?_
  ·walk_at "gzn"
   refine ⟨a, ns, _, _, rfl, s1.seq hS, hn, by omega, by omega, fun p p1 p2 => ?_⟩
   walk_at "gzn"
   have := mulP p1 (show 0 ≤ y by omega)
   exact ⟨mul600 (by omega) (by omega), hN _ _ ⟨_, rfl, rfl, by omega⟩⟩
  rintro σ H2 ⟨lo, rfl, rfl, l1⟩
  refine seq_cut (wdI a H k f n b) (fun N hN => ?_) ?_
  ·walk_at "gzn"
   refine ⟨a, ns, _, _, rfl, s1.seq hS, hn, by omega, by omega, fun p p1 p2 => ?_⟩
   walk_at "gzn"
   have := mulP p1 (show 0 ≤ y by omega)
   exact ⟨mul600 (by omega) (by omega), hN _ _ ⟨_, _, _, rfl, s1, ⟨y1, y2⟩, by omega, fun _ => by omega⟩⟩
  rintro σ H3 ⟨y, lo, hi, rfl, s3, hy, h1, h2⟩
  refine seq_cut (wdI2 a H k f n b) (fun N hN => ?_) ?_
  ·cases b with
   | true =>
    walk_at "gzn"
    refine ⟨a, ns, _, _, rfl, s3.seq hS, hn, by omega, by omega, fun p p1 p2 => ?_⟩
    walk_at "gzn"
    exact ⟨mul600 (by omega) (by omega), hN _ _ ⟨_, _, _, rfl, s3, by omega, fun z => nomatch z⟩⟩
   | false =>
    walk_at "gzn"
    exact hN _ _ ⟨_, _, _, rfl, s3, h1, h2⟩
  rintro σ H4 ⟨y, lo, hi, rfl, s4, h1, h2⟩
  refine seq_cut (wdJ a H k f n b) (fun N hN => ?_) ?_
  ·walk_at "gzn"
   refine ⟨a, ns, _, _, rfl, s4.seq hS, hn, by omega, by omega, fun p p1 p2 => ?_⟩
   walk_at "gzn"
   exact hN _ _ ⟨_, _, lo, some lo, some hi, hi, rfl, s4, .inr rfl, .inr rfl, h1, h2⟩
  rintro σ H5 ⟨y, g, lo, l, h, hi, rfl, s5, hl, hh, h1, h2⟩
  refine seq_cut (wdJ a H k f n b) (fun N hN => ?_) ?_
  ·walk_at "gzn"
   have none_ := hN _ _ ⟨y, g, lo, none, h, hi, rfl, s5, .inl rfl, hh, h1, h2⟩
   have same_ := hN _ _ ⟨y, g, lo, l, h, hi, rfl, s5, hl, hh, h1, h2⟩
   exact ite_by (fun _ => none_) fun _ => ite_by (fun _ => none_) fun _ => same_
  rintro σ H6 ⟨y, g, lo, l, h, hi, rfl, s6, hl, hh, h1, h2⟩
  refine seq_cut (wdJ a H k f n b) (fun N hN => ?_) ?_
  ·walk_at "gzn"
   have none_ := hN _ _ ⟨y, g, lo, l, none, hi, rfl, s6, hl, .inl rfl, h1, h2⟩
   have same_ := hN _ _ ⟨y, g, lo, l, h, hi, rfl, s6, hl, hh, h1, h2⟩
   exact ite_by (fun _ => none_) fun _ => ite_by (fun _ => none_) fun _ => same_
  rintro σ H7 ⟨y, g, lo, l, h, hi, rfl, s7, hl, hh, h1, h2⟩
  walk_at "gzn"
  refine ⟨line2, fun p hp => q p l h _ (s7.trans (same_upd hp)) (s7.free hp) upd_same ?_ fun hb => hold_iff.mpr ⟨?_, ?_⟩⟩
  ·rcases hl with rfl | rfl <;> rcases hh with rfl | rfl <;> simp [crossed] <;> omega
  ·intro x hx
   rcases hl with rfl | rfl <;> cases hx
   exact (h2 hb).1
  ·intro x hx
   rcases hh with rfl | rfl <;> cases hx
   exact (h2 hb).2
end
section
seal L2.PE L2.PS L2.PSs L2.PA
variable {P : Program} {w : World} {K : PySem.W.Frag} {mg : Str → Option Value} {base : Heap}
def sp_marksof (K : PySem.W.Frag) (B : Addr) : Sp := fun vs H Q _ => ∃ (x p : Addr) (e t u d m i : Int) (tb : Tb), vs = [.ref x, .int i] ∧ BrdT B H x e t u d m p tb ∧ (tb.map (·.1)).Nodup ∧ tb.length < 64 ∧ (∀ r ∈ tb, 0 ≤ r.1.2) ∧ ∀ l ys H', Same H H' → H l = none → H' l = some (.lst ys) → All2 (IsMk H') ys (marksO tb i) → Q (.ref l) H'
theorem ok_marks_of (T : Tx K mg) : FnOk P w K mg base (CXX P w) 2 T.a_marks_of T.fd_marks_of ["board", "eye"] (sp_marksof K T.C_Board) := by
 refine okN T.F_marks_of sc_marks_of (fun vs H Q E h => ?_) (fun cdv A outer s H vs Q E hr h => ?_)
 ·obtain ⟨x, p, e, t, u, d, m, i, tb, rfl, _⟩ := h
  rfl
 ·obtain ⟨x, p, e, t, u, d, m, i, tb, rfl, hb, hnd, h64, h0, q⟩ := h
  refine ⟨_, (pss_one (ps_ret (pe_compG (g := gTup K 3 (gCons (gName 0) (gCons (gName 1) (gCons (gName 2) gNil)))) (CompOkG.mk (own := ["teller", "turn", "word"]) (fr := [1]) (ys := ["eye"]) rfl (by decide +kernel) rfl (by decide +kernel) rfl (.cons rfl .nil) (.cons rfl rfl rfl rfl .nil) rfl) rfl (pi_list (pe_meth0 (pv 0) T.cl_Board T.me_Board_tellings (ok_Board_tellings T) (hr.mono (by decide)) T.b_Board_tellings .nil passE0)) (fun C s2 H2 ex pn => pg_tup (n := 3) rfl (pgs_cons (pg_name (i := 0) (show (["teller", "turn", "word", "eye"] : List Str).Nodup by decide) rfl (.inl (lookup_relabel_local rfl)) (.inr (lookup_relabel_local rfl))) (pgs_cons (pg_name (i := 1) (show (["teller", "turn", "word", "eye"] : List Str).Nodup by decide) rfl (.inl (lookup_relabel_local rfl)) (.inr (lookup_relabel_local rfl))) (pgs_cons (pg_name (i := 2) (show (["teller", "turn", "word", "eye"] : List Str).Nodup by decide) rfl (.inl (lookup_relabel_local rfl)) (.inr (lookup_relabel_local rfl))) pgs_nil)))) (fun C s2 H2 ex pn => ⟨(pts_one (pt_cmpR op_eq (pv 0) (pv 3) (nomark _))), (pe_tup (pa_cons (pv 1) (pa_cons (pv 2) pa_nil)))⟩)))), ?_⟩
  obtain ⟨⟨dx, hx⟩, htb⟩ := id hb
  walk_at "gzn"
  refine ⟨_, _, hx, rfl, x, p, e, t, u, d, m, tb, rfl, hb, hnd, h64, fun l xs H1 s1 _ hl hT => ?_⟩
  have tl := hT.len
  rw [srtT_len] at tl
  refine ⟨l, rfl, ⟨_, SqL.of hl⟩, blk_row3 (row := rowOf H1) (Nat.le_trans (by omega : xs.length ≤ 64) (by decide)) (compGo_fnew (R := fun _ x (r : P2 × S2) => IsTr H1 x r) (R' := IsMk) (p := fun r => decide (r.1.1 = i)) (f := fun r => (r.1.2.toNat, r.2)) (fun _ _ _ _ _ h => h) (fun _ _ _ _ s' h => h.same s') hT (bs := []) trivial (fun H' s' => tr_rows hl hT s') (fun x r _ H2 s2 h1 Q h => ?_) (fun x r hr0 hp H2 s2 h1 Q h => ?_) fun H2 zs s2 hz => ?_)⟩
  ·obtain ⟨ta, w, rfl, ha, hw⟩ := h1
   unfold rowT
   dsimp only
   rw [rowOf_tup ha]
   walk_at "gzn"
   exact h
  ·obtain ⟨ta, w, rfl, ha, wp, rfl, hw⟩ := h1
   unfold rowE
   dsimp only
   rw [rowOf_tup ha]
   walk_at "gzn"
   have hr1 := h0 r (srtT_mem hr0)
   refine ⟨line2, fun t1 ht1 => h _ _ (same_upd ht1) ⟨t1, wp, rfl, ?_, (same_upd ht1) _ _ (s2 _ _ hw)⟩⟩
   rw [upd_same]
   show some (HO.tup [.int r.1.2, .ref wp]) = some (.tup [.int ((r.1.2.toNat : Nat) : Int), .ref wp])
   rw [Int.toNat_of_nonneg hr1]
  ·rw [List.nil_append] at hz
   intro l2 hl2
   exact q l2 zs _ (s1.trans (s2.trans (same_upd hl2))) ((s1.trans s2).free hl2) upd_same (hz.imp fun _ _ r => r.same (same_upd hl2))
theorem mk_rows {K : PySem.W.Frag} {H1 H' : Hp} {l : Addr} {ys : List V} {ms : List Mk} (hl : H1 l = some (.lst ys)) (hM : All2 (IsMk H1) ys ms) (s : Same H1 H') : RowOk K l ys (rowOf H1) 2 H' := by
 refine ⟨SqL.of (s _ _ hl), fun x hx => ?_⟩
 obtain ⟨i, hi⟩ := List.mem_iff_getElem?.mp hx
 obtain ⟨m, _, t, p, rfl, h1, h2⟩ := hM.get hi
 rw [rowOf_tup h1]
 exact ⟨t, rfl, SqT.of (s _ _ h1), rfl⟩
theorem bl_map : ∀ {ws : List V} {bs : List Bool}, All2 (fun v b => v = V.bl b) ws bs → ws = bs.map V.bl
 | [], [], _ => rfl
 | _ :: _, _ :: _, h => by rw [h.1, bl_map h.2]; rfl
 | [], _ :: _, h => h.elim
 | _ :: _, [], h => h.elim
theorem int_map : ∀ {ws : List V} {bs : List Int}, All2 (fun v b => v = V.int b) ws bs → ws = bs.map V.int
 | [], [], _ => rfl
 | _ :: _, _ :: _, h => by rw [h.1, int_map h.2]; rfl
 | [], _ :: _, h => h.elim
 | _ :: _, [], h => h.elim
theorem marksO_len (tb : Tb) (i : Int) : (marksO tb i).length ≤ tb.length := by
 unfold marksO
 rw [List.length_map]
 exact Nat.le_trans (List.length_filter_le _ _) (by rw [srtT_len]; exact Nat.le_refl _)
def sp_lying (K : PySem.W.Frag) (B : Addr) : Sp := fun vs H Q _ => ∃ (x p c : Addr) (e t u d m i : Int) (tb : Tb) (cs : List Int), vs = [.ref x, .int i, .ref c] ∧ BrdT B H x e t u d m p tb ∧ okT e t tb ∧ tb.length < 64 ∧ SqL K H c (cs.map V.int) ∧ cs.length = t.toNat ∧ ∀ H', Same H H' → Q (.bl (lyB tb cs i)) H'
theorem ok_is_lying (T : Tx K mg) : FnOk P w K mg base (CXX P w) 3 T.a_is_lying T.fd_is_lying ["board", "eye", "course"] (sp_lying K T.C_Board) := by
 refine okN T.F_is_lying sc_is_lying (fun vs H Q E h => ?_) (fun cdv A outer s H vs Q E hr h => ?_)
 ·obtain ⟨x, p, c, e, t, u, d, m, i, tb, cs, rfl, _⟩ := h
  rfl
 ·obtain ⟨x, p, c, e, t, u, d, m, i, tb, cs, rfl, hb, hok, h64, hc, hcl, q⟩ := h
  refine ⟨_, (pss_one (ps_ret (pe_not (pe_callB (call_allL rfl) (by rfl) T.n_all b_all (pa_cons (pe_compG (g := gTup K 2 (gCons (gName 0) (gCons (gName 1) gNil))) (CompOkG.mk (own := ["turn", "word"]) (fr := [2]) (ys := ["course"]) rfl (by decide +kernel) rfl (by decide +kernel) rfl (.cons rfl .nil) (.cons rfl rfl rfl rfl .nil) rfl) rfl (pi_list (pe_call (ok_marks_of T) (hr.mono (by decide)) rfl T.m_marks_of T.F_marks_of.kp T.b_marks_of .nil passE0 (pa_cons (pv 0) (pa_cons (pv 1) pa_nil)))) (fun C s2 H2 ex pn => pg_tup (n := 2) rfl (pgs_cons (pg_name (i := 0) (show (["turn", "word", "course"] : List Str).Nodup by decide) rfl (.inl (lookup_relabel_local rfl)) (.inr (lookup_relabel_local rfl))) (pgs_cons (pg_name (i := 1) (show (["turn", "word", "course"] : List Str).Nodup by decide) rfl (.inl (lookup_relabel_local rfl)) (.inr (lookup_relabel_local rfl))) pgs_nil))) (fun C s2 H2 ex pn => ⟨pts_nil, (pe_call (ok_holds T) (hr.mono (by decide)) rfl T.m_holds T.F_holds.kp T.b_holds .nil passE0 (pa_cons (pv 1) (pa_cons (pe_ix (ix_seqK (K := K) rfl) (pv 2) (pv 0) (fun _ _ => rfl)) pa_nil)))⟩)) pa_nil))))), ?_⟩
  walk_at "gzn"
  refine ⟨x, p, e, t, u, d, m, i, tb, rfl, hb, hok.1, h64, fun r hr => (hok.2 r hr).2.1, fun l ys H1 s1 _ hl hM => ?_⟩
  have yl := hM.len
  have ml := marksO_len tb i
  refine ⟨l, rfl, ⟨_, SqL.of hl⟩, blk_row2 (row := rowOf H1) (Nat.le_trans (by omega : ys.length ≤ 64) (by decide)) (compGo_new (R := fun _ x (k : Mk) => IsMk H1 x k) (R' := fun _ v (b : Bool) => v = V.bl b) (f := fun k => hold k.2.1 k.2.2 (nAt cs k.1)) (fun _ _ _ _ _ h => h) (fun _ _ _ _ _ h => h) hM (bs := []) trivial (fun H' s' => mk_rows hl hM s') (fun v k _ H2 s2 h1 Q h => ?_) (fun v k hk H2 s2 h1 Q h => ?_) fun H2 zs s2 hz => ?_)⟩
  ·obtain ⟨ta, wp, rfl, ha, hw⟩ := h1
   unfold rowT
   dsimp only
   rw [rowOf_tup ha]
   walk_at "gzn"
   exact h
  ·obtain ⟨ta, wp, rfl, ha, hw⟩ := h1
   obtain ⟨r, hr, _, rfl⟩ := mem_marksO.mp hk
   have onb := (hok.2 r hr).2
   unfold rowE
   dsimp only
   rw [rowOf_tup ha]
   walk_at "gzn"
   refine ixL ((s1.trans s2).seq hc) (atI_nat (nAt_get (by omega))) ?_
   exact ⟨_, _, _, _, rfl, ⟨wp, rfl, s2 _ _ hw⟩, h _ _ (Same.refl _) rfl⟩
  rw [List.nil_append] at hz
  have ez := bl_map hz
  subst ez
  intro l2 hl2
  walk_at "gzn"
  refine ⟨_, SqL.of upd_same, ?_⟩
  have e1 : (((marksO tb i).map fun k => hold k.2.1 k.2.2 (nAt cs k.1)).all id) = ((marksO tb i).all fun k => hold k.2.1 k.2.2 (nAt cs k.1)) := by rw [List.all_map]; rfl
  rw [e1]
  exact q _ (s1.trans (s2.trans (same_upd hl2)))
def sp_liars (K : PySem.W.Frag) (B : Addr) : Sp := fun vs H Q _ => ∃ (x p c : Addr) (e t u d m : Int) (tb : Tb) (cs : List Int), vs = [.ref x, .ref c] ∧ BrdT B H x e t u d m p tb ∧ (1 ≤ e ∧ e ≤ 7) ∧ okT e t tb ∧ tb.length < 64 ∧ SqL K H c (cs.map V.int) ∧ cs.length = t.toNat ∧ ∀ l H', Same H H' → H l = none → H' l = some (.lst ((liarL e tb cs).map V.int)) → Q (.ref l) H'
theorem ok_liars (T : Tx K mg) : FnOk P w K mg base (CXX P w) 4 T.a_liars T.fd_liars ["board", "course"] (sp_liars K T.C_Board) := by
 refine okN T.F_liars sc_liars (fun vs H Q E h => ?_) (fun cdv A outer s H vs Q E hr h => ?_)
 ·obtain ⟨x, p, c, e, t, u, d, m, tb, cs, rfl, _⟩ := h
  rfl
 ·obtain ⟨x, p, c, e, t, u, d, m, tb, cs, rfl, hb, he, hok, h64, hc, hcl, q⟩ := h
  refine ⟨_, (pss_one (ps_ret (pe_comp (CompOk.mk (fr := [0, 1]) (ys := ["board", "course"]) rfl (by decide +kernel) rfl (by decide +kernel) rfl rfl (.cons rfl (.cons rfl .nil)) (.cons rfl rfl rfl rfl (.cons rfl rfl rfl rfl .nil)) (by decide) rfl) rfl (pi_range1 rfl T.n_range (pa_cons (pe_fld (pv 0) rfl) pa_nil)) (fun C s2 H2 ex pn => ⟨(pts_one (pt_val (pe_call (ok_is_lying T) (hr.mono (by decide)) rfl T.m_is_lying T.F_is_lying.kp T.b_is_lying .nil passE0 (pa_cons (pv 1) (pa_cons (pv 0) (pa_cons (pv 2) pa_nil)))))), (pv 0)⟩)))), ?_⟩
  obtain ⟨⟨dx, hx⟩, htb⟩ := id hb
  walk_at "gzn"
  refine ⟨_, _, _, hx, T.cl_Board, T.no_Board_eyes, _, rfl, ?_⟩
  walk_at "gzn"
  refine ⟨by omega, by omega, ?_⟩
  have A : All2 (fun v (k : Int) => v = V.int k) ((List.range e.toNat).map fun k => V.int (0 + (k : Nat))) ((List.range e.toNat).map fun (k : Nat) => (k : Int)) := by
   generalize List.range e.toNat = ks
   induction ks with
   | nil => exact trivial
   | cons k ks ih => exact ⟨by show V.int (0 + (k : Int)) = V.int (k : Int); rw [Int.zero_add], ih⟩
  refine blk_of it_rng (Nat.le_trans (by rw [List.length_map, List.length_range]; omega : _ ≤ 64) (by decide)) (compGo_sel (R := fun _ v (k : Int) => v = V.int k) (p := lyB tb cs) (fun _ _ _ _ _ h => h) A (fun _ _ => trivial) (fun v k _ H3 s3 r Q h => ?_) (fun v H3 s3 Q h => ?_) fun H3 zs s3 hz => ?_)
  ·subst r
   walk_at "gzn"
   refine ⟨x, p, c, e, t, u, d, m, k, tb, cs, rfl, hb.same s3, hok, h64, s3.seq hc, hcl, fun H' s' => ?_⟩
   walk_at "gzn"
   exact h _ s'
  ·walk_at "gzn"
   exact h
  rw [List.nil_append]
  have ez := int_map hz
  subst ez
  intro l hl
  exact q l _ (s3.trans (same_upd hl)) (s3.free hl) upd_same
end
section
seal L2.PE L2.PS L2.PSs L2.PA
variable {P : Program} {w : World} {K : PySem.W.Frag} {mg : Str → Option Value} {base : Heap}
theorem pw_one {H : Hp} {u d : Int} (h : -d ≤ u) {n : Nat} {ys : List V} (hy : All2 (IsW H) ys (pacesW u d [] n)) : All2 (fun v (_ : Nat) => IsS2 H v (some (-d), some u)) ys (List.range n) := by
 have e : pacesW u d [] n = (List.range n).map fun _ => some (some (-d), some u) := by
  unfold pacesW
  refine List.map_congr_left fun k _ => ?_
  show comW (none, none) [(some (-d), some u)] = some (some (-d), some u)
  unfold comW
  rw [if_neg]
  ·rfl
  ·show ¬ (crossed (some (-d)) (some u)) = true
   simp [crossed]
   omega
 rw [e] at hy
 exact (All2.bind hy).imp fun _ _ z => z
def okK (u d : Int) (cs : List Int) (n : Nat) : Bool := (List.range n).all fun k => hold (some (-d)) (some u) (nAt cs (k + 1) - nAt cs k)
def sp_keeps (K : PySem.W.Frag) : Sp := fun vs H Q _ => ∃ (a c : Addr) (xs : List V) (u d : Int) (n : Nat) (cs : List Int), vs = [.ref a, .ref c] ∧ SqL K H a xs ∧ All2 (fun v (_ : Nat) => IsS2 H v (some (-d), some u)) xs (List.range n) ∧ n ≤ 100 ∧ SqL K H c (cs.map V.int) ∧ cs.length = n + 1 ∧ ∀ H', Same H H' → Q (.bl (okK u d cs n)) H'
theorem ok_keeps (T : Tx K mg) : FnOk P w K mg base (CXX P w) 3 T.a_keeps T.fd_keeps ["steps", "course"] (sp_keeps K) := by
 refine okN T.F_keeps sc_keeps (fun vs H Q E h => ?_) (fun cdv A outer s H vs Q E hr h => ?_)
 ·obtain ⟨a, c, xs, u, d, n, cs, rfl, _⟩ := h
  rfl
 ·obtain ⟨a, c, xs, u, d, n, cs, rfl, ha, hA, hn, hc, hcl, q⟩ := h
  refine ⟨_, (pss_one (ps_ret (pe_callB (call_allL rfl) (by rfl) T.n_all b_all (pa_cons (pe_compG (g := gTup K 3 (gCons (gName 0) (gCons (gName 1) (gCons (gName 2) gNil)))) (CompOkG.mk (own := ["step", "ahead", "after"]) (fr := []) (ys := []) rfl (by decide +kernel) rfl (by decide +kernel) rfl .nil .nil rfl) rfl (pi_zip3 rfl T.n_zip (pa_cons (pv 0) (pa_cons (pv 1) (pa_cons (pe_slice sl_list (pv 1) (po_some pe_int) po_none) pa_nil)))) (fun C s2 H2 ex pn => pg_tup (n := 3) rfl (pgs_cons (pg_name (i := 0) (show (["step", "ahead", "after"] : List Str).Nodup by decide) rfl (.inl (lookup_relabel_local rfl)) (.inr (lookup_relabel_local rfl))) (pgs_cons (pg_name (i := 1) (show (["step", "ahead", "after"] : List Str).Nodup by decide) rfl (.inl (lookup_relabel_local rfl)) (.inr (lookup_relabel_local rfl))) (pgs_cons (pg_name (i := 2) (show (["step", "ahead", "after"] : List Str).Nodup by decide) rfl (.inl (lookup_relabel_local rfl)) (.inr (lookup_relabel_local rfl))) pgs_nil)))) (fun C s2 H2 ex pn => ⟨pts_nil, (pe_call (ok_holds T) (hr.mono (by decide)) rfl T.m_holds T.F_holds.kp T.b_holds .nil passE0 (pa_cons (pv 0) (pa_cons (pe_op op_sub (pv 2) (pv 1)) pa_nil)))⟩)) pa_nil)))), ?_⟩
  have xl := hA.len
  rw [List.length_range] at xl
  walk_at "gzn"
  refine ⟨_, hc, fun p hp => ?_⟩
  have ec : cutV (cs.map V.int) (some 1) none = (cs.map V.int).drop 1 := cutV_from _ 1
  rw [ec]
  have u1 := same_upd (o := .lst ((cs.map V.int).drop 1)) hp
  refine ⟨⟨_, u1.seq ha⟩, ⟨_, u1.seq hc⟩, ⟨_, SqL.of upd_same⟩, blk_zip3 (n := n) (f := fun i => V.bl (hold (some (-d)) (some u) (nAt cs (i + 1) - nAt cs i))) (Nat.le_trans hn (by decide)) (u1.seq ha) (u1.seq hc) (SqL.of upd_same) xl (by rw [List.length_map]; omega) (by rw [List.length_drop, List.length_map]; omega) (fun i x y z H' hi hx hy hz s' Q h => ?_) fun H' s' l hl => ?_⟩
  ·obtain ⟨_, _, tp, rfl, htp⟩ := hA.get hx
   rw [nAt_get (by omega)] at hy
   rw [List.getElem?_drop, Nat.add_comm 1 i, nAt_get (by omega)] at hz
   cases hy
   cases hz
   walk_at "gzn"
   exact ⟨_, _, _, _, rfl, ⟨tp, rfl, (u1.trans s') _ _ htp⟩, h _ (Same.refl _)⟩
  ·refine ⟨l, rfl, (List.range n).map fun i => hold (some (-d)) (some u) (nAt cs (i + 1) - nAt cs i), SqL.of (by rw [upd_same, List.map_map]; rfl), ?_⟩
   rw [List.all_map]
   exact q _ (u1.trans (s'.trans (same_upd hl)))
def sp_fits (K : PySem.W.Frag) (B : Addr) : Sp := fun vs H Q _ => ∃ (x p c : Addr) (e t u d m : Int) (tb : Tb) (cs : List Int), vs = [.ref x, .ref c] ∧ BrdT B H x e t u d m p tb ∧ (1 ≤ e ∧ e ≤ 7) ∧ (1 ≤ t ∧ t ≤ 12) ∧ 0 ≤ u ∧ 0 ≤ d ∧ okT e t tb ∧ tb.length < 64 ∧ SqL K H c (cs.map V.int) ∧ cs.length = t.toNat ∧ ∀ H', Same H H' → Q (.bl (okK u d cs (t - 1).toNat && decide (((liarL e tb cs).length : Int) ≤ m))) H'
theorem ok_fits (T : Tx K mg) : FnOk P w K mg base (CXX P w) 5 T.a_fits T.fd_fits ["board", "course"] (sp_fits K T.C_Board) := by
 refine okN T.F_fits sc_fits (fun vs H Q E h => ?_) (fun cdv A outer s H vs Q E hr h => ?_)
 ·obtain ⟨x, p, c, e, t, u, d, m, tb, cs, rfl, _⟩ := h
  rfl
 ·obtain ⟨x, p, c, e, t, u, d, m, tb, cs, rfl, hb, he, ht, hu, hd, hok, h64, hc, hcl, q⟩ := h
  refine ⟨_, (pss_one (ps_ret (pe_and (pe_call (ok_keeps T) (hr.mono (by decide)) rfl T.m_keeps T.F_keeps.kp T.b_keeps .nil passE0 (pa_cons (pe_call (ok_paces T) (hr.mono (by decide)) rfl T.m_paces T.F_paces.kp T.b_paces .nil passE0 (pa_cons (pv 0) (pa_cons (pe_lst pa_nil) pa_nil))) (pa_cons (pv 1) pa_nil))) (pe_one (pe_cmpR op_le (pe_callB call_len (by rfl) T.n_len b_len (pa_cons (pe_call (ok_liars T) (hr.mono (by decide)) rfl T.m_liars T.F_liars.kp T.b_liars .nil passE0 (pa_cons (pv 0) (pa_cons (pv 1) pa_nil))) pa_nil)) (pe_fld (pv 0) rfl) (nomark _)))))), ?_⟩
  obtain ⟨⟨dx, hx⟩, kvs, hk, hT⟩ := id hb
  walk_at "gzn"
  refine ⟨Nat.zero_le _, fun r hr0 => ?_⟩
  have u1 := same_upd (o := .lst []) hr0
  refine ⟨x, p, r, e, t, u, d, m, kvs, [], [], rfl, ⟨⟨dx, u1 _ _ hx⟩, u1 _ _ hk⟩, ht.1, ht.2, SqL.of upd_same, trivial, by decide, fun z => absurd (fun _ h => (nomatch h)) z, fun _ st ys H1 s1 _ hst hy => ?_⟩
  have S1 := u1.trans s1
  refine ⟨st, c, ys, u, d, (t - 1).toNat, cs, rfl, SqL.of hst, pw_one (by omega) hy, by omega, S1.seq hc, by omega, fun H2 s2 => ⟨_, rfl, ite_by (fun h1 => ?_) fun h1 => ?_⟩⟩
  ·have SS := S1.trans s2
   rw [h1] at q
   refine ⟨x, p, c, e, t, u, d, m, tb, cs, rfl, hb.same SS, he, hok, h64, SS.seq hc, hcl, fun l H3 s3 _ hl => ⟨_, lenL (SqL.of hl), _, _, _, (SS.trans s3) _ _ hx, T.cl_Board, T.no_Board_most, _, rfl, _, rfl, ?_⟩⟩
   rw [List.length_map]
   exact q _ (SS.trans s3)
  ·have h1 : okK u d cs (t - 1).toNat = false := by simpa using h1
   rw [h1] at q
   exact q _ (S1.trans s2)
end
section
seal L2.PE L2.PS L2.PSs L2.PA
variable {P : Program} {w : World} {K : PySem.W.Frag} {mg : Str → Option Value} {base : Heap}
theorem putT_in {tb : Tb} {s : P2} {w : S2} {r : P2 × S2} (h : r ∈ putT tb s w) : r ∈ tb ∨ r.2 = w := by
 unfold putT at h
 split at h
 ·obtain ⟨x, hx, rfl⟩ := List.mem_map.mp h
  by_cases e : x.1 = s
  ·rw [if_pos e]; exact .inr rfl
  ·rw [if_neg e]; exact .inl hx
 ·rcases List.mem_append.mp h with z | z
  ·exact .inl z
  ·rw [List.mem_singleton.mp z]; exact .inr rfl
def sp_words (K : PySem.W.Frag) : Sp := fun vs H Q _ => ∃ (a b c : Addr) (ns cs : List Int) (e t u d m f : Int), vs = [.ref a, .ref b, .ref c] ∧ SqL K H a (ns.map V.int) ∧ Scr ns ∧ SqL K H b (row6 e t u d m f) ∧ Shp e t u d m f ∧ SqL K H c (cs.map V.int) ∧ cs.length = t.toNat ∧ ∀ (q : Addr) (tb : Tb) (H' : Hp), Same H H' → H q = none → TabAt H' q tb → okT e t tb → tb.length ≤ 24 → (∀ r ∈ tb, crossed r.2.1 r.2.2 = false) → Q (.ref q) H'
def wdT (H : Hp) (e t : Int) (q : Addr) (H1 : Hp) : Prop := ∃ tb, Same H H1 ∧ H q = none ∧ TabAt H1 q tb ∧ okT e t tb ∧ tb.length ≤ 24 ∧ ∀ r ∈ tb, crossed r.2.1 r.2.2 = false
def inv_wo (σ0 : Option V → Option V → Option V → Option V → St) (H : Hp) (e t : Int) (q : Addr) (_ : Nat) (σ : St) (H1 : Hp) : Prop := ∃ e1 e2 e3 e4, σ = σ0 e1 e2 e3 e4 ∧ wdT H e t q H1
theorem ok_law_words (T : Tx K mg) : FnOk P w K mg base (CXX P w) 3 T.a_law_words T.fd_law_words ["_law_script", "_law_shape_here", "_law_course_here"] (sp_words K) := by
 refine okN T.F_law_words sc_law_words (fun vs H Q E h => ?_) (fun cdv A outer s H vs Q E hr h => ?_)
 ·obtain ⟨a, b, c, ns, cs, e, t, u, d, m, f, rfl, _⟩ := h
  rfl
 ·obtain ⟨a, b, c, ns, cs, e, t, u, d, m, f, rfl, hS, hn, hb, sh, hc, hcl, q⟩ := h
  refine ⟨_, (pss_cons (ps_set (i := 3) sc_law_words.nd rfl (Or.inl rfl) pe_dnew2)
  (pss_cons (ps_set (i := 4) sc_law_words.nd rfl (Or.inl rfl) pe_int)
  (pss_cons (ps_set (i := 5) sc_law_words.nd rfl (Or.inl rfl) pe_int)
  (pss_cons (ps_if (pt_cmpR op_gt (pe_op op_mulB (pe_ix ix_seq (pv 1) pe_int (fun _ _ => rfl)) (pe_ix ix_seq (pv 1) pe_int (fun _ _ => rfl))) pe_int (nomark _)) (pss_cons (ps_set (i := 4) sc_law_words.nd rfl (Or.inl rfl) pe_int)
    (pss_one (ps_set (i := 5) sc_law_words.nd rfl (Or.inl rfl) pe_int))) pss_nil)
  (pss_cons (ps_for PassesOwn.never rfl (pi_range1 rfl T.n_range (pa_cons (pe_ix ix_seq (pv 1) pe_int (fun _ _ => rfl)) pa_nil)) (pg_name (i := 6) sc_law_words.nd rfl (Or.inl rfl)) (pss_cons (ps_set (i := 7) sc_law_words.nd rfl (Or.inl rfl) (pe_cmpR op_eq (pe_call (ok_law_pick T) (hr.mono (by decide)) rfl T.m_law_pick T.F_law_pick.kp T.b_law_pick .nil passE0 (pa_cons (pv 0) (pa_cons (pe_op op_add pe_int (pv 6)) (pa_cons pe_int pa_nil)))) pe_int (nomark _)))
    (pss_one (ps_for PassesOwn.never rfl (pi_range1 rfl T.n_range (pa_cons (pe_ix ix_seq (pv 1) pe_int (fun _ _ => rfl)) pa_nil)) (pg_name (i := 8) sc_law_words.nd rfl (Or.inl rfl)) (pss_cons (ps_set (i := 9) sc_law_words.nd rfl (Or.inl rfl) (pe_op op_add pe_int (pe_op op_mulB pe_int (pe_op op_add (pe_op op_mulB (pv 6) (pe_ix ix_seq (pv 1) pe_int (fun _ _ => rfl))) (pv 8)))))
      (pss_one (ps_if (PW.pt (pw_and (pt_cmpR op_lt (pe_callB call_lenD (by rfl) T.n_len b_len (pa_cons (pv 3) pa_nil)) (pv 5) (nomark _)) (pw_and1 (pt_cmpR op_gt (pe_call (ok_law_pick T) (hr.mono (by decide)) rfl T.m_law_pick T.F_law_pick.kp T.b_law_pick .nil passE0 (pa_cons (pv 0) (pa_cons (pv 9) (pa_cons (pv 4) pa_nil)))) (pe_op op_sub (pv 4) pe_int) (nomark _))))) (pss_one (ps_dput (hu_of hr) (pv 3) (pe_tup (pa_cons (pv 6) (pa_cons (pv 8) pa_nil))) (pe_call (ok_law_word T) (hr.mono (by decide)) rfl T.m_law_word T.F_law_word.kp T.b_law_word .nil passE0 (pa_cons (pv 0) (pa_cons (pe_op op_add (pv 9) pe_int) (pa_cons (pe_ix ix_seq (pv 1) pe_int (fun _ _ => rfl)) (pa_cons (pe_ix ix_seq (pv 2) (pv 8) (fun _ _ => rfl)) (pa_cons (pv 7) pa_nil)))))) rfl)) pss_nil)))))))
  (pss_one (ps_ret (pv 3)))))))), ?_⟩
  obtain ⟨⟨e1, e2⟩, ⟨t1, t2⟩, -, -, -, hf⟩ := id sh
  refine seq_cut (fun σ H1 => ∃ w, σ = [some (.ref a), some (.ref b), some (.ref c), some (.ref w), none, none, none, none, none, none] ∧ wdT H e t w H1) (fun N hN => ?_) ?_
  ·walk_at "gzn"
   exact fun w hw0 => hN _ _ ⟨w, rfl, [], same_upd hw0, hw0, ⟨[], upd_same, trivial⟩, okT.nil, Nat.zero_le _, fun _ h => (nomatch h)⟩
  rintro σ H1 ⟨w, rfl, hw⟩
  obtain ⟨_, s1, _⟩ := id hw
  refine seq_cut (fun σ H2 => σ = [some (.ref a), some (.ref b), some (.ref c), some (.ref w), some (.int 4), none, none, none, none, none] ∧ H2 = H1) (fun N hN => ?_) ?_
  ·walk_at "gzn"
   exact hN _ _ ⟨rfl, rfl⟩
  rintro σ H2 ⟨rfl, rfl⟩
  refine seq_cut (fun σ H3 => σ = [some (.ref a), some (.ref b), some (.ref c), some (.ref w), some (.int 4), some (.int 24), none, none, none, none] ∧ H3 = H2) (fun N hN => ?_) ?_
  ·walk_at "gzn"
   exact hN _ _ ⟨rfl, rfl⟩
  rintro σ H3 ⟨rfl, rfl⟩
  refine seq_cut (fun σ H4 => ∃ dn lm : Int, σ = [some (.ref a), some (.ref b), some (.ref c), some (.ref w), some (.int dn), some (.int lm), none, none, none, none] ∧ H4 = H3 ∧ (dn = 4 ∨ dn = 16) ∧ 0 ≤ lm ∧ lm ≤ 24) (fun N hN => ?_) ?_
  ·walk_at "gzn"
   refine ixL (s1.seq hb) (v := .int e) rfl (ixL (s1.seq hb) (v := .int t) rfl ?_)
   walk_at "gzn"
   refine ⟨mul600 (by omega) (by omega), ite_by (fun _ => hN _ _ ⟨16, 16, rfl, rfl, .inr rfl, by decide, by decide⟩) fun _ => hN _ _ ⟨4, 24, rfl, rfl, .inl rfl, by decide, by decide⟩⟩
  rintro σ H4 ⟨dn, lm, rfl, rfl, hdn, hlm⟩
  refine seq_cut (inv_wo (fun e1 e2 e3 e4 => [some (.ref a), some (.ref b), some (.ref c), some (.ref w), some (.int dn), some (.int lm), e1, e2, e3, e4]) H e t w 0) (fun N hN => ?_) ?_
  ·walk_at "gzn"
   refine ixL (s1.seq hb) (v := .int e) rfl ?_
   walk_at "gzn"
   refine ⟨by omega, by omega, by_range (inv_wo (fun e1 e2 e3 e4 => [some (.ref a), some (.ref b), some (.ref c), some (.ref w), some (.int dn), some (.int lm), e1, e2, e3, e4]) H e t w) ⟨_, _, _, _, rfl, hw⟩ ?_ (fun σ H' h => hN _ _ h)⟩
   rintro i σ H5 hi ⟨e1, e2, e3, e4, rfl, hw5⟩
   obtain ⟨_, s5, _⟩ := id hw5
   walk_at "gzn"
   refine ⟨a, ns, _, _, rfl, s5.seq hS, hn, by omega, by omega, fun p p1 p2 => ?_⟩
   walk_at "gzn"
   refine ixL (s5.seq hb) (v := .int t) rfl ?_
   walk_at "gzn"
   refine ⟨by omega, by omega, by_range (inv_wo (fun e1 e2 e3 e4 => [some (.ref a), some (.ref b), some (.ref c), some (.ref w), some (.int dn), some (.int lm), some (.int (0 + (i : Int))), some (.bl (decide (p = 1))), e3, e4]) H e t w) ⟨none, none, _, _, rfl, hw5⟩ ?_ ?_⟩
   ·rintro j σ H6 hj ⟨_, _, e3, e4, rfl, hw6⟩
    obtain ⟨tb, s6, hw0, ⟨kvs, hk, hT⟩, hok, h24, hcr⟩ := id hw6
    have bi : (i : Int) < e := by omega
    have bj : (j : Int) < t := by omega
    have tl := hT.len
    have bm : 0 ≤ (0 + (i : Int)) * t ∧ (0 + (i : Int)) * t ≤ 6 * 12 := ⟨Int.mul_nonneg (by omega) (by omega), Int.mul_le_mul (by omega) t2 (by omega) (by decide)⟩
    walk_at "gzn"
    refine ixL (s6.seq hb) (v := .int t) rfl ⟨_, rfl, mul600 (by omega) (by omega), mul600 (by decide) (by omega), kvs, hk, ite_by (fun hlt => ?_) fun _ => ⟨none, none, _, _, rfl, hw6⟩⟩
    refine ⟨a, ns, _, _, rfl, s6.seq hS, hn, by omega, by omega, fun r r1 r2 => ⟨_, rfl, ite_by (fun _ => ?_) fun _ => ⟨none, none, _, _, rfl, hw6⟩⟩⟩
    refine ixL (s6.seq hb) (v := .int f) rfl (ixL (s6.seq hc) (int_at (by omega) (by omega)) ?_)
    refine ⟨a, ns, _, _, _, _, rfl, s6.seq hS, hn, by omega, hf, fun wp lo hi H7 s7 _ hwp hcw _ => ⟨line2, fun k hk0 => ?_⟩⟩
    have u := same_upd (o := .tup [.int (0 + (i : Int)), .int (0 + (j : Int))]) hk0
    have hk7 := (s7.trans u) _ _ hk
    refine ⟨_, DPut.t (k := spot (0 + (i : Int)) (0 + (j : Int))) hk7 upd_same (Nat.lt_of_le_of_lt (by omega : kvs.length ≤ 24) (by decide)), none, none, _, _, rfl, putT tb (0 + (i : Int), 0 + (j : Int)) (lo, hi), same_put hw0 (s6.trans (s7.trans u)), hw0, ⟨_, upd_same, ?_⟩, hok.put ⟨⟨by show 0 ≤ 0 + (i : Int); omega, by show 0 + (i : Int) < e; omega⟩, by show 0 ≤ 0 + (j : Int); omega, by show 0 + (j : Int) < t; omega⟩, ?_, fun r hr => ?_⟩
    ·have F : Fr _ (upd _ w (.dT (putK kvs (spot (0 + (i : Int)) (0 + (j : Int))) (.ref wp)))) := fr_upd hk7
     exact TabAs.put (s := (0 + (i : Int), 0 + (j : Int))) (w := (lo, hi)) (hT.imp fun v a b z => (IsS.same z (s7.trans u)).fr F) (IsS.fr ⟨wp, rfl, u _ _ hwp⟩ F)
    ·have := putT_len tb (0 + (i : Int), 0 + (j : Int)) (lo, hi)
     omega
    ·rcases putT_in hr with z | z
     ·exact hcr r z
     ·rw [z]; exact hcw
   ·rintro σ H6 ⟨_, _, e3, e4, rfl, hw6⟩
    exact ⟨_, _, _, _, rfl, hw6⟩
  rintro σ H5 ⟨e1, e2, e3, e4, rfl, tb, s5, hw0, hT, hok, h24, hcr⟩
  walk_at "gzn"
  exact q w tb H5 s5 hw0 hT hok h24 hcr
end
section
seal L2.PE L2.PS L2.PSs L2.PA
variable {P : Program} {w : World} {K : PySem.W.Frag} {mg : Str → Option Value} {base : Heap}
theorem All2.rev {α : Type} {R : V → α → Prop} : ∀ {xs : List V} {as : List α}, All2 R xs as → All2 R xs.reverse as.reverse
 | [], [], _ => trivial
 | x :: xs, a :: as, h => by rw [List.reverse_cons, List.reverse_cons]; exact (All2.rev h.2).app ⟨h.1, trivial⟩
 | [], _ :: _, h => h.elim
 | _ :: _, [], h => h.elim
theorem putT_new {tb : Tb} {s : P2} {w : S2} (h : s ∉ tb.map (·.1)) : putT tb s w = tb ++ [(s, w)] := by
 unfold putT
 rw [if_neg]
 intro z
 obtain ⟨r, hr, e⟩ := List.any_eq_true.mp z
 exact h (List.mem_map.mpr ⟨r, hr, by simpa using e⟩)
theorem nd_take {α β : Type} {f : α → β} {l : List α} {i : Nat} {a : α} (h : (l.map f).Nodup) (ha : l[i]? = some a) : f a ∉ (l.take i).map f := by
 have hi := (List.getElem?_eq_some_iff.mp ha).1
 have e : l = l.take i ++ a :: l.drop (i + 1) := by
  have := List.take_append_drop i l
  rw [List.drop_eq_getElem_cons hi] at this
  rw [List.getElem?_eq_getElem hi] at ha
  cases ha
  exact this.symm
 intro hm
 have h2 : ((l.take i).map f ++ f a :: (l.drop (i + 1)).map f).Nodup := by
  rw [← List.map_cons, ← List.map_append, ← e]
  exact h
 exact (List.nodup_append.mp h2).2.2 _ hm _ (.head _) rfl
def inv_lb (B : Addr) (H3 : Hp) (a b w x l p : Addr) (e t u d m : Int) (rs : Tb) (i : Nat) (σ : St) (H4 : Hp) : Prop := (∃ e1 e2, σ = [some (.ref a), some (.ref b), some (.ref w), some (.ref x), some (.ref l), e1, e2]) ∧ But [p] H3 H4 ∧ BrdT B H4 x e t u d m p (rs.take i)
def sp_lboard (K : PySem.W.Frag) (B : Addr) : Sp := fun vs H Q _ => ∃ (a b q : Addr) (ns : List Int) (e t u d m f : Int) (tb : Tb), vs = [.ref a, .ref b, .ref q] ∧ SqL K H a (ns.map V.int) ∧ Scr ns ∧ SqL K H b (row6 e t u d m f) ∧ Shp e t u d m f ∧ TabAt H q tb ∧ okT e t tb ∧ tb.length ≤ 30 ∧ (∀ r ∈ tb, crossed r.2.1 r.2.2 = false) ∧ ∀ (x p : Addr) (rs : Tb) (H' : Hp), Same H H' → H x = none → H p = none → BrdT B H' x e t u d m p rs → (rs = tb ∨ rs = tb.reverse) → Q (.ref x) H'
theorem ok_law_board (T : Tx K mg) : FnOk P w K mg base (CXX P w) 4 T.a_law_board T.fd_law_board ["_law_script", "_law_shape_here", "_law_told_here"] (sp_lboard K T.C_Board) := by
 refine okN T.F_law_board sc_law_board (fun vs H Q E h => ?_) (fun cdv A outer s H vs Q E hr h => ?_)
 ·obtain ⟨a, b, q, ns, e, t, u, d, m, f, tb, rfl, _⟩ := h
  rfl
 ·obtain ⟨a, b, w, ns, e, t, u, d, m, f, tb, rfl, hS, hn, hb, sh, hT, hok, h30, hcr, q⟩ := h
  refine ⟨_, (pss_cons (ps_set (i := 3) sc_law_board.nd rfl (Or.inl rfl) (pe_make T.mk_Board (ok_Board_init__ T) (hr.mono (by decide)) rfl T.c_Board T.b_Board_init__ .nil passE0 (pa_cons (pe_ix ix_seq (pv 1) pe_int (fun _ _ => rfl)) (pa_cons (pe_ix ix_seq (pv 1) pe_int (fun _ _ => rfl)) (pa_cons (pe_ix ix_seq (pv 1) pe_int (fun _ _ => rfl)) (pa_cons (pe_ix ix_seq (pv 1) pe_int (fun _ _ => rfl)) (pa_cons (pe_ix ix_seq (pv 1) pe_int (fun _ _ => rfl)) pa_nil)))))))
  (pss_cons (ps_set (i := 4) sc_law_board.nd rfl (Or.inl rfl) (pe_callTy (call_listD rfl) (by rfl) T.n_list b_list (pa_cons (pv 2) pa_nil)))
  (pss_cons (ps_if (pt_cmpR op_eq (pe_call (ok_law_pick T) (hr.mono (by decide)) rfl T.m_law_pick T.F_law_pick.kp T.b_law_pick .nil passE0 (pa_cons (pv 0) (pa_cons pe_int (pa_cons pe_int pa_nil)))) pe_int (nomark _)) (pss_one (ps_expr (pe_bm0 PySem.F.plainAttrs_list PySem.F.slot_list_reverse PySem.F.type_list_reverse mt_reverse (pv 4)))) pss_nil)
  (pss_cons (ps_for PassesOwn.never rfl (pi_list (pv 4)) (pg_tup rfl (pgs_cons (pg_name (i := 5) sc_law_board.nd rfl (Or.inl rfl)) (pgs_cons (pg_name (i := 6) sc_law_board.nd rfl (Or.inl rfl)) pgs_nil))) (pss_one (ps_expr (pe_meth (pv 3) T.cl_Board T.me_Board_tell (ok_Board_tell T) (hr.mono (by decide)) T.b_Board_tell .nil passE0 (pa_cons (pv 5) (pa_cons (pv 6) (pa_cons (pe_ix ix_seq (pe_dget (hu_of hr) (pv 2) (pe_tup (pa_cons (pv 5) (pa_cons (pv 6) pa_nil))) (fun _ _ => rfl)) pe_int (fun _ _ => rfl)) (pa_cons (pe_ix ix_seq (pe_dget (hu_of hr) (pv 2) (pe_tup (pa_cons (pv 5) (pa_cons (pv 6) pa_nil))) (fun _ _ => rfl)) pe_int (fun _ _ => rfl)) pa_nil))))))))
  (pss_one (ps_ret (pv 3))))))), ?_⟩
  obtain ⟨⟨e1, e2⟩, ⟨t1, t2⟩, ⟨u1, _⟩, ⟨d1, _⟩, ⟨m1, m2⟩, hf⟩ := id sh
  refine seq_cut (fun σ H1 => ∃ x p, σ = [some (.ref a), some (.ref b), some (.ref w), some (.ref x), none, none, none] ∧ Same H H1 ∧ H x = none ∧ H p = none ∧ BrdT T.C_Board H1 x e t u d m p []) (fun N hN => ?_) ?_
  ·walk_at "gzn"
   refine ixL hb (v := .int e) rfl (ixL hb (v := .int t) rfl (ixL hb (v := .int u) rfl (ixL hb (v := .int d) rfl (ixL hb (v := .int m) rfl fun x dx hx hdx hnd => ?_))))
   have okb : okB e t u d m := ⟨⟨e1, e2⟩, ⟨t1, t2⟩, u1, d1, m1, m2⟩
   refine ⟨x, dx, e, t, u, d, m, rfl, upd_same, fun z => absurd okb z, fun _ p H1 hp s1 X1 P1 => ⟨rfl, ?_⟩⟩
   have M := made_same (C := T.C_Board) (fs := []) hx hdx hnd
   have S1 : Same H H1 := fun b o e => s1 b o (fun z => by rw [z, hx] at e; cases e) (M _ _ e)
   exact hN _ _ ⟨x, p, rfl, S1, hx, M.free hp, ⟨⟨_, X1⟩, [], P1, trivial⟩⟩
  rintro σ H1 ⟨x, p, rfl, s1, fx, fp, hB⟩
  obtain ⟨kvs, hk, hA⟩ := hT
  refine seq_cut (fun σ H2 => ∃ l ys, σ = [some (.ref a), some (.ref b), some (.ref w), some (.ref x), some (.ref l), none, none] ∧ Same H1 H2 ∧ H1 l = none ∧ H2 l = some (.lst ys) ∧ Pts H2 ys (tb.map (·.1))) (fun N hN => ?_) ?_
  ·walk_at "gzn"
   refine ⟨kvs, s1 _ _ hk, fun l ys hl hks => hN _ _ ⟨l, ys, rfl, same_upd hl, hl, upd_same, ?_⟩⟩
   exact ((TabAs.imp (fun v a b z => IsS.same z s1) hA).pts hks).imp fun _ _ r => r.same (same_upd hl)
  rintro σ H2 ⟨l, ys, rfl, s2, fl, hl, hY⟩
  refine seq_cut (fun σ H3 => ∃ (ys : List V) (rs : Tb), σ = [some (.ref a), some (.ref b), some (.ref w), some (.ref x), some (.ref l), none, none] ∧ Same H1 H3 ∧ H3 l = some (.lst ys) ∧ Pts H3 ys (rs.map (·.1)) ∧ (rs = tb ∨ rs = tb.reverse)) (fun N hN => ?_) ?_
  ·walk_at "gzn"
   refine ⟨a, ns, _, _, rfl, (s1.trans s2).seq hS, hn, by omega, by omega, fun pp pp1 pp2 => ?_⟩
   walk_at "gzn"
   refine ite_by (fun _ => ?_) fun _ => hN _ _ ⟨ys, tb, rfl, s2, hl, hY, .inl rfl⟩
   refine ⟨.inl ⟨rfl, _, SqL.of hl⟩, _, hl, hN _ _ ⟨ys.reverse, tb.reverse, rfl, same_put fl s2, upd_same, ?_, .inr rfl⟩⟩
   rw [List.map_reverse]
   exact Pts.put (All2.rev hY) hl
  rintro σ H3 ⟨ys, rs, rfl, s3, hl3, hY3, hrs⟩
  have rok : okT e t rs := by
   rcases hrs with rfl | rfl
   ·exact hok
   ·refine ⟨?_, fun r hr => hok.2 r (List.mem_reverse.mp hr)⟩
    rw [List.map_reverse]
    exact (List.reverse_perm _).nodup_iff.mpr hok.1
  have rmem : ∀ r ∈ rs, r ∈ tb := fun r hr => by
   rcases hrs with rfl | rfl
   ·exact hr
   ·exact List.mem_reverse.mp hr
  have rlen : rs.length ≤ 30 := by
   rcases hrs with rfl | rfl
   ·exact h30
   ·rw [List.length_reverse]; exact h30
  have yl := hY3.len
  rw [List.length_map] at yl
  refine seq_cut (fun σ H4 => (∃ e1 e2, σ = [some (.ref a), some (.ref b), some (.ref w), some (.ref x), some (.ref l), e1, e2]) ∧ Same H H4 ∧ BrdT T.C_Board H4 x e t u d m p rs) (fun N hN => ?_) ?_
  ·walk_at "gzn"
   have S3 := s1.trans s3
   have hB3 := hB.same s3
   obtain ⟨⟨dx, hx3⟩, kp, hp3, hA3⟩ := id hB3
   have lp : l ≠ p := fun z => by rw [z, hp3] at hl3; cases hl3
   have wp : w ≠ p := fun z => by rw [z, fp] at hk; cases hk
   refine ⟨⟨_, SqL.of hl3⟩, by_list (xs := ys) (inv_lb T.C_Board H3 a b w x l p e t u d m rs) ⟨⟨_, _, rfl⟩, fun _ _ _ z => z, hB3⟩ ?_ ?_ ?_⟩
   ·rintro i σ H4 _ ⟨_, bu, _⟩
    exact SqL.of (bu l _ (by simpa using lp) hl3)
   ·rintro i y σ H4 hy ⟨⟨e1, e2, rfl⟩, bu, hB4⟩
    obtain ⟨r1, hr1, ty, rfl, hty⟩ := hY3.get hy
    rw [List.getElem?_map] at hr1
    obtain ⟨r, hr, rfl⟩ := Option.map_eq_some_iff.mp hr1
    have typ : ty ≠ p := fun z => by rw [z, hp3] at hty; cases hty
    have rin := rmem r (List.mem_of_getElem? hr)
    have hw4 := bu w _ (by simpa using wp) (S3 _ _ hk)
    obtain ⟨⟨dx4, hx4⟩, kq, hp4, hA4⟩ := id hB4
    obtain ⟨v, hv, iv⟩ := (hA.val r.1).2 _ (valT_mem hok.1 rin)
    obtain ⟨va, rfl, hva⟩ := id iv
    have vap : va ≠ p := fun z => by rw [z, fp] at hva; cases hva
    have hva4 := bu va _ (by simpa using vap) (S3 _ _ hva)
    refine gTup2 (SqT.of (bu ty _ (by simpa using typ) hty)) ?_
    walk_at "gzn"
    refine ⟨_, _, hx4, rfl, line2, fun k1 hk1 => ?_⟩
    have v1 := same_upd (o := .tup [.int r.1.1, .int r.1.2]) hk1
    refine ⟨.ref va, by rw [← hv]; exact DGet.t (k := spot r.1.1 r.1.2) (v1 _ _ hw4) upd_same, ixT (SqT.of (v1 _ _ hva4)) rfl ⟨line2, fun k2 hk2 => ?_⟩⟩
    have v2 := same_upd (o := .tup [.int r.1.1, .int r.1.2]) hk2
    have V12 := v1.trans v2
    refine ⟨.ref va, by rw [← hv]; exact DGet.t (k := spot r.1.1 r.1.2) (V12 _ _ hw4) upd_same, ixT (SqT.of (V12 _ _ hva4)) rfl ?_⟩
    have onb := rok.2 r (List.mem_of_getElem? hr)
    have kl := hA4.len
    rw [List.length_take] at kl
    have xp : x ≠ p := fun z => by rw [z, hp4] at hx4; cases hx4
    refine ⟨x, p, e, t, u, d, m, r.1.1, r.1.2, r.2.1, r.2.2, kq, rfl, ⟨⟨dx4, V12 _ _ hx4⟩, V12 _ _ hp4⟩, by omega, fun z => absurd ⟨onb, hcr r rin⟩ z, fun _ v9 H9 sb hp9 iv9 => ⟨⟨_, _, rfl⟩, fun c o hc ec => sb c o (by simpa using hc) (V12 c o (bu c o hc ec)), ?_⟩⟩
    have ek : rs.take (i + 1) = putT (rs.take i) r.1 r.2 := by
     rw [putT_new (nd_take rok.1 hr), List.take_succ, hr]
     rfl
    rw [ek]
    exact ⟨⟨dx4, sb x _ xp (V12 _ _ hx4)⟩, _, hp9, TabAs.put (hA4.imp fun v a b z => (IsS.same z V12).fr (SameBut.fr sb (V12 _ _ hp4))) iv9⟩
   ·rintro σ H4 ⟨⟨e1, e2, rfl⟩, bu, hB4⟩
    rw [yl, List.take_length] at hB4
    exact hN _ _ ⟨⟨_, _, rfl⟩, fun c o ec => bu c o (by simpa using fun z => by rw [z, fp] at ec; cases ec) (S3 c o ec), hB4⟩
  rintro σ H4 ⟨⟨e1, e2, rfl⟩, s4, hB4⟩
  walk_at "gzn"
  exact q x p rs H4 s4 fx fp hB4 hrs
def sp_lin (K : PySem.W.Frag) : Sp := fun vs H Q _ => ∃ (p : Addr) (lo hi : En) (n : Int), vs = [.ref p, .int n] ∧ SqT K H p [ev lo, ev hi] ∧ Q (.bl (hold lo hi n)) H
theorem ok_law_in (T : Tx K mg) : FnOk P w K mg base (CXX P w) 1 T.a_law_in T.fd_law_in ["_law_span", "_law_number"] (sp_lin K) := by
 refine okN T.F_law_in sc_law_in (fun vs H Q E h => ?_) (fun cdv A outer s H vs Q E hr h => ?_)
 ·obtain ⟨p, lo, hi, n, rfl, _⟩ := h
  rfl
 ·obtain ⟨p, lo, hi, n, rfl, hp, q⟩ := h
  refine ⟨_, (pss_cons (ps_if (PW.pt (pw_and (pt_cmp (pc_notN (pe_ix ix_seq (pv 0) pe_int (fun _ _ => rfl)))) (pw_and1 (pt_cmpR op_lt (pv 1) (pe_ix ix_seq (pv 0) pe_int (fun _ _ => rfl)) (nomark _))))) (pss_one (ps_ret pe_bl)) pss_nil)
  (pss_one (ps_ret (pe_or (pe_cmp (pc_isN (pe_ix ix_seq (pv 0) pe_int (fun _ _ => rfl)))) (pe_one (pe_cmpR op_le (pv 1) (pe_ix ix_seq (pv 0) pe_int (fun _ _ => rfl)) (nomark _))))))), ?_⟩
  rcases lo with _ | lo <;> rcases hi with _ | hi
  all_goals simp only [ev_none, ev_some] at hp
  all_goals
   walk_at "gzn"
   repeat' first
   | refine ixT hp rfl ?_
   | (walk_at "gzp")
   | (refine ite_by (fun hc => ?_) fun hc => ?_)
  all_goals first
   | exact q
   | (rw [hold_out _ hc] at q; exact q)
   | (rw [hold_lo _ hc] at q; exact q)
   | (rw [hold_hi] at q; exact q)
   | (rw [hold_lo _ hc, hold_hi] at q; exact q)
end
section
seal L2.PE L2.PS L2.PSs L2.PA
variable {P : Program} {w : World} {K : PySem.W.Frag} {mg : Str → Option Value} {base : Heap}
def badE (tb : Tb) (cs : List Int) (i : Int) : Prop := ∃ r ∈ tb, r.1.1 = i ∧ hs r.2 (nAt cs r.1.2.toNat) = false
def sp_lliars (K : PySem.W.Frag) : Sp := fun vs H Q _ => ∃ (w c : Addr) (e t : Int) (tb : Tb) (cs : List Int), vs = [.ref w, .ref c] ∧ TabAt H w tb ∧ okT e t tb ∧ tb.length ≤ 60 ∧ SqL K H c (cs.map V.int) ∧ cs.length = t.toNat ∧ ∀ (l : Addr) (es : List Int) (H' : Hp), Same H H' → H l = none → H' l = some (.lst (es.map V.int)) → es.Nodup → (∀ i, i ∈ es ↔ badE tb cs i) → es.length ≤ tb.length → Q (.ref l) H'
def inv_ll (G H3 : Hp) (w c l : Addr) (tb : Tb) (cs : List Int) (i : Nat) (σ : St) (H4 : Hp) : Prop := ∃ (es : List Int) (e1 e2 : Option V), σ = [some (.ref w), some (.ref c), some (.ref l), e1, e2] ∧ Same G H4 ∧ SameBut l H3 H4 ∧ H4 l = some (.lst (es.map V.int)) ∧ es.Nodup ∧ (∀ j, j ∈ es ↔ badE (tb.take i) cs j) ∧ es.length ≤ i
theorem bad_snoc {tb : Tb} {cs : List Int} {r : P2 × S2} {i : Nat} (h : tb[i]? = some r) (j : Int) : badE (tb.take (i + 1)) cs j ↔ badE (tb.take i) cs j ∨ (r.1.1 = j ∧ hs r.2 (nAt cs r.1.2.toNat) = false) := by
 unfold badE
 rw [List.take_succ, h]
 constructor
 ·rintro ⟨q, hq, h1, h2⟩
  rcases List.mem_append.mp hq with z | z
  ·exact .inl ⟨q, z, h1, h2⟩
  ·obtain rfl : q = r := by simpa using z
   exact .inr ⟨h1, h2⟩
 ·rintro (⟨q, hq, h1, h2⟩ | ⟨h1, h2⟩)
  ·exact ⟨q, List.mem_append_left _ hq, h1, h2⟩
  ·exact ⟨r, List.mem_append_right _ (by simp), h1, h2⟩
theorem ok_law_liars (T : Tx K mg) : FnOk P w K mg base (CXX P w) 2 T.a_law_liars T.fd_law_liars ["_law_told_here", "_law_course_here"] (sp_lliars K) := by
 refine okN T.F_law_liars sc_law_liars (fun vs H Q E h => ?_) (fun cdv A outer s H vs Q E hr h => ?_)
 ·obtain ⟨w, c, e, t, tb, cs, rfl, _⟩ := h
  rfl
 ·obtain ⟨w, c, e, t, tb, cs, rfl, hT, hok, h60, hc, hcl, q⟩ := h
  refine ⟨_, (pss_cons (ps_set (i := 2) sc_law_liars.nd rfl (Or.inl rfl) (pe_lst pa_nil))
  (pss_cons (ps_frz (ps_for PassesOwn.never rfl (pi_dict (pv 0)) (pg_tup rfl (pgs_cons (pg_name (i := 3) sc_law_liars.nd rfl (Or.inl rfl)) (pgs_cons (pg_name (i := 4) sc_law_liars.nd rfl (Or.inl rfl)) pgs_nil))) (pss_one (ps_if (PW.pt (pw_and (pt_not (pt_val (pe_call (ok_law_in T) (hr.mono (by decide)) rfl T.m_law_in T.F_law_in.kp T.b_law_in .nil passE0 (pa_cons (pe_dget (hu_of hr) (pv 0) (pe_tup (pa_cons (pv 3) (pa_cons (pv 4) pa_nil))) (fun _ _ => rfl)) (pa_cons (pe_ix ix_seq (pv 1) (pv 4) (fun _ _ => rfl)) pa_nil))))) (pw_and1 (pt_cmpR op_notIn_seq (pv 3) (pv 2) (by with_unfolding_all rfl))))) (pss_one (ps_expr (pe_bm PySem.F.plainAttrs_list PySem.F.slot_list_append PySem.F.type_list_append mt_append (pv 2) (pa_cons (pv 3) pa_nil)))) pss_nil))))
  (pss_one (ps_ret (pv 2))))), ?_⟩
  refine seq_cut (fun σ H1 => ∃ l, σ = [some (.ref w), some (.ref c), some (.ref l), none, none] ∧ Same H H1 ∧ H l = none ∧ H1 l = some (.lst [])) (fun N hN => ?_) ?_
  ·walk_at "gzn"
   exact ⟨Nat.zero_le _, fun l hl => hN _ _ ⟨l, rfl, same_upd hl, hl, upd_same⟩⟩
  rintro σ H1 ⟨l, rfl, s1, fl, hl⟩
  obtain ⟨kvs, hk0, hA⟩ := id hT
  have hkv := s1 _ _ hk0
  refine seq_cut (fun σ H2 => ∃ (es : List Int) (e1 e2 : Option V), σ = [some (.ref w), some (.ref c), some (.ref l), e1, e2] ∧ Same H H2 ∧ H2 l = some (.lst (es.map V.int)) ∧ es.Nodup ∧ (∀ j, j ∈ es ↔ badE tb cs j) ∧ es.length ≤ tb.length) (fun N hN => ?_) ?_
  ·walk_at "gzn"
   refine ⟨w, kvs, hkv, fun o => ⟨o, kvs, upd_same, fun hks => ?_⟩⟩
   have hAG := hA.frz hk0 (u := .frz o (.dT kvs))
   have PT := (TabAs.frz (hA.imp fun _ _ _ z => IsS.same z s1) hkv (u := .frz o (.dT kvs))).pts hks
   have kl := PT.len
   rw [List.length_map] at kl
   have wl : l ≠ w := fun z => by rw [z, hk0] at fl; cases fl
   have hl' : upd H1 w (.frz o (.dT kvs)) l = some (.lst []) := frz_lst hkv hl
   have hcG : SqL K (upd H w (.frz o (.dT kvs))) c (cs.map V.int) := seq_frz hk0 hc
   have lG : upd H w (.frz o (.dT kvs)) l = none := by rw [upd_ne wl]; exact fl
   have wG : upd H w (.frz o (.dT kvs)) w = some (.frz o (.dT kvs)) := upd_same
   have sG : Same (upd H w (.frz o (.dT kvs))) (upd H1 w (.frz o (.dT kvs))) := fun b u h => by
    by_cases hb : b = w
    ·subst hb; rw [upd_same] at h ⊢; exact h
    ·rw [upd_ne hb] at h ⊢; exact s1 _ _ h
   have thw : ∀ H4, Same (upd H w (.frz o (.dT kvs))) H4 → Same H (upd H4 w (.dT kvs)) := fun H4 s4 => same_thaw hk0 s4
   generalize upd H1 w (.frz o (.dT kvs)) = H3 at PT hl' sG hks
   generalize upd H w (.frz o (.dT kvs)) = G at hAG hcG lG wG sG thw
   refine by_dict (xs := keysO o) (inv_ll G H3 w c l tb cs) rfl (by rw [kl, hA.len]) ⟨[], _, _, rfl, sG, fun _ _ _ z => z, hl', List.nodup_nil, fun j => ⟨fun z => (nomatch z), fun ⟨r, hr, _⟩ => by simp at hr⟩, Nat.le_refl _⟩ ?_ ?_ ?_
   ·rintro i σ H4 _ ⟨es, e1, e2, _, s4, _⟩
    exact s4 _ _ wG
   ·rintro i v σ H4 hv ⟨es, e1, e2, rfl, s4, sb, hl4, hnd, hmem, hlen⟩
    obtain ⟨s0, hs0, ka, rfl, hka⟩ := PT.get hv
    rw [List.getElem?_map] at hs0
    obtain ⟨r, hr, rfl⟩ := Option.map_eq_some_iff.mp hs0
    have rin := List.mem_of_getElem? hr
    obtain ⟨⟨b1, b2⟩, b3, b4⟩ := hok.2 r rin
    have hil := (List.getElem?_eq_some_iff.mp hr).1
    obtain ⟨vv, hvv, va, rfl, hva⟩ := (hAG.val r.1).2 _ (valT_mem hok.1 rin)
    have hka4 := sb ka _ (fun z => by rw [z, hl'] at hka; cases hka) hka
    have mem1 : ∀ (b : Bool), hs r.2 (nAt cs r.1.2.toNat) = b → (b = true ∨ r.1.1 ∈ es) → ∀ j, j ∈ es ↔ badE (tb.take (i + 1)) cs j := fun b hb h j => by
     rw [bad_snoc hr j, hmem j]
     constructor
     ·exact fun z => .inl z
     ·rintro (z | ⟨z1, z2⟩)
      ·exact z
      ·rcases h with h | h
       ·rw [h] at hb; rw [hb] at z2; cases z2
       ·rw [← z1]; exact (hmem _).mp h
    refine gTup2 (SqT.of hka4) ?_
    walk_at "gzn"
    refine ⟨line2, fun p hp => ?_⟩
    have up := same_upd (o := .tup [.int r.1.1, .int r.1.2]) hp
    have kp : upd H4 p (.tup [.int r.1.1, .int r.1.2]) p = some (.tup [.int r.1.1, .int r.1.2]) := upd_same
    have S5 := s4.trans up
    have sb5 : SameBut l H3 (upd H4 p (.tup [.int r.1.1, .int r.1.2])) := fun b o hb h => up _ _ (sb b o hb h)
    have l5 := up _ _ hl4
    generalize upd H4 p (.tup [.int r.1.1, .int r.1.2]) = H5 at kp S5 sb5 l5
    refine ⟨.ref va, by rw [← hvv]; exact DGet.z (k := spot r.1.1 r.1.2) (S5 _ _ wG) kp, ixL (S5.seq hcG) ((congrArg (atI _) (show r.1.2 = ((r.1.2.toNat : Nat) : Int) by omega)).trans (atI_nat (nAt_get (by omega)))) ⟨va, r.2.1, r.2.2, nAt cs r.1.2.toNat, rfl, SqT.of (S5 _ _ hva), ⟨_, rfl, ite_by (fun hf => ?_) fun hf => ?_⟩⟩⟩
    ·refine ⟨l, _, rfl, .inl (SqL.of l5), rfl, flat_ints es, ⟨_, rfl, ?_⟩⟩
     rw [if_pos rfl, in_ints]
     refine ite_by (fun hk => ?_) fun hk => ?_
     ·have hnin : r.1.1 ∉ es := by simpa using hk
      refine ⟨.inl ⟨rfl, _, SqL.of l5⟩, _, l5, Nat.lt_of_le_of_lt (by rw [List.length_map]; omega : _ ≤ 60) (by decide), es ++ [r.1.1], _, _, rfl, same_put lG S5, fun b o hb h => by rw [upd_ne hb]; exact sb5 b o hb h, by rw [upd_same, List.map_append]; rfl, List.nodup_append.mpr ⟨hnd, List.nodup_cons.mpr ⟨by simp, List.nodup_nil⟩, fun a ha b hb => by
       obtain rfl : b = r.1.1 := by simpa using hb
       exact fun z => hnin (z ▸ ha)⟩, fun j => ?_, by rw [List.length_append, List.length_singleton]; omega⟩
      rw [bad_snoc hr j, List.mem_append, hmem j, List.mem_singleton]
      exact ⟨fun z => z.imp id fun z => ⟨z.symm, hf⟩, fun z => z.imp id fun z => z.1.symm⟩
     ·have hin : r.1.1 ∈ es := by simpa using hk
      exact ⟨es, _, _, rfl, S5, sb5, l5, hnd, mem1 _ rfl (.inr hin), by omega⟩
    ·exact ⟨es, _, _, rfl, S5, sb5, l5, hnd, mem1 _ rfl (.inl (show hold r.2.1 r.2.2 (nAt cs r.1.2.toNat) = true by simpa using hf)), by omega⟩
   ·rintro σ H4 ⟨es, e1, e2, rfl, s4, sb, hl4, hnd, hmem, hlen⟩
    have tl : (keysO o).length = tb.length := kl
    rw [tl] at hlen hmem
    rw [List.take_length] at hmem
    have w4 := s4 _ _ wG
    exact ⟨w4, hN _ _ ⟨es, e1, e2, rfl, thw _ s4, thaw_lst w4 hl4, hnd, hmem, hlen⟩⟩
  rintro σ H2 ⟨es, e1, e2, rfl, s2, hl2, hnd, hmem, hlen⟩
  walk_at "gzn"
  exact q l es H2 s2 fl hl2 hnd hmem hlen
end
section
seal L2.PE L2.PS L2.PSs L2.PA
variable {P : Program} {w : World} {K : PySem.W.Frag} {mg : Str → Option Value} {base : Heap}
theorem tr_gd (tb : Tb) : Gd 3 (.list (tb.map datTr)) := .lst fun d hd => by
 obtain ⟨r, _, rfl⟩ := List.mem_map.mp hd
 refine .tup fun d hd => ?_
 simp only [List.mem_cons, List.not_mem_nil, or_false] at hd
 rcases hd with rfl | rfl | rfl
 ·exact (Gd.int _).up (by decide)
 ·exact (Gd.int _).up (by decide)
 ·exact gd_S r.2
def sp_lsame (K : PySem.W.Frag) (B : Addr) : Sp := fun vs H Q _ => ∃ (x p w : Addr) (e t u d m : Int) (tb rs : Tb), vs = [.ref x, .ref w] ∧ BrdT B H x e t u d m p rs ∧ TabAt H w tb ∧ okT e t tb ∧ rs.Perm tb ∧ tb.length < 64 ∧ ∀ H', Same H H' → Q (.bl true) H'
theorem ok_law_same (T : Tx K mg) : FnOk P w K mg base (CXX P w) 2 T.a_law_same T.fd_law_same ["_law_board_here", "_law_told_here"] (sp_lsame K T.C_Board) := by
 refine okN T.F_law_same sc_law_same (fun vs H Q E h => ?_) (fun cdv A outer s H vs Q E hr h => ?_)
 ·obtain ⟨x, p, w, e, t, u, d, m, tb, rs, rfl, _⟩ := h
  rfl
 ·obtain ⟨x, p, w, e, t, u, d, m, tb, rs, rfl, hB, hT, hok, hpm, h64, q⟩ := h
  refine ⟨_, (pss_cons (ps_set (i := 2) sc_law_same.nd rfl (Or.inl rfl) (pe_callB call_sortedT (by rfl) T.n_sorted b_sorted (pa_cons (pe_callTy (call_listD rfl) (by rfl) T.n_list b_list (pa_cons (pv 1) pa_nil)) pa_nil)))
  (pss_one (ps_ret (pe_cmpR (op_eqD hr.units) (pe_meth0 (pv 0) T.cl_Board T.me_Board_tellings (ok_Board_tellings T) (hr.mono (by decide)) T.b_Board_tellings .nil passE0) (pe_comp (CompOk.mk (fr := [1]) (ys := ["_law_told_here"]) rfl (by decide +kernel) rfl (by decide +kernel) rfl rfl (.cons rfl .nil) (.cons rfl rfl rfl rfl .nil) (by decide) rfl) rfl (pi_list (pv 2)) (fun C s2 H2 ex pn => ⟨pts_nil, (pe_tup (pa_cons (pe_ix (ix_seqK (K := K) rfl) (pv 0) pe_int (fun _ _ => rfl)) (pa_cons (pe_ix (ix_seqK (K := K) rfl) (pv 0) pe_int (fun _ _ => rfl)) (pa_cons (pe_dgetA (hu_of hr) (pv 1) (pv 0) (fun _ _ => rfl)) pa_nil))))⟩)) (nomark _))))), ?_⟩
  obtain ⟨kvs, hkv, hA⟩ := id hT
  obtain ⟨⟨dx, hx⟩, _⟩ := id hB
  have rnd : (rs.map (·.1)).Nodup := (hpm.map _).nodup_iff.mpr hok.1
  walk_at "gzn"
  refine ⟨kvs, hkv, fun l ys hl hks => ?_⟩
  have P0 : All2 (fun v (r : P2 × S2) => IsPt H v r.1) ys tb := All2.bind (hA.pts hks)
  have u1 := same_upd (o := .lst ys) hl
  refine ⟨ys, SqL.of upd_same, keyI tb, keyT_pts (P0.imp fun _ _ r => IsPt.same r u1), by rw [P0.len]; exact h64, fun l2 hl2 => ?_⟩
  have PS := pts_sort hA hks
  have pl := PS.len
  rw [srtT_len] at pl
  generalize sortL (keyI tb) .non ys = zs at PS pl
  have u2 := same_upd (o := .lst zs) hl2
  have SS := u1.trans u2
  have z2 : upd (upd H l (.lst ys)) l2 (.lst zs) l2 = some (.lst zs) := upd_same
  generalize upd (upd H l (.lst ys)) l2 (.lst zs) = H2 at SS z2
  refine ⟨_, _, SS _ _ hx, rfl, x, p, e, t, u, d, m, rs, rfl, hB.same SS, rnd, by rw [hpm.length_eq]; exact h64, fun l3 xs3 H3 s3 _ hl3 hT3 => ⟨⟨_, SqL.of (s3 _ _ z2)⟩, blk_of it_list (Nat.le_trans (by omega : zs.length ≤ 64) (by decide)) (compGo_new (R := fun Hx v (r : P2 × S2) => IsPt Hx v r.1) (R' := fun Hx v (r : P2 × S2) => IsTr Hx v r) (f := fun r => r) (bs := []) (fun _ _ _ _ s r => IsPt.same r s) (fun _ _ _ _ s r => IsTr.same r s) (PS.imp fun _ _ r => IsPt.same r (SS.trans s3)) trivial (fun H' s' => SqL.of ((s3.trans s') _ _ z2)) (fun v r _ H4 s4 h0 Q h => ?_) (fun v r hr0 H4 s4 h0 Q h => ?_) fun H4 ts s4 ht4 => ?_)⟩⟩
  ·walk_at "gzn"
   exact h
  ·obtain ⟨ka, rfl, hka⟩ := id h0
   have S4 := SS.trans (s3.trans s4)
   obtain ⟨v, hv, iv⟩ := (hA.val r.1).2 _ (valT_mem hok.1 (srtT_mem hr0))
   walk_at "gzn"
   refine ixT (SqT.of hka) rfl (ixT (SqT.of hka) rfl ⟨v, ?_, ?_⟩)
   ·rw [← hv]; exact DGet.t (k := spot r.1.1 r.1.2) (S4 _ _ hkv) hka
   ·exact ⟨by decide, fun z hz => h _ _ (same_upd hz) ⟨z, v, rfl, upd_same, IsS.same iv (S4.trans (same_upd hz))⟩⟩
  rw [List.nil_append, List.map_id'] at ht4
  rw [srtT_eq rnd hpm] at hT3
  intro l4 hl4
  have u4 := same_upd (o := .lst ts) hl4
  exact eq_good (.lst (SqL.of ((s4.trans u4) _ _ hl3)) (tr_dat (hT3.imp fun _ _ r => IsTr.same r (s4.trans u4)))) (.lst (SqL.of upd_same) (tr_dat (ht4.imp fun _ _ r => IsTr.same r u4))) (tr_gd _) (by decide) (q _ (SS.trans (s3.trans (s4.trans u4))))
end
section
seal L2.PE L2.PS L2.PSs L2.PA
variable {P : Program} {w : World} {K : PySem.W.Frag} {mg : Str → Option Value} {base : Heap}
def sp_ldeed (K : PySem.W.Frag) (B : Addr) : Sp := fun vs H Q _ => ∃ (a b c w x p : Addr) (ns cs : List Int) (e t u d m f : Int) (tb rs : Tb), vs = [.ref a, .ref b, .ref c, .ref w, .ref x] ∧ SqL K H a (ns.map V.int) ∧ Scr ns ∧ SqL K H b (row6 e t u d m f) ∧ Shp e t u d m f ∧ SqL K H c (cs.map V.int) ∧ cs.length = t.toNat ∧ TabAt H w tb ∧ BrdT B H x e t u d m p rs ∧ w ≠ p ∧ rs.Perm tb ∧ okT e t tb ∧ tb.length ≤ 60 ∧ (∀ r ∈ tb, crossed r.2.1 r.2.2 = false) ∧ ∀ (tb' rs' : Tb) (H' : Hp), But [w, p] H H' → TabAt H' w tb' → BrdT B H' x e t u d m p rs' → rs'.Perm tb' → okT e t tb' → tb'.length ≤ tb.length + 1 → (∀ r ∈ tb', crossed r.2.1 r.2.2 = false) → Q .non H'
theorem ok_law_deed (T : Tx K mg) : FnOk P w K mg base (CXX P w) 4 T.a_law_deed T.fd_law_deed ["_law_script", "_law_shape_here", "_law_course_here", "_law_told_here", "_law_board_here"] (sp_ldeed K T.C_Board) := by
 refine okN T.F_law_deed sc_law_deed (fun vs H Q E h => ?_) (fun cdv A outer s H vs Q E hr h => ?_)
 ·obtain ⟨a, b, c, w, x, p, ns, cs, e, t, u, d, m, f, tb, rs, rfl, _⟩ := h
  rfl
 ·obtain ⟨a, b, c, w, x, p, ns, cs, e, t, u, d, m, f, tb, rs, rfl, hS, hn, hb, sh, hc, hcl, hT, hB, wp, hpm, hok, h60, hcr, q⟩ := h
  refine ⟨_, (pss_cons (ps_set (i := 5) sc_law_deed.nd rfl (Or.inl rfl) (pe_tup (pa_cons (pe_call (ok_law_pick T) (hr.mono (by decide)) rfl T.m_law_pick T.F_law_pick.kp T.b_law_pick .nil passE0 (pa_cons (pv 0) (pa_cons pe_int (pa_cons (pe_ix ix_seq (pv 1) pe_int (fun _ _ => rfl)) pa_nil)))) (pa_cons (pe_call (ok_law_pick T) (hr.mono (by decide)) rfl T.m_law_pick T.F_law_pick.kp T.b_law_pick .nil passE0 (pa_cons (pv 0) (pa_cons pe_int (pa_cons (pe_ix ix_seq (pv 1) pe_int (fun _ _ => rfl)) pa_nil)))) pa_nil))))
  (pss_one (ps_if (PW.pt (pw_and (pt_cmp (pc_din (hu_of hr) (pv 5) (pv 3))) (pw_and1 (pt_cmpR op_gt (pe_call (ok_law_pick T) (hr.mono (by decide)) rfl T.m_law_pick T.F_law_pick.kp T.b_law_pick .nil passE0 (pa_cons (pv 0) (pa_cons pe_int (pa_cons pe_int pa_nil)))) pe_int (nomark _))))) (pss_cons (ps_expr (pe_meth (pv 4) T.cl_Board T.me_Board_hush (ok_Board_hush T) (hr.mono (by decide)) T.b_Board_hush .nil passE0 (pa_cons (pe_ix ix_seq (pv 5) pe_int (fun _ _ => rfl)) (pa_cons (pe_ix ix_seq (pv 5) pe_int (fun _ _ => rfl)) pa_nil))))
    (pss_one (ps_expr (pe_dpopT1 (hu_of hr) (pv 3) (pv 5) ⟨rfl, rfl, rfl, rfl⟩)))) (pss_cons (ps_dput (hu_of hr) (pv 3) (pv 5) (pe_call (ok_law_word T) (hr.mono (by decide)) rfl T.m_law_word T.F_law_word.kp T.b_law_word .nil passE0 (pa_cons (pv 0) (pa_cons pe_int (pa_cons (pe_ix ix_seq (pv 1) pe_int (fun _ _ => rfl)) (pa_cons (pe_ix ix_seq (pv 2) (pe_ix ix_seq (pv 5) pe_int (fun _ _ => rfl)) (fun _ _ => rfl)) (pa_cons pe_bl pa_nil)))))) rfl)
    (pss_one (ps_expr (pe_meth (pv 4) T.cl_Board T.me_Board_tell (ok_Board_tell T) (hr.mono (by decide)) T.b_Board_tell .nil passE0 (pa_cons (pe_ix ix_seq (pv 5) pe_int (fun _ _ => rfl)) (pa_cons (pe_ix ix_seq (pv 5) pe_int (fun _ _ => rfl)) (pa_cons (pe_ix ix_seq (pe_dget (hu_of hr) (pv 3) (pv 5) (fun _ _ => rfl)) pe_int (fun _ _ => rfl)) (pa_cons (pe_ix ix_seq (pe_dget (hu_of hr) (pv 3) (pv 5) (fun _ _ => rfl)) pe_int (fun _ _ => rfl)) pa_nil))))))))))), ?_⟩
  obtain ⟨he, ht, -, -, -, hf⟩ := id sh
  refine seq_cut (fun σ H1 => ∃ (z : Addr) (i j : Nat), σ = [some (.ref a), some (.ref b), some (.ref c), some (.ref w), some (.ref x), some (.ref z)] ∧ Same H H1 ∧ H1 z = some (.tup [.int i, .int j]) ∧ (i : Int) < e ∧ (j : Int) < t) (fun N hN => ?_) ?_
  ·walk_at "gzn"
   refine ixL hb (v := .int e) rfl ?_
   refine ⟨a, ns, _, _, rfl, hS, hn, by omega, by omega, fun p1 p11 p12 => ?_⟩
   refine ixL hb (v := .int t) rfl ?_
   refine ⟨a, ns, _, _, rfl, hS, hn, by omega, by omega, fun p2 p21 p22 => ?_⟩
   refine ⟨line2, fun z hz => hN _ _ ⟨z, p1.toNat, p2.toNat, rfl, same_upd hz, ?_, by omega, by omega⟩⟩
   rw [upd_same, show ((p1.toNat : Nat) : Int) = p1 by omega, show ((p2.toNat : Nat) : Int) = p2 by omega]
  rintro σ H1 ⟨z, i, j, rfl, s1, hz, hi, hj⟩
  have T1 := hT.same s1
  have B1 := hB.same s1
  obtain ⟨kw, hkw, hAw⟩ := id T1
  obtain ⟨⟨dx, hx⟩, kp, hkp, hAp⟩ := id B1
  have rnd : (rs.map (·.1)).Nodup := (hpm.map _).nodup_iff.mpr hok.1
  have rok : okT e t rs := ⟨rnd, fun r hr => hok.2 r (hpm.mem_iff.mp hr)⟩
  have wl := hAw.len
  have pl := hAp.len
  have rl := hpm.length_eq
  have onb : onB e t ((i : Int), (j : Int)) := ⟨⟨by show (0 : Int) ≤ (i : Int); omega, hi⟩, by show (0 : Int) ≤ (j : Int); omega, hj⟩
  have zw : z ≠ w := fun h => by rw [h, hkw] at hz; cases hz
  have zp : z ≠ p := fun h => by rw [h, hkp] at hz; cases hz
  have xw : x ≠ w := fun h => by rw [h, hkw] at hx; cases hx
  have xp : x ≠ p := fun h => by rw [h, hkp] at hx; cases hx
  have PUT : ∀ (R : V → Hp → Prop), R = (fun _ H' => Q .non H') → ∀ (v : V) (wq : Addr) (lo hi : En) (H7 : Hp), v = .ref wq → Same H1 H7 → H7 wq = some (.tup [ev lo, ev hi]) → crossed lo hi = false → ∃ x_3, DPut H7 w (.ref z) v x_3 ∧ ∃ x_4 x_5, x_3 x = some (HO.ins T.C_Board x_4 x_5) ∧ List.lookup (Str.ofString "tell") x_5 = none ∧ rIx K (.ref z) (.int 0) x_3 fun x_6 H1 => rIx K (.ref z) (.int 1) H1 fun x_7 H1 => ∃ x_8, DGet H1 w (.ref z) (some x_8) ∧ rIx K x_8 (.int 0) H1 fun x_9 H1 => ∃ x_10, DGet H1 w (.ref z) (some x_10) ∧ rIx K x_10 (.int 1) H1 fun x_11 H1 => sp_tellX T.C_Board T.C_NoTelling [.ref x, x_6, x_7, x_9, x_11] H1 R E0 := by
   rintro R rfl v wq lo hi H7 rfl s7 hwq hcw
   have hkw7 := s7 _ _ hkw
   have F8 : Fr H7 (upd H7 w (.dT (putK kw (spot (i : Int) (j : Int)) (.ref wq)))) := fr_upd hkw7
   have z8 : upd H7 w (.dT (putK kw (spot (i : Int) (j : Int)) (.ref wq))) z = some (.tup [.int (i : Int), .int (j : Int)]) := by rw [upd_ne zw]; exact s7 _ _ hz
   have wqw : wq ≠ w := fun h => by rw [h, hkw7] at hwq; cases hwq
   have hwq8 : upd H7 w (.dT (putK kw (spot (i : Int) (j : Int)) (.ref wq))) wq = some (.tup [ev lo, ev hi]) := by rw [upd_ne wqw]; exact hwq
   have w8 : upd H7 w (.dT (putK kw (spot (i : Int) (j : Int)) (.ref wq))) w = some (.dT (putK kw (spot (i : Int) (j : Int)) (.ref wq))) := upd_same
   have hx8 : upd H7 w (.dT (putK kw (spot (i : Int) (j : Int)) (.ref wq))) x = some (.ins T.C_Board dx (bFs e t u d m p)) := by rw [upd_ne xw]; exact s7 _ _ hx
   have hp8 : upd H7 w (.dT (putK kw (spot (i : Int) (j : Int)) (.ref wq))) p = some (.dT kp) := by rw [upd_ne (Ne.symm wp)]; exact s7 _ _ hkp
   have TW : TabAs (upd H7 w (.dT (putK kw (spot (i : Int) (j : Int)) (.ref wq)))) (putK kw (spot (i : Int) (j : Int)) (.ref wq)) (putT tb ((i : Int), (j : Int)) (lo, hi)) := TabAs.put (s := ((i : Int), (j : Int))) (w := (lo, hi)) (hAw.imp fun _ _ _ zz => (IsS.same zz s7).fr F8) ⟨wq, rfl, hwq8⟩
   have AP8 : TabAs (upd H7 w (.dT (putK kw (spot (i : Int) (j : Int)) (.ref wq)))) kp rs := hAp.imp fun _ _ _ zz => (IsS.same zz s7).fr F8
   have vv : valV (putK kw (spot (i : Int) (j : Int)) (.ref wq)) (spot (i : Int) (j : Int)) = some (.ref wq) := by rw [valV_put, if_pos rfl]
   have BU : But [w, p] H (upd H7 w (.dT (putK kw (spot (i : Int) (j : Int)) (.ref wq)))) := fun b o hb h => by
    have hb2 : b ≠ w ∧ b ≠ p := by simpa using hb
    rw [upd_ne hb2.1]; exact s7 _ _ (s1 _ _ h)
   refine ⟨_, DPut.t (k := spot (i : Int) (j : Int)) hkw7 (s7 _ _ hz) (Nat.lt_of_le_of_lt (by omega : kw.length ≤ 60) (by decide)), _, _, hx8, rfl, ixT (SqT.of z8) rfl (ixT (SqT.of z8) rfl ⟨.ref wq, by rw [← vv]; exact DGet.t (k := spot (i : Int) (j : Int)) w8 z8, ixT (SqT.of hwq8) rfl ⟨.ref wq, by rw [← vv]; exact DGet.t (k := spot (i : Int) (j : Int)) w8 z8, ixT (SqT.of hwq8) rfl ?_⟩⟩)⟩
   generalize upd H7 w (.dT (putK kw (spot (i : Int) (j : Int)) (.ref wq))) = H8 at z8 hwq8 w8 hx8 hp8 TW AP8 BU
   refine ⟨x, p, e, t, u, d, m, (i : Int), (j : Int), lo, hi, kp, rfl, ⟨⟨dx, hx8⟩, hp8⟩, by omega, fun zz => absurd ⟨onb, hcw⟩ zz, fun _ v9 H9 sb hp9 iv9 => ?_⟩
   have F9 : Fr H8 H9 := SameBut.fr sb hp8
   refine q (putT tb ((i : Int), (j : Int)) (lo, hi)) (putT rs ((i : Int), (j : Int)) (lo, hi)) H9 (fun b o hb h => ?_) ⟨_, sb w _ wp w8, TW.imp fun _ _ _ zz => zz.fr F9⟩ ⟨⟨dx, sb x _ xp hx8⟩, _, hp9, TabAs.put (s := ((i : Int), (j : Int))) (w := (lo, hi)) (AP8.imp fun _ _ _ zz => zz.fr F9) iv9⟩ (putT_permT hpm) (hok.put onb) (putT_len _ _ _) fun r hr => ?_
   ·have hb2 : b ≠ w ∧ b ≠ p := by simpa using hb
    exact sb b o hb2.2 (BU b o hb h)
   ·rcases putT_at hr with zz | zz
    ·exact hcr r zz
    ·rw [zz]; exact hcw
  have PW : rIx K (V.ref b) (V.int 5) H1 fun x_1 H1 => rIx K (V.ref z) (V.int 1) H1 fun y H2 => rIx K (V.ref c) y H2 fun x_2 H1 => sp_word K [V.ref a, V.int 230, x_1, x_2, V.bl true] H1 (fun v H1 => ∃ x_3, DPut H1 w (V.ref z) v x_3 ∧ ∃ x_4 x_5, x_3 x = some (HO.ins T.C_Board x_4 x_5) ∧ List.lookup (Str.ofString "tell") x_5 = none ∧ rIx K (V.ref z) (V.int 0) x_3 fun x_6 H1 => rIx K (V.ref z) (V.int 1) H1 fun x_7 H1 => ∃ x_8, DGet H1 w (V.ref z) (some x_8) ∧ rIx K x_8 (V.int 0) H1 fun x_9 H1 => ∃ x_10, DGet H1 w (V.ref z) (some x_10) ∧ rIx K x_10 (V.int 1) H1 fun x_11 H1 => sp_tellX T.C_Board T.C_NoTelling [V.ref x, x_6, x_7, x_9, x_11] H1 (fun x H1 => Q V.non H1) E0) E0 := by
   refine ixL (s1.seq hb) (v := .int f) rfl (ixT (SqT.of hz) rfl (ixL (s1.seq hc) (atI_nat (nAt_get (by omega))) ?_))
   exact ⟨a, ns, _, _, _, _, rfl, s1.seq hS, hn, by omega, hf, fun wq lo hi H7 s7 _ hwq hcw _ => PUT _ rfl _ wq lo hi H7 rfl s7 hwq hcw⟩
  walk_at "gzn"
  refine ⟨_, DGet.t (k := spot (i : Int) (j : Int)) hkw hz, ite_by (fun h1 => ?_) fun h1 => ?_⟩
  ·refine ⟨a, ns, _, _, rfl, s1.seq hS, hn, by omega, by omega, fun p3 p31 p32 => ?_⟩
   refine ⟨_, rfl, ite_by (fun h2 => ?_) fun h2 => ?_⟩
   ·obtain ⟨v1, hv1⟩ := Option.isSome_iff_exists.mp h1
    have vt : ∃ w1, valT tb ((i : Int), (j : Int)) = some w1 := by
     cases hh : valT tb ((i : Int), (j : Int)) with
     | none => rw [(hAw.val ((i : Int), (j : Int))).1 hh] at hv1; cases hv1
     | some w1 => exact ⟨w1, rfl⟩
    obtain ⟨w1, hw1⟩ := vt
    have rin : (((i : Int), (j : Int)), w1) ∈ rs := hpm.mem_iff.mpr (valT_in hw1)
    obtain ⟨v2, hv2, _⟩ := (hAp.val ((i : Int), (j : Int))).2 _ (valT_mem rnd rin)
    refine ⟨_, _, hx, rfl, ixT (SqT.of hz) rfl (ixT (SqT.of hz) rfl ⟨x, p, e, t, u, d, m, (i : Int), (j : Int), kp, rfl, ⟨⟨dx, hx⟩, hkp⟩, fun zz => absurd (hv2.symm.trans zz) (fun h => nomatch h), fun v' _ H2 sb hp2 => ?_⟩)⟩
    have F2 : Fr H1 H2 := SameBut.fr sb hkp
    have hw2 := sb w _ wp hkw
    refine ⟨.inr ⟨kw, .inl hw2⟩, kw, hw2, spot (i : Int) (j : Int), sb z _ zp hz, v1, hv1, ?_⟩
    have F3 : Fr H2 (upd H2 w (.dT (dropK kw (spot (i : Int) (j : Int))))) := fr_upd hw2
    refine q (dropT tb ((i : Int), (j : Int))) (dropT rs ((i : Int), (j : Int))) _ (fun b o hb h => ?_) ⟨_, upd_same, TabAs.drop (s := ((i : Int), (j : Int))) ((hAw.imp fun _ _ _ zz => zz.fr F2).imp fun _ _ _ zz => zz.fr F3)⟩ ⟨⟨dx, by rw [upd_ne xw]; exact sb x _ xp hx⟩, _, by rw [upd_ne (Ne.symm wp)]; exact hp2, TabAs.drop (s := ((i : Int), (j : Int))) ((hAp.imp fun _ _ _ zz => zz.fr F2).imp fun _ _ _ zz => zz.fr F3)⟩ (dropT_permT hpm) hok.drop (Nat.le_succ_of_le (List.length_filter_le _ _)) fun r hr => hcr r (List.mem_filter.mp hr).1
    have hb2 : b ≠ w ∧ b ≠ p := by simpa using hb
    rw [upd_ne hb2.1]
    exact sb b o hb2.2 (s1 _ _ h)
   ·exact PW
  ·exact PW
end
section
seal L2.PE L2.PS L2.PSs L2.PA
variable {P : Program} {w : World} {K : PySem.W.Frag} {mg : Str → Option Value} {base : Heap}
def sp_lmoved (K : PySem.W.Frag) : Sp := fun vs H Q _ => ∃ (a b c : Addr) (ns cs : List Int) (e t u d m f : Int), vs = [.ref a, .ref b, .ref c] ∧ SqL K H a (ns.map V.int) ∧ Scr ns ∧ SqL K H b (row6 e t u d m f) ∧ Shp e t u d m f ∧ SqL K H c (cs.map V.int) ∧ cs.length = t.toNat ∧ ∀ (l : Addr) (cs' : List Int) (H' : Hp), Same H H' → H l = none → H' l = some (.lst (cs'.map V.int)) → cs'.length = t.toNat → Q (.ref l) H'
def mvI (H : Hp) (a b c : Addr) (n : Nat) (w : Int) (s y : Option V) (σ : St) (H1 : Hp) : Prop := ∃ (sv yv : Int), σ = [some (.ref a), some (.ref b), some (.ref c), some (.int w), some (.int (n : Int)), some (.int sv), some (.int yv)] ∧ Same H H1
theorem ok_law_moved (T : Tx K mg) : FnOk P w K mg base (CXX P w) 2 T.a_law_moved T.fd_law_moved ["_law_script", "_law_shape_here", "_law_course_here"] (sp_lmoved K) := by
 refine okN T.F_law_moved sc_law_moved (fun vs H Q E h => ?_) (fun cdv A outer s H vs Q E hr h => ?_)
 ·obtain ⟨a, b, c, ns, cs, e, t, u, d, m, f, rfl, _⟩ := h
  rfl
 ·obtain ⟨a, b, c, ns, cs, e, t, u, d, m, f, rfl, hS, hn, hb, sh, hc, hcl, q⟩ := h
  refine ⟨_, (pss_cons (ps_set (i := 3) sc_law_moved.nd rfl (Or.inl rfl) (pe_call (ok_law_pick T) (hr.mono (by decide)) rfl T.m_law_pick T.F_law_pick.kp T.b_law_pick .nil passE0 (pa_cons (pv 0) (pa_cons pe_int (pa_cons pe_int pa_nil)))))
  (pss_cons (ps_set (i := 4) sc_law_moved.nd rfl (Or.inl rfl) (pe_call (ok_law_pick T) (hr.mono (by decide)) rfl T.m_law_pick T.F_law_pick.kp T.b_law_pick .nil passE0 (pa_cons (pv 0) (pa_cons pe_int (pa_cons (pe_ix ix_seq (pv 1) pe_int (fun _ _ => rfl)) pa_nil)))))
  (pss_cons (ps_set (i := 5) sc_law_moved.nd rfl (Or.inl rfl) pe_int)
  (pss_cons (ps_if (pt_cmpR op_gt (pv 4) pe_int (nomark _)) (pss_one (ps_set (i := 5) sc_law_moved.nd rfl (Or.inl rfl) (pe_op op_sub (pe_ix ix_seq (pv 2) (pv 4) (fun _ _ => rfl)) (pe_ix ix_seq (pv 2) (pe_op op_sub (pv 4) pe_int) (fun _ _ => rfl))))) pss_nil)
  (pss_cons (ps_set (i := 6) sc_law_moved.nd rfl (Or.inr rfl) pe_int)
  (pss_cons (ps_if (pt_cmpR op_eq (pv 3) pe_int (nomark _)) (pss_one (ps_set (i := 6) sc_law_moved.nd rfl (Or.inr rfl) (pe_op op_mulB (pe_op op_sub (pe_call (ok_law_pick T) (hr.mono (by decide)) rfl T.m_law_pick T.F_law_pick.kp T.b_law_pick .nil passE0 (pa_cons (pv 0) (pa_cons pe_int (pa_cons pe_int pa_nil)))) pe_int) (pe_ix ix_seq (pe_lst (pa_cons pe_int (pa_cons (pe_ix ix_seq (pv 1) pe_int (fun _ _ => rfl)) pa_nil))) (pe_call (ok_law_pick T) (hr.mono (by decide)) rfl T.m_law_pick T.F_law_pick.kp T.b_law_pick .nil passE0 (pa_cons (pv 0) (pa_cons pe_int (pa_cons pe_int pa_nil)))) (fun _ _ => rfl))))) pss_nil)
  (pss_cons (ps_if (pt_cmpR op_eq (pv 3) pe_int (nomark _)) (pss_one (ps_set (i := 6) sc_law_moved.nd rfl (Or.inr rfl) (pe_op op_add (pe_op op_sub (pe_ix ix_seq (pv 1) pe_int (fun _ _ => rfl)) (pv 5)) (pe_call (ok_law_pick T) (hr.mono (by decide)) rfl T.m_law_pick T.F_law_pick.kp T.b_law_pick .nil passE0 (pa_cons (pv 0) (pa_cons pe_int (pa_cons pe_int pa_nil))))))) pss_nil)
  (pss_cons (ps_if (pt_cmpR op_eq (pv 3) pe_int (nomark _)) (pss_one (ps_set (i := 6) sc_law_moved.nd rfl (Or.inr rfl) (pe_op op_sub (pe_op op_sub (pe_un un_neg (pe_ix ix_seq (pv 1) pe_int (fun _ _ => rfl))) (pv 5)) (pe_call (ok_law_pick T) (hr.mono (by decide)) rfl T.m_law_pick T.F_law_pick.kp T.b_law_pick .nil passE0 (pa_cons (pv 0) (pa_cons pe_int (pa_cons pe_int pa_nil))))))) pss_nil)
  (pss_one (ps_ret (pe_op op_cat (pe_slice sl_list (pv 2) po_none (po_some (pv 4))) (pe_comp (CompOk.mk (fr := [6]) (ys := ["_law_by"]) rfl (by decide +kernel) rfl (by decide +kernel) rfl rfl (.cons rfl .nil) (.cons rfl rfl rfl rfl .nil) (by decide) rfl) rfl (pi_list (pe_slice sl_list (pv 2) (po_some (pv 4)) po_none)) (fun C s2 H2 ex pn => ⟨pts_nil, (pe_op op_add (pv 0) (pv 1))⟩))))))))))))), ?_⟩
  obtain ⟨he, ht, ⟨u1, u2⟩, ⟨d1, d2⟩, -, hf⟩ := id sh
  refine seq_cut (fun σ H1 => ∃ wy : Int, σ = [some (.ref a), some (.ref b), some (.ref c), some (.int wy), none, none, none] ∧ H1 = H) (fun N hN => ?_) ?_
  ·walk_at "gzn"
   refine ⟨a, ns, _, _, rfl, hS, hn, by omega, by omega, fun p p1 p2 => ?_⟩
   exact hN _ _ ⟨_, rfl, rfl⟩
  rintro σ H1 ⟨wy, rfl, rfl⟩
  refine seq_cut (fun σ H2 => ∃ n : Nat, σ = [some (.ref a), some (.ref b), some (.ref c), some (.int wy), some (.int (n : Int)), none, none] ∧ H2 = H1 ∧ (n : Int) < t) (fun N hN => ?_) ?_
  ·walk_at "gzn"
   refine ixL hb (v := .int t) rfl ?_
   refine ⟨a, ns, _, _, rfl, hS, hn, by omega, by omega, fun p p1 p2 => ?_⟩
   exact hN _ _ ⟨p.toNat, by rw [show ((p.toNat : Nat) : Int) = p by omega], rfl, by omega⟩
  rintro σ H2 ⟨n, rfl, rfl, hnt⟩
  refine seq_cut (fun σ H3 => ∃ sv : Int, σ = [some (.ref a), some (.ref b), some (.ref c), some (.int wy), some (.int (n : Int)), some (.int sv), none] ∧ H3 = H2) (fun N hN => ?_) ?_
  ·walk_at "gzn"
   exact hN _ _ ⟨0, rfl, rfl⟩
  rintro σ H3 ⟨sv, rfl, rfl⟩
  refine seq_cut (fun σ H4 => ∃ sv : Int, σ = [some (.ref a), some (.ref b), some (.ref c), some (.int wy), some (.int (n : Int)), some (.int sv), none] ∧ H4 = H3) (fun N hN => ?_) ?_
  ·walk_at "gzn"
   refine ite_by (fun hp => ?_) fun _ => hN _ _ ⟨_, rfl, rfl⟩
   refine ixL hc (atI_nat (nAt_get (by omega))) ?_
   rw [show (n : Int) - 1 = ((n - 1 : Nat) : Int) by omega]
   refine ixL hc (atI_nat (nAt_get (by omega))) ?_
   walk_at "gzn"
   exact hN _ _ ⟨_, rfl, rfl⟩
  rintro σ H4 ⟨sv, rfl, rfl⟩
  refine seq_cut (mvI H4 a b c n wy none none) (fun N hN => ?_) ?_
  ·walk_at "gzn"
   exact hN _ _ ⟨_, _, rfl, Same.refl _⟩
  rintro σ H5 ⟨sv, yv, rfl, s5⟩
  refine seq_cut (mvI H4 a b c n wy none none) (fun N hN => ?_) ?_
  ·walk_at "gzn"
   refine ite_by (fun _ => ?_) fun _ => hN _ _ ⟨_, _, rfl, s5⟩
   refine ⟨a, ns, _, _, rfl, s5.seq hS, hn, by omega, by omega, fun p1 p11 p12 => ?_⟩
   walk_at "gzn"
   refine ixL (s5.seq hb) (v := .int f) rfl ⟨line2, fun r hr => ?_⟩
   have ur := same_upd (o := .lst [.int 1, .int f]) hr
   refine ⟨a, ns, _, _, rfl, (s5.trans ur).seq hS, hn, by omega, by omega, fun p2 p21 p22 => ?_⟩
   have h2 : p2 = 0 ∨ p2 = 1 := by omega
   rcases h2 with rfl | rfl
   ·exact ixL (SqL.of upd_same) (v := .int 1) rfl ⟨_, rfl, mul600 (by omega) (by omega), hN _ _ ⟨_, _, rfl, s5.trans ur⟩⟩
   ·exact ixL (SqL.of upd_same) (v := .int f) rfl ⟨_, rfl, mul600 (by omega) (by omega), hN _ _ ⟨_, _, rfl, s5.trans ur⟩⟩
  rintro σ H6 ⟨sv, yv, rfl, s6⟩
  refine seq_cut (mvI H4 a b c n wy none none) (fun N hN => ?_) ?_
  ·walk_at "gzn"
   refine ite_by (fun _ => ?_) fun _ => hN _ _ ⟨_, _, rfl, s6⟩
   refine ixL (s6.seq hb) (v := .int u) rfl ?_
   walk_at "gzn"
   refine ⟨a, ns, _, _, rfl, s6.seq hS, hn, by omega, by omega, fun p1 p11 p12 => ?_⟩
   walk_at "gzn"
   exact hN _ _ ⟨_, _, rfl, s6⟩
  rintro σ H7 ⟨sv, yv, rfl, s7⟩
  refine seq_cut (mvI H4 a b c n wy none none) (fun N hN => ?_) ?_
  ·walk_at "gzn"
   refine ite_by (fun _ => ?_) fun _ => hN _ _ ⟨_, _, rfl, s7⟩
   refine ixL (s7.seq hb) (v := .int d) rfl ?_
   walk_at "gzn"
   refine ⟨a, ns, _, _, rfl, s7.seq hS, hn, by omega, by omega, fun p1 p11 p12 => ?_⟩
   walk_at "gzn"
   exact hN _ _ ⟨_, _, rfl, s7⟩
  rintro σ H8 ⟨sv, yv, rfl, s8⟩
  walk_at "gzn"
  refine ⟨_, s8.seq hc, fun p hp => ?_⟩
  rw [cutV_to]
  have u1 := same_upd (o := .lst ((cs.map V.int).take n)) hp
  refine ⟨_, (s8.trans u1).seq hc, fun r hr => ?_⟩
  rw [cutV_from]
  have u2 := same_upd (o := .lst ((cs.map V.int).drop n)) hr
  have p9 := u2 _ _ (upd_same (H := H8) (a := p) (o := .lst ((cs.map V.int).take n)))
  have r9 : upd (upd H8 p (.lst ((cs.map V.int).take n))) r (.lst ((cs.map V.int).drop n)) r = some (.lst ((cs.map V.int).drop n)) := upd_same
  have S9 := s8.trans (u1.trans u2)
  generalize upd (upd H8 p (.lst ((cs.map V.int).take n))) r (.lst ((cs.map V.int).drop n)) = H9 at p9 r9 S9
  rw [← List.map_drop] at r9
  refine ⟨⟨_, SqL.of r9⟩, blk_of it_list (Nat.le_trans (by rw [List.length_map, List.length_drop]; omega : _ ≤ 100) (by decide)) (compGo_ints (SqL.of r9) (fun x _ Q h => ?_) (fun x hx Q h => ?_) fun ms hms => ?_)⟩
  ·walk_at "gzn"
   exact h
  ·obtain ⟨k, _, rfl⟩ := List.mem_map.mp hx
   walk_at "gzn"
   exact h _
  rw [List.nil_append]
  intro l hl
  have ul := same_upd (o := .lst (ms.map V.int)) hl
  refine ⟨l, rfl, _, ul _ _ p9, _, upd_same, Nat.le_trans (by rw [List.length_take, List.length_map, List.length_map, hms, List.length_map, List.length_drop]; omega : _ ≤ 100) (by decide), fun z hz => ?_⟩
  refine q z (cs.take n ++ ms) _ (S9.trans (ul.trans (same_upd hz))) ((S9.trans ul).free hz) ?_ ?_
  ·rw [upd_same, List.map_append, List.map_take]
  ·rw [List.length_append, hms, List.length_map, List.length_take, List.length_drop]; omega
def alB (u d : Int) (cs : List Int) (n : Nat) : Bool := (List.range n).all fun k => !(decide (nAt cs (k + 1) - nAt cs k > u) || decide (nAt cs k - nAt cs (k + 1) > d))
theorem alB_okK (u d : Int) (cs : List Int) (n : Nat) : alB u d cs n = okK u d cs n := by
 unfold alB okK
 congr 1
 funext k
 rw [Bool.eq_iff_iff, hold_iff]
 simp
 omega
def sp_lallowed (K : PySem.W.Frag) : Sp := fun vs H Q _ => ∃ (b c : Addr) (cs : List Int) (e t u d m f : Int), vs = [.ref b, .ref c] ∧ SqL K H b (row6 e t u d m f) ∧ Shp e t u d m f ∧ SqL K H c (cs.map V.int) ∧ cs.length = t.toNat ∧ Q (.bl (okK u d cs (t - 1).toNat)) H
def inv_al (H : Hp) (b c : Addr) (u d : Int) (cs : List Int) (i : Nat) (σ : St) (H1 : Hp) : Prop := ∃ (e1 : Option V), σ = [some (.ref b), some (.ref c), e1] ∧ H1 = H ∧ alB u d cs i = true
theorem ok_law_allowed (T : Tx K mg) : FnOk P w K mg base (CXX P w) 1 T.a_law_allowed T.fd_law_allowed ["_law_shape_here", "_law_course_here"] (sp_lallowed K) := by
 refine okN T.F_law_allowed sc_law_allowed (fun vs H Q E h => ?_) (fun cdv A outer s H vs Q E hr h => ?_)
 ·obtain ⟨b, c, cs, e, t, u, d, m, f, rfl, _⟩ := h
  rfl
 ·obtain ⟨b, c, cs, e, t, u, d, m, f, rfl, hb, sh, hc, hcl, q⟩ := h
  refine ⟨_, (pss_cons (ps_for PassesOwn.never rfl (pi_range1 rfl T.n_range (pa_cons (pe_op op_sub (pe_ix ix_seq (pv 0) pe_int (fun _ _ => rfl)) pe_int) pa_nil)) (pg_name (i := 2) sc_law_allowed.nd rfl (Or.inl rfl)) (pss_one (ps_if (PW.pt (pw_or (pt_cmpR op_gt (pe_op op_sub (pe_ix ix_seq (pv 1) (pe_op op_add (pv 2) pe_int) (fun _ _ => rfl)) (pe_ix ix_seq (pv 1) (pv 2) (fun _ _ => rfl))) (pe_ix ix_seq (pv 0) pe_int (fun _ _ => rfl)) (nomark _)) (pw_or1 (pt_cmpR op_gt (pe_op op_sub (pe_ix ix_seq (pv 1) (pv 2) (fun _ _ => rfl)) (pe_ix ix_seq (pv 1) (pe_op op_add (pv 2) pe_int) (fun _ _ => rfl))) (pe_ix ix_seq (pv 0) pe_int (fun _ _ => rfl)) (nomark _))))) (pss_one (ps_ret pe_bl)) pss_nil)))
  (pss_one (ps_ret pe_bl))), ?_⟩
  obtain ⟨he, ht, ⟨u1, u2⟩, ⟨d1, d2⟩, -, hf⟩ := id sh
  rw [← alB_okK] at q
  walk_at "gzn"
  refine ixL hb (v := .int t) rfl ?_
  walk_at "gzn"
  refine ⟨by omega, by omega, by_range (inv_al H b c u d cs) ⟨_, rfl, rfl, rfl⟩ ?_ ?_⟩
  ·rintro i σ H1 hi ⟨e1, rfl, rfl, hal⟩
   have ebad : ∀ h : decide (nAt cs (i + 1) - nAt cs i > u) = true ∨ decide (nAt cs i - nAt cs (i + 1) > d) = true, alB u d cs (t - 1).toNat = false := fun h => by
    unfold alB
    rw [List.all_eq_false]
    exact ⟨i, List.mem_range.mpr hi, by rcases h with h | h <;> simp [h]⟩
   walk_at "gzn"
   rw [show (0 : Int) + (i : Int) + 1 = ((i + 1 : Nat) : Int) by omega, show (0 : Int) + (i : Int) = ((i : Nat) : Int) by omega]
   refine ixL hc (atI_nat (nAt_get (by omega))) (ixL hc (atI_nat (nAt_get (by omega))) ⟨_, rfl, _, rfl, ixL hb (v := .int u) rfl ⟨_, rfl, ite_by (fun h1 => ?_) fun h1 => ?_⟩⟩)
   ·rw [ebad (.inl (decide_eq_true (by omega)))] at q
    exact q
   refine ixL hc (atI_nat (nAt_get (by omega))) (ixL hc (atI_nat (nAt_get (by omega))) ⟨_, rfl, _, rfl, ixL hb (v := .int d) rfl ⟨_, rfl, ite_by (fun h2 => ?_) fun h2 => ?_⟩⟩)
   ·rw [ebad (.inr (decide_eq_true (by omega)))] at q
    exact q
   refine ⟨_, rfl, rfl, ?_⟩
   unfold alB at hal ⊢
   rw [List.range_succ, List.all_append, hal]
   simp
   omega
  ·rintro σ H1 ⟨e1, rfl, rfl, hal⟩
   walk_at "gzn"
   rw [hal] at q
   exact q
end
section
seal L2.PE L2.PS L2.PSs L2.PA
variable {P : Program} {w : World} {K : PySem.W.Frag} {mg : Str → Option Value} {base : Heap}
theorem flat_bls (bs : List Bool) : (bs.map V.bl).all flatV = true := by
 rw [List.all_map]
 exact List.all_eq_true.mpr fun _ _ => rfl
theorem in_bls (a : Bool) : ∀ (bs : List Bool), inV (.bl a) (bs.map V.bl) = bs.contains a
 | [] => rfl
 | b :: bs => by
  have ih := in_bls a bs
  unfold inV at *
  rw [List.map_cons, List.any_cons, ih, List.contains_cons]
  congr 1
  show (b == a) = (a == b)
  cases a <;> cases b <;> rfl
theorem no_true : ∀ (l : List V), ((l.filter fun _ => true).map fun _ => V.bl false) = (List.replicate l.length false).map V.bl
 | [] => rfl
 | v :: l => by
  have ih := no_true l
  rw [List.filter_cons, if_pos rfl, List.map_cons, ih]
  rfl
theorem rep_no : ∀ n : Nat, (List.replicate n false).contains true = false
 | 0 => rfl
 | n + 1 => by rw [List.replicate_succ, List.contains_cons, rep_no n]; rfl
def sp_ltold (K : PySem.W.Frag) (B : Addr) : Sp := fun vs H Q _ => ∃ (x b w c p : Addr) (cs : List Int) (e t u d m f : Int) (tb rs : Tb), vs = [.ref x, .ref b, .ref w, .ref c] ∧ SqL K H b (row6 e t u d m f) ∧ Shp e t u d m f ∧ SqL K H c (cs.map V.int) ∧ cs.length = t.toNat ∧ TabAt H w tb ∧ BrdT B H x e t u d m p rs ∧ rs.Perm tb ∧ okT e t tb ∧ tb.length ≤ 60 ∧ ∀ H', Same H H' → Q (.bl true) H'
theorem ok_law_told (T : Tx K mg) : FnOk P w K mg base (CXX P w) 6 T.a_law_told T.fd_law_told ["_law_board_here", "_law_shape_here", "_law_told_here", "_law_course_here"] (sp_ltold K T.C_Board) := by
 refine okN T.F_law_told sc_law_told (fun vs H Q E h => ?_) (fun cdv A outer s H vs Q E hr h => ?_)
 ·obtain ⟨x, b, w, c, p, cs, e, t, u, d, m, f, tb, rs, rfl, _⟩ := h
  rfl
 ·obtain ⟨x, b, w, c, p, cs, e, t, u, d, m, f, tb, rs, rfl, hb, sh, hc, hcl, hT, hB, hpm, hok, h60, q⟩ := h
  refine ⟨_, (pss_cons (ps_set (i := 4) sc_law_told.nd rfl (Or.inl rfl) (pe_callTy call_list_of (by rfl) T.n_list b_list (pa_cons (pv 3) pa_nil)))
  (pss_cons (ps_set (i := 5) sc_law_told.nd rfl (Or.inl rfl) (pe_callB call_sortedL (by rfl) T.n_sorted b_sorted (pa_cons (pe_call (ok_law_liars T) (hr.mono (by decide)) rfl T.m_law_liars T.F_law_liars.kp T.b_law_liars .nil passE0 (pa_cons (pv 2) (pa_cons (pv 3) pa_nil))) pa_nil)))
  (pss_cons (ps_set (i := 6) sc_law_told.nd rfl (Or.inl rfl) (pe_call (ok_liars T) (hr.mono (by decide)) rfl T.m_liars T.F_liars.kp T.b_liars .nil passE0 (pa_cons (pv 0) (pa_cons (pv 4) pa_nil))))
  (pss_cons (ps_if (PW.pt (pw_or (pt_not (pt_val (pe_callB call_isiA (by rfl) T.n_isinstance b_isinstance (pa_cons (pv 6) (pa_cons (pe_bltn (v := .ty "list") rfl T.n_list b_list rfl) pa_nil))))) (pw_or (pt_cmpR (op_neD hr.units) (pv 6) (pv 5) (nomark _)) (pw_or1 (pt_cmpR op_in_seq pe_bl (pe_comp (CompOk.mk (fr := []) (ys := []) rfl (by decide +kernel) rfl (by decide +kernel) rfl rfl .nil .nil (by decide) rfl) rfl (pi_list (pv 6)) (fun C s2 H2 ex pn => ⟨pts_nil, (pe_not (pe_call (ok_law_whole T) (hr.mono (by decide)) rfl T.m_law_whole T.F_law_whole.kp T.b_law_whole .nil passE0 (pa_cons (pv 0) pa_nil)))⟩)) (by with_unfolding_all rfl)))))) (pss_one (ps_ret pe_bl)) pss_nil)
  (pss_cons (ps_expr (pe_bm PySem.F.plainAttrs_list PySem.F.slot_list_append PySem.F.type_list_append mt_append (pv 6) (pa_cons pe_int pa_nil)))
  (pss_cons (ps_set (i := 7) sc_law_told.nd rfl (Or.inl rfl) (pe_call (ok_fits T) (hr.mono (by decide)) rfl T.m_fits T.F_fits.kp T.b_fits .nil passE0 (pa_cons (pv 0) (pa_cons (pv 4) pa_nil))))
  (pss_cons (ps_if (PW.pt (pw_or (pt_not (pt_val (pe_callB call_isiA (by rfl) T.n_isinstance b_isinstance (pa_cons (pv 7) (pa_cons (pe_bltn (v := .ty "bool") rfl T.n_bool b_bool rfl) pa_nil))))) (pw_or1 (pt_cmpR op_ne (pv 7) (pe_and (pe_call (ok_law_allowed T) (hr.mono (by decide)) rfl T.m_law_allowed T.F_law_allowed.kp T.b_law_allowed .nil passE0 (pa_cons (pv 1) (pa_cons (pv 3) pa_nil))) (pe_one (pe_cmpR op_le (pe_callB call_len (by rfl) T.n_len b_len (pa_cons (pv 5) pa_nil)) (pe_ix ix_seq (pv 1) pe_int (fun _ _ => rfl)) (nomark _)))) (nomark _))))) (pss_one (ps_ret pe_bl)) pss_nil)
  (pss_one (ps_ret (pe_and (pe_cmpR (op_eqD hr.units) (pv 4) (pv 3) (nomark _)) (pe_one (pe_cmpR (op_eqD hr.units) (pe_call (ok_liars T) (hr.mono (by decide)) rfl T.m_liars T.F_liars.kp T.b_liars .nil passE0 (pa_cons (pv 0) (pa_cons (pv 4) pa_nil))) (pv 5) (nomark _))))))))))))), ?_⟩
  obtain ⟨he, ht, ⟨u1, _⟩, ⟨d1, _⟩, -, hf⟩ := id sh
  have rnd : (rs.map (·.1)).Nodup := (hpm.map _).nodup_iff.mpr hok.1
  have rok : okT e t rs := ⟨rnd, fun r hr => hok.2 r (hpm.mem_iff.mp hr)⟩
  have rl := hpm.length_eq
  have eL : liarL e rs cs = liarL e tb cs := liarL_perm rnd hpm cs
  have ll := liarL_len e tb cs
  refine seq_cut (fun σ H1 => ∃ h : Addr, σ = [some (.ref x), some (.ref b), some (.ref w), some (.ref c), some (.ref h), none, none, none] ∧ Same H H1 ∧ H1 h = some (.lst (cs.map V.int))) (fun N hN => ?_) ?_
  ·walk_at "gzn"
   exact ⟨_, .inl hc, fun h hh => hN _ _ ⟨h, rfl, same_upd hh, upd_same⟩⟩
  rintro σ H1 ⟨h, rfl, s1, hh⟩
  refine seq_cut (fun σ H2 => ∃ g : Addr, σ = [some (.ref x), some (.ref b), some (.ref w), some (.ref c), some (.ref h), some (.ref g), none, none] ∧ Same H1 H2 ∧ H2 g = some (.lst ((liarL e tb cs).map V.int))) (fun N hN => ?_) ?_
  ·walk_at "gzn"
   refine ⟨w, c, e, t, tb, cs, rfl, hT.same s1, hok, h60, s1.seq hc, hcl, fun l es H2 s2 _ hl hnd hmem hlen => ⟨l, rfl, es, SqL.of hl, by omega, fun g zs hg hp hs0 => hN _ _ ⟨g, rfl, s2.trans (same_upd hg), ?_⟩⟩⟩
   rw [upd_same, liarL_uniq hok hnd hmem hp hs0]
  rintro σ H2 ⟨g, rfl, s2, hg⟩
  have S2 := s1.trans s2
  refine seq_cut (fun σ H3 => ∃ l : Addr, σ = [some (.ref x), some (.ref b), some (.ref w), some (.ref c), some (.ref h), some (.ref g), some (.ref l), none] ∧ Same H2 H3 ∧ H2 l = none ∧ H3 l = some (.lst ((liarL e tb cs).map V.int))) (fun N hN => ?_) ?_
  ·walk_at "gzn"
   exact ⟨x, p, h, e, t, u, d, m, rs, cs, rfl, hB.same S2, he, rok, by omega, SqL.of (s2 _ _ hh), hcl, fun l H3 s3 fl hl => hN _ _ ⟨l, rfl, s3, fl, by rw [← eL]; exact hl⟩⟩
  rintro σ H3 ⟨l, rfl, s3, fl, hl⟩
  refine seq_cut (fun σ H4 => σ = [some (.ref x), some (.ref b), some (.ref w), some (.ref c), some (.ref h), some (.ref g), some (.ref l), none] ∧ Same H3 H4) (fun N hN => ?_) ?_
  ·walk_at "gzn"
   refine isi_lst hl ?_
   walk_at "gzn"
   refine eq_ints (SqL.of hl) (SqL.of (s3 _ _ hg)) ?_
   walk_at "gzn"
   refine ⟨⟨_, SqL.of hl⟩, blk_of it_list (Nat.le_trans (by rw [List.length_map]; omega : _ ≤ 60) (by decide)) (compGo_map (p := fun _ => true) (f := fun _ => V.bl false) (SqL.of hl) (fun v _ Q h => ?_) (fun v hv _ Q h => ?_) ?_)⟩
   ·walk_at "gzn"
    exact h
   ·obtain ⟨k, _, rfl⟩ := List.mem_map.mp hv
    walk_at "gzn"
    refine ⟨_, rfl, .inr ⟨_, rfl⟩, ?_⟩
    simp only [isWhole]
    walk_at "gzn"
    exact h
   rw [List.nil_append, no_true]
   intro l5 hl5
   refine ⟨l5, _, rfl, .inl (SqL.of upd_same), rfl, flat_bls _, ⟨_, rfl, ?_⟩⟩
   rw [if_neg (show ¬ false = true by decide), in_bls, rep_no, if_neg (show ¬ false = true by decide)]
   exact hN _ _ ⟨rfl, same_upd hl5⟩
  rintro σ H4 ⟨rfl, s4⟩
  have S4 := S2.trans (s3.trans s4)
  have l4 := s4 _ _ hl
  refine seq_cut (fun σ H5 => σ = [some (.ref x), some (.ref b), some (.ref w), some (.ref c), some (.ref h), some (.ref g), some (.ref l), none] ∧ Same H2 H5) (fun N hN => ?_) ?_
  ·walk_at "gzn"
   refine ⟨.inl ⟨rfl, _, SqL.of l4⟩, _, l4, Nat.lt_of_le_of_lt (by rw [List.length_map]; omega : _ ≤ 60) (by decide), hN _ _ ⟨rfl, same_put fl (s3.trans s4)⟩⟩
  rintro σ H5 ⟨rfl, s5⟩
  have S5 := S2.trans s5
  refine seq_cut (fun σ H6 => σ = [some (.ref x), some (.ref b), some (.ref w), some (.ref c), some (.ref h), some (.ref g), some (.ref l), some (.bl (okK u d cs (t - 1).toNat && decide (((liarL e tb cs).length : Int) ≤ m)))] ∧ Same H5 H6) (fun N hN => ?_) ?_
  ·walk_at "gzn"
   refine ⟨x, p, h, e, t, u, d, m, rs, cs, rfl, hB.same S5, he, ht, u1, d1, rok, by omega, SqL.of (s5 _ _ (s2 _ _ hh)), hcl, fun H6 s6 => ?_⟩
   rw [eL]
   exact hN _ _ ⟨rfl, s6⟩
  rintro σ H6 ⟨rfl, s6⟩
  have S6 := S5.trans s6
  refine seq_cut (fun σ H7 => σ = [some (.ref x), some (.ref b), some (.ref w), some (.ref c), some (.ref h), some (.ref g), some (.ref l), some (.bl (okK u d cs (t - 1).toNat && decide (((liarL e tb cs).length : Int) ≤ m)))] ∧ H7 = H6) (fun N hN => ?_) ?_
  ·walk_at "gzn"
   refine ⟨b, c, cs, e, t, u, d, m, f, rfl, S6.seq hb, sh, S6.seq hc, hcl, ⟨_, rfl, ite_by (fun h1 => ?_) fun h1 => ?_⟩⟩
   ·refine ⟨_, lenL (SqL.of ((s5.trans s6) _ _ hg)), ixL (S6.seq hb) (v := .int m) rfl ⟨_, rfl, ?_⟩⟩
    rw [List.length_map, if_neg (by rw [h1]; simp)]
    exact hN _ _ ⟨rfl, rfl⟩
   ·have h1 : okK u d cs (t - 1).toNat = false := by simpa using h1
    rw [if_neg (by rw [h1]; simp)]
    exact hN _ _ ⟨rfl, rfl⟩
  rintro σ H7 ⟨rfl, rfl⟩
  walk_at "gzn"
  refine eq_ints (SqL.of ((s5.trans s6) _ _ (s2 _ _ hh))) (S6.seq hc) ?_
  walk_at "gzn"
  refine ⟨x, p, h, e, t, u, d, m, rs, cs, rfl, hB.same S6, he, rok, by omega, SqL.of ((s5.trans s6) _ _ (s2 _ _ hh)), hcl, fun l8 H8 s8 _ hl8 => ?_⟩
  rw [eL] at hl8
  exact eq_ints (SqL.of hl8) (SqL.of ((s5.trans (s6.trans s8)) _ _ hg)) (q _ (S6.trans s8))
end
section
seal L2.PE L2.PS L2.PSs L2.PA
variable {P : Program} {w : World} {K : PySem.W.Frag} {mg : Str → Option Value} {base : Heap}
def sp_law (K : PySem.W.Frag) : Sp := fun vs H Q _ => ∃ (a : Addr) (ns : List Int), vs = [.ref a] ∧ SqL K H a (ns.map V.int) ∧ Scr ns ∧ ∀ H', Q (.bl true) H'
theorem ok_law (T : Tx K mg) : FnOk P w K mg base (CXX P w) 7 T.a_law T.fd_law ["_law_script"] (sp_law K) := by
 refine okN T.F_law sc_law (fun vs H Q E h => ?_) (fun cdv A outer s H vs Q E hr h => ?_)
 ·obtain ⟨a, ns, rfl, _⟩ := h
  rfl
 ·obtain ⟨a, ns, rfl, hS, hn, q⟩ := h
  refine ⟨_, (pss_cons (ps_set (i := 1) sc_law.nd rfl (Or.inl rfl) (pe_call (ok_law_shape T) (hr.mono (by decide)) rfl T.m_law_shape T.F_law_shape.kp T.b_law_shape .nil passE0 (pa_cons (pv 0) pa_nil)))
  (pss_cons (ps_set (i := 2) sc_law.nd rfl (Or.inl rfl) (pe_call (ok_law_course T) (hr.mono (by decide)) rfl T.m_law_course T.F_law_course.kp T.b_law_course .nil passE0 (pa_cons (pv 0) (pa_cons (pv 1) pa_nil))))
  (pss_cons (ps_set (i := 3) sc_law.nd rfl (Or.inl rfl) (pe_call (ok_law_words T) (hr.mono (by decide)) rfl T.m_law_words T.F_law_words.kp T.b_law_words .nil passE0 (pa_cons (pv 0) (pa_cons (pv 1) (pa_cons (pv 2) pa_nil)))))
  (pss_cons (ps_set (i := 4) sc_law.nd rfl (Or.inl rfl) (pe_call (ok_law_board T) (hr.mono (by decide)) rfl T.m_law_board T.F_law_board.kp T.b_law_board .nil passE0 (pa_cons (pv 0) (pa_cons (pv 1) (pa_cons (pv 3) pa_nil)))))
  (pss_cons (ps_set (i := 5) sc_law.nd rfl (Or.inl rfl) (pe_call (ok_law_moved T) (hr.mono (by decide)) rfl T.m_law_moved T.F_law_moved.kp T.b_law_moved .nil passE0 (pa_cons (pv 0) (pa_cons (pv 1) (pa_cons (pv 2) pa_nil)))))
  (pss_cons (ps_if (PW.pt (pw_or (pt_not (pt_val (pe_call (ok_law_told T) (hr.mono (by decide)) rfl T.m_law_told T.F_law_told.kp T.b_law_told .nil passE0 (pa_cons (pv 4) (pa_cons (pv 1) (pa_cons (pv 3) (pa_cons (pv 5) pa_nil))))))) (pw_or1 (pt_not (pt_val (pe_call (ok_law_told T) (hr.mono (by decide)) rfl T.m_law_told T.F_law_told.kp T.b_law_told .nil passE0 (pa_cons (pv 4) (pa_cons (pv 1) (pa_cons (pv 3) (pa_cons (pv 2) pa_nil)))))))))) (pss_one (ps_ret pe_bl)) pss_nil)
  (pss_cons (ps_expr (pe_call (ok_law_deed T) (hr.mono (by decide)) rfl T.m_law_deed T.F_law_deed.kp T.b_law_deed .nil passE0 (pa_cons (pv 0) (pa_cons (pv 1) (pa_cons (pv 2) (pa_cons (pv 3) (pa_cons (pv 4) pa_nil)))))))
  (pss_one (ps_ret (pe_and (pe_call (ok_law_told T) (hr.mono (by decide)) rfl T.m_law_told T.F_law_told.kp T.b_law_told .nil passE0 (pa_cons (pv 4) (pa_cons (pv 1) (pa_cons (pv 3) (pa_cons (pv 5) pa_nil))))) (pe_one (pe_call (ok_law_same T) (hr.mono (by decide)) rfl T.m_law_same T.F_law_same.kp T.b_law_same .nil passE0 (pa_cons (pv 4) (pa_cons (pv 3) pa_nil)))))))))))))), ?_⟩
  refine seq_cut (fun σ H1 => ∃ (b : Addr) (e t u d m f : Int), σ = [some (.ref a), some (.ref b), none, none, none, none] ∧ Same H H1 ∧ H1 b = some (.lst (row6 e t u d m f)) ∧ Shp e t u d m f) (fun N hN => ?_) ?_
  ·walk_at "gzn"
   exact ⟨a, ns, rfl, hS, hn, fun b e t u d m f H1 s1 _ hb sh => hN _ _ ⟨b, e, t, u, d, m, f, rfl, s1, hb, sh⟩⟩
  rintro σ H1 ⟨b, e, t, u, d, m, f, rfl, s1, hb, sh⟩
  refine seq_cut (fun σ H2 => ∃ (c : Addr) (cs : List Int), σ = [some (.ref a), some (.ref b), some (.ref c), none, none, none] ∧ Same H1 H2 ∧ H2 c = some (.lst (cs.map V.int)) ∧ cs.length = t.toNat) (fun N hN => ?_) ?_
  ·walk_at "gzn"
   exact ⟨a, b, ns, e, t, u, d, m, f, rfl, s1.seq hS, hn, SqL.of hb, sh, fun c cs H2 s2 _ hc hcl _ => hN _ _ ⟨c, cs, rfl, s2, hc, hcl⟩⟩
  rintro σ H2 ⟨c, cs, rfl, s2, hc, hcl⟩
  refine seq_cut (fun σ H3 => ∃ (w : Addr) (tb : Tb), σ = [some (.ref a), some (.ref b), some (.ref c), some (.ref w), none, none] ∧ Same H2 H3 ∧ TabAt H3 w tb ∧ okT e t tb ∧ tb.length ≤ 24 ∧ ∀ r ∈ tb, crossed r.2.1 r.2.2 = false) (fun N hN => ?_) ?_
  ·walk_at "gzn"
   exact ⟨a, b, c, ns, cs, e, t, u, d, m, f, rfl, (s1.trans s2).seq hS, hn, SqL.of (s2 _ _ hb), sh, SqL.of hc, hcl, fun w tb H3 s3 fw hT hok h24 hcr => hN _ _ ⟨w, tb, rfl, s3, hT, hok, h24, hcr⟩⟩
  rintro σ H3 ⟨w, tb, rfl, s3, hT, hok, h24, hcr⟩
  have S3 := s1.trans (s2.trans s3)
  have b3 := (s2.trans s3) _ _ hb
  have c3 := s3 _ _ hc
  refine seq_cut (fun σ H4 => ∃ (x p : Addr) (rs : Tb), σ = [some (.ref a), some (.ref b), some (.ref c), some (.ref w), some (.ref x), none] ∧ Same H3 H4 ∧ H3 p = none ∧ BrdT T.C_Board H4 x e t u d m p rs ∧ rs.Perm tb) (fun N hN => ?_) ?_
  ·walk_at "gzn"
   refine ⟨a, b, w, ns, e, t, u, d, m, f, tb, rfl, S3.seq hS, hn, SqL.of b3, sh, hT, hok, by omega, hcr, fun x p rs H4 s4 fx fp hB hrs => hN _ _ ⟨x, p, rs, rfl, s4, fp, hB, ?_⟩⟩
   rcases hrs with rfl | rfl
   ·exact .refl _
   ·exact List.reverse_perm _
  rintro σ H4 ⟨x, p, rs, rfl, s4, fp, hB, hpm⟩
  have wp : w ≠ p := hT.ne fp
  refine seq_cut (fun σ H5 => ∃ (o : Addr) (os : List Int), σ = [some (.ref a), some (.ref b), some (.ref c), some (.ref w), some (.ref x), some (.ref o)] ∧ Same H4 H5 ∧ H5 o = some (.lst (os.map V.int)) ∧ os.length = t.toNat) (fun N hN => ?_) ?_
  ·walk_at "gzn"
   exact ⟨a, b, c, ns, cs, e, t, u, d, m, f, rfl, (S3.trans s4).seq hS, hn, SqL.of (s4 _ _ b3), sh, SqL.of (s4 _ _ c3), hcl, fun o os H5 s5 _ ho hol => hN _ _ ⟨o, os, rfl, s5, ho, hol⟩⟩
  rintro σ H5 ⟨o, os, rfl, s5, ho, hol⟩
  have s45 := s4.trans s5
  refine seq_cut (fun σ H6 => σ = [some (.ref a), some (.ref b), some (.ref c), some (.ref w), some (.ref x), some (.ref o)] ∧ Same H5 H6) (fun N hN => ?_) ?_
  ·walk_at "gzn"
   refine ⟨x, b, w, o, p, os, e, t, u, d, m, f, tb, rs, rfl, SqL.of (s45 _ _ b3), sh, SqL.of ho, hol, hT.same s45, hB.same s5, hpm, hok, by omega, fun H6 s6 => ?_⟩
   walk_at "gzn"
   refine ⟨x, b, w, c, p, cs, e, t, u, d, m, f, tb, rs, rfl, SqL.of ((s45.trans s6) _ _ b3), sh, SqL.of ((s45.trans s6) _ _ c3), hcl, hT.same (s45.trans s6), hB.same (s5.trans s6), hpm, hok, by omega, fun H7 s7 => ?_⟩
   walk_at "gzn"
   exact hN _ _ ⟨rfl, s6.trans s7⟩
  rintro σ H6 ⟨rfl, s6⟩
  have s46 := s45.trans s6
  have T6 := hT.same s46
  have B6 := hB.same (s5.trans s6)
  refine seq_cut (fun σ H7 => ∃ (tb' rs' : Tb), σ = [some (.ref a), some (.ref b), some (.ref c), some (.ref w), some (.ref x), some (.ref o)] ∧ But [w, p] H6 H7 ∧ TabAt H7 w tb' ∧ BrdT T.C_Board H7 x e t u d m p rs' ∧ rs'.Perm tb' ∧ okT e t tb' ∧ tb'.length ≤ 25) (fun N hN => ?_) ?_
  ·walk_at "gzn"
   exact ⟨a, b, c, w, x, p, ns, cs, e, t, u, d, m, f, tb, rs, rfl, (S3.trans s46).seq hS, hn, SqL.of (s46 _ _ b3), sh, SqL.of (s46 _ _ c3), hcl, T6, B6, wp, hpm, hok, by omega, hcr, fun tb' rs' H7 bu hT7 hB7 hp7 hok7 hl7 _ => hN _ _ ⟨tb', rs', rfl, bu, hT7, hB7, hp7, hok7, by omega⟩⟩
  rintro σ H7 ⟨tb', rs', rfl, bu, hT7, hB7, hp7, hok7, hl7⟩
  have F : Fr H6 H7 := But.fr bu fun q hq => by
   have hq' : q = w ∨ q = p := by simpa using hq
   rcases hq' with rfl | rfl
   ·exact T6.dct
   ·exact B6.tb.dct
  have b7 : H7 b = some (.lst (row6 e t u d m f)) := F b (.lst (row6 e t u d m f)) (fun _ z => nomatch z) (s46 _ _ b3)
  have o7 : H7 o = some (.lst (os.map V.int)) := F o (.lst (os.map V.int)) (fun _ z => nomatch z) (s6 _ _ ho)
  walk_at "gzn"
  refine ⟨x, b, w, o, p, os, e, t, u, d, m, f, tb', rs', rfl, SqL.of b7, sh, SqL.of o7, hol, hT7, hB7, hp7, hok7, by omega, fun H8 s8 => ?_⟩
  walk_at "gzn"
  exact ⟨x, p, w, e, t, u, d, m, tb', rs', rfl, hB7.same s8, hT7.same s8, hok7, hp7, by omega, fun H9 s9 => q _⟩
end
theorem fin_mk {l : PySem.W.OpenLaw} {w : World} {K : PySem.W.Frag} {h : Heap} {mg : Str → Option Value} {fa : Addr} (X : K.In h) (G : h.Ns mainGlobals mg) (hfa : mg "law" = some (.ref fa))
 {f_is_crossed : Addr} {od_is_crossed an_is_crossed : Option Addr} {sl_is_crossed : Array (Option Value)} {oc_is_crossed kV_is_crossed dc_is_crossed pm_is_crossed cd_is_crossed ct_is_crossed : Value}
 {f_holds : Addr} {od_holds an_holds : Option Addr} {sl_holds : Array (Option Value)} {oc_holds kV_holds dc_holds pm_holds cd_holds ct_holds : Value}
 {f_meet : Addr} {od_meet an_meet : Option Addr} {sl_meet : Array (Option Value)} {oc_meet kV_meet dc_meet pm_meet cd_meet ct_meet : Value}
 {f_common : Addr} {od_common an_common : Option Addr} {sl_common : Array (Option Value)} {oc_common kV_common dc_common pm_common cd_common ct_common : Value}
 {f_has_part : Addr} {od_has_part an_has_part : Option Addr} {sl_has_part : Array (Option Value)} {oc_has_part kV_has_part dc_has_part pm_has_part cd_has_part ct_has_part : Value}
 {f_check_claim : Addr} {od_check_claim an_check_claim : Option Addr} {sl_check_claim : Array (Option Value)} {oc_check_claim kV_check_claim dc_check_claim pm_check_claim cd_check_claim ct_check_claim : Value}
 {f_stretches_of : Addr} {od_stretches_of an_stretches_of : Option Addr} {sl_stretches_of : Array (Option Value)} {oc_stretches_of kV_stretches_of dc_stretches_of pm_stretches_of cd_stretches_of ct_stretches_of : Value}
 {f_paces : Addr} {od_paces an_paces : Option Addr} {sl_paces : Array (Option Value)} {oc_paces kV_paces dc_paces pm_paces cd_paces ct_paces : Value}
 {f_marks_of : Addr} {od_marks_of an_marks_of : Option Addr} {sl_marks_of : Array (Option Value)} {oc_marks_of kV_marks_of dc_marks_of pm_marks_of cd_marks_of ct_marks_of : Value}
 {f_is_lying : Addr} {od_is_lying an_is_lying : Option Addr} {sl_is_lying : Array (Option Value)} {oc_is_lying kV_is_lying dc_is_lying pm_is_lying cd_is_lying ct_is_lying : Value}
 {f_liars : Addr} {od_liars an_liars : Option Addr} {sl_liars : Array (Option Value)} {oc_liars kV_liars dc_liars pm_liars cd_liars ct_liars : Value}
 {f_keeps : Addr} {od_keeps an_keeps : Option Addr} {sl_keeps : Array (Option Value)} {oc_keeps kV_keeps dc_keeps pm_keeps cd_keeps ct_keeps : Value}
 {f_fits : Addr} {od_fits an_fits : Option Addr} {sl_fits : Array (Option Value)} {oc_fits kV_fits dc_fits pm_fits cd_fits ct_fits : Value}
 {f_Board_init__ : Addr} {od_Board_init__ an_Board_init__ : Option Addr} {sl_Board_init__ : Array (Option Value)} {oc_Board_init__ kV_Board_init__ dc_Board_init__ pm_Board_init__ cd_Board_init__ ct_Board_init__ : Value}
 {f_Board_has_eye : Addr} {od_Board_has_eye an_Board_has_eye : Option Addr} {sl_Board_has_eye : Array (Option Value)} {oc_Board_has_eye kV_Board_has_eye dc_Board_has_eye pm_Board_has_eye cd_Board_has_eye ct_Board_has_eye : Value}
 {f_Board_has_turn : Addr} {od_Board_has_turn an_Board_has_turn : Option Addr} {sl_Board_has_turn : Array (Option Value)} {oc_Board_has_turn kV_Board_has_turn dc_Board_has_turn pm_Board_has_turn cd_Board_has_turn ct_Board_has_turn : Value}
 {f_Board_tell : Addr} {od_Board_tell an_Board_tell : Option Addr} {sl_Board_tell : Array (Option Value)} {oc_Board_tell kV_Board_tell dc_Board_tell pm_Board_tell cd_Board_tell ct_Board_tell : Value}
 {f_Board_hush : Addr} {od_Board_hush an_Board_hush : Option Addr} {sl_Board_hush : Array (Option Value)} {oc_Board_hush kV_Board_hush dc_Board_hush pm_Board_hush cd_Board_hush ct_Board_hush : Value}
 {f_Board_tellings : Addr} {od_Board_tellings an_Board_tellings : Option Addr} {sl_Board_tellings : Array (Option Value)} {oc_Board_tellings kV_Board_tellings dc_Board_tellings pm_Board_tellings cd_Board_tellings ct_Board_tellings : Value}
 {f_Board_check_spot : Addr} {od_Board_check_spot an_Board_check_spot : Option Addr} {sl_Board_check_spot : Array (Option Value)} {oc_Board_check_spot kV_Board_check_spot dc_Board_check_spot pm_Board_check_spot cd_Board_check_spot ct_Board_check_spot : Value}
 {f_Board_check_word : Addr} {od_Board_check_word an_Board_check_word : Option Addr} {sl_Board_check_word : Array (Option Value)} {oc_Board_check_word kV_Board_check_word dc_Board_check_word pm_Board_check_word cd_Board_check_word ct_Board_check_word : Value}
 {f_law_pick : Addr} {od_law_pick an_law_pick : Option Addr} {sl_law_pick : Array (Option Value)} {oc_law_pick kV_law_pick dc_law_pick pm_law_pick cd_law_pick ct_law_pick : Value}
 {f_law_wide : Addr} {od_law_wide an_law_wide : Option Addr} {sl_law_wide : Array (Option Value)} {oc_law_wide kV_law_wide dc_law_wide pm_law_wide cd_law_wide ct_law_wide : Value}
 {f_law_shape : Addr} {od_law_shape an_law_shape : Option Addr} {sl_law_shape : Array (Option Value)} {oc_law_shape kV_law_shape dc_law_shape pm_law_shape cd_law_shape ct_law_shape : Value}
 {f_law_course : Addr} {od_law_course an_law_course : Option Addr} {sl_law_course : Array (Option Value)} {oc_law_course kV_law_course dc_law_course pm_law_course cd_law_course ct_law_course : Value}
 {f_law_word : Addr} {od_law_word an_law_word : Option Addr} {sl_law_word : Array (Option Value)} {oc_law_word kV_law_word dc_law_word pm_law_word cd_law_word ct_law_word : Value}
 {f_law_words : Addr} {od_law_words an_law_words : Option Addr} {sl_law_words : Array (Option Value)} {oc_law_words kV_law_words dc_law_words pm_law_words cd_law_words ct_law_words : Value}
 {f_law_board : Addr} {od_law_board an_law_board : Option Addr} {sl_law_board : Array (Option Value)} {oc_law_board kV_law_board dc_law_board pm_law_board cd_law_board ct_law_board : Value}
 {f_law_in : Addr} {od_law_in an_law_in : Option Addr} {sl_law_in : Array (Option Value)} {oc_law_in kV_law_in dc_law_in pm_law_in cd_law_in ct_law_in : Value}
 {f_law_whole : Addr} {od_law_whole an_law_whole : Option Addr} {sl_law_whole : Array (Option Value)} {oc_law_whole kV_law_whole dc_law_whole pm_law_whole cd_law_whole ct_law_whole : Value}
 {f_law_liars : Addr} {od_law_liars an_law_liars : Option Addr} {sl_law_liars : Array (Option Value)} {oc_law_liars kV_law_liars dc_law_liars pm_law_liars cd_law_liars ct_law_liars : Value}
 {f_law_same : Addr} {od_law_same an_law_same : Option Addr} {sl_law_same : Array (Option Value)} {oc_law_same kV_law_same dc_law_same pm_law_same cd_law_same ct_law_same : Value}
 {f_law_moved : Addr} {od_law_moved an_law_moved : Option Addr} {sl_law_moved : Array (Option Value)} {oc_law_moved kV_law_moved dc_law_moved pm_law_moved cd_law_moved ct_law_moved : Value}
 {f_law_deed : Addr} {od_law_deed an_law_deed : Option Addr} {sl_law_deed : Array (Option Value)} {oc_law_deed kV_law_deed dc_law_deed pm_law_deed cd_law_deed ct_law_deed : Value}
 {f_law_allowed : Addr} {od_law_allowed an_law_allowed : Option Addr} {sl_law_allowed : Array (Option Value)} {oc_law_allowed kV_law_allowed dc_law_allowed pm_law_allowed cd_law_allowed ct_law_allowed : Value}
 {f_law_told : Addr} {od_law_told an_law_told : Option Addr} {sl_law_told : Array (Option Value)} {oc_law_told kV_law_told dc_law_told pm_law_told cd_law_told ct_law_told : Value}
 {f_law : Addr} {od_law an_law : Option Addr} {sl_law : Array (Option Value)} {oc_law kV_law dc_law pm_law cd_law ct_law : Value}
 {C_GazeError : Addr}
 {C_NoBoard : Addr}
 {C_NoTelling : Addr}
 {C_NoClaim : Addr}
 {C_Board : Addr}
 {tk_EYES_AT_MOST : Tok}
 {tk_TURNS_AT_MOST : Tok}
 (a_is_crossed : PySem.W.nsIn K mainGlobals "is_crossed" = some (some (.ref f_is_crossed))) (l_is_crossed : K.lookup f_is_crossed = some ⟨oc_is_crossed, od_is_crossed, .func (PySem.W.fnOf "is_crossed" "is_crossed" (defArgs s_is_crossed) (defBody s_is_crossed) (defScope s_is_crossed) .none kV_is_crossed dc_is_crossed pm_is_crossed an_is_crossed cd_is_crossed ct_is_crossed), sl_is_crossed⟩) (c_is_crossed : PySem.W.codeIn K cd_is_crossed "is_crossed" = true) (k_is_crossed : PySem.W.keepIn K (.ref f_is_crossed) = true)
 (a_holds : PySem.W.nsIn K mainGlobals "holds" = some (some (.ref f_holds))) (l_holds : K.lookup f_holds = some ⟨oc_holds, od_holds, .func (PySem.W.fnOf "holds" "holds" (defArgs s_holds) (defBody s_holds) (defScope s_holds) .none kV_holds dc_holds pm_holds an_holds cd_holds ct_holds), sl_holds⟩) (c_holds : PySem.W.codeIn K cd_holds "holds" = true) (k_holds : PySem.W.keepIn K (.ref f_holds) = true)
 (a_meet : PySem.W.nsIn K mainGlobals "meet" = some (some (.ref f_meet))) (l_meet : K.lookup f_meet = some ⟨oc_meet, od_meet, .func (PySem.W.fnOf "meet" "meet" (defArgs s_meet) (defBody s_meet) (defScope s_meet) .none kV_meet dc_meet pm_meet an_meet cd_meet ct_meet), sl_meet⟩) (c_meet : PySem.W.codeIn K cd_meet "meet" = true) (k_meet : PySem.W.keepIn K (.ref f_meet) = true)
 (a_common : PySem.W.nsIn K mainGlobals "common" = some (some (.ref f_common))) (l_common : K.lookup f_common = some ⟨oc_common, od_common, .func (PySem.W.fnOf "common" "common" (defArgs s_common) (defBody s_common) (defScope s_common) .none kV_common dc_common pm_common an_common cd_common ct_common), sl_common⟩) (c_common : PySem.W.codeIn K cd_common "common" = true) (k_common : PySem.W.keepIn K (.ref f_common) = true)
 (a_has_part : PySem.W.nsIn K mainGlobals "has_part" = some (some (.ref f_has_part))) (l_has_part : K.lookup f_has_part = some ⟨oc_has_part, od_has_part, .func (PySem.W.fnOf "has_part" "has_part" (defArgs s_has_part) (defBody s_has_part) (defScope s_has_part) .none kV_has_part dc_has_part pm_has_part an_has_part cd_has_part ct_has_part), sl_has_part⟩) (c_has_part : PySem.W.codeIn K cd_has_part "has_part" = true) (k_has_part : PySem.W.keepIn K (.ref f_has_part) = true)
 (a_check_claim : PySem.W.nsIn K mainGlobals "check_claim" = some (some (.ref f_check_claim))) (l_check_claim : K.lookup f_check_claim = some ⟨oc_check_claim, od_check_claim, .func (PySem.W.fnOf "check_claim" "check_claim" (defArgs s_check_claim) (defBody s_check_claim) (defScope s_check_claim) .none kV_check_claim dc_check_claim pm_check_claim an_check_claim cd_check_claim ct_check_claim), sl_check_claim⟩) (c_check_claim : PySem.W.codeIn K cd_check_claim "check_claim" = true) (k_check_claim : PySem.W.keepIn K (.ref f_check_claim) = true)
 (a_stretches_of : PySem.W.nsIn K mainGlobals "stretches_of" = some (some (.ref f_stretches_of))) (l_stretches_of : K.lookup f_stretches_of = some ⟨oc_stretches_of, od_stretches_of, .func (PySem.W.fnOf "stretches_of" "stretches_of" (defArgs s_stretches_of) (defBody s_stretches_of) (defScope s_stretches_of) .none kV_stretches_of dc_stretches_of pm_stretches_of an_stretches_of cd_stretches_of ct_stretches_of), sl_stretches_of⟩) (c_stretches_of : PySem.W.codeIn K cd_stretches_of "stretches_of" = true) (k_stretches_of : PySem.W.keepIn K (.ref f_stretches_of) = true)
 (a_paces : PySem.W.nsIn K mainGlobals "paces" = some (some (.ref f_paces))) (l_paces : K.lookup f_paces = some ⟨oc_paces, od_paces, .func (PySem.W.fnOf "paces" "paces" (defArgs s_paces) (defBody s_paces) (defScope s_paces) .none kV_paces dc_paces pm_paces an_paces cd_paces ct_paces), sl_paces⟩) (c_paces : PySem.W.codeIn K cd_paces "paces" = true) (k_paces : PySem.W.keepIn K (.ref f_paces) = true)
 (a_marks_of : PySem.W.nsIn K mainGlobals "marks_of" = some (some (.ref f_marks_of))) (l_marks_of : K.lookup f_marks_of = some ⟨oc_marks_of, od_marks_of, .func (PySem.W.fnOf "marks_of" "marks_of" (defArgs s_marks_of) (defBody s_marks_of) (defScope s_marks_of) .none kV_marks_of dc_marks_of pm_marks_of an_marks_of cd_marks_of ct_marks_of), sl_marks_of⟩) (c_marks_of : PySem.W.codeIn K cd_marks_of "marks_of" = true) (k_marks_of : PySem.W.keepIn K (.ref f_marks_of) = true)
 (a_is_lying : PySem.W.nsIn K mainGlobals "is_lying" = some (some (.ref f_is_lying))) (l_is_lying : K.lookup f_is_lying = some ⟨oc_is_lying, od_is_lying, .func (PySem.W.fnOf "is_lying" "is_lying" (defArgs s_is_lying) (defBody s_is_lying) (defScope s_is_lying) .none kV_is_lying dc_is_lying pm_is_lying an_is_lying cd_is_lying ct_is_lying), sl_is_lying⟩) (c_is_lying : PySem.W.codeIn K cd_is_lying "is_lying" = true) (k_is_lying : PySem.W.keepIn K (.ref f_is_lying) = true)
 (a_liars : PySem.W.nsIn K mainGlobals "liars" = some (some (.ref f_liars))) (l_liars : K.lookup f_liars = some ⟨oc_liars, od_liars, .func (PySem.W.fnOf "liars" "liars" (defArgs s_liars) (defBody s_liars) (defScope s_liars) .none kV_liars dc_liars pm_liars an_liars cd_liars ct_liars), sl_liars⟩) (c_liars : PySem.W.codeIn K cd_liars "liars" = true) (k_liars : PySem.W.keepIn K (.ref f_liars) = true)
 (a_keeps : PySem.W.nsIn K mainGlobals "keeps" = some (some (.ref f_keeps))) (l_keeps : K.lookup f_keeps = some ⟨oc_keeps, od_keeps, .func (PySem.W.fnOf "keeps" "keeps" (defArgs s_keeps) (defBody s_keeps) (defScope s_keeps) .none kV_keeps dc_keeps pm_keeps an_keeps cd_keeps ct_keeps), sl_keeps⟩) (c_keeps : PySem.W.codeIn K cd_keeps "keeps" = true) (k_keeps : PySem.W.keepIn K (.ref f_keeps) = true)
 (a_fits : PySem.W.nsIn K mainGlobals "fits" = some (some (.ref f_fits))) (l_fits : K.lookup f_fits = some ⟨oc_fits, od_fits, .func (PySem.W.fnOf "fits" "fits" (defArgs s_fits) (defBody s_fits) (defScope s_fits) .none kV_fits dc_fits pm_fits an_fits cd_fits ct_fits), sl_fits⟩) (c_fits : PySem.W.codeIn K cd_fits "fits" = true) (k_fits : PySem.W.keepIn K (.ref f_fits) = true)
 (a_Board_init__ : PySem.W.findIn K (.ref C_Board) "__init__" = some (some (.ref f_Board_init__))) (l_Board_init__ : K.lookup f_Board_init__ = some ⟨oc_Board_init__, od_Board_init__, .func (PySem.W.fnOf "__init__" "Board.__init__" (defArgs s_Board_init__) (defBody s_Board_init__) (defScope s_Board_init__) .none kV_Board_init__ dc_Board_init__ pm_Board_init__ an_Board_init__ cd_Board_init__ ct_Board_init__), sl_Board_init__⟩) (c_Board_init__ : PySem.W.codeIn K cd_Board_init__ "Board.__init__" = true) (k_Board_init__ : PySem.W.keepIn K (.ref f_Board_init__) = true)
 (a_Board_has_eye : PySem.W.findIn K (.ref C_Board) "has_eye" = some (some (.ref f_Board_has_eye))) (l_Board_has_eye : K.lookup f_Board_has_eye = some ⟨oc_Board_has_eye, od_Board_has_eye, .func (PySem.W.fnOf "has_eye" "Board.has_eye" (defArgs s_Board_has_eye) (defBody s_Board_has_eye) (defScope s_Board_has_eye) .none kV_Board_has_eye dc_Board_has_eye pm_Board_has_eye an_Board_has_eye cd_Board_has_eye ct_Board_has_eye), sl_Board_has_eye⟩) (c_Board_has_eye : PySem.W.codeIn K cd_Board_has_eye "Board.has_eye" = true) (k_Board_has_eye : PySem.W.keepIn K (.ref f_Board_has_eye) = true)
 (a_Board_has_turn : PySem.W.findIn K (.ref C_Board) "has_turn" = some (some (.ref f_Board_has_turn))) (l_Board_has_turn : K.lookup f_Board_has_turn = some ⟨oc_Board_has_turn, od_Board_has_turn, .func (PySem.W.fnOf "has_turn" "Board.has_turn" (defArgs s_Board_has_turn) (defBody s_Board_has_turn) (defScope s_Board_has_turn) .none kV_Board_has_turn dc_Board_has_turn pm_Board_has_turn an_Board_has_turn cd_Board_has_turn ct_Board_has_turn), sl_Board_has_turn⟩) (c_Board_has_turn : PySem.W.codeIn K cd_Board_has_turn "Board.has_turn" = true) (k_Board_has_turn : PySem.W.keepIn K (.ref f_Board_has_turn) = true)
 (a_Board_tell : PySem.W.findIn K (.ref C_Board) "tell" = some (some (.ref f_Board_tell))) (l_Board_tell : K.lookup f_Board_tell = some ⟨oc_Board_tell, od_Board_tell, .func (PySem.W.fnOf "tell" "Board.tell" (defArgs s_Board_tell) (defBody s_Board_tell) (defScope s_Board_tell) .none kV_Board_tell dc_Board_tell pm_Board_tell an_Board_tell cd_Board_tell ct_Board_tell), sl_Board_tell⟩) (c_Board_tell : PySem.W.codeIn K cd_Board_tell "Board.tell" = true) (k_Board_tell : PySem.W.keepIn K (.ref f_Board_tell) = true)
 (a_Board_hush : PySem.W.findIn K (.ref C_Board) "hush" = some (some (.ref f_Board_hush))) (l_Board_hush : K.lookup f_Board_hush = some ⟨oc_Board_hush, od_Board_hush, .func (PySem.W.fnOf "hush" "Board.hush" (defArgs s_Board_hush) (defBody s_Board_hush) (defScope s_Board_hush) .none kV_Board_hush dc_Board_hush pm_Board_hush an_Board_hush cd_Board_hush ct_Board_hush), sl_Board_hush⟩) (c_Board_hush : PySem.W.codeIn K cd_Board_hush "Board.hush" = true) (k_Board_hush : PySem.W.keepIn K (.ref f_Board_hush) = true)
 (a_Board_tellings : PySem.W.findIn K (.ref C_Board) "tellings" = some (some (.ref f_Board_tellings))) (l_Board_tellings : K.lookup f_Board_tellings = some ⟨oc_Board_tellings, od_Board_tellings, .func (PySem.W.fnOf "tellings" "Board.tellings" (defArgs s_Board_tellings) (defBody s_Board_tellings) (defScope s_Board_tellings) .none kV_Board_tellings dc_Board_tellings pm_Board_tellings an_Board_tellings cd_Board_tellings ct_Board_tellings), sl_Board_tellings⟩) (c_Board_tellings : PySem.W.codeIn K cd_Board_tellings "Board.tellings" = true) (k_Board_tellings : PySem.W.keepIn K (.ref f_Board_tellings) = true)
 (a_Board_check_spot : PySem.W.findIn K (.ref C_Board) "check_spot" = some (some (.ref f_Board_check_spot))) (l_Board_check_spot : K.lookup f_Board_check_spot = some ⟨oc_Board_check_spot, od_Board_check_spot, .func (PySem.W.fnOf "check_spot" "Board.check_spot" (defArgs s_Board_check_spot) (defBody s_Board_check_spot) (defScope s_Board_check_spot) .none kV_Board_check_spot dc_Board_check_spot pm_Board_check_spot an_Board_check_spot cd_Board_check_spot ct_Board_check_spot), sl_Board_check_spot⟩) (c_Board_check_spot : PySem.W.codeIn K cd_Board_check_spot "Board.check_spot" = true) (k_Board_check_spot : PySem.W.keepIn K (.ref f_Board_check_spot) = true)
 (a_Board_check_word : PySem.W.findIn K (.ref C_Board) "check_word" = some (some (.ref f_Board_check_word))) (l_Board_check_word : K.lookup f_Board_check_word = some ⟨oc_Board_check_word, od_Board_check_word, .func (PySem.W.fnOf "check_word" "Board.check_word" (defArgs s_Board_check_word) (defBody s_Board_check_word) (defScope s_Board_check_word) .none kV_Board_check_word dc_Board_check_word pm_Board_check_word an_Board_check_word cd_Board_check_word ct_Board_check_word), sl_Board_check_word⟩) (c_Board_check_word : PySem.W.codeIn K cd_Board_check_word "Board.check_word" = true) (k_Board_check_word : PySem.W.keepIn K (.ref f_Board_check_word) = true)
 (a_law_pick : PySem.W.nsIn K mainGlobals "_law_pick" = some (some (.ref f_law_pick))) (l_law_pick : K.lookup f_law_pick = some ⟨oc_law_pick, od_law_pick, .func (PySem.W.fnOf "_law_pick" "_law_pick" (defArgs s_law_pick) (defBody s_law_pick) (defScope s_law_pick) .none kV_law_pick dc_law_pick pm_law_pick an_law_pick cd_law_pick ct_law_pick), sl_law_pick⟩) (c_law_pick : PySem.W.codeIn K cd_law_pick "_law_pick" = true) (k_law_pick : PySem.W.keepIn K (.ref f_law_pick) = true)
 (a_law_wide : PySem.W.nsIn K mainGlobals "_law_wide" = some (some (.ref f_law_wide))) (l_law_wide : K.lookup f_law_wide = some ⟨oc_law_wide, od_law_wide, .func (PySem.W.fnOf "_law_wide" "_law_wide" (defArgs s_law_wide) (defBody s_law_wide) (defScope s_law_wide) .none kV_law_wide dc_law_wide pm_law_wide an_law_wide cd_law_wide ct_law_wide), sl_law_wide⟩) (c_law_wide : PySem.W.codeIn K cd_law_wide "_law_wide" = true) (k_law_wide : PySem.W.keepIn K (.ref f_law_wide) = true)
 (a_law_shape : PySem.W.nsIn K mainGlobals "_law_shape" = some (some (.ref f_law_shape))) (l_law_shape : K.lookup f_law_shape = some ⟨oc_law_shape, od_law_shape, .func (PySem.W.fnOf "_law_shape" "_law_shape" (defArgs s_law_shape) (defBody s_law_shape) (defScope s_law_shape) .none kV_law_shape dc_law_shape pm_law_shape an_law_shape cd_law_shape ct_law_shape), sl_law_shape⟩) (c_law_shape : PySem.W.codeIn K cd_law_shape "_law_shape" = true) (k_law_shape : PySem.W.keepIn K (.ref f_law_shape) = true)
 (a_law_course : PySem.W.nsIn K mainGlobals "_law_course" = some (some (.ref f_law_course))) (l_law_course : K.lookup f_law_course = some ⟨oc_law_course, od_law_course, .func (PySem.W.fnOf "_law_course" "_law_course" (defArgs s_law_course) (defBody s_law_course) (defScope s_law_course) .none kV_law_course dc_law_course pm_law_course an_law_course cd_law_course ct_law_course), sl_law_course⟩) (c_law_course : PySem.W.codeIn K cd_law_course "_law_course" = true) (k_law_course : PySem.W.keepIn K (.ref f_law_course) = true)
 (a_law_word : PySem.W.nsIn K mainGlobals "_law_word" = some (some (.ref f_law_word))) (l_law_word : K.lookup f_law_word = some ⟨oc_law_word, od_law_word, .func (PySem.W.fnOf "_law_word" "_law_word" (defArgs s_law_word) (defBody s_law_word) (defScope s_law_word) .none kV_law_word dc_law_word pm_law_word an_law_word cd_law_word ct_law_word), sl_law_word⟩) (c_law_word : PySem.W.codeIn K cd_law_word "_law_word" = true) (k_law_word : PySem.W.keepIn K (.ref f_law_word) = true)
 (a_law_words : PySem.W.nsIn K mainGlobals "_law_words" = some (some (.ref f_law_words))) (l_law_words : K.lookup f_law_words = some ⟨oc_law_words, od_law_words, .func (PySem.W.fnOf "_law_words" "_law_words" (defArgs s_law_words) (defBody s_law_words) (defScope s_law_words) .none kV_law_words dc_law_words pm_law_words an_law_words cd_law_words ct_law_words), sl_law_words⟩) (c_law_words : PySem.W.codeIn K cd_law_words "_law_words" = true) (k_law_words : PySem.W.keepIn K (.ref f_law_words) = true)
 (a_law_board : PySem.W.nsIn K mainGlobals "_law_board" = some (some (.ref f_law_board))) (l_law_board : K.lookup f_law_board = some ⟨oc_law_board, od_law_board, .func (PySem.W.fnOf "_law_board" "_law_board" (defArgs s_law_board) (defBody s_law_board) (defScope s_law_board) .none kV_law_board dc_law_board pm_law_board an_law_board cd_law_board ct_law_board), sl_law_board⟩) (c_law_board : PySem.W.codeIn K cd_law_board "_law_board" = true) (k_law_board : PySem.W.keepIn K (.ref f_law_board) = true)
 (a_law_in : PySem.W.nsIn K mainGlobals "_law_in" = some (some (.ref f_law_in))) (l_law_in : K.lookup f_law_in = some ⟨oc_law_in, od_law_in, .func (PySem.W.fnOf "_law_in" "_law_in" (defArgs s_law_in) (defBody s_law_in) (defScope s_law_in) .none kV_law_in dc_law_in pm_law_in an_law_in cd_law_in ct_law_in), sl_law_in⟩) (c_law_in : PySem.W.codeIn K cd_law_in "_law_in" = true) (k_law_in : PySem.W.keepIn K (.ref f_law_in) = true)
 (a_law_whole : PySem.W.nsIn K mainGlobals "_law_whole" = some (some (.ref f_law_whole))) (l_law_whole : K.lookup f_law_whole = some ⟨oc_law_whole, od_law_whole, .func (PySem.W.fnOf "_law_whole" "_law_whole" (defArgs s_law_whole) (defBody s_law_whole) (defScope s_law_whole) .none kV_law_whole dc_law_whole pm_law_whole an_law_whole cd_law_whole ct_law_whole), sl_law_whole⟩) (c_law_whole : PySem.W.codeIn K cd_law_whole "_law_whole" = true) (k_law_whole : PySem.W.keepIn K (.ref f_law_whole) = true)
 (a_law_liars : PySem.W.nsIn K mainGlobals "_law_liars" = some (some (.ref f_law_liars))) (l_law_liars : K.lookup f_law_liars = some ⟨oc_law_liars, od_law_liars, .func (PySem.W.fnOf "_law_liars" "_law_liars" (defArgs s_law_liars) (defBody s_law_liars) (defScope s_law_liars) .none kV_law_liars dc_law_liars pm_law_liars an_law_liars cd_law_liars ct_law_liars), sl_law_liars⟩) (c_law_liars : PySem.W.codeIn K cd_law_liars "_law_liars" = true) (k_law_liars : PySem.W.keepIn K (.ref f_law_liars) = true)
 (a_law_same : PySem.W.nsIn K mainGlobals "_law_same" = some (some (.ref f_law_same))) (l_law_same : K.lookup f_law_same = some ⟨oc_law_same, od_law_same, .func (PySem.W.fnOf "_law_same" "_law_same" (defArgs s_law_same) (defBody s_law_same) (defScope s_law_same) .none kV_law_same dc_law_same pm_law_same an_law_same cd_law_same ct_law_same), sl_law_same⟩) (c_law_same : PySem.W.codeIn K cd_law_same "_law_same" = true) (k_law_same : PySem.W.keepIn K (.ref f_law_same) = true)
 (a_law_moved : PySem.W.nsIn K mainGlobals "_law_moved" = some (some (.ref f_law_moved))) (l_law_moved : K.lookup f_law_moved = some ⟨oc_law_moved, od_law_moved, .func (PySem.W.fnOf "_law_moved" "_law_moved" (defArgs s_law_moved) (defBody s_law_moved) (defScope s_law_moved) .none kV_law_moved dc_law_moved pm_law_moved an_law_moved cd_law_moved ct_law_moved), sl_law_moved⟩) (c_law_moved : PySem.W.codeIn K cd_law_moved "_law_moved" = true) (k_law_moved : PySem.W.keepIn K (.ref f_law_moved) = true)
 (a_law_deed : PySem.W.nsIn K mainGlobals "_law_deed" = some (some (.ref f_law_deed))) (l_law_deed : K.lookup f_law_deed = some ⟨oc_law_deed, od_law_deed, .func (PySem.W.fnOf "_law_deed" "_law_deed" (defArgs s_law_deed) (defBody s_law_deed) (defScope s_law_deed) .none kV_law_deed dc_law_deed pm_law_deed an_law_deed cd_law_deed ct_law_deed), sl_law_deed⟩) (c_law_deed : PySem.W.codeIn K cd_law_deed "_law_deed" = true) (k_law_deed : PySem.W.keepIn K (.ref f_law_deed) = true)
 (a_law_allowed : PySem.W.nsIn K mainGlobals "_law_allowed" = some (some (.ref f_law_allowed))) (l_law_allowed : K.lookup f_law_allowed = some ⟨oc_law_allowed, od_law_allowed, .func (PySem.W.fnOf "_law_allowed" "_law_allowed" (defArgs s_law_allowed) (defBody s_law_allowed) (defScope s_law_allowed) .none kV_law_allowed dc_law_allowed pm_law_allowed an_law_allowed cd_law_allowed ct_law_allowed), sl_law_allowed⟩) (c_law_allowed : PySem.W.codeIn K cd_law_allowed "_law_allowed" = true) (k_law_allowed : PySem.W.keepIn K (.ref f_law_allowed) = true)
 (a_law_told : PySem.W.nsIn K mainGlobals "_law_told" = some (some (.ref f_law_told))) (l_law_told : K.lookup f_law_told = some ⟨oc_law_told, od_law_told, .func (PySem.W.fnOf "_law_told" "_law_told" (defArgs s_law_told) (defBody s_law_told) (defScope s_law_told) .none kV_law_told dc_law_told pm_law_told an_law_told cd_law_told ct_law_told), sl_law_told⟩) (c_law_told : PySem.W.codeIn K cd_law_told "_law_told" = true) (k_law_told : PySem.W.keepIn K (.ref f_law_told) = true)
 (a_law : PySem.W.nsIn K mainGlobals "law" = some (some (.ref f_law))) (l_law : K.lookup f_law = some ⟨oc_law, od_law, .func (PySem.W.fnOf "law" "law" (defArgs s_law) (defBody s_law) (defScope s_law) .none kV_law dc_law pm_law an_law cd_law ct_law), sl_law⟩) (c_law : PySem.W.codeIn K cd_law "law" = true) (k_law : PySem.W.keepIn K (.ref f_law) = true)
 (z_all : PySem.W.nsIn K mainGlobals "all" = some none)
 (z_bool : PySem.W.nsIn K mainGlobals "bool" = some none)
 (z_int : PySem.W.nsIn K mainGlobals "int" = some none)
 (z_isinstance : PySem.W.nsIn K mainGlobals "isinstance" = some none)
 (z_len : PySem.W.nsIn K mainGlobals "len" = some none)
 (z_list : PySem.W.nsIn K mainGlobals "list" = some none)
 (z_max : PySem.W.nsIn K mainGlobals "max" = some none)
 (z_min : PySem.W.nsIn K mainGlobals "min" = some none)
 (z_range : PySem.W.nsIn K mainGlobals "range" = some none)
 (z_sorted : PySem.W.nsIn K mainGlobals "sorted" = some none)
 (z_zip : PySem.W.nsIn K mainGlobals "zip" = some none)
 (e_GazeError : PySem.W.nsIn K mainGlobals "GazeError" = some (some (.ref C_GazeError)))
 (e_NoBoard : PySem.W.nsIn K mainGlobals "NoBoard" = some (some (.ref C_NoBoard)))
 (e_NoTelling : PySem.W.nsIn K mainGlobals "NoTelling" = some (some (.ref C_NoTelling)))
 (e_NoClaim : PySem.W.nsIn K mainGlobals "NoClaim" = some (some (.ref C_NoClaim)))
 (e_Board : PySem.W.nsIn K mainGlobals "Board" = some (some (.ref C_Board)))
 (pg_Board : PySem.W.plainGet K C_Board Str.empty = true) (hd_Board : PySem.W.hasDictIn K C_Board = true) (po_Board : PySem.W.plainOver K C_Board = true) (sa_Board : PySem.W.findIn K (.ref C_Board) "__setattr__" = some (some (.builtin "object.__setattr__")))
 (no_Board_eyes : PySem.W.findIn K (.ref C_Board) "eyes" = some none)
 (no_Board_turns : PySem.W.findIn K (.ref C_Board) "turns" = some none)
 (no_Board_up : PySem.W.findIn K (.ref C_Board) "up" = some none)
 (no_Board_down : PySem.W.findIn K (.ref C_Board) "down" = some none)
 (no_Board_most : PySem.W.findIn K (.ref C_Board) "most" = some none)
 (no_Board_told : PySem.W.findIn K (.ref C_Board) "told" = some none)
 (fn_Board_init__ : PySem.W.isFn K (.ref f_Board_init__) = true)
 (mk_Board : PySem.W.makesIn K C_Board = true) (kc_Board : PySem.W.keepIn K (.ref C_Board) = true)
 (fn_Board_has_eye : PySem.W.isFn K (.ref f_Board_has_eye) = true)
 (fn_Board_has_turn : PySem.W.isFn K (.ref f_Board_has_turn) = true)
 (fn_Board_tell : PySem.W.isFn K (.ref f_Board_tell) = true)
 (fn_Board_hush : PySem.W.isFn K (.ref f_Board_hush) = true)
 (fn_Board_tellings : PySem.W.isFn K (.ref f_Board_tellings) = true)
 (fn_Board_check_spot : PySem.W.isFn K (.ref f_Board_check_spot) = true)
 (fn_Board_check_word : PySem.W.isFn K (.ref f_Board_check_word) = true)
 (x1_NoBoard : PySem.W.excIn K C_NoBoard [.type "ValueError", .type "Exception", .type "BaseException", .type "object"] "ValueError.__new__" = true)
 (x2_NoBoard : PySem.W.mroIn K C_NoBoard (.type "object") = some true)
 (x3_NoBoard : PySem.W.mroIn K C_NoBoard (.type "BaseException") = some true)
 (x4_NoBoard : PySem.W.findIn K (.ref C_NoBoard) "__getattribute__" = some (some (.builtin "BaseException.__getattribute__")))
 (x5_NoBoard : PySem.W.findIn K (.ref C_NoBoard) "__getattr__" = some none)
 (x6_NoBoard : PySem.W.findIn K (.ref C_NoBoard) "__class__" = some (some (.builtin "object.__class__")))
 (x1_NoTelling : PySem.W.excIn K C_NoTelling [.type "ValueError", .type "Exception", .type "BaseException", .type "object"] "ValueError.__new__" = true)
 (x2_NoTelling : PySem.W.mroIn K C_NoTelling (.type "object") = some true)
 (x3_NoTelling : PySem.W.mroIn K C_NoTelling (.type "BaseException") = some true)
 (x4_NoTelling : PySem.W.findIn K (.ref C_NoTelling) "__getattribute__" = some (some (.builtin "BaseException.__getattribute__")))
 (x5_NoTelling : PySem.W.findIn K (.ref C_NoTelling) "__getattr__" = some none)
 (x6_NoTelling : PySem.W.findIn K (.ref C_NoTelling) "__class__" = some (some (.builtin "object.__class__")))
 (x1_NoClaim : PySem.W.excIn K C_NoClaim [.type "ValueError", .type "Exception", .type "BaseException", .type "object"] "ValueError.__new__" = true)
 (x2_NoClaim : PySem.W.mroIn K C_NoClaim (.type "object") = some true)
 (x3_NoClaim : PySem.W.mroIn K C_NoClaim (.type "BaseException") = some true)
 (x4_NoClaim : PySem.W.findIn K (.ref C_NoClaim) "__getattribute__" = some (some (.builtin "BaseException.__getattribute__")))
 (x5_NoClaim : PySem.W.findIn K (.ref C_NoClaim) "__getattr__" = some none)
 (x6_NoClaim : PySem.W.findIn K (.ref C_NoClaim) "__class__" = some (some (.builtin "object.__class__")))
 (zEYES_AT_MOST : PySem.W.nsIn K mainGlobals "EYES_AT_MOST" = some (some (.int 7 tk_EYES_AT_MOST)))
 (zTURNS_AT_MOST : PySem.W.nsIn K mainGlobals "TURNS_AT_MOST" = some (some (.int 12 tk_TURNS_AT_MOST)))
 : ∃ fd : FuncData, (∀ (s : Shared) (v : Value), BindsTo s fd ⟨[v], []⟩ [("_law_script", v)]) ∧ ∀ base : Heap, K.In base → base.Ns mainGlobals mg → FnOk l.prog w K mg base (CXX l.prog w) 7 fa fd ["_law_script"] (sp_law K) := by
 have e := hfa.symm.trans (PySem.W.mg_of X G a_law)
 cases e
 have F_is_crossed := fun_mk (st := s_is_crossed) l_is_crossed c_is_crossed k_is_crossed
 have b_is_crossed := F_is_crossed.binds (ps := ["lo", "hi"]) fun _ _ _ _ _ _ us hl => match us, hl with | [_, _], _ => rfl
 have F_holds := fun_mk (st := s_holds) l_holds c_holds k_holds
 have b_holds := F_holds.binds (ps := ["one", "number"]) fun _ _ _ _ _ _ us hl => match us, hl with | [_, _], _ => rfl
 have F_meet := fun_mk (st := s_meet) l_meet c_meet k_meet
 have b_meet := F_meet.binds (ps := ["one", "other"]) fun _ _ _ _ _ _ us hl => match us, hl with | [_, _], _ => rfl
 have F_common := fun_mk (st := s_common) l_common c_common k_common
 have b_common := F_common.binds (ps := ["some"]) fun _ _ _ _ _ _ us hl => match us, hl with | [_], _ => rfl
 have F_has_part := fun_mk (st := s_has_part) l_has_part c_has_part k_has_part
 have b_has_part := F_has_part.binds (ps := ["board", "kind", "turn"]) fun _ _ _ _ _ _ us hl => match us, hl with | [_, _, _], _ => rfl
 have F_check_claim := fun_mk (st := s_check_claim) l_check_claim c_check_claim k_check_claim
 have b_check_claim := F_check_claim.binds (ps := ["board", "claim"]) fun _ _ _ _ _ _ us hl => match us, hl with | [_, _], _ => rfl
 have F_stretches_of := fun_mk (st := s_stretches_of) l_stretches_of c_stretches_of k_stretches_of
 have b_stretches_of := F_stretches_of.binds (ps := ["claim", "kind", "turn"]) fun _ _ _ _ _ _ us hl => match us, hl with | [_, _, _], _ => rfl
 have F_paces := fun_mk (st := s_paces) l_paces c_paces k_paces
 have b_paces := F_paces.binds (ps := ["board", "claim"]) fun _ _ _ _ _ _ us hl => match us, hl with | [_, _], _ => rfl
 have F_marks_of := fun_mk (st := s_marks_of) l_marks_of c_marks_of k_marks_of
 have b_marks_of := F_marks_of.binds (ps := ["board", "eye"]) fun _ _ _ _ _ _ us hl => match us, hl with | [_, _], _ => rfl
 have F_is_lying := fun_mk (st := s_is_lying) l_is_lying c_is_lying k_is_lying
 have b_is_lying := F_is_lying.binds (ps := ["board", "eye", "course"]) fun _ _ _ _ _ _ us hl => match us, hl with | [_, _, _], _ => rfl
 have F_liars := fun_mk (st := s_liars) l_liars c_liars k_liars
 have b_liars := F_liars.binds (ps := ["board", "course"]) fun _ _ _ _ _ _ us hl => match us, hl with | [_, _], _ => rfl
 have F_keeps := fun_mk (st := s_keeps) l_keeps c_keeps k_keeps
 have b_keeps := F_keeps.binds (ps := ["steps", "course"]) fun _ _ _ _ _ _ us hl => match us, hl with | [_, _], _ => rfl
 have F_fits := fun_mk (st := s_fits) l_fits c_fits k_fits
 have b_fits := F_fits.binds (ps := ["board", "course"]) fun _ _ _ _ _ _ us hl => match us, hl with | [_, _], _ => rfl
 have F_Board_init__ := fun_mk (st := s_Board_init__) l_Board_init__ c_Board_init__ k_Board_init__
 have b_Board_init__ := F_Board_init__.binds (ps := ["self", "eyes", "turns", "up", "down", "most"]) fun _ _ _ _ _ _ us hl => match us, hl with | [_, _, _, _, _, _], _ => rfl
 have F_Board_has_eye := fun_mk (st := s_Board_has_eye) l_Board_has_eye c_Board_has_eye k_Board_has_eye
 have b_Board_has_eye := F_Board_has_eye.binds (ps := ["self", "eye"]) fun _ _ _ _ _ _ us hl => match us, hl with | [_, _], _ => rfl
 have F_Board_has_turn := fun_mk (st := s_Board_has_turn) l_Board_has_turn c_Board_has_turn k_Board_has_turn
 have b_Board_has_turn := F_Board_has_turn.binds (ps := ["self", "turn"]) fun _ _ _ _ _ _ us hl => match us, hl with | [_, _], _ => rfl
 have F_Board_tell := fun_mk (st := s_Board_tell) l_Board_tell c_Board_tell k_Board_tell
 have b_Board_tell := F_Board_tell.binds (ps := ["self", "eye", "turn", "lo", "hi"]) fun _ _ _ _ _ _ us hl => match us, hl with | [_, _, _, _, _], _ => rfl
 have F_Board_hush := fun_mk (st := s_Board_hush) l_Board_hush c_Board_hush k_Board_hush
 have b_Board_hush := F_Board_hush.binds (ps := ["self", "eye", "turn"]) fun _ _ _ _ _ _ us hl => match us, hl with | [_, _, _], _ => rfl
 have F_Board_tellings := fun_mk (st := s_Board_tellings) l_Board_tellings c_Board_tellings k_Board_tellings
 have b_Board_tellings := F_Board_tellings.binds (ps := ["self"]) fun _ _ _ _ _ _ us hl => match us, hl with | [_], _ => rfl
 have F_Board_check_spot := fun_mk (st := s_Board_check_spot) l_Board_check_spot c_Board_check_spot k_Board_check_spot
 have b_Board_check_spot := F_Board_check_spot.binds (ps := ["self", "eye", "turn"]) fun _ _ _ _ _ _ us hl => match us, hl with | [_, _, _], _ => rfl
 have F_Board_check_word := fun_mk (st := s_Board_check_word) l_Board_check_word c_Board_check_word k_Board_check_word
 have b_Board_check_word := F_Board_check_word.binds (ps := ["self", "eye", "turn"]) fun _ _ _ _ _ _ us hl => match us, hl with | [_, _, _], _ => rfl
 have F_law_pick := fun_mk (st := s_law_pick) l_law_pick c_law_pick k_law_pick
 have b_law_pick := F_law_pick.binds (ps := ["_law_script", "_law_k", "_law_many"]) fun _ _ _ _ _ _ us hl => match us, hl with | [_, _, _], _ => rfl
 have F_law_wide := fun_mk (st := s_law_wide) l_law_wide c_law_wide k_law_wide
 have b_law_wide := F_law_wide.binds (ps := ["_law_script", "_law_k", "_law_many"]) fun _ _ _ _ _ _ us hl => match us, hl with | [_, _, _], _ => rfl
 have F_law_shape := fun_mk (st := s_law_shape) l_law_shape c_law_shape k_law_shape
 have b_law_shape := F_law_shape.binds (ps := ["_law_script"]) fun _ _ _ _ _ _ us hl => match us, hl with | [_], _ => rfl
 have F_law_course := fun_mk (st := s_law_course) l_law_course c_law_course k_law_course
 have b_law_course := F_law_course.binds (ps := ["_law_script", "_law_shape_here"]) fun _ _ _ _ _ _ us hl => match us, hl with | [_, _], _ => rfl
 have F_law_word := fun_mk (st := s_law_word) l_law_word c_law_word k_law_word
 have b_law_word := F_law_word.binds (ps := ["_law_script", "_law_k", "_law_far", "_law_number", "_law_false"]) fun _ _ _ _ _ _ us hl => match us, hl with | [_, _, _, _, _], _ => rfl
 have F_law_words := fun_mk (st := s_law_words) l_law_words c_law_words k_law_words
 have b_law_words := F_law_words.binds (ps := ["_law_script", "_law_shape_here", "_law_course_here"]) fun _ _ _ _ _ _ us hl => match us, hl with | [_, _, _], _ => rfl
 have F_law_board := fun_mk (st := s_law_board) l_law_board c_law_board k_law_board
 have b_law_board := F_law_board.binds (ps := ["_law_script", "_law_shape_here", "_law_told_here"]) fun _ _ _ _ _ _ us hl => match us, hl with | [_, _, _], _ => rfl
 have F_law_in := fun_mk (st := s_law_in) l_law_in c_law_in k_law_in
 have b_law_in := F_law_in.binds (ps := ["_law_span", "_law_number"]) fun _ _ _ _ _ _ us hl => match us, hl with | [_, _], _ => rfl
 have F_law_whole := fun_mk (st := s_law_whole) l_law_whole c_law_whole k_law_whole
 have b_law_whole := F_law_whole.binds (ps := ["_law_found"]) fun _ _ _ _ _ _ us hl => match us, hl with | [_], _ => rfl
 have F_law_liars := fun_mk (st := s_law_liars) l_law_liars c_law_liars k_law_liars
 have b_law_liars := F_law_liars.binds (ps := ["_law_told_here", "_law_course_here"]) fun _ _ _ _ _ _ us hl => match us, hl with | [_, _], _ => rfl
 have F_law_same := fun_mk (st := s_law_same) l_law_same c_law_same k_law_same
 have b_law_same := F_law_same.binds (ps := ["_law_board_here", "_law_told_here"]) fun _ _ _ _ _ _ us hl => match us, hl with | [_, _], _ => rfl
 have F_law_moved := fun_mk (st := s_law_moved) l_law_moved c_law_moved k_law_moved
 have b_law_moved := F_law_moved.binds (ps := ["_law_script", "_law_shape_here", "_law_course_here"]) fun _ _ _ _ _ _ us hl => match us, hl with | [_, _, _], _ => rfl
 have F_law_deed := fun_mk (st := s_law_deed) l_law_deed c_law_deed k_law_deed
 have b_law_deed := F_law_deed.binds (ps := ["_law_script", "_law_shape_here", "_law_course_here", "_law_told_here", "_law_board_here"]) fun _ _ _ _ _ _ us hl => match us, hl with | [_, _, _, _, _], _ => rfl
 have F_law_allowed := fun_mk (st := s_law_allowed) l_law_allowed c_law_allowed k_law_allowed
 have b_law_allowed := F_law_allowed.binds (ps := ["_law_shape_here", "_law_course_here"]) fun _ _ _ _ _ _ us hl => match us, hl with | [_, _], _ => rfl
 have F_law_told := fun_mk (st := s_law_told) l_law_told c_law_told k_law_told
 have b_law_told := F_law_told.binds (ps := ["_law_board_here", "_law_shape_here", "_law_told_here", "_law_course_here"]) fun _ _ _ _ _ _ us hl => match us, hl with | [_, _, _, _], _ => rfl
 have F_law := fun_mk (st := s_law) l_law c_law k_law
 have b_law := F_law.binds (ps := ["_law_script"]) fun _ _ _ _ _ _ us hl => match us, hl with | [_], _ => rfl
 have T : ∃ T : Tx K mg, T.a_law = fa ∧ T.fd_law = PySem.W.fnOf "law" "law" (defArgs s_law) (defBody s_law) (defScope s_law) .none kV_law dc_law pm_law an_law cd_law ct_law := ⟨{ a_is_crossed := f_is_crossed, fd_is_crossed := _, F_is_crossed := F_is_crossed, b_is_crossed := b_is_crossed, m_is_crossed := PySem.W.mg_of X G a_is_crossed, a_holds := f_holds, fd_holds := _, F_holds := F_holds, b_holds := b_holds, m_holds := PySem.W.mg_of X G a_holds, a_meet := f_meet, fd_meet := _, F_meet := F_meet, b_meet := b_meet, m_meet := PySem.W.mg_of X G a_meet, a_common := f_common, fd_common := _, F_common := F_common, b_common := b_common, m_common := PySem.W.mg_of X G a_common, a_has_part := f_has_part, fd_has_part := _, F_has_part := F_has_part, b_has_part := b_has_part, m_has_part := PySem.W.mg_of X G a_has_part, a_check_claim := f_check_claim, fd_check_claim := _, F_check_claim := F_check_claim, b_check_claim := b_check_claim, m_check_claim := PySem.W.mg_of X G a_check_claim, a_stretches_of := f_stretches_of, fd_stretches_of := _, F_stretches_of := F_stretches_of, b_stretches_of := b_stretches_of, m_stretches_of := PySem.W.mg_of X G a_stretches_of, a_paces := f_paces, fd_paces := _, F_paces := F_paces, b_paces := b_paces, m_paces := PySem.W.mg_of X G a_paces, a_marks_of := f_marks_of, fd_marks_of := _, F_marks_of := F_marks_of, b_marks_of := b_marks_of, m_marks_of := PySem.W.mg_of X G a_marks_of, a_is_lying := f_is_lying, fd_is_lying := _, F_is_lying := F_is_lying, b_is_lying := b_is_lying, m_is_lying := PySem.W.mg_of X G a_is_lying, a_liars := f_liars, fd_liars := _, F_liars := F_liars, b_liars := b_liars, m_liars := PySem.W.mg_of X G a_liars, a_keeps := f_keeps, fd_keeps := _, F_keeps := F_keeps, b_keeps := b_keeps, m_keeps := PySem.W.mg_of X G a_keeps, a_fits := f_fits, fd_fits := _, F_fits := F_fits, b_fits := b_fits, m_fits := PySem.W.mg_of X G a_fits, a_Board_init__ := f_Board_init__, fd_Board_init__ := _, F_Board_init__ := F_Board_init__, b_Board_init__ := b_Board_init__, a_Board_has_eye := f_Board_has_eye, fd_Board_has_eye := _, F_Board_has_eye := F_Board_has_eye, b_Board_has_eye := b_Board_has_eye, a_Board_has_turn := f_Board_has_turn, fd_Board_has_turn := _, F_Board_has_turn := F_Board_has_turn, b_Board_has_turn := b_Board_has_turn, a_Board_tell := f_Board_tell, fd_Board_tell := _, F_Board_tell := F_Board_tell, b_Board_tell := b_Board_tell, a_Board_hush := f_Board_hush, fd_Board_hush := _, F_Board_hush := F_Board_hush, b_Board_hush := b_Board_hush, a_Board_tellings := f_Board_tellings, fd_Board_tellings := _, F_Board_tellings := F_Board_tellings, b_Board_tellings := b_Board_tellings, a_Board_check_spot := f_Board_check_spot, fd_Board_check_spot := _, F_Board_check_spot := F_Board_check_spot, b_Board_check_spot := b_Board_check_spot, a_Board_check_word := f_Board_check_word, fd_Board_check_word := _, F_Board_check_word := F_Board_check_word, b_Board_check_word := b_Board_check_word, a_law_pick := f_law_pick, fd_law_pick := _, F_law_pick := F_law_pick, b_law_pick := b_law_pick, m_law_pick := PySem.W.mg_of X G a_law_pick, a_law_wide := f_law_wide, fd_law_wide := _, F_law_wide := F_law_wide, b_law_wide := b_law_wide, m_law_wide := PySem.W.mg_of X G a_law_wide, a_law_shape := f_law_shape, fd_law_shape := _, F_law_shape := F_law_shape, b_law_shape := b_law_shape, m_law_shape := PySem.W.mg_of X G a_law_shape, a_law_course := f_law_course, fd_law_course := _, F_law_course := F_law_course, b_law_course := b_law_course, m_law_course := PySem.W.mg_of X G a_law_course, a_law_word := f_law_word, fd_law_word := _, F_law_word := F_law_word, b_law_word := b_law_word, m_law_word := PySem.W.mg_of X G a_law_word, a_law_words := f_law_words, fd_law_words := _, F_law_words := F_law_words, b_law_words := b_law_words, m_law_words := PySem.W.mg_of X G a_law_words, a_law_board := f_law_board, fd_law_board := _, F_law_board := F_law_board, b_law_board := b_law_board, m_law_board := PySem.W.mg_of X G a_law_board, a_law_in := f_law_in, fd_law_in := _, F_law_in := F_law_in, b_law_in := b_law_in, m_law_in := PySem.W.mg_of X G a_law_in, a_law_whole := f_law_whole, fd_law_whole := _, F_law_whole := F_law_whole, b_law_whole := b_law_whole, m_law_whole := PySem.W.mg_of X G a_law_whole, a_law_liars := f_law_liars, fd_law_liars := _, F_law_liars := F_law_liars, b_law_liars := b_law_liars, m_law_liars := PySem.W.mg_of X G a_law_liars, a_law_same := f_law_same, fd_law_same := _, F_law_same := F_law_same, b_law_same := b_law_same, m_law_same := PySem.W.mg_of X G a_law_same, a_law_moved := f_law_moved, fd_law_moved := _, F_law_moved := F_law_moved, b_law_moved := b_law_moved, m_law_moved := PySem.W.mg_of X G a_law_moved, a_law_deed := f_law_deed, fd_law_deed := _, F_law_deed := F_law_deed, b_law_deed := b_law_deed, m_law_deed := PySem.W.mg_of X G a_law_deed, a_law_allowed := f_law_allowed, fd_law_allowed := _, F_law_allowed := F_law_allowed, b_law_allowed := b_law_allowed, m_law_allowed := PySem.W.mg_of X G a_law_allowed, a_law_told := f_law_told, fd_law_told := _, F_law_told := F_law_told, b_law_told := b_law_told, m_law_told := PySem.W.mg_of X G a_law_told, a_law := fa, fd_law := _, F_law := F_law, b_law := b_law, m_law := PySem.W.mg_of X G a_law, n_all := PySem.W.mg_none_of X G z_all, n_bool := PySem.W.mg_none_of X G z_bool, n_int := PySem.W.mg_none_of X G z_int, n_isinstance := PySem.W.mg_none_of X G z_isinstance, n_len := PySem.W.mg_none_of X G z_len, n_list := PySem.W.mg_none_of X G z_list, n_max := PySem.W.mg_none_of X G z_max, n_min := PySem.W.mg_none_of X G z_min, n_range := PySem.W.mg_none_of X G z_range, n_sorted := PySem.W.mg_none_of X G z_sorted, n_zip := PySem.W.mg_none_of X G z_zip, C_GazeError := C_GazeError, c_GazeError := PySem.W.mg_of X G e_GazeError, C_NoBoard := C_NoBoard, c_NoBoard := PySem.W.mg_of X G e_NoBoard, C_NoTelling := C_NoTelling, c_NoTelling := PySem.W.mg_of X G e_NoTelling, C_NoClaim := C_NoClaim, c_NoClaim := PySem.W.mg_of X G e_NoClaim, C_Board := C_Board, c_Board := PySem.W.mg_of X G e_Board, cl_Board := ⟨pg_Board, hd_Board, po_Board, sa_Board⟩, no_Board_eyes := no_Board_eyes, no_Board_turns := no_Board_turns, no_Board_up := no_Board_up, no_Board_down := no_Board_down, no_Board_most := no_Board_most, no_Board_told := no_Board_told, mk_Board := ⟨mk_Board, a_Board_init__, fn_Board_init__, kc_Board⟩, me_Board_has_eye := ⟨a_Board_has_eye, fn_Board_has_eye, k_Board_has_eye⟩, me_Board_has_turn := ⟨a_Board_has_turn, fn_Board_has_turn, k_Board_has_turn⟩, me_Board_tell := ⟨a_Board_tell, fn_Board_tell, k_Board_tell⟩, me_Board_hush := ⟨a_Board_hush, fn_Board_hush, k_Board_hush⟩, me_Board_tellings := ⟨a_Board_tellings, fn_Board_tellings, k_Board_tellings⟩, me_Board_check_spot := ⟨a_Board_check_spot, fn_Board_check_spot, k_Board_check_spot⟩, me_Board_check_word := ⟨a_Board_check_word, fn_Board_check_word, k_Board_check_word⟩, xc_NoBoard := ⟨x1_NoBoard, x2_NoBoard, x3_NoBoard, x4_NoBoard, x5_NoBoard, x6_NoBoard⟩, xc_NoTelling := ⟨x1_NoTelling, x2_NoTelling, x3_NoTelling, x4_NoTelling, x5_NoTelling, x6_NoTelling⟩, xc_NoClaim := ⟨x1_NoClaim, x2_NoClaim, x3_NoClaim, x4_NoClaim, x5_NoClaim, x6_NoClaim⟩, g_EYES_AT_MOST := ⟨_, PySem.W.mg_of X G zEYES_AT_MOST⟩, g_TURNS_AT_MOST := ⟨_, PySem.W.mg_of X G zTURNS_AT_MOST⟩ }, rfl, rfl⟩
 obtain ⟨T, e1, e2⟩ := T
 refine ⟨PySem.W.fnOf "law" "law" (defArgs s_law) (defBody s_law) (defScope s_law) .none kV_law dc_law pm_law an_law cd_law ct_law, fun s v => .of_eq rfl, fun base _ _ => ?_⟩
 rw [← e1, ← e2]
 exact ok_law T
theorem walk {l : PySem.W.OpenLaw} {q : Program} {loose : List Str} {XP : (Str → Option Value) → Heap → Prop} {YP : World → Heap → Prop} {d : DefRec} {K : Params → PySem.W.Frag} (hn : l.most = some 63) (hdf : d.params.defaults = [])
 (hY : ∀ (w : World) (h : Heap), YP w h → (K w.params).In h)
 (F : ∀ (w : World) (mg : Str → Option Value) (fa : Addr) (h : Heap), (K w.params).In h → h.Ns mainGlobals mg → mg d.name = some (.ref fa) →
   ∃ fd : FuncData, (∀ (s : Shared) (u : Value), BindsTo s fd ⟨[u], []⟩ [("_law_script", u)]) ∧ ∀ base : Heap, (K w.params).In base → base.Ns mainGlobals mg → FnOk l.prog w (K w.params) mg base (CXX l.prog w) 7 fa fd ["_law_script"] (sp_law (K w.params))) :
 PySem.W.WalkO q loose XP YP l.row.toRowW d [] (fun f vs => PySem.call f vs) :=
 Gz.walk_big (k := 7) (x := "_law_script") (CX := fun w => CXX l.prog w) (sp := fun w => sp_law (K w.params)) hn hdf ⟨rfl, by decide, by decide⟩ hY F (fun _ _ a ns hl hS => ⟨a, ns, rfl, hS, hl, fun _ => rfl⟩) fun _ _ _ _ _ z => noCXX z
end K40
namespace PySem.W.Fast
def tw2601666107390881395 := ()
def tw13300412126004108507 := ()
def tw6979094756569993161 := ()
def tw15873511624337207048 := ()
def tw12945416094211539555 := ()
def tw17935423623185361671 := ()
def tw14991988566411162890 := ()
def tw15744592025304457250 := ()
def tw11157845259267462237 := ()
def tw11875191336965991998 := ()
def tw733322867445870472 := ()
def tw6262688315262955851 := ()
def tw4747373961643727040 := ()
def tw2577077497188673534 := ()
def tw17959406458656544658 := ()
def tw14591635054221417353 := ()
def tw15208414848593363547 := ()
def tw4312863498461536347 := ()
def tw14026067117347523315 := ()
def tw2912422091646082082 := ()
def tw6983560031737733118 := ()
def tw751899217290877757 := ()
def tw6860613872020691132 := ()
def tw1123476187516366610 := ()
def tw13530182016953801961 := ()
def tw5092853073183405635 := ()
def tw10203423312007727161 := ()
def tw5483239160945923979 := ()
def tw13914566872259515459 := ()
def tw6183637621317882544 := ()
def tw11224717819349083337 := ()
def tw8579535095786791240 := ()
def tw9522631464499963041 := ()
def tw16415945797719896597 := ()
def tw10121318328825837406 := ()
def tw15662209424602170709 := ()
def tw17394560105471436308 := ()
def tw18022522507822813542 := ()
def tw8307688714563875591 := ()
def tw8440444677117958697 := ()
def tw567771976483993335 := ()
def tw17087244485185122167 := ()
def tw162369237790131041 := ()
def tw3305733213994816782 := ()
def tw7931008755126156536 := ()
def tw12718928736680819320 := ()
def tw11165476625592581429 := ()
def tw8069032712020435577 := ()
def tw17327333088688408753 := ()
def tw4834944268619027317 := ()
def tw8029281515855446911 := ()
def tw18096414327003695490 := ()
def tw10582271014302799720 := ()
def tw11282794325373413395 := ()
def tw1684540640237493218 := ()
def tw6665214063399207813 := ()
def tw7644430263076367548 := ()
def tw4151586365490678808 := ()
def tw1997945755743837715 := ()
def tw1219237960470129525 := ()
def tw3235864771915490684 := ()
def tw4247894585654609768 := ()
def tw15429646063444161186 := ()
def tw3891960581176669775 := ()
def tw5787181990226180143 := ()
def tw12323866064748338658 := ()
def tw16448983665948592558 := ()
def tw5537890377760293606 := ()
def tw10237663146172646196 := ()
def tw17909733280546918821 := ()
def tw8122448292992297372 := ()
def tw16298415199694254508 := ()
def tw7398523650261305947 := ()
def tw17584792846378560947 := ()
def tw141544052859898124 := ()
def tw15297704854725747093 := ()
def tw13111958577252223054 := ()
def tw8605919455906962967 := ()
def tw12121837331730714747 := ()
def tw13650843059897534557 := ()
def tw3631471067121843118 := ()
def tw5251905165359893499 := ()
def tw16075226180435267035 := ()
def tw16392292372790811548 := ()
def tw17299996801975636671 := ()
def tw6152980582580576820 := ()
def tw16469915410482394463 := ()
def tw16546325107653278440 := ()
def tw14028410788466051627 := ()
def tw1323768709050075552 := ()
def tw2871481821797314502 := ()
def tw15870386670391044108 := ()
def tw9953066365512537982 := ()
def tw1263194079572541279 := ()
def tw4011304380387348383 := ()
def tw9384700059305560323 := ()
def tw14847042000086844549 := ()
def tw8130914150102590716 := ()
def tw9841178154958898875 := ()
def tw18158102854776979419 := ()
def tw4718051572323650395 := ()
def tw7898092438192773160 := ()
def tw1730731242209926012 := ()
def tw5023559998413089350 := ()
def tw5281430838160704587 := ()
def tw17280566388652060111 := ()
def tw532178541293888153 := ()
def tw11508549073274989177 := ()
def tw16394530596254098601 := ()
def tw13304533140913397208 := ()
def tw5351347314050941993 := ()
def tw3031737515714302282 := ()
def tw8147753377607412218 := ()
def tw16639670225223626691 := ()
def tw11778383654809032134 := ()
def tw15421841199459755967 := ()
def tw9541431150396411925 := ()
def tw326899875784106748 := ()
def tw7852771421261007740 := ()
def tw13058140174969244046 := ()
def tw1781033478324090572 := ()
def tw13471350265910037921 := ()
def tw13449929799837528666 := ()
def tw12541116085756183903 := ()
def tw9309034566137538545 := ()
def tw3110435270982588658 := ()
def tw13186071731825944348 := ()
def tw8249231349283236811 := ()
def tw9154774825907169239 := ()
def tw12725688713765857721 := ()
def tw18151988943354110856 := ()
def tw11541549147404556609 := ()
def tw17510747597965946905 := ()
def tw8119109510907839495 := ()
def tw18417810738227524221 := ()
def tw11474590985334781794 := ()
def tw13049379286313519063 := ()
def tw10650143935423594150 := ()
def tw13944536374425136665 := ()
def tw9509250948464113946 := ()
def tw15928001556554692345 := ()
def tw3402866692243339344 := ()
def tw12935360825597740302 := ()
def tw6298877526826654592 := ()
def tw1516006023370730479 := ()
def tw8903161833135513098 := ()
def tw11768111256353825656 := ()
def tw549175349813345821 := ()
def tw2113317440103300027 := ()
def tw9142715595269663073 := ()
def tw9749876148269841227 := ()
def tw15688754191727037768 := ()
def tw3447753248630012889 := ()
def tw1439259601156141133 := ()
def tw3125747212727193703 := ()
def tw10380486781410078374 := ()
def tw16787868912523441684 := ()
def tw2624395705908005777 := ()
def tw16820714635621832103 := ()
def tw13671459903487393573 := ()
def tw5727491011702146734 := ()
def tw15543674039475598106 := ()
def tw1026880948069485605 := ()
def tw744450882752460043 := ()
def tw994439451113191775 := ()
def tw14607980423038164482 := ()
def tw7146502661896314151 := ()
def tw518436525641754449 := ()
def tw16224712714243370922 := ()
def tw8157202766775356884 := ()
def tw1079884631765294637 := ()
def tw9467898816817894420 := ()
def tw10891999460900129876 := ()
def tw13724390983128252922 := ()
def tw12866822814120088408 := ()
def tw13902586048852626903 := ()
def tw17163380503093103427 := ()
def tw8763541231376887466 := ()
def tw15828110794703329498 := ()
def tw12314298299359491826 := ()
def tw11010506403114480609 := ()
def tw12222441776898520187 := ()
def tw63480516428348263 := ()
def tw13563681717354710357 := ()
def tw91163257358386009 := ()
def tw2757853980421122958 := ()
def tw4749155644572671747 := ()
def tw17774073257624171255 := ()
def tw2158934015695747193 := ()
def tw1140527340409358996 := ()
def tw3458795257383899707 := ()
def tw17048038581511176403 := ()
def tw4237342084060108145 := ()
def tw16009572942564826349 := ()
def tw14189804848229116985 := ()
def tw6323412658627838362 := ()
def tw5226780999916212324 := ()
def tw872642267151843284 := ()
def tw10054090838158253119 := ()
def tw17722266302833543010 := ()
def tw8036703301742463701 := ()
def tw16836983912187720755 := ()
def tw15359139467306673081 := ()
def tw14733987567100162318 := ()
def tw6015017736857715063 := ()
def tw144642319251128756 := ()
def tw1221762394237173323 := ()
def tw17547645346402465091 := ()
def tw4065333353258515102 := ()
def tw2016563230764658815 := ()
def tw5408190919931617014 := ()
def tw8009982889975632601 := ()
def tw12916857568580214962 := ()
def tw10697192344122726714 := ()
def tw13138163978613558287 := ()
def tw16334608177311592712 := ()
def tw16887267422368160801 := ()
def tw15637463940751108342 := ()
def tw18289287637880919021 := ()
def tw175617192618430740 := ()
def tw15639542390355725443 := ()
def tw7768148344845213402 := ()
def tw807135836760286026 := ()
def tw7589636389340002196 := ()
def tw4316752130303297991 := ()
def tw14811038427971307812 := ()
def tw3826422032257484000 := ()
def tw16593885067380173158 := ()
def tw17110825621109034650 := ()
def tw2090719980918134401 := ()
def tw1687783293318695699 := ()
def tw2100897298413938275 := ()
def tw16661447542811455759 := ()
def tw5964839039515995363 := ()
def tw3893250531280836368 := ()
def tw9112904429491621238 := ()
def tw14410888418203366852 := ()
def tw15046251890753532907 := ()
def tw597547449574911565 := ()
def tw16864011440831382159 := ()
def tw12094929761277524271 := ()
def tw15668102571303251408 := ()
def tw3681187653141005012 := ()
def tw7437143142884401556 := ()
def tw13374862562360141040 := ()
def tw2075634686828322308 := ()
def tw10336787087325052296 := ()
def tw3973225406938045251 := ()
def tw10590916033116179066 := ()
def tw4669569022601345346 := ()
def tw12184230144770374325 := ()
def tw18014184183588480683 := ()
def tw3919510476363000547 := ()
def tw438458764431657732 := ()
def tw14241730142609859101 := ()
def tw9836665206339686064 := ()
def tw6829515459336857253 := ()
def tw8110536305247952349 := ()
def tw7511056488850006274 := ()
def tw4031066179821441619 := ()
def tw16738546789248980968 := ()
def tw11192724729903891811 := ()
def tw2179336745718998483 := ()
def tw13844724717108334935 := ()
def tw4246486069724673885 := ()
def tw11843694193632291944 := ()
def tw6941992458020321409 := ()
def tw15249592943844952471 := ()
def tw9269083035860625294 := ()
def tw18422359748015881858 := ()
def tw8026457303920046380 := ()
def tw17081059156761047928 := ()
def tw11188019923398449146 := ()
def tw8555568728357193651 := ()
def tw6965748503750008938 := ()
def tw11392915639526555512 := ()
def tw260052515536315055 := ()
def tw9263737657905479443 := ()
def tw547187398556186234 := ()
def tw13684435222658075324 := ()
def tw3817181672805276652 := ()
def tw3931525624728339875 := ()
def tw7833823284124295578 := ()
def tw9550180758942878880 := ()
def tw12770420703584967232 := ()
def tw7057461963215369470 := ()
def tw14409744572835036251 := ()
def tw8911732932848673935 := ()
def tw11150885996059707164 := ()
def tw14127410710668853471 := ()
def tw17187919593634327700 := ()
def tw256958418358685524 := ()
def tw12527568158216059447 := ()
def tw7678378074024209074 := ()
def tw10881560122257944756 := ()
def tw13226364256338883012 := ()
def tw9620936783883144735 := ()
def tw16282884688253329657 := ()
def tw11998535747593613365 := ()
def tw15930460540803649632 := ()
def tw15566981989672792067 := ()
def tw5572322187903888622 := ()
def tw525046277788283186 := ()
def tw1504877953308608250 := ()
def tw11698560720141742589 := ()
def tw11404066707353799987 := ()
def tw2346721259366176488 := ()
def tw5570875484940695180 := ()
def tw10992405681462971509 := ()
def tw14184603782416747940 := ()
def tw13920340784697212563 := ()
def tw17883773676533533689 := ()
def tw18309433824600636368 := ()
def tw17837799399501504709 := ()
def tw10990878505900223818 := ()
def tw6228074552514680589 := ()
end PySem.W.Fast
open PySem PySem.W PyProof.Rows
set_option maxRecDepth 100000 in
set_option maxHeartbeats 0 in
theorem PySem.Challenge.cw_gaze_k40_liars_and_fits_holds : PySem.Challenge.rw_gaze_k40_liars_and_fits.Holds := by
 w_on; o_law; k_head; (case hw => w_witness2)
 k_fill
 refine K40.walk (l := PySem.Challenge.rw_gaze_k40_liars_and_fits) rfl rfl (fun w h Y => PySem.W.kIn_of Y) ?F
 case F =>
  intro w mg fa h KX G hmg
  refine' K40.fin_mk KX G hmg ?a_is_crossed ?l_is_crossed ?c_is_crossed ?k_is_crossed ?a_holds ?l_holds ?c_holds ?k_holds ?a_meet ?l_meet ?c_meet ?k_meet ?a_common ?l_common ?c_common ?k_common ?a_has_part ?l_has_part ?c_has_part ?k_has_part ?a_check_claim ?l_check_claim ?c_check_claim ?k_check_claim ?a_stretches_of ?l_stretches_of ?c_stretches_of ?k_stretches_of ?a_paces ?l_paces ?c_paces ?k_paces ?a_marks_of ?l_marks_of ?c_marks_of ?k_marks_of ?a_is_lying ?l_is_lying ?c_is_lying ?k_is_lying ?a_liars ?l_liars ?c_liars ?k_liars ?a_keeps ?l_keeps ?c_keeps ?k_keeps ?a_fits ?l_fits ?c_fits ?k_fits ?a_Board_init__ ?l_Board_init__ ?c_Board_init__ ?k_Board_init__ ?a_Board_has_eye ?l_Board_has_eye ?c_Board_has_eye ?k_Board_has_eye ?a_Board_has_turn ?l_Board_has_turn ?c_Board_has_turn ?k_Board_has_turn ?a_Board_tell ?l_Board_tell ?c_Board_tell ?k_Board_tell ?a_Board_hush ?l_Board_hush ?c_Board_hush ?k_Board_hush ?a_Board_tellings ?l_Board_tellings ?c_Board_tellings ?k_Board_tellings ?a_Board_check_spot ?l_Board_check_spot ?c_Board_check_spot ?k_Board_check_spot ?a_Board_check_word ?l_Board_check_word ?c_Board_check_word ?k_Board_check_word ?a_law_pick ?l_law_pick ?c_law_pick ?k_law_pick ?a_law_wide ?l_law_wide ?c_law_wide ?k_law_wide ?a_law_shape ?l_law_shape ?c_law_shape ?k_law_shape ?a_law_course ?l_law_course ?c_law_course ?k_law_course ?a_law_word ?l_law_word ?c_law_word ?k_law_word ?a_law_words ?l_law_words ?c_law_words ?k_law_words ?a_law_board ?l_law_board ?c_law_board ?k_law_board ?a_law_in ?l_law_in ?c_law_in ?k_law_in ?a_law_whole ?l_law_whole ?c_law_whole ?k_law_whole ?a_law_liars ?l_law_liars ?c_law_liars ?k_law_liars ?a_law_same ?l_law_same ?c_law_same ?k_law_same ?a_law_moved ?l_law_moved ?c_law_moved ?k_law_moved ?a_law_deed ?l_law_deed ?c_law_deed ?k_law_deed ?a_law_allowed ?l_law_allowed ?c_law_allowed ?k_law_allowed ?a_law_told ?l_law_told ?c_law_told ?k_law_told ?a_law ?l_law ?c_law ?k_law ?z_all ?z_bool ?z_int ?z_isinstance ?z_len ?z_list ?z_max ?z_min ?z_range ?z_sorted ?z_zip ?e_GazeError ?e_NoBoard ?e_NoTelling ?e_NoClaim ?e_Board ?pg_Board ?hd_Board ?po_Board ?sa_Board ?no_Board_eyes ?no_Board_turns ?no_Board_up ?no_Board_down ?no_Board_most ?no_Board_told ?fn_Board_init__ ?mk_Board ?kc_Board ?fn_Board_has_eye ?fn_Board_has_turn ?fn_Board_tell ?fn_Board_hush ?fn_Board_tellings ?fn_Board_check_spot ?fn_Board_check_word ?x1_NoBoard ?x2_NoBoard ?x3_NoBoard ?x4_NoBoard ?x5_NoBoard ?x6_NoBoard ?x1_NoTelling ?x2_NoTelling ?x3_NoTelling ?x4_NoTelling ?x5_NoTelling ?x6_NoTelling ?x1_NoClaim ?x2_NoClaim ?x3_NoClaim ?x4_NoClaim ?x5_NoClaim ?x6_NoClaim ?zEYES_AT_MOST ?zTURNS_AT_MOST
  (case e_GazeError => k_is)
  (case e_NoBoard => k_is)
  (case e_NoTelling => k_is)
  (case e_NoClaim => k_is)
  (case e_Board => k_is)
  (case a_is_crossed => k_is)
  (case l_is_crossed => k_is)
  (case c_is_crossed => k_is)
  (case k_is_crossed => k_is)
  (case a_holds => k_is)
  (case l_holds => k_is)
  (case c_holds => k_is)
  (case k_holds => k_is)
  (case a_meet => k_is)
  (case l_meet => k_is)
  (case c_meet => k_is)
  (case k_meet => k_is)
  (case a_common => k_is)
  (case l_common => k_is)
  (case c_common => k_is)
  (case k_common => k_is)
  (case a_has_part => k_is)
  (case l_has_part => k_is)
  (case c_has_part => k_is)
  (case k_has_part => k_is)
  (case a_check_claim => k_is)
  (case l_check_claim => k_is)
  (case c_check_claim => k_is)
  (case k_check_claim => k_is)
  (case a_stretches_of => k_is)
  (case l_stretches_of => k_is)
  (case c_stretches_of => k_is)
  (case k_stretches_of => k_is)
  (case a_paces => k_is)
  (case l_paces => k_is)
  (case c_paces => k_is)
  (case k_paces => k_is)
  (case a_marks_of => k_is)
  (case l_marks_of => k_is)
  (case c_marks_of => k_is)
  (case k_marks_of => k_is)
  (case a_is_lying => k_is)
  (case l_is_lying => k_is)
  (case c_is_lying => k_is)
  (case k_is_lying => k_is)
  (case a_liars => k_is)
  (case l_liars => k_is)
  (case c_liars => k_is)
  (case k_liars => k_is)
  (case a_keeps => k_is)
  (case l_keeps => k_is)
  (case c_keeps => k_is)
  (case k_keeps => k_is)
  (case a_fits => k_is)
  (case l_fits => k_is)
  (case c_fits => k_is)
  (case k_fits => k_is)
  (case a_Board_init__ => k_is)
  (case l_Board_init__ => k_is)
  (case c_Board_init__ => k_is)
  (case k_Board_init__ => k_is)
  (case a_Board_has_eye => k_is)
  (case l_Board_has_eye => k_is)
  (case c_Board_has_eye => k_is)
  (case k_Board_has_eye => k_is)
  (case a_Board_has_turn => k_is)
  (case l_Board_has_turn => k_is)
  (case c_Board_has_turn => k_is)
  (case k_Board_has_turn => k_is)
  (case a_Board_tell => k_is)
  (case l_Board_tell => k_is)
  (case c_Board_tell => k_is)
  (case k_Board_tell => k_is)
  (case a_Board_hush => k_is)
  (case l_Board_hush => k_is)
  (case c_Board_hush => k_is)
  (case k_Board_hush => k_is)
  (case a_Board_tellings => k_is)
  (case l_Board_tellings => k_is)
  (case c_Board_tellings => k_is)
  (case k_Board_tellings => k_is)
  (case a_Board_check_spot => k_is)
  (case l_Board_check_spot => k_is)
  (case c_Board_check_spot => k_is)
  (case k_Board_check_spot => k_is)
  (case a_Board_check_word => k_is)
  (case l_Board_check_word => k_is)
  (case c_Board_check_word => k_is)
  (case k_Board_check_word => k_is)
  (case a_law_pick => k_is)
  (case l_law_pick => k_is)
  (case c_law_pick => k_is)
  (case k_law_pick => k_is)
  (case a_law_wide => k_is)
  (case l_law_wide => k_is)
  (case c_law_wide => k_is)
  (case k_law_wide => k_is)
  (case a_law_shape => k_is)
  (case l_law_shape => k_is)
  (case c_law_shape => k_is)
  (case k_law_shape => k_is)
  (case a_law_course => k_is)
  (case l_law_course => k_is)
  (case c_law_course => k_is)
  (case k_law_course => k_is)
  (case a_law_word => k_is)
  (case l_law_word => k_is)
  (case c_law_word => k_is)
  (case k_law_word => k_is)
  (case a_law_words => k_is)
  (case l_law_words => k_is)
  (case c_law_words => k_is)
  (case k_law_words => k_is)
  (case a_law_board => k_is)
  (case l_law_board => k_is)
  (case c_law_board => k_is)
  (case k_law_board => k_is)
  (case a_law_in => k_is)
  (case l_law_in => k_is)
  (case c_law_in => k_is)
  (case k_law_in => k_is)
  (case a_law_whole => k_is)
  (case l_law_whole => k_is)
  (case c_law_whole => k_is)
  (case k_law_whole => k_is)
  (case a_law_liars => k_is)
  (case l_law_liars => k_is)
  (case c_law_liars => k_is)
  (case k_law_liars => k_is)
  (case a_law_same => k_is)
  (case l_law_same => k_is)
  (case c_law_same => k_is)
  (case k_law_same => k_is)
  (case a_law_moved => k_is)
  (case l_law_moved => k_is)
  (case c_law_moved => k_is)
  (case k_law_moved => k_is)
  (case a_law_deed => k_is)
  (case l_law_deed => k_is)
  (case c_law_deed => k_is)
  (case k_law_deed => k_is)
  (case a_law_allowed => k_is)
  (case l_law_allowed => k_is)
  (case c_law_allowed => k_is)
  (case k_law_allowed => k_is)
  (case a_law_told => k_is)
  (case l_law_told => k_is)
  (case c_law_told => k_is)
  (case k_law_told => k_is)
  (case a_law => k_is)
  (case l_law => k_is)
  (case c_law => k_is)
  (case k_law => k_is)
  (case z_all => k_is)
  (case z_bool => k_is)
  (case z_int => k_is)
  (case z_isinstance => k_is)
  (case z_len => k_is)
  (case z_list => k_is)
  (case z_max => k_is)
  (case z_min => k_is)
  (case z_range => k_is)
  (case z_sorted => k_is)
  (case z_zip => k_is)
  (case pg_Board => k_is)
  (case hd_Board => k_is)
  (case po_Board => k_is)
  (case sa_Board => k_is)
  (case no_Board_eyes => k_is)
  (case no_Board_turns => k_is)
  (case no_Board_up => k_is)
  (case no_Board_down => k_is)
  (case no_Board_most => k_is)
  (case no_Board_told => k_is)
  (case fn_Board_init__ => k_is)
  (case mk_Board => k_is)
  (case kc_Board => k_is)
  (case fn_Board_has_eye => k_is)
  (case fn_Board_has_turn => k_is)
  (case fn_Board_tell => k_is)
  (case fn_Board_hush => k_is)
  (case fn_Board_tellings => k_is)
  (case fn_Board_check_spot => k_is)
  (case fn_Board_check_word => k_is)
  (case x1_NoBoard => k_exc)
  (case x2_NoBoard => k_is)
  (case x3_NoBoard => k_is)
  (case x4_NoBoard => k_is)
  (case x5_NoBoard => k_is)
  (case x6_NoBoard => k_is)
  (case x1_NoTelling => k_exc)
  (case x2_NoTelling => k_is)
  (case x3_NoTelling => k_is)
  (case x4_NoTelling => k_is)
  (case x5_NoTelling => k_is)
  (case x6_NoTelling => k_is)
  (case x1_NoClaim => k_exc)
  (case x2_NoClaim => k_is)
  (case x3_NoClaim => k_is)
  (case x4_NoClaim => k_is)
  (case x5_NoClaim => k_is)
  (case x6_NoClaim => k_is)
  (case zEYES_AT_MOST => k_is)
  (case zTURNS_AT_MOST => k_is)
#print axioms PySem.Challenge.cw_gaze_k40_liars_and_fits_holds
