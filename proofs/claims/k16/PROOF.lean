import PyProof.Rows.All
import Wide.All
import OpenK.AllK
import Wide.FinOn
import Lean
import PyProof.EqAt
import PyProof.EqKinds
import PyProof.TupleCall
import KE.KSortAsk
import KE.KSortTup
import KE.KRevIter
import KE.LcSums
import PySem.Challenge.RW_gaze_k16_most_agree

set_option Elab.async false
set_option linter.all false
set_option maxRecDepth 100000
/-! THE HAND LAYER, for ints, bools, texts, own classes, LISTS and tuples (index, slices, in, append, pop ..), calls, loops. Paste it whole ahead of your own text; what your proof does not reach may be deleted. -/
namespace L2
open PySem PySem.Spec PyProof.Rows

/-- a key: an int or a str -/
abbrev Key := Sum Int Str
def keyIs : Key → Value → Bool
  | .inl k, v => Value.isInt k v
  | .inr x, v => Value.isStrOf x v
def keyH (w : World) : Key → Int
  | .inl k => hashInt k
  | .inr x => hashStr w x
theorem keyIs_shape : ∀ {k : Key} {v : Value}, keyIs k v = true → (∃ i t, k = Sum.inl i ∧ v = Value.int i t) ∨ (∃ x t, k = Sum.inr x ∧ v = Value.str x t)
  | .inl i, v, h => by
    obtain ⟨t, e⟩ := Value.isInt_shape (k := i) (v := v) h
    exact .inl ⟨i, t, rfl, e⟩
  | .inr x, v, h => by
    obtain ⟨t, e⟩ := Value.isStrOf_shape (x := x) (v := v) h
    exact .inr ⟨x, t, rfl, e⟩
theorem keyIs_int (i : Int) (t : Tok) : keyIs (.inl i) (.int i t) = true := by simp [keyIs, Value.isInt]
theorem keyIs_str (x : Str) (t : Tok) : keyIs (.inr x) (.str x t) = true := by simp [keyIs, Value.isStrOf]
theorem key_ll (a b : Int) : decide ((Sum.inl a : Key) = Sum.inl b) = (a == b) := by
  by_cases e : a = b
  · subst e; simp
  · have h : ¬ (Sum.inl a : Key) = Sum.inl b := fun q => e (Sum.inl.inj q)
    rw [decide_eq_false h]
    exact (beq_eq_false_iff_ne.mpr e).symm
theorem key_rr (a b : Str) : decide ((Sum.inr a : Key) = Sum.inr b) = decide (a = b) := by
  by_cases e : a = b
  · subst e; simp
  · have h : ¬ (Sum.inr a : Key) = Sum.inr b := fun q => e (Sum.inr.inj q)
    rw [decide_eq_false h, decide_eq_false e]
theorem key_lr (a : Int) (b : Str) : decide ((Sum.inl a : Key) = Sum.inr b) = false := decide_eq_false (fun q => nomatch q)
theorem key_rl (a : Str) (b : Int) : decide ((Sum.inr a : Key) = Sum.inl b) = false := decide_eq_false (fun q => nomatch q)

def mixKind (prog : Program) (w : World) : PySem.KeyKind prog w Key where
  is := keyIs
  hash := keyH w
  inj := fun v a b ha hb => by
    rcases keyIs_shape ha with ⟨i, t, rfl, rfl⟩ | ⟨x, t, rfl, rfl⟩
    · rcases keyIs_shape hb with ⟨j, u, rfl, e⟩ | ⟨y, u, rfl, e⟩
      · injection e with e1 _; rw [e1]
      · exact nomatch e
    · rcases keyIs_shape hb with ⟨j, u, rfl, e⟩ | ⟨y, u, rfl, e⟩
      · exact nomatch e
      · injection e with e1 _; rw [e1]
  byValue := fun k v h => by
    rcases keyIs_shape h with ⟨i, t, rfl, rfl⟩ | ⟨x, t, rfl, rfl⟩ <;> rfl
  pyHash := fun hv h => by
    rcases keyIs_shape hv with ⟨i, t, rfl, rfl⟩ | ⟨x, t, rfl, rfl⟩
    · exact wpAny_pyHash_int h
    · exact wpAny_pyHash_str h
  eqBool := fun hu hv h => by
    rcases keyIs_shape hu with ⟨i, t, rfl, rfl⟩ | ⟨x, t, rfl, rfl⟩
    · rcases keyIs_shape hv with ⟨j, u, rfl, rfl⟩ | ⟨y, u, rfl, rfl⟩
      · rw [key_ll] at h; exact wpAny_eqBool_int h
      · rw [key_lr] at h; exact SeqAt.EqAt.int_str i t y u _ _ _ _ h
    · rcases keyIs_shape hv with ⟨j, u, rfl, rfl⟩ | ⟨y, u, rfl, rfl⟩
      · rw [key_rl] at h; exact SeqAt.EqAt.str_int x t j u _ _ _ _ h
      · rw [key_rr] at h; exact wpAny_eqBool_str h
  «strs» := fun k x t v h => by
    rcases keyIs_shape h with ⟨i, u, rfl, e⟩ | ⟨y, u, rfl, e⟩
    · exact nomatch e
    · injection e with e1 _
      subst e1
      cases v <;> rfl

theorem mixKind_is (prog : Program) (w : World) (k : Key) (v : Value) : (mixKind prog w).is k v = keyIs k v := rfl
theorem mixKind_int (prog : Program) (w : World) (i : Int) (t : Tok) : (mixKind prog w).is (.inl i) (.int i t) = true := keyIs_int i t
theorem mixKind_str (prog : Program) (w : World) (x : Str) (t : Tok) : (mixKind prog w).is (.inr x) (.str x t) = true := keyIs_str x t
end L2

namespace L2
open PySem PySem.Spec PyProof.Rows

/-- a value, without the heap -/
inductive V where
  | non | bl (b : Bool) | int (i : Int) | str (x : Str) | byt (b : Array UInt8) | flt (b : UInt64) | ref (a : Addr) | ty (n : String)
  deriving DecidableEq

def RelV : V → Value → Prop
  | .non, u => u = Value.none
  | .bl b, u => u = Value.bool b
  | .int i, u => ∃ t, u = Value.int i t
  | .str x, u => ∃ t, u = Value.str x t
  | .byt b, u => ∃ t, u = Value.bytes b t
  | .flt b, u => ∃ t, u = Value.float b t
  | .ref a, u => u = Value.ref a
  | .ty n, u => u = Value.type n

abbrev Vals : List V → List Value → Prop := Paired RelV
theorem Vals.length {xs : List V} {us : List Value} (r : Vals xs us) : xs.length = us.length := Paired.length r
theorem Vals.get : ∀ {xs : List V} {us : List Value} {i : Nat} {x : V}, Vals xs us → xs[i]? = some x → ∃ u, us[i]? = some u ∧ RelV x u
  | _, _, _, _, .nil, e => by simp at e
  | _, _, 0, _, .cons r _, e => by simp at e; subst e; exact ⟨_, rfl, r⟩
  | _, _, i + 1, x, .cons _ t, e => by
    obtain ⟨u, h1, h2⟩ := Vals.get (i := i) (x := x) t (by simpa using e)
    exact ⟨u, by simpa using h1, h2⟩
theorem Vals.set {x : V} {u : Value} (r : RelV x u) : ∀ {xs : List V} {us : List Value} (i : Nat), Vals xs us → Vals (xs.set i x) (us.set i u)
  | _, _, _, .nil => .nil
  | _, _, 0, .cons _ t => .cons r t
  | _, _, i + 1, .cons q t => .cons q (Vals.set r i t)
theorem Vals.append : ∀ {xs ys : List V} {us ws : List Value}, Vals xs us → Vals ys ws → Vals (xs ++ ys) (us ++ ws)
  | _, _, _, _, .nil, s => s
  | _, _, _, _, .cons r t, s => .cons r (Vals.append t s)
theorem Vals.take : ∀ {xs : List V} {us : List Value} (n : Nat), Vals xs us → Vals (xs.take n) (us.take n)
  | _, _, 0, _ => .nil
  | _, _, _ + 1, .nil => .nil
  | _, _, n + 1, .cons r t => .cons r (Vals.take n t)
theorem Vals.drop : ∀ {xs : List V} {us : List Value} (n : Nat), Vals xs us → Vals (xs.drop n) (us.drop n)
  | _, _, 0, r => r
  | _, _, _ + 1, .nil => .nil
  | _, _, n + 1, .cons _ t => Vals.drop n t
theorem Vals.none_of : ∀ {xs : List V} {us : List Value} {i : Nat}, Vals xs us → xs[i]? = none → us[i]? = none := fun {xs us i} r e => by
  have h1 := r.length
  have h2 : xs.length ≤ i := List.getElem?_eq_none_iff.mp e
  exact List.getElem?_eq_none_iff.mpr (by omega)

def RelO : Option V → Option Value → Prop
  | some v, some u => RelV v u
  | none, none => True
  | _, _ => False
def KV {κ : Type} : List (κ × V) → List (κ × Value) → Prop := Paired fun (p : κ × V) (q : κ × Value) => p.1 = q.1 ∧ RelV p.2 q.2

/-- a key of a dict (00_mix): an int or a text -/
def kV : Key → V
  | .inl i => .int i
  | .inr x => .str x

/-- what stands at a tracked address -/
inductive HO where
  /-- a list -/
  | lst (xs : List V)
  /-- a tuple (never changes) -/
  | tup (xs : List V)
  /-- a dict whose keys are ints and texts; one whose keys are tuples of ints and texts (the empty one is both) -/
  | dK (kvs : List (Key × V)) | dT (kvs : List (List Key × V))
  /-- a set of ints: its members, its size -/
  | set (S : Int → Bool) (n : Nat)
  /-- an instance of the class at C, its dict at dx, its attributes -/
  | ins (C dx : Addr) (fs : List (Str × V))
  /-- the dict of the instance at x -/
  | own (x : Addr)
  /-- the dict of an exception -/
  | xd (fs : List (Str × V))
  /-- a bound method, f of x -/
  | met (f x : Addr)
  /-- a range object lo, lo + 1, .. below hi -/
  | rng (lo hi : Int)
  /-- a thing that is known to the object (the script; a dict while a loop walks it): read, never written while it is so -/
  | frz (o : Obj) (u : HO)
  /-- a code object's table -/
  | tbl (ps : Array Value)
  /-- any other thing, by what is true of its one object (a def of one's own: SetO a S n := HO.ext fun h => ..) -/
  | ext (φ : Heap → Prop)

abbrev Hp := Addr → Option HO
def upd (H : Hp) (a : Addr) (o : HO) : Hp := fun b => if b = a then some o else H b
theorem upd_same {H : Hp} {a : Addr} {o : HO} : upd H a o a = some o := by unfold upd; rw [if_pos rfl]
theorem upd_ne {H : Hp} {a b : Addr} {o : HO} (h : b ≠ a) : upd H a o b = H b := by unfold upd; rw [if_neg h]
theorem upd_upd {H : Hp} {a : Addr} {o u : HO} : upd (upd H a o) a u = upd H a u := by
  funext b; unfold upd; split <;> rfl
/-- two objects of different content stand apart -/
theorem ne_of {H : Hp} {a b : Addr} {o u : HO} (h : H a = some o) (h' : H b = some u) (d : o ≠ u) : a ≠ b := by
  intro e; subst e; rw [h] at h'; exact d (Option.some.inj h')
theorem ne_of_none {H : Hp} {a b : Addr} {o : HO} (h : H a = some o) (h' : H b = none) : a ≠ b := by
  intro e; subst e; rw [h] at h'; cases h'

section
variable (P : Program) (w : World)
def ObjOk (H : Hp) (h : Heap) (a : Addr) : HO → Prop
  | .lst xs => xs.length ≤ sizeLine ∧ ∃ (its : List Value) (n : Nat), Vals xs its ∧ h.get? a = some { cls := .type "list", data := .seq its.toArray n }
  | .tup xs => xs.length ≤ sizeLine ∧ ∃ its : List Value, Vals xs its ∧ IsTup h a its.toArray
  | .dK kvs => kvs.length ≤ sizeLine ∧ (a == sysModules) = false ∧ ∃ vs, KV kvs vs ∧ h.DictOf (mixKind P w) a vs
  | .dT kvs => kvs.length ≤ sizeLine ∧ (a == sysModules) = false ∧ ∃ xs : List (List Key × Addr × Value),
      Paired (fun (p : List Key × V) (q : List Key × Addr × Value) => p.1 = q.1 ∧ H q.2.1 = some (.tup (p.1.map kV)) ∧ RelV p.2 q.2.2) kvs xs ∧
      ∃ o es ep, h.get? a = some o ∧ o.ExactDict ∧ o.data = .dict es ep ∧ es.toList = xs.map (entryOfKey (tupleKind (mixKind P w))) ∧ (xs.map (·.1)).Nodup
  | .set S n => h.SetOf (intKind P w) a S n
  | .ins C dx fs => H dx = some (.own a) ∧ fs.length ≤ 1000 ∧ dx ≠ a ∧ h.get? a = some (PySem.W.instObj C dx) ∧
      ∃ mA, h.Ns1 dx mA ∧ (∀ f, RelO (fs.lookup f) (mA f)) ∧ PySem.Within mA (fs.map (·.1))
  | .own _ => ∃ o, h.get? a = some o
  | .xd fs => ∃ mA, h.Ns1 a mA ∧ ∀ f, RelO (fs.lookup f) (mA f)
  | .rng lo hi => ∃ t u v, h.get? a = some { cls := .type "range", data := .fields #[.int lo t, .int hi u, .int 1 v] }
  | .frz o u => h.get? a = some o ∧ ObjOk H h a u
  | .tbl ps => h.get? a = some { cls := .none, data := .fields ps }
  | .met f x => h.get? a = some (PySem.W.methodObj (.ref f) (.ref x))
  | .ext φ => φ h ∧ (∃ o, h.get? a = some o) ∧ ∀ h1 h2 : Heap, φ h1 → (∀ o, h1.get? a = some o → h2.get? a = some o) → φ h2
/-- the abstract heap is held -/
def HOk (H : Hp) (h : Heap) : Prop := ∀ a o, H a = some o → ObjOk P w H h a o
end

section
variable {P : Program} {w : World} {H H' : Hp} {h h' : Heap} {a : Addr} {o : HO}
theorem ObjOk.lt (x : ObjOk P w H h a o) : a < h.objs.size := by
  cases o with
  | lst xs => obtain ⟨_, _, _, _, e⟩ := x; exact Heap.lt_size e
  | tup xs => obtain ⟨_, _, _, p⟩ := x; exact p.lt
  | dK kvs => obtain ⟨_, _, _, _, o, _, _, e, _⟩ := x; exact Heap.lt_size e
  | dT kvs => obtain ⟨_, _, _, _, o, _, _, e, _⟩ := x; exact Heap.lt_size e
  | set S n => obtain ⟨o, _, _, _, e, _⟩ := x; exact Heap.lt_size e
  | ins C dx fs => obtain ⟨_, _, _, e, _⟩ := x; exact Heap.lt_size e
  | own y => obtain ⟨_, e⟩ := x; exact Heap.lt_size e
  | xd fs => obtain ⟨_, ⟨_, _, _, e, _⟩, _⟩ := x; exact Heap.lt_size e
  | rng lo hi => obtain ⟨_, _, _, e⟩ := x; exact Heap.lt_size e
  | frz ob u => obtain ⟨e, _⟩ := x; exact Heap.lt_size e
  | tbl ps => exact Heap.lt_size (show h.get? a = some _ from x)
  | met f y => exact Heap.lt_size (show h.get? a = some _ from x)
  | ext φ => obtain ⟨_, ⟨_, e⟩, _⟩ := x; exact Heap.lt_size e
theorem Paired.mapP {α β : Type} {F G : α → β → Prop} : ∀ {l₁ : List α} {l₂ : List β}, Paired F l₁ l₂ → (∀ a b, F a b → G a b) → Paired G l₁ l₂
  | _, _, .nil, _ => .nil
  | _, _, .cons r t, f => .cons (f _ _ r) (Paired.mapP t f)
theorem Paired.imp' {α β : Type} {F G : α → β → Prop} (f : ∀ a b, F a b → G a b) {l₁ : List α} {l₂ : List β} (r : Paired F l₁ l₂) : Paired G l₁ l₂ := Paired.mapP r f
/-- what an object's description leans on: its own object, its own dict, the tuples -/
theorem ObjOk.stay (x : ObjOk P w H h a o) (k : ∀ b u, (b = a ∨ H b = some (.own a)) → h.get? b = some u → h'.get? b = some u)
    (ho : ∀ b, H b = some (.own a) → H' b = some (.own a)) (ht : ∀ b xs, H b = some (.tup xs) → H' b = some (.tup xs)) : ObjOk P w H' h' a o := by
  induction o with
  | lst xs => obtain ⟨z, its, n, r, e⟩ := x; exact ⟨z, its, n, r, k _ _ (.inl rfl) e⟩
  | tup xs => obtain ⟨z, its, r, ob, e, c⟩ := x; exact ⟨z, its, r, ob, k _ _ (.inl rfl) e, c⟩
  | dK kvs => obtain ⟨z, y, vs, r, ob, es, ep, e, c⟩ := x; exact ⟨z, y, vs, r, ob, es, ep, k _ _ (.inl rfl) e, c⟩
  | dT kvs =>
    obtain ⟨z, y, xs, r, ob, es, ep, e, c⟩ := x
    exact ⟨z, y, xs, Paired.mapP r fun p q z => ⟨z.1, ht _ _ z.2.1, z.2.2⟩, ob, es, ep, k _ _ (.inl rfl) e, c⟩
  | set S n => obtain ⟨ob, es, ep, t, e, c⟩ := x; exact ⟨ob, es, ep, t, k _ _ (.inl rfl) e, c⟩
  | ins C dx fs =>
    obtain ⟨d, z, ne, e, mA, ⟨od, es, ep, e2, c⟩, r⟩ := x
    exact ⟨ho _ d, z, ne, k _ _ (.inl rfl) e, mA, ⟨od, es, ep, k _ _ (.inr d) e2, c⟩, r⟩
  | own y => obtain ⟨ob, e⟩ := x; exact ⟨ob, k _ _ (.inl rfl) e⟩
  | xd fs => obtain ⟨mA, ⟨od, es, ep, e, c⟩, r⟩ := x; exact ⟨mA, ⟨od, es, ep, k _ _ (.inl rfl) e, c⟩, r⟩
  | rng lo hi => obtain ⟨t, u, v, e⟩ := x; exact ⟨t, u, v, k _ _ (.inl rfl) e⟩
  | frz ob u ih => obtain ⟨e, q⟩ := x; exact ⟨k _ _ (.inl rfl) e, ih q⟩
  | tbl ps =>
    have e : h.get? a = some { cls := .none, data := .fields ps } := x
    show h'.get? a = some { cls := .none, data := .fields ps }
    exact k a _ (.inl rfl) e
  | met f y =>
    have e : h.get? a = some (PySem.W.methodObj (.ref f) (.ref y)) := x
    show h'.get? a = some (PySem.W.methodObj (.ref f) (.ref y))
    exact k a _ (.inl rfl) e
  | ext φ => obtain ⟨p, ⟨o, e⟩, st⟩ := x; exact ⟨st _ _ p fun o q => k _ _ (.inl rfl) q, ⟨o, k _ _ (.inl rfl) e⟩, st⟩
theorem HOk.lt (x : HOk P w H h) (e : H a = some o) : a < h.objs.size := (x a o e).lt
theorem HOk.fresh (x : HOk P w H h) (e : h.objs.size ≤ a) : H a = none := by
  cases q : H a with
  | none => rfl
  | some u => exact absurd (Nat.lt_of_lt_of_le (x.lt q) e) (Nat.lt_irrefl _)
/-- every object of the heap is kept -/
theorem HOk.kept (x : HOk P w H h) (k : ∀ b u, h.get? b = some u → h'.get? b = some u) : HOk P w H h' := fun a o e =>
  (x a o e).stay (fun b u _ q => k b u q) (fun _ q => q) fun _ _ q => q
/-- a new object is laid and tracked -/
theorem HOk.laid (x : HOk P w H h) (k : ∀ b u, h.get? b = some u → h'.get? b = some u) (hp : h.objs.size ≤ a) (new : ObjOk P w (upd H a o) h' a o) : HOk P w (upd H a o) h' := fun b u e => by
  have hn := x.fresh hp
  by_cases hb : b = a
  · subst hb; rw [upd_same] at e; cases e; exact new
  · rw [upd_ne hb] at e
    exact (x b u e).stay (fun c v _ q => k c v q) (fun c q => by rw [upd_ne (ne_of_none q hn)]; exact q) fun c xs q => by rw [upd_ne (ne_of_none q hn)]; exact q
end

/-- what may be read as u: it is u, or a known u -/
def Rd (H : Hp) (a : Addr) (u : HO) : Prop := H a = some u ∨ ∃ o, H a = some (.frz o u)
theorem Rd.of {H : Hp} {a : Addr} {u : HO} (h : H a = some u) : Rd H a u := .inl h
theorem Rd.ok {P : Program} {w : World} {H : Hp} {h : Heap} {a : Addr} {u : HO} (r : Rd H a u) (x : HOk P w H h) : ObjOk P w H h a u := by
  rcases r with r | ⟨o, r⟩
  · exact x a u r
  · obtain ⟨_, q⟩ := x a _ r
    exact q
/-- what may be written -/
def Mut : Option HO → Prop
  | some (.lst _) => True
  | some (.dK _) => True
  | some (.dT _) => True
  | some (.set _ _) => True
  | some (.ins _ _ _) => True
  | some (.ext _) => True
  | _ => False
section
variable {P : Program} {w : World} {H : Hp} {h h' : Heap} {x e : Addr} {o' : HO}
/-- the object at e is changed: x itself, or the dict of the instance x -/
theorem HOk.write (ok : HOk P w H h) (mu : Mut (H x)) (he : e = x ∨ H e = some (.own x)) (k : ∀ b u, b ≠ e → h.get? b = some u → h'.get? b = some u) (heo : ∃ u, h'.get? e = some u)
    (new : ObjOk P w (upd H x o') h' x o') : HOk P w (upd H x o') h' := fun b u q => by
  have nown : ∀ c y, H c = some (.own y) → c ≠ x := fun c y r z => by subst z; rw [r] at mu; exact mu
  have ntup : ∀ c xs, H c = some (.tup xs) → c ≠ x := fun c xs r z => by subst z; rw [r] at mu; exact mu
  by_cases hb : b = x
  · subst hb; rw [upd_same] at q; cases q; exact new
  · rw [upd_ne hb] at q
    by_cases hbe : b = e
    · have q' : H b = some (.own x) := by
        rcases he with z | z
        · exact absurd (hbe.trans z) hb
        · rw [hbe]; exact z
      rw [q] at q'; cases q'
      obtain ⟨v, hv⟩ := heo
      exact ⟨v, by rw [hbe]; exact hv⟩
    · refine (ok b u q).stay (fun c v hc r => k c v ?_ r) (fun c r => by rw [upd_ne (nown c b r)]; exact r) fun c xs r => by rw [upd_ne (ntup c xs r)]; exact r
      rcases hc with rfl | hc
      · exact hbe
      · rintro rfl
        rcases he with z | z
        · exact nown c b hc z
        · rw [hc] at z; cases z; exact hb rfl
end

/-! ### kept unless tracked; of the frames at fs (the callers') the slots may change (an exception that passes writes there); of the records at ex (iterators) nothing is said -/
structure Un (fs ex : List Addr) (H H' : Hp) (h h' : Heap) : Prop where
  keep : ∀ b o, h.get? b = some o → H b = none → b ∉ fs → b ∉ ex → h'.get? b = some o
  slot : ∀ b o, h.get? b = some o → H b = none → b ∈ fs → b ∉ ex → ∃ sl, h'.get? b = some { o with slots := sl }
  free : ∀ b o, h.get? b = some o → H b = none → b ∉ ex → H' b = none
  there : ∀ b o, h.get? b = some o → b ∉ ex → ∃ o', h'.get? b = some o'
  tups : ∀ b xs, H b = some (.tup xs) → H' b = some (.tup xs)
  frzs : ∀ b o u, H b = some (.frz o u) → H' b = some (.frz o u)
  tbls : ∀ b ps, H b = some (.tbl ps) → ∃ more, H' b = some (.tbl (ps ++ more))
section
variable {fs fs' ex ex' : List Addr} {H H1 H2 : Hp} {h h1 h2 h' : Heap} {a x e : Addr} {o : HO}
theorem Un.any (u : Un fs ex H H1 h h1) {b : Addr} {ob : Obj} (q : h.get? b = some ob) (n : H b = none) (hx : b ∉ ex) : ∃ sl, h1.get? b = some { ob with slots := sl } := by
  by_cases hb : b ∈ fs
  · exact u.slot b ob q n hb hx
  · exact ⟨ob.slots, u.keep b ob q n hb hx⟩
theorem Un.trans (a : Un fs ex H H1 h h1) (b : Un fs ex H1 H2 h1 h2) : Un fs ex H H2 h h2 where
  keep := fun c ob q n hc hx => b.keep c ob (a.keep c ob q n hc hx) (a.free c ob q n hx) hc hx
  slot := fun c ob q n hc hx => by
    obtain ⟨sl, e1⟩ := a.slot c ob q n hc hx
    obtain ⟨sl', e2⟩ := b.slot c _ e1 (a.free c ob q n hx) hc hx
    exact ⟨sl', e2⟩
  free := fun c ob q n hx => by
    obtain ⟨o', e1⟩ := a.there c ob q hx
    exact b.free c o' e1 (a.free c ob q n hx) hx
  there := fun c ob q hx => by
    obtain ⟨o', e1⟩ := a.there c ob q hx
    exact b.there c o' e1 hx
  tups := fun c xs q => b.tups c xs (a.tups c xs q)
  frzs := fun c ob xs q => b.frzs c ob xs (a.frzs c ob xs q)
  tbls := fun c ps q => by
    obtain ⟨m1, e1⟩ := a.tbls c ps q
    obtain ⟨m2, e2⟩ := b.tbls c _ e1
    exact ⟨m1 ++ m2, by rw [e2, Array.append_assoc]⟩
theorem Un.kept (k : ∀ b u, h.get? b = some u → h'.get? b = some u) : Un fs ex H H h h' :=
  ⟨fun b ob q _ _ _ => k b ob q, fun b ob q _ _ _ => ⟨ob.slots, k b ob q⟩, fun _ _ _ n _ => n, fun b ob q _ => ⟨ob, k b ob q⟩, fun _ _ q => q, fun _ _ _ q => q, fun _ ps q => ⟨#[], by rw [q]; simp⟩⟩
theorem Un.refl : Un fs ex H H h h := Un.kept fun _ _ q => q
theorem Un.laid (k : ∀ b u, h.get? b = some u → h'.get? b = some u) (hp : h.objs.size ≤ a) (hn : H a = none) : Un fs ex H (upd H a o) h h' where
  keep := fun b u q _ _ _ => k b u q
  slot := fun b u q _ _ _ => ⟨u.slots, k b u q⟩
  free := fun b u q n _ => by rw [upd_ne (Nat.ne_of_lt (Nat.lt_of_lt_of_le (Heap.lt_size q) hp))]; exact n
  there := fun b u q _ => ⟨u, k b u q⟩
  tups := fun b xs q => by rw [upd_ne (ne_of_none q hn)]; exact q
  frzs := fun b u xs q => by rw [upd_ne (ne_of_none q hn)]; exact q
  tbls := fun b ps q => ⟨#[], by rw [upd_ne (ne_of_none q hn), q]; simp⟩
theorem Un.write (mu : Mut (H x)) (he : e = x ∨ H e = some (.own x)) (k : ∀ b u, b ≠ e → h.get? b = some u → h'.get? b = some u) (heo : ∃ u, h'.get? e = some u) : Un fs ex H (upd H x o) h h' := by
  have hx : ∀ b, H b = none → b ≠ x := fun b n z => by subst z; rw [n] at mu; exact mu
  have hb : ∀ b, H b = none → b ≠ e := fun b n z => by
    subst z
    rcases he with r | r
    · exact hx b n r
    · rw [n] at r; cases r
  have hm : ∀ b u, H b = some u → ¬ Mut (some u) → b ≠ x := fun b u q nm z => by subst z; rw [q] at mu; exact nm mu
  refine ⟨fun b u q n _ _ => k b u (hb b n) q, fun b u q n _ _ => ⟨u.slots, k b u (hb b n) q⟩, fun b u q n _ => by rw [upd_ne (hx b n)]; exact n, fun b u q _ => ?_,
    fun b xs q => by rw [upd_ne (hm b _ q fun z => z)]; exact q, fun b u xs q => by rw [upd_ne (hm b _ q fun z => z)]; exact q, fun b ps q => ⟨#[], by rw [upd_ne (hm b _ q fun z => z), q]; simp⟩⟩
  by_cases hbe : b = e
  · subst hbe; exact heo
  · exact ⟨u, k b u hbe q⟩
theorem Un.mono (u : Un fs ex H H1 h h1) (hs : ∀ b ∈ fs, b ∈ fs') (hx : ∀ b ∈ ex, b ∈ ex') : Un fs' ex' H H1 h h1 :=
  ⟨fun b ob q n hb he => u.keep b ob q n (fun z => hb (hs b z)) fun z => he (hx b z), fun _ _ q n _ he => u.any q n fun z => he (hx _ z), fun b ob q n he => u.free b ob q n fun z => he (hx b z), fun b ob q he => u.there b ob q fun z => he (hx b z), u.tups, u.frzs, u.tbls⟩
end

/-! ### the heap without what is tracked -/
def trk (h : Heap) (H : Hp) : List Addr := (List.range h.objs.size).filter fun a => (H a).isSome
def hidT (h : Heap) (H : Hp) : Heap := PySem.W.hideAll h (trk h H)
theorem hidT_size (h : Heap) (H : Hp) : (hidT h H).objs.size = h.objs.size := PySem.W.hideAll_size _ _
theorem hidT_get {h : Heap} {H : Hp} {b : Addr} {o : Obj} (e : h.get? b = some o) (n : H b = none) : (hidT h H).get? b = some o :=
  PySem.W.hideAll_get _ e fun hm => by
    have q : (H b).isSome = true := (List.mem_filter.mp hm).2
    rw [n] at q; simp at q
theorem of_hidT {h : Heap} {H : Hp} {b : Addr} {o : Obj} (e : (hidT h H).get? b = some o) : h.get? b = some o ∧ H b = none := by
  have e' : h.get? b = some o := PySem.W.of_hideAll (trk h H) e
  refine ⟨e', ?_⟩
  cases q : H b with
  | none => rfl
  | some x =>
    have hm : b ∈ trk h H := List.mem_filter.mpr ⟨List.mem_range.mpr (Heap.lt_size e'), by simp [q]⟩
    have z : (hidT h H).get? b = none := PySem.W.hideAll_none (trk h H) hm
    rw [z] at e; cases e

/-! ### OpenK's ledger, filled with every new object but one -/
def allNews (g h : Heap) (L : Addr) : List (Addr × Obj) := (List.range h.objs.size).filterMap fun a => if a = L ∨ (g.get? a).isSome = true then none else (h.get? a).map fun o => (a, o)
theorem mem_allNews {g h : Heap} {L a : Addr} {o : Obj} (h1 : a ≠ L) (h2 : g.get? a = none) (h3 : h.get? a = some o) : (a, o) ∈ allNews g h L :=
  List.mem_filterMap.mpr ⟨a, List.mem_range.mpr (Heap.lt_size h3), by simp [h1, h2, h3]⟩
theorem of_mem_allNews {g h : Heap} {L : Addr} {p : Addr × Obj} (hp : p ∈ allNews g h L) : p.1 ≠ L ∧ g.get? p.1 = none ∧ h.get? p.1 = some p.2 := by
  obtain ⟨b, _, e⟩ := List.mem_filterMap.mp hp
  split at e
  · cases e
  · rename_i hn
    cases q : h.get? b with
    | none => rw [q] at e; simp at e
    | some u =>
      rw [q] at e
      simp only [Option.map_some, Option.some.injEq] at e
      subst e
      refine ⟨fun z => hn (.inl z), ?_, q⟩
      show g.get? b = none
      cases r : g.get? b with
      | none => rfl
      | some v => exact (hn (.inr (by simp [r]))).elim
def rest (g h : Heap) (L d : Addr) : List (Addr × Obj) := (allNews g h L).filter fun p => decide (p.1 ≠ d)
theorem rest_ne {g h : Heap} {L d : Addr} : ∀ p ∈ rest g h L d, p.1 ≠ d := fun p hp => of_decide_eq_true (List.mem_filter.mp hp).2
theorem mem_rest {g h : Heap} {L d a : Addr} {o : Obj} (h1 : a ≠ L) (h2 : g.get? a = none) (h3 : h.get? a = some o) (h4 : a ≠ d) : (a, o) ∈ rest g h L d :=
  List.mem_filter.mpr ⟨mem_allNews h1 h2 h3, decide_eq_true h4⟩
theorem news_all {g h : Heap} {L : Addr} : News g L h (allNews g h L) := fun p hp => let ⟨a, b, c⟩ := of_mem_allNews hp; ⟨c, a, b⟩
theorem news_at {g h : Heap} {L d : Addr} {o : Obj} (h1 : d ≠ L) (h2 : g.get? d = none) (h3 : h.get? d = some o) : News g L h ((d, o) :: rest g h L d) := fun p hp => by
  rcases List.mem_cons.mp hp with rfl | hp
  · exact ⟨h3, h1, h2⟩
  · exact news_all p (List.mem_filter.mp hp).1
/-- behind a rule that changed d alone: all else but the frame is kept -/
theorem kept_of_news {g h h' : Heap} {L d : Addr} {m : Str → Option Value} (k : ∀ b o, g.get? b = some o → h.get? b = some o) (F : Fr g L h' m) (N : News g L h' (rest g h L d)) :
    ∀ b o, b ≠ L → b ≠ d → h.get? b = some o → h'.get? b = some o := fun b o h1 h2 e => by
  cases q : g.get? b with
  | some u =>
    have := k b u q
    rw [e] at this; cases this
    exact F.keep b _ q
  | none => exact (N (b, o) (mem_rest h1 q e h2)).1
end L2

namespace L2
open PySem PySem.Spec PyProof.Rows

/-- the module's facts, over the base: the heap at the law's entry without what is tracked there -/
structure Mod (K : PySem.W.Frag) (mg : Str → Option Value) (base : Heap) : Prop where
  kin : K.In base
  glob : base.Ns mainGlobals mg
  blt : ∃ mb, base.Ns builtinsNs mb ∧ ∀ x : Str, x ≠ "__name__" → mb x = bootBuiltins x
  nolimit : base.NoLimit

/-- the context: a def's body (or a comprehension's block) running. base: fixed through the whole law; s₀, H₀: the entry; outer: the frames whose slots others may change (a def's callers); stack: all frames that run;
   ex: iterators that were made ahead of the entry and are walked here (a comprehension's); fn: the names whose cells were made at the entry (a def: all; a comprehension's block: its own); calm: not within an except suite; pn: pins that every state bears; xe: what is wanted of an exception that leaves the code -/
structure Cx where
  prog : Program
  w : World
  K : PySem.W.Frag
  mg : Str → Option Value
  base : Heap
  A : Around
  N : List Str
  s₀ : Shared
  H₀ : Hp
  env : Env
  outer : List Env
  stack : List Env
  ex : List Addr
  fn : Str → Bool
  calm : Bool
  pn : List (Addr × Obj)
  xe : Value → Shared → Prop
/-- the callers' frames -/
def frs (l : List Env) : List Addr := l.filterMap (·.frame)
abbrev Cx.fs (X : Cx) : List Addr := frs X.outer

def Vis (sc : Scope) (x : Str) : Prop := sc.names.lookup x = some .local ∨ sc.names.lookup x = some .cell ∨ sc.names.lookup x = some .free
def Loc (sc : Scope) (x : Str) : Prop := sc.names.lookup x = some .local ∨ sc.names.lookup x = some .cell
def Look (env : Env) (h : Heap) (m : Str → Option Value) (x : Str) (u : Value) : Prop :=
  (env.kindOf x = some .local ∧ m x = some u) ∨ ((env.kindOf x = some .cell ∨ env.kindOf x = some .free) ∧ ∃ c, env.cells.lookup x = some c ∧ h.IsCell c (some u))

structure Cx.Ok (X : Cx) : Prop where
  mod : Mod X.K X.mg X.base
  kind : X.env.scope.kind = .function
  glob : X.env.globals = mainGlobals
  blt : X.env.builtins = builtinsNs
  above : X.s₀.heap.objs.size ≤ X.env.locals
  inj : ∀ x y c, X.env.cells.lookup x = some c → X.env.cells.lookup y = some c → x = y
  has : ∀ x, (X.env.kindOf x = some .cell ∨ X.env.kindOf x = some .free) → ∃ c, X.env.cells.lookup x = some c
  cab : ∀ x c, X.fn x = true → X.env.cells.lookup x = some c → X.s₀.heap.objs.size ≤ c
  hd : X.calm = true → X.A.handled = none
  frames : X.A.frames = some X.stack
  stk : X.stack = X.outer ∨ (X.stack = X.env :: X.outer ∧ X.env.frame = some X.env.locals)
  exf : ∀ b ∈ X.ex, b ≠ X.env.locals ∧ ∀ x c, X.env.cells.lookup x = some c → c ≠ b
  bs : ∀ b o, X.base.get? b = some o → X.s₀.heap.get? b = some o ∧ X.H₀ b = none
  bsz : X.base.objs.size ≤ X.s₀.heap.objs.size
  noex : ∀ b o, X.base.get? b = some o → b ∉ X.ex
  exfs : ∀ b ∈ X.ex, b ∉ X.fs
  funs : X.s₀.heap.FunFrames X.base X.outer
  frf : ∀ b ∈ X.fs, X.H₀ b = none

structure Inv (X : Cx) (pins : List (Addr × Obj)) (σ : List (Option V)) (H : Hp) (s : Shared) : Prop where
  ok : X.Ok
  os : s.os = X.s₀.os
  bare : AllBare s.gens
  base : Un X.fs X.ex X.H₀ H X.s₀.heap s.heap
  loc : ∃ m, s.heap.Ns X.env.locals m ∧ ∀ (i : Nat) (x : Str) (v : V), X.N[i]? = some x → σ[i]? = some (some v) → Vis X.env.scope x → ∃ u, RelV v u ∧ Look X.env s.heap m x u
  cell : ∀ x c, X.env.cells.lookup x = some c → ∃ v, s.heap.IsCell c v
  free : H X.env.locals = none
  freeC : ∀ x c, X.env.cells.lookup x = some c → H c = none
  pin : ∀ p ∈ X.pn ++ pins, s.heap.get? p.1 = some p.2 ∧ H p.1 = none ∧ p.1 ≠ X.env.locals ∧ p.1 ∉ X.fs ∧ ∀ v, p.2.data ≠ .cell v
  hok : HOk X.prog X.w H s.heap
  len : σ.length = X.N.length

section
variable {X : Cx} {pins : List (Addr × Obj)} {σ : List (Option V)} {H H' : Hp} {s : Shared} {h' : Heap}

theorem Cx.Ok.nofr (ok : X.Ok) {b : Addr} {o : Obj} (e : X.base.get? b = some o) : b ∉ X.fs := fun hb => by
  have := (ok.funs.mem hb).1
  rw [e] at this; cases this
theorem Inv.bs (I : Inv X pins σ H s) : ∀ b o, X.base.get? b = some o → s.heap.get? b = some o ∧ H b = none := fun b o e =>
  ⟨I.base.keep b o (I.ok.bs b o e).1 (I.ok.bs b o e).2 (I.ok.nofr e) (I.ok.noex b o e), I.base.free b o (I.ok.bs b o e).1 (I.ok.bs b o e).2 (I.ok.noex b o e)⟩
theorem Inv.bk (I : Inv X pins σ H s) : ∀ b o, X.base.get? b = some o → s.heap.get? b = some o := fun b o e => (I.bs b o e).1
theorem Inv.mod (I : Inv X pins σ H s) : Mod X.K X.mg X.base := I.ok.mod
theorem Inv.kIn (I : Inv X pins σ H s) : X.K.In s.heap := I.ok.mod.kin.keeps I.bk
theorem Inv.nolimit (I : Inv X pins σ H s) : s.heap.NoLimit := I.ok.mod.nolimit.keeps I.bk
/-- the frame over the base: for OpenK's rules (K.In X.base is I.mod.kin) -/
theorem Inv.fr (I : Inv X pins σ H s) : ∃ m, Fr X.base X.env.locals s.heap m :=
  let ⟨m, hn, _⟩ := I.loc
  ⟨m, hn, I.bk, Nat.le_trans I.ok.bsz I.ok.above⟩
theorem Inv.lt (I : Inv X pins σ H s) : X.env.locals < s.heap.objs.size := let ⟨_, hn, _⟩ := I.loc; hn.lt
theorem Inv.sz (I : Inv X pins σ H s) : X.s₀.heap.objs.size ≤ s.heap.objs.size := Nat.le_trans I.ok.above (Nat.le_of_lt I.lt)
theorem Inv.nofs (I : Inv X pins σ H s) {a : Addr} (h : s.heap.objs.size ≤ a) : a ∉ X.fs := fun hb => by
  obtain ⟨_, o, ho, _⟩ := I.ok.funs.mem hb
  exact absurd (Nat.lt_of_lt_of_le (Heap.lt_size ho) (Nat.le_trans I.sz h)) (Nat.lt_irrefl _)
theorem Inv.cne (I : Inv X pins σ H s) : ∀ x c, X.env.cells.lookup x = some c → c ≠ X.env.locals := fun x c e z => by
  obtain ⟨v, o, ho, hd⟩ := I.cell x c e
  obtain ⟨m, ⟨o', es, ep, ho', hd', _⟩, _⟩ := I.loc
  rw [z, ho'] at ho; cases ho; rw [hd'] at hd; cases hd
theorem Inv.funs (I : Inv X pins σ H s) : s.heap.FunFrames X.base X.outer := by
  have all : ∀ (l : List Env), (∀ b ∈ frs l, b ∈ X.fs) → X.s₀.heap.FunFrames X.base l → s.heap.FunFrames X.base l := by
    intro l
    induction l with
    | nil => intro _ _; trivial
    | cons env r ih =>
      intro hs hl
      obtain ⟨hk, ⟨L, o, hf, hn, ho, hd⟩, hr⟩ := hl
      have hL : L ∈ X.fs := hs L (by unfold frs; rw [List.filterMap_cons, hf]; exact List.mem_cons_self)
      obtain ⟨sl, e⟩ := I.base.slot L o ho (I.ok.frf L hL) hL fun z => I.ok.exfs L z hL
      exact ⟨hk, ⟨L, _, hf, hn, e, hd⟩, ih (fun b hb => hs b (by unfold frs; rw [List.filterMap_cons, hf]; exact List.mem_cons_of_mem _ hb)) hr⟩
  exact all X.outer (fun _ hb => hb) I.ok.funs

/-- the frames that run, for a call -/
theorem Inv.stack (I : Inv X pins σ H s) : s.heap.FunFrames X.base X.stack := by
  rcases I.ok.stk with e | ⟨e, hf⟩
  · rw [e]; exact I.funs
  · rw [e]
    obtain ⟨m, hn, _⟩ := I.loc
    refine .cons (by rw [I.ok.kind]; decide) hf hn ?_ I.funs
    exact Heap.get?_none_of_le (Nat.le_trans I.ok.bsz I.ok.above)
theorem Inv.stkSub (I : Inv X pins σ H s) : ∀ b ∈ frs X.stack, b ∈ X.env.locals :: X.fs := fun b hb => by
  rcases I.ok.stk with e | ⟨e, hf⟩
  · rw [e] at hb; exact List.mem_cons_of_mem _ hb
  · rw [e] at hb
    unfold frs at hb
    rw [List.filterMap_cons, hf] at hb
    exact hb
theorem Inv.stkFree (I : Inv X pins σ H s) : ∀ b ∈ frs X.stack, H b = none := fun b hb => by
  rcases List.mem_cons.mp (I.stkSub b hb) with e | hb
  · rw [e]; exact I.free
  · obtain ⟨_, o, ho, _⟩ := I.ok.funs.mem hb
    exact I.base.free b o ho (I.ok.frf b hb) fun z => I.ok.exfs b z hb

/-- THE STEP: the untracked objects but the frame and the records at ch are kept (the callers' frames up to slots), the frame's map is kept, the new abstract heap is held -/
theorem Inv.step {g' : Array GenState} {t' : Nat} {d' : Drawn} {ch : List Addr} (I : Inv X pins σ H s)
    (hch : ∀ b ∈ ch, (b ∈ X.ex ∨ X.s₀.heap.objs.size ≤ b) ∧ b ≠ X.env.locals ∧ (∀ x c, X.env.cells.lookup x = some c → c ≠ b) ∧ ∀ p ∈ X.pn ++ pins, p.1 ≠ b)
    (keep : ∀ b o, b ≠ X.env.locals → b ∉ X.fs → b ∉ ch → s.heap.get? b = some o → H b = none → h'.get? b = some o)
    (slot : ∀ b o, b ≠ X.env.locals → b ∈ X.fs → b ∉ ch → s.heap.get? b = some o → H b = none → ∃ sl, h'.get? b = some { o with slots := sl }) (free : ∀ b o, b ∉ ch → s.heap.get? b = some o → H b = none → H' b = none)
    (there : ∀ b o, b ∉ ch → s.heap.get? b = some o → ∃ o', h'.get? b = some o')
    (tups : ∀ b xs, H b = some (.tup xs) → H' b = some (.tup xs)) (frzs : ∀ b o u, H b = some (.frz o u) → H' b = some (.frz o u)) (tbls : ∀ b ps, H b = some (.tbl ps) → ∃ more, H' b = some (.tbl (ps ++ more)))
    (ns : ∀ m, s.heap.Ns X.env.locals m → h'.Ns X.env.locals m) (hok : HOk X.prog X.w H' h') (hg : AllBare g') :
    Inv X pins σ H' { s with heap := h', gens := g', drawn := d', toks := t' } := by
  have neL : ∀ b o, X.s₀.heap.get? b = some o → b ≠ X.env.locals := fun b o e => Nat.ne_of_lt (Nat.lt_of_lt_of_le (Heap.lt_size e) I.ok.above)
  have neC : ∀ b o, X.s₀.heap.get? b = some o → b ∉ X.ex → b ∉ ch := fun b o e hx hb => by
    rcases (hch b hb).1 with z | z
    · exact hx z
    · exact absurd (Nat.lt_of_lt_of_le (Heap.lt_size e) z) (Nat.lt_irrefl _)
  have cellK : ∀ x c, X.env.cells.lookup x = some c → ∀ v, s.heap.IsCell c v → h'.IsCell c v := fun x c e v ⟨o, ho, hd⟩ => by
    have nch : c ∉ ch := fun z => (hch c z).2.2.1 x c e rfl
    by_cases hc : c ∈ X.fs
    · obtain ⟨sl, q⟩ := slot c o (I.cne x c e) hc nch ho (I.freeC x c e)
      exact ⟨_, q, hd⟩
    · exact ⟨o, keep c o (I.cne x c e) hc nch ho (I.freeC x c e), hd⟩
  refine ⟨I.ok, I.os, hg, ⟨fun b o e n hb hx => ?_, fun b o e n hb hx => ?_, fun b o e n hx => ?_, fun b o e hx => ?_, fun b xs e => tups b xs (I.base.tups b xs e), fun b o xs e => frzs b o xs (I.base.frzs b o xs e), fun b ps e => ?_⟩, ?_, fun x c e => ?_, ?_, fun x c e => ?_, fun p hp => ?_, hok, I.len⟩
  · exact keep b o (neL b o e) hb (neC b o e hx) (I.base.keep b o e n hb hx) (I.base.free b o e n hx)
  · obtain ⟨sl, e1⟩ := I.base.slot b o e n hb hx
    obtain ⟨sl', e2⟩ := slot b _ (neL b o e) hb (neC b o e hx) e1 (I.base.free b o e n hx)
    exact ⟨sl', e2⟩
  · obtain ⟨o', e1⟩ := I.base.there b o e hx
    exact free b o' (neC b o e hx) e1 (I.base.free b o e n hx)
  · obtain ⟨o', e1⟩ := I.base.there b o e hx
    exact there b o' (neC b o e hx) e1
  · obtain ⟨m1, e1⟩ := I.base.tbls b ps e
    obtain ⟨m2, e2⟩ := tbls b _ e1
    exact ⟨m1 ++ m2, by rw [e2, Array.append_assoc]⟩
  · obtain ⟨m, hn, hl⟩ := I.loc
    refine ⟨m, ns m hn, fun i x v e1 e2 e3 => ?_⟩
    obtain ⟨u, r, l⟩ := hl i x v e1 e2 e3
    refine ⟨u, r, ?_⟩
    rcases l with l | ⟨k, c, e, z⟩
    · exact .inl l
    · exact .inr ⟨k, c, e, cellK x c e _ z⟩
  · obtain ⟨v, z⟩ := I.cell x c e
    exact ⟨v, cellK x c e v z⟩
  · obtain ⟨m, ⟨o, _, _, ho, _⟩, _⟩ := I.loc
    exact free _ o (fun z => (hch _ z).2.1 rfl) ho I.free
  · obtain ⟨v, o, ho, hd⟩ := I.cell x c e
    exact free c o (fun z => (hch c z).2.2.1 x c e rfl) ho (I.freeC x c e)
  · obtain ⟨e, n, ne, nf, d⟩ := I.pin p hp
    have nch : p.1 ∉ ch := fun z => (hch p.1 z).2.2.2 p hp rfl
    exact ⟨keep p.1 p.2 ne nf nch e n, free p.1 p.2 nch e n, ne, nf, d⟩
/-- .. where the frame's own object is kept too -/
theorem Inv.un {t' : Nat} (I : Inv X pins σ H s) (u : Un X.fs [] H H' s.heap h') (hok : HOk X.prog X.w H' h') : Inv X pins σ H' { s with heap := h', toks := t' } := by
  obtain ⟨m, ⟨o, es, ep, ho, r⟩, _⟩ := id I.loc
  obtain ⟨sl, hL⟩ := u.any ho I.free (by simp)
  exact I.step (g' := s.gens) (d' := s.drawn) (ch := []) (fun _ z => nomatch z) (fun b o _ hb _ e n => u.keep b o e n hb (by simp)) (fun b o _ hb _ e n => u.slot b o e n hb (by simp)) (fun b o _ e n => u.free b o e n (by simp)) (fun b o _ e => u.there b o e (by simp)) u.tups u.frzs u.tbls (fun m' hm => by
    obtain ⟨o', es', ep', ho', r'⟩ := hm
    rw [ho] at ho'; cases ho'
    exact ⟨_, es', ep', hL, r'⟩) hok I.bare
/-- behind a call (or a comprehension's block): the slots of this frame may have changed too, the records at ch may have turned -/
theorem Inv.call {g' : Array GenState} {t' : Nat} {d' : Drawn} {ch : List Addr} (I : Inv X pins σ H s) (u : Un (frs X.stack) ch H H' s.heap h') (hok : HOk X.prog X.w H' h') (hg : AllBare g')
    (hch : ∀ b ∈ ch, (b ∈ X.ex ∨ X.s₀.heap.objs.size ≤ b) ∧ b ≠ X.env.locals ∧ (∀ x c, X.env.cells.lookup x = some c → c ≠ b) ∧ ∀ p ∈ X.pn ++ pins, p.1 ≠ b) :
    Inv X pins σ H' { s with heap := h', gens := g', drawn := d', toks := t' } := by
  obtain ⟨m, ⟨o, es, ep, ho, r⟩, _⟩ := id I.loc
  obtain ⟨sl, hL⟩ := u.any ho I.free fun z => (hch _ z).2.1 rfl
  exact I.step (ch := ch) hch (fun b o hL hb hc e n => u.keep b o e n (fun z => (List.mem_cons.mp (I.stkSub b z)).elim hL hb) hc) (fun b o _ _ hc e n => u.any e n hc) (fun b o hc e n => u.free b o e n hc) (fun b o hc e => u.there b o e hc) u.tups u.frzs u.tbls (fun m' hm => by
    obtain ⟨o', es', ep', ho', r'⟩ := hm
    rw [ho] at ho'; cases ho'
    exact ⟨_, es', ep', hL, r'⟩) hok hg
/-- an untracked record of ours (an iterator) has turned -/
theorem Inv.turned {t' : Nat} {it : Addr} (I : Inv X pins σ H s) (k : ∀ b o, b ≠ it → s.heap.get? b = some o → h'.get? b = some o) (hn : H it = none) (hL : it ≠ X.env.locals)
    (h1 : it ∈ X.ex ∨ X.s₀.heap.objs.size ≤ it) (h2 : ∀ x c, X.env.cells.lookup x = some c → c ≠ it) (h3 : ∀ p ∈ X.pn ++ pins, p.1 ≠ it) : Inv X pins σ H { s with heap := h', toks := t' } := by
  have nit : ∀ b u, H b = some u → b ≠ it := fun b u e z => by rw [z, hn] at e; cases e
  refine I.step (g' := s.gens) (d' := s.drawn) (ch := [it]) (fun b hb => ?_) (fun b o _ _ hc e _ => k b o (fun z => hc (by simp [z])) e) (fun b o _ _ hc e _ => ⟨o.slots, k b o (fun z => hc (by simp [z])) e⟩) (fun _ _ _ _ n => n)
    (fun b o hc e => ⟨o, k b o (fun z => hc (by simp [z])) e⟩) (fun _ _ e => e) (fun _ _ _ e => e) (fun b ps e => ⟨#[], by rw [e]; simp⟩) (fun m hm => ?_) (fun b u e => ?_) I.bare
  · have e : b = it := by simpa using hb
    subst e
    exact ⟨h1, hL, h2, h3⟩
  · obtain ⟨o, es, ep, ho, r⟩ := hm
    exact ⟨o, es, ep, k _ o (Ne.symm hL) ho, r⟩
  · refine (I.hok b u e).stay (fun c v hc q => k c v ?_ q) (fun _ q => q) fun _ _ q => q
    rcases hc with z | z
    · rw [z]; exact nit b u e
    · exact nit c _ z
theorem Inv.tok (I : Inv X pins σ H s) (t : Nat) : Inv X pins σ H { s with toks := t } := I.un (h' := s.heap) (t' := t) Un.refl I.hok
/-- all objects kept -/
theorem Inv.kept {t' : Nat} (I : Inv X pins σ H s) (k : ∀ b u, s.heap.get? b = some u → h'.get? b = some u) : Inv X pins σ H { s with heap := h', toks := t' } := I.un (Un.kept k) (I.hok.kept k)
/-- a new object laid and tracked -/
theorem Inv.laid {a : Addr} {o : HO} {t' : Nat} (I : Inv X pins σ H s) (k : ∀ b u, s.heap.get? b = some u → h'.get? b = some u) (hp : s.heap.objs.size ≤ a) (new : ObjOk X.prog X.w (upd H a o) h' a o) :
    Inv X pins σ (upd H a o) { s with heap := h', toks := t' } := I.un (Un.laid k hp (I.hok.fresh hp)) (I.hok.laid k hp new)
/-- an object written -/
theorem Inv.write {x e : Addr} {o : HO} {t' : Nat} (I : Inv X pins σ H s) (mu : Mut (H x)) (he : e = x ∨ H e = some (.own x)) (k : ∀ b u, b ≠ e → s.heap.get? b = some u → h'.get? b = some u) (heo : ∃ u, h'.get? e = some u)
    (new : ObjOk X.prog X.w (upd H x o) h' x o) : Inv X pins σ (upd H x o) { s with heap := h', toks := t' } := I.un (Un.write mu he k heo) (I.hok.write mu he k heo new)
/-- forgetting slots, pins -/
theorem Inv.weak {σ' : List (Option V)} (I : Inv X pins σ H s) (hl : σ'.length = σ.length) (w : ∀ (i : Nat) v, σ'[i]? = some (some v) → σ[i]? = some (some v)) : Inv X pins σ' H s :=
  ⟨I.ok, I.os, I.bare, I.base, let ⟨m, hn, hl'⟩ := I.loc; ⟨m, hn, fun i x v e1 e2 e3 => hl' i x v e1 (w i v e2) e3⟩, I.cell, I.free, I.freeC, I.pin, I.hok, hl.trans I.len⟩
theorem Inv.pins_of {pins' : List (Addr × Obj)} (I : Inv X pins σ H s) (h : ∀ p ∈ pins', s.heap.get? p.1 = some p.2 ∧ H p.1 = none ∧ p.1 ≠ X.env.locals ∧ p.1 ∉ X.fs ∧ ∀ v, p.2.data ≠ .cell v) : Inv X pins' σ H s :=
  ⟨I.ok, I.os, I.bare, I.base, I.loc, I.cell, I.free, I.freeC, fun p hp => (List.mem_append.mp hp).elim (fun z => I.pin p (List.mem_append_left _ z)) (h p), I.hok, I.len⟩

theorem nodup_ix {N : List Str} (hN : N.Nodup) {i j : Nat} {x : Str} (a : N[i]? = some x) (b : N[j]? = some x) : i = j := by
  obtain ⟨h1, e1⟩ := List.getElem?_eq_some_iff.mp a
  obtain ⟨h2, e2⟩ := List.getElem?_eq_some_iff.mp b
  exact (List.getElem_inj hN).mp (e1.trans e2.symm)

/-- a name is stored; what changed -/
theorem store_ok2 {M : Model} {A : Around} {E : Value → Shared → Prop} {i : Nat} {x : Str} {v : V} {u : Value} {Q : Unit → Shared → Prop} (I : Inv X pins σ H s) (hN : X.N.Nodup) (hi : X.N[i]? = some x) (hx : Loc X.env.scope x) (r : RelV v u)
    (h : ∀ s', Inv X pins (σ.set i (some v)) H s' → (∃ a, Heap.SameBut a s.heap s'.heap ∧ (a = X.env.locals ∨ X.env.cells.lookup x = some a)) → Q () s') (hf : X.fn x = true ∨ X.env.scope.names.lookup x = some .local := by first | exact .inl rfl | exact .inr rfl | assumption) : wpAny M A (storeName X.env x u) Q E s := by
  obtain ⟨m, hn, hl⟩ := id I.loc
  have hcls : (X.env.scope.kind == .class || (X.env.scope.kind == .module && X.env.locals != X.env.globals)) = false := by rw [I.ok.kind]; rfl
  have hiσ : i < σ.length := by rw [I.len]; exact (List.getElem?_eq_some_iff.mp hi).1
  have cne := I.cne
  have tracked : ∀ {a : Addr} {h' : Heap}, (∃ o, s.heap.get? a = some o ∧ H a = none) → Heap.SameBut a s.heap h' → HOk X.prog X.w H h' := fun {a h'} ha hs b ob e => by
    obtain ⟨_, _, hfree⟩ := ha
    refine (I.hok b ob e).stay (fun c w' hc q => (hs.2 c ?_).trans q) (fun _ q => q) fun _ _ q => q
    rintro rfl
    rcases hc with rfl | hc
    · rw [hfree] at e; cases e
    · rw [hfree] at hc; cases hc
  rcases hx with hk | hk
  · refine wpAny_storeName_local hk hn (fun h' hn' hs => ?_) hcls
    obtain ⟨oL, _, _, hoL, _⟩ := id hn
    refine h _ ⟨I.ok, I.os, I.bare, ⟨fun b o e n hb hx => ?_, fun b o e n hb hx => ?_, I.base.free, fun b o e hx => ?_, I.base.tups, I.base.frzs, I.base.tbls⟩, ⟨_, hn', fun j y v' e1 e2 e3 => ?_⟩, fun y c e => ?_, I.free, I.freeC, fun p hp => ?_, tracked ⟨oL, hoL, I.free⟩ hs, by simpa using I.len⟩ ⟨_, hs, .inl rfl⟩
    · exact (hs.2 b (Nat.ne_of_lt (Nat.lt_of_lt_of_le (Heap.lt_size e) I.ok.above))).trans (I.base.keep b o e n hb hx)
    · obtain ⟨sl, e1⟩ := I.base.slot b o e n hb hx
      exact ⟨sl, (hs.2 b (Nat.ne_of_lt (Nat.lt_of_lt_of_le (Heap.lt_size e) I.ok.above))).trans e1⟩
    · obtain ⟨o', e1⟩ := I.base.there b o e hx
      exact ⟨o', (hs.2 b (Nat.ne_of_lt (Nat.lt_of_lt_of_le (Heap.lt_size e) I.ok.above))).trans e1⟩
    · by_cases hj : j = i
      · subst hj
        rw [hi] at e1; cases e1
        rw [List.getElem?_set_self hiσ] at e2
        cases e2
        exact ⟨u, r, .inl ⟨hk, by simp⟩⟩
      · rw [List.getElem?_set_ne (Ne.symm hj)] at e2
        obtain ⟨u', r', q⟩ := hl j y v' e1 e2 e3
        refine ⟨u', r', ?_⟩
        rcases q with ⟨k, e⟩ | ⟨k, c, e, z⟩
        · refine .inl ⟨k, ?_⟩
          have : y ≠ x := fun e => hj (nodup_ix hN e1 (e ▸ hi))
          simp [this, e]
        · exact .inr ⟨k, c, e, z.sameBut hs (cne y c e)⟩
    · obtain ⟨w', z⟩ := I.cell y c e
      exact ⟨w', z.sameBut hs (cne y c e)⟩
    · obtain ⟨e, n, ne, nf, d⟩ := I.pin p hp
      exact ⟨(hs.2 p.1 ne).trans e, n, ne, nf, d⟩
  · have hfn : X.fn x = true := by
      rcases hf with z | z
      · exact z
      · rw [z] at hk; cases hk
    obtain ⟨c, hc⟩ := I.ok.has x (.inl hk)
    obtain ⟨w', z⟩ := I.cell x c hc
    refine wpAny_storeName_cell I.ok.kind hk hc z (fun h' hc' hs => ?_)
    obtain ⟨oc, hoc, hocd⟩ := id z
    refine h { s with heap := h' } ⟨I.ok, I.os, I.bare, ⟨fun b o e n hb hx => ?_, fun b o e n hb hx => ?_, I.base.free, fun b o e hx => ?_, I.base.tups, I.base.frzs, I.base.tbls⟩, ⟨m, hn.sameBut hs (Ne.symm (cne x c hc)), fun j y v' e1 e2 e3 => ?_⟩, fun y c' e => ?_, I.free, I.freeC, fun p hp => ?_, tracked ⟨oc, hoc, I.freeC x c hc⟩ hs, by simpa using I.len⟩ ⟨c, hs, .inr hc⟩
    · exact (hs.2 b (Nat.ne_of_lt (Nat.lt_of_lt_of_le (Heap.lt_size e) (I.ok.cab x c hfn hc)))).trans (I.base.keep b o e n hb hx)
    · obtain ⟨sl, e1⟩ := I.base.slot b o e n hb hx
      exact ⟨sl, (hs.2 b (Nat.ne_of_lt (Nat.lt_of_lt_of_le (Heap.lt_size e) (I.ok.cab x c hfn hc)))).trans e1⟩
    · obtain ⟨o', e1⟩ := I.base.there b o e hx
      exact ⟨o', (hs.2 b (Nat.ne_of_lt (Nat.lt_of_lt_of_le (Heap.lt_size e) (I.ok.cab x c hfn hc)))).trans e1⟩
    · by_cases hj : j = i
      · subst hj
        rw [hi] at e1; cases e1
        rw [List.getElem?_set_self hiσ] at e2
        cases e2
        exact ⟨u, r, .inr ⟨.inl hk, c, hc, hc'⟩⟩
      · rw [List.getElem?_set_ne (Ne.symm hj)] at e2
        obtain ⟨u', r', q⟩ := hl j y v' e1 e2 e3
        refine ⟨u', r', ?_⟩
        rcases q with q | ⟨k, c', e, z'⟩
        · exact .inl q
        · refine .inr ⟨k, c', e, z'.sameBut hs ?_⟩
          rintro rfl
          exact hj (nodup_ix hN e1 (I.ok.inj _ _ _ e hc ▸ hi))
    · by_cases hcc : c' = c
      · subst hcc; exact ⟨_, hc'⟩
      · obtain ⟨w2, z2⟩ := I.cell y c' e
        exact ⟨w2, z2.sameBut hs hcc⟩
    · obtain ⟨e, n, ne, nf, d⟩ := I.pin p hp
      refine ⟨(hs.2 p.1 ?_).trans e, n, ne, nf, d⟩
      intro q
      rw [q, hoc] at e
      have q' : oc = p.2 := Option.some.inj e
      exact d w' (by rw [← q']; exact hocd)
theorem store_ok {M : Model} {A : Around} {E : Value → Shared → Prop} {i : Nat} {x : Str} {v : V} {u : Value} {Q : Unit → Shared → Prop} (I : Inv X pins σ H s) (hN : X.N.Nodup) (hi : X.N[i]? = some x) (hx : Loc X.env.scope x) (r : RelV v u)
    (h : ∀ s', Inv X pins (σ.set i (some v)) H s' → Q () s') (hf : X.fn x = true ∨ X.env.scope.names.lookup x = some .local := by first | exact .inl rfl | exact .inr rfl | assumption) : wpAny M A (storeName X.env x u) Q E s :=
  store_ok2 I hN hi hx r (fun s' I' _ => h s' I') hf
/-- behind a call or a block, the state as it is -/
theorem Inv.call' {s' : Shared} {ch : List Addr} (I : Inv X pins σ H s) (ho : s'.os = s.os) (u : Un (frs X.stack) ch H H' s.heap s'.heap) (hok : HOk X.prog X.w H' s'.heap) (hg : AllBare s'.gens)
    (hch : ∀ b ∈ ch, (b ∈ X.ex ∨ X.s₀.heap.objs.size ≤ b) ∧ b ≠ X.env.locals ∧ (∀ x c, X.env.cells.lookup x = some c → c ≠ b) ∧ ∀ p ∈ X.pn ++ pins, p.1 ≠ b) : Inv X pins σ H' s' := by
  obtain ⟨h', g', d', t', o'⟩ := s'
  have e : o' = s.os := ho
  subst e
  exact I.call (g' := g') (t' := t') (d' := d') u hok hg hch
end

/-! ### the judgements -/
/-- an exception: its class, its own dict's address (where it has one), the abstract heap behind it -/
abbrev XK := Value → Option Addr → Hp → Prop
abbrev St := List (Option V)
abbrev VK := V → Hp → Prop
/-- an expression's reading; a test's; an argument list's -/
abbrev TE := St → Hp → VK → Prop
abbrev TT := St → Hp → (Bool → Hp → Prop) → Prop
abbrev TA := St → Hp → (List V → Hp → Prop) → Prop
/-- what is wanted behind a statement -/
structure Ends where
  nx : St → Hp → Prop
  rt : VK
  bk : St → Hp → Prop := fun _ _ => False
  ct : St → Hp → Prop := fun _ _ => False
abbrev TS := Ends → St → Hp → Prop

def EP (X : Cx) (pins : List (Addr × Obj)) (σ : St) (Q : VK) (u : Value) (s' : Shared) : Prop := ∃ v H', Inv X pins σ H' s' ∧ RelV v u ∧ Q v H'
def TP (X : Cx) (pins : List (Addr × Obj)) (σ : St) (Q : Bool → Hp → Prop) (b : Bool) (s' : Shared) : Prop := ∃ H', Inv X pins σ H' s' ∧ Q b H'
def AP (X : Cx) (pins : List (Addr × Obj)) (σ : St) (Q : List V → Hp → Prop) (us : List Value) (s' : Shared) : Prop := ∃ vs H', Inv X pins σ H' s' ∧ Vals vs us ∧ Q vs H'
def SP (X : Cx) (pins : List (Addr × Obj)) (D : Ends) (f : Flow) (s' : Shared) : Prop :=
  match f with
  | .next => ∃ σ' H', Inv X pins σ' H' s' ∧ D.nx σ' H'
  | .brk => ∃ σ' H', Inv X pins σ' H' s' ∧ D.bk σ' H'
  | .cont => ∃ σ' H', Inv X pins σ' H' s' ∧ D.ct σ' H'
  | .ret u => ∃ v σ' H', Inv X pins σ' H' s' ∧ RelV v u ∧ D.rt v H'

def PE (X : Cx) (e : Expr) (t : TE) : Prop :=
  ∀ (pins : List (Addr × Obj)) (s : Shared) (σ : St) (H : Hp) (Q : VK), Inv X pins σ H s → t σ H Q → wpAny (model X.prog X.w) X.A (eval e X.env) (EP X pins σ Q) X.xe s
def PT (X : Cx) (e : Expr) (t : TT) : Prop :=
  ∀ (pins : List (Addr × Obj)) (s : Shared) (σ : St) (H : Hp) (Q : Bool → Hp → Prop), Inv X pins σ H s → t σ H Q → wpAny (model X.prog X.w) X.A (isTrue e X.env (eval e X.env)) (TP X pins σ Q) X.xe s
/-- a test whatever its 'whole' is (and, or) -/
def PW (X : Cx) (e : Expr) (t : TT) : Prop :=
  ∀ (whole : Sem Value) (pins : List (Addr × Obj)) (s : Shared) (σ : St) (H : Hp) (Q : Bool → Hp → Prop), Inv X pins σ H s → t σ H Q → wpAny (model X.prog X.w) X.A (isTrue e X.env whole) (TP X pins σ Q) X.xe s
theorem PW.pt {X : Cx} {e : Expr} {t : TT} (h : PW X e t) : PT X e t := h _
/-- an argument list (no star), from the left -/
def PA (X : Cx) (es : List Expr) (t : TA) : Prop :=
  ∀ (pos : Pos) (pins : List (Addr × Obj)) (s : Shared) (σ : St) (H : Hp) (Q : List V → Hp → Prop), Inv X pins σ H s → t σ H Q → wpAny (model X.prog X.w) X.A (spliced (backTo pos (starEach es X.env))) (AP X pins σ Q) X.xe s
def PS (X : Cx) (st : Stmt) (t : TS) : Prop :=
  ∀ (pins : List (Addr × Obj)) (s : Shared) (σ : St) (H : Hp) (D : Ends), Inv X pins σ H s → t D σ H → wpAny (model X.prog X.w) X.A (exec st X.env) (SP X pins D) X.xe s
def PSs (X : Cx) (st : List Stmt) (t : TS) : Prop :=
  ∀ (pins : List (Addr × Obj)) (s : Shared) (σ : St) (H : Hp) (D : Ends), Inv X pins σ H s → t D σ H → wpAny (model X.prog X.w) X.A (execs st X.env) (SP X pins D) X.xe s
/-- weaken the end -/
theorem thn {α : Type} {t : Sem α} {Q Q' : α → Shared → Prop} {M : Model} {A : Around} {E : Value → Shared → Prop} {s : Shared} (h : wpAny M A t Q E s) (hQ : ∀ a s, Q a s → Q' a s) : wpAny M A t Q' E s := wpAny_mono h hQ fun _ _ x => x
end L2

namespace L2
open PySem PySem.Spec PyProof.Rows
section
variable {X : Cx}

/-- two expressions in a row -/
theorem bin {a b : Expr} {ta tb : TE} (ha : PE X a ta) (hb : PE X b tb) {pins : List (Addr × Obj)} {s : Shared} {σ : St} {H : Hp} {R : V → V → Hp → Prop} (I : Inv X pins σ H s) (h : ta σ H fun x H1 => tb σ H1 fun y H2 => R x y H2)
    {α : Type} {Q : α → Shared → Prop} {f : Value → Value → Sem α}
    (hf : ∀ v u s2 x y H2, Inv X pins σ H2 s2 → RelV x v → RelV y u → R x y H2 → wpAny (model X.prog X.w) X.A (f v u) Q X.xe s2) :
    wpAny (model X.prog X.w) X.A (eval a X.env) (fun v s₁ => wpAny (model X.prog X.w) X.A (eval b X.env) (fun u s₂ => wpAny (model X.prog X.w) X.A (f v u) Q X.xe s₂) X.xe s₁) X.xe s := by
  refine thn (ha pins s σ H _ I h) fun v s1 ⟨x, H1, I1, r1, q1⟩ => ?_
  refine thn (hb pins s1 σ H1 _ I1 q1) fun u s2 ⟨y, H2, I2, r2, q2⟩ => ?_
  exact hf v u s2 x y H2 I2 r1 r2 q2

/-! ### names and constants -/
def tVar (i : Nat) : TE := fun σ H Q => ∃ v, σ[i]? = some (some v) ∧ Q v H
def tC (v : V) : TE := fun _ H Q => Q v H
theorem pe_var {i : Nat} {x : Str} {pos : Pos} (hN : X.N[i]? = some x) (hv : Vis X.env.scope x) (hd : (x == ("__debug__" : Str)) = false := by decide) (hcd : (x == ("__classdict__" : Str)) = false := by decide) : PE X (.Name x pos) (tVar i) := by
  intro pins s σ H Q I h
  obtain ⟨v, e, h⟩ := h
  obtain ⟨m, hn, hl⟩ := I.loc
  obtain ⟨u, r, l⟩ := hl i x v hN e hv
  have fin : EP X pins σ Q u s := ⟨v, H, I, r, h⟩
  rcases l with ⟨hk, hm⟩ | ⟨hk, c, hc, hcell⟩
  · exact wpAny_Name (wpAny_loadName_local I.ok.kind hk hn hm fin) hd
  · rcases hk with hk | hk
    · exact wpAny_Name (wpAny_loadName_cell I.ok.kind hk hc hcell fin) hd
    · exact wpAny_Name (wpAny_loadName_free I.ok.kind hk hc hcell fin hcd) hd
theorem pe_int {i j pos} : PE X (.Constant (.int i) j pos) (tC (.int i)) := fun _ _ _ H _ I h => wpAny_Constant_int ⟨.int i, H, I.tok _, ⟨_, rfl⟩, h⟩
theorem pe_bl {b j pos} : PE X (.Constant (.bool b) j pos) (tC (.bl b)) := fun _ _ _ H _ I h => Constant_bool ⟨.bl b, H, I, rfl, h⟩
theorem pe_non {j pos} : PE X (.Constant .none j pos) (tC .non) := fun _ _ _ H _ I h => Constant_none ⟨.non, H, I, rfl, h⟩
theorem pe_str {x j pos} : PE X (.Constant (.str x) j pos) (tC (.str x)) := fun _ _ _ H _ I h => Calls.Constant_str ⟨.str x, H, I.tok _, ⟨_, rfl⟩, h⟩

/-- a global name of the def -/
def Gl (X : Cx) (x : Str) : Prop := X.env.kindOf x = some .globalImplicit
theorem ld_glob {E : Value → Shared → Prop} {pins : List (Addr × Obj)} {s : Shared} {σ : St} {H : Hp} {x : Str} {u : Value} {pos : Pos} {Q : Value → Shared → Prop} (I : Inv X pins σ H s) (hg : Gl X x) (hm : X.mg x = some u) (h : Q u s)
    (hd : (x == ("__debug__" : Str)) = false := by decide) : wpAny (model X.prog X.w) X.A (eval (.Name x pos) X.env) Q E s :=
  Calls.Name_function_global I.ok.kind hg (Calls.loadGlobal_global (by rw [I.ok.glob]; exact I.mod.glob.keeps I.bk) hm h) hd
theorem ld_blt {E : Value → Shared → Prop} {pins : List (Addr × Obj)} {s : Shared} {σ : St} {H : Hp} {x : Str} {u : Value} {pos : Pos} {Q : Value → Shared → Prop} (I : Inv X pins σ H s) (hg : Gl X x) (hm : X.mg x = none) (hv : bootBuiltins x = some u) (h : Q u s)
    (hn : x ≠ "__name__" := by decide) (hd : (x == ("__debug__" : Str)) = false := by decide) : wpAny (model X.prog X.w) X.A (eval (.Name x pos) X.env) Q E s := by
  obtain ⟨mb, h1, h2⟩ := I.mod.blt
  exact Calls.Name_function_global I.ok.kind hg (Calls.loadGlobal_builtin (by rw [I.ok.glob]; exact I.mod.glob.keeps I.bk) hm (by rw [I.ok.blt]; exact h1.keeps I.bk) ((h2 x hn).trans hv) h) hd
/-- a module's constant, a class, a function, as a value -/
theorem pe_glob {x : Str} {v : V} {u : Value} {pos : Pos} (hg : Gl X x) (hm : X.mg x = some u) (r : RelV v u) (hd : (x == ("__debug__" : Str)) = false := by decide) : PE X (.Name x pos) (tC v) :=
  fun _ _ _ H _ I h => ld_glob I hg hm ⟨v, H, I, r, h⟩ hd
theorem pe_bltn {x : Str} {v : V} {u : Value} {pos : Pos} (hg : Gl X x) (hm : X.mg x = none) (hv : bootBuiltins x = some u) (r : RelV v u) (hn : x ≠ "__name__" := by decide) (hd : (x == ("__debug__" : Str)) = false := by decide) : PE X (.Name x pos) (tC v) :=
  fun _ _ _ H _ I h => ld_blt I hg hm hv ⟨v, H, I, r, h⟩ hn hd

/-! ### arithmetic -/
/-- two ints -/
def t2I (ta tb : TE) (k : Int → Int → Hp → Prop) : St → Hp → Prop := fun σ H => ta σ H fun x H1 => tb σ H1 fun y H2 => ∃ i j, x = .int i ∧ y = .int j ∧ k i j H2
def tAdd (ta tb : TE) : TE := fun σ H Q => t2I ta tb (fun i j H2 => Q (.int (i + j)) H2) σ H
def tSub (ta tb : TE) : TE := fun σ H Q => t2I ta tb (fun i j H2 => Q (.int (i - j)) H2) σ H
/-- the left factor below 2^64 -/
def tMul (ta tb : TE) : TE := fun σ H Q => t2I ta tb (fun i j H2 => (-(2 ^ 64) < i ∧ i < 2 ^ 64) ∧ Q (.int (i * j)) H2) σ H
variable {a b : Expr} {ta tb : TE} {pos : Pos}
theorem pe_add (ha : PE X a ta) (hb : PE X b tb) : PE X (.BinOp a .Add b pos) (tAdd ta tb) := by
  intro pins s σ H Q I h
  refine wpAny_BinOp (bin ha hb I h fun v u s2 x y H2 I2 rx ry q => ?_)
  obtain ⟨i, j, rfl, rfl, q⟩ := q
  obtain ⟨t, rfl⟩ := rx
  obtain ⟨t', rfl⟩ := ry
  exact add_int ⟨.int _, H2, I2.tok _, ⟨_, rfl⟩, q⟩
theorem pe_sub (ha : PE X a ta) (hb : PE X b tb) : PE X (.BinOp a .Sub b pos) (tSub ta tb) := by
  intro pins s σ H Q I h
  refine wpAny_BinOp (bin ha hb I h fun v u s2 x y H2 I2 rx ry q => ?_)
  obtain ⟨i, j, rfl, rfl, q⟩ := q
  obtain ⟨t, rfl⟩ := rx
  obtain ⟨t', rfl⟩ := ry
  exact sub_int ⟨.int _, H2, I2.tok _, ⟨_, rfl⟩, q⟩
theorem pe_mul (ha : PE X a ta) (hb : PE X b tb) : PE X (.BinOp a .Mult b pos) (tMul ta tb) := by
  intro pins s σ H Q I h
  refine wpAny_BinOp (bin ha hb I h fun v u s2 x y H2 I2 rx ry q => ?_)
  obtain ⟨i, j, rfl, rfl, ⟨q1, q2⟩, q⟩ := q
  obtain ⟨t, rfl⟩ := rx
  obtain ⟨t', rfl⟩ := ry
  exact mul_int ⟨.int _, H2, I2.tok _, ⟨_, rfl⟩, q⟩ (.of_left (intBits_le_64 q1 q2))

/-! ### comparisons -/
def PC (X : Cx) (op : CmpOp) (a b : Expr) (t : TE) : Prop :=
  ∀ (pins : List (Addr × Obj)) (s : Shared) (σ : St) (H : Hp) (Q : VK), Inv X pins σ H s → t σ H Q →
    wpAny (model X.prog X.w) X.A (eval a X.env) (fun v s₁ => wpAny (model X.prog X.w) X.A (eval b X.env) (fun u s₂ => wpAny (model X.prog X.w) X.A (compareOp op v u) (EP X pins σ Q) X.xe s₂) X.xe s₁) X.xe s
theorem nobehind (b : Expr) {op : CmpOp} (h : op ≠ .In) (h2 : op ≠ .NotIn) : behindInMarks op b = false := by
  have e1 : (op == CmpOp.In) = false := by cases op <;> first | rfl | exact absurd rfl h
  have e2 : (op == CmpOp.NotIn) = false := by cases op <;> first | rfl | exact absurd rfl h2
  cases b <;> simp [behindInMarks, e1, e2]
def tCmp (p : Int → Int → Bool) (ta tb : TE) : TE := fun σ H Q => t2I ta tb (fun i j H2 => Q (.bl (p i j)) H2) σ H
abbrev tLt : TE → TE → TE := tCmp fun i j => decide (i < j)
abbrev tLe : TE → TE → TE := tCmp fun i j => decide (i ≤ j)
abbrev tGt : TE → TE → TE := tCmp fun i j => decide (j < i)
abbrev tGe : TE → TE → TE := tCmp fun i j => decide (j ≤ i)
abbrev tEqI : TE → TE → TE := tCmp fun i j => decide (i = j)
abbrev tNeI : TE → TE → TE := tCmp fun i j => !decide (i = j)
/-- a comparison of two ints, by its rule -/
theorem pc_int {op : CmpOp} {p : Int → Int → Bool} (ha : PE X a ta) (hb : PE X b tb)
    (rule : ∀ (i j : Int) (t u : Tok) (Q : Value → Shared → Prop) (s : Shared), Q (.bool (p i j)) s → wpAny (model X.prog X.w) X.A (compareOp op (.int i t) (.int j u)) Q X.xe s) : PC X op a b (tCmp p ta tb) := by
  intro pins s σ H Q I h
  refine bin ha hb I h fun v u s2 x y H2 I2 rx ry q => ?_
  obtain ⟨i, j, rfl, rfl, q⟩ := q
  obtain ⟨t, rfl⟩ := rx
  obtain ⟨t', rfl⟩ := ry
  exact rule i j t t' _ s2 ⟨.bl _, H2, I2, rfl, q⟩
theorem pc_lt (ha : PE X a ta) (hb : PE X b tb) : PC X .Lt a b (tLt ta tb) := pc_int ha hb fun _ _ _ _ _ _ h => lt_int h
theorem pc_le (ha : PE X a ta) (hb : PE X b tb) : PC X .LtE a b (tLe ta tb) := pc_int ha hb fun _ _ _ _ _ _ h => le_int h
theorem pc_gt (ha : PE X a ta) (hb : PE X b tb) : PC X .Gt a b (tGt ta tb) := pc_int ha hb fun _ _ _ _ _ _ h => gt_int h
theorem pc_ge (ha : PE X a ta) (hb : PE X b tb) : PC X .GtE a b (tGe ta tb) := pc_int ha hb fun _ _ _ _ _ _ h => ge_int h
theorem pc_eqI (ha : PE X a ta) (hb : PE X b tb) : PC X .Eq a b (tEqI ta tb) := pc_int ha hb fun _ _ _ _ _ _ h => eq_int (by rw [Bool.beq_eq_decide_eq]; exact h)
theorem pc_neI (ha : PE X a ta) (hb : PE X b tb) : PC X .NotEq a b (tNeI ta tb) := pc_int ha hb fun _ _ _ _ _ _ h => ne_int (by rw [bne, Bool.beq_eq_decide_eq]; exact h)
/-- is None -/
def tIsN (ta : TE) : TE := fun σ H Q => ta σ H fun x H1 => Q (.bl (decide (x = .non))) H1
def tNotN (ta : TE) : TE := fun σ H Q => ta σ H fun x H1 => Q (.bl (!decide (x = .non))) H1
theorem RelV.none_iff {x : V} {v : Value} (r : RelV x v) : (v == Value.none) = decide (x = .non) := by
  cases x with
  | non => cases r; rfl
  | bl _ => cases r; rfl
  | int _ => obtain ⟨t, rfl⟩ := r; rfl
  | str _ => obtain ⟨t, rfl⟩ := r; rfl
  | byt _ => obtain ⟨t, rfl⟩ := r; rfl
  | flt _ => obtain ⟨t, rfl⟩ := r; rfl
  | ref _ => cases r; rfl
  | ty _ => cases r; rfl
theorem pc_isN {j pos'} (ha : PE X a ta) : PC X .Is a (.Constant .none j pos') (tIsN ta) := by
  intro pins s σ H Q I h
  refine thn (ha pins s σ H _ I h) fun v s1 ⟨x, H1, I1, r1, q1⟩ => ?_
  exact Constant_none (is_none_gen ⟨.bl _, H1, I1, by rw [r1.none_iff]; rfl, q1⟩)
theorem pc_notN {j pos'} (ha : PE X a ta) : PC X .IsNot a (.Constant .none j pos') (tNotN ta) := by
  intro pins s σ H Q I h
  refine thn (ha pins s σ H _ I h) fun v s1 ⟨x, H1, I1, r1, q1⟩ => ?_
  exact Constant_none (isnot_none_gen ⟨.bl _, H1, I1, by rw [r1.none_iff]; rfl, q1⟩)
/-- a comparison as a value, as a test -/
def tB (t : TE) : TT := fun σ H Q => t σ H fun x H1 => ∃ c, x = .bl c ∧ Q c H1
theorem pe_cmp {op : CmpOp} {t : TE} (h : PC X op a b t) (h1 : behindInMarks op b = false := by first | exact nobehind _ (by decide) (by decide) | rfl) : PE X (.Compare a [op] [b] pos) t := fun pins s σ H Q I hw => wpAny_Compare1 (h pins s σ H Q I hw) h1
theorem pt_cmp {op : CmpOp} {t : TE} (h : PC X op a b t) (h1 : behindInMarks op b = false := by first | exact nobehind _ (by decide) (by decide) | rfl) : PT X (.Compare a [op] [b] pos) (tB t) := by
  intro pins s σ H Q I hw
  refine wpAny_isTrue_Compare1 (thn (h pins s σ H _ I hw) fun v s1 h1 => thn h1 fun u s2 h2 => thn h2 fun c s3 ⟨x, H1, I1, r1, q1⟩ => ?_) h1
  obtain ⟨d, rfl, q⟩ := q1
  cases r1
  exact wpAny_truthy_bool ⟨H1, I1, q⟩
/-- an expression whose value is a bool, as a test -/
theorem pt_val {e : Expr} {t : TE} (h : PE X e t) (he : ∀ whole, isTrue e X.env whole = (do let v ← whole; standAt e.pos; holding [v] (truthy v)) := by intro _; rfl) : PT X e (tB t) := by
  intro pins s σ H Q I hw
  refine isTrue_plain (thn (h pins s σ H _ I hw) fun v s1 ⟨x, H1, I1, r1, q1⟩ => ?_) (he _)
  obtain ⟨d, rfl, q⟩ := q1
  cases r1
  exact wpAny_truthy_bool ⟨H1, I1, q⟩

/-! ### and, or, not -/
variable {tA tB' : TT} {rest : List Expr}
def tAnd (t u : TT) : TT := fun σ H Q => t σ H fun c H1 => if c = true then u σ H1 Q else Q false H1
def tOr (t u : TT) : TT := fun σ H Q => t σ H fun c H1 => if c = true then Q true H1 else u σ H1 Q
def tNot (t : TT) : TT := fun σ H Q => t σ H fun c H1 => Q (!c) H1
theorem pw_and1 (ha : PT X a tA) : PW X (.BoolOp .And [a] pos) tA := by
  intro wh pins s σ H Q I h
  refine isTrue_and (thn (ha pins s σ H Q I h) fun c s1 e => ?_)
  cases c with
  | true => exact isTrue_and_nil e
  | false => exact e
theorem pw_or1 (ha : PT X a tA) : PW X (.BoolOp .Or [a] pos) tA := by
  intro wh pins s σ H Q I h
  refine isTrue_or (thn (ha pins s σ H Q I h) fun c s1 e => ?_)
  cases c with
  | false => exact isTrue_or_nil e
  | true => exact e
theorem pw_and (ha : PT X a tA) (hb : PW X (.BoolOp .And (b :: rest) pos) tB') : PW X (.BoolOp .And (a :: b :: rest) pos) (tAnd tA tB') := by
  intro wh pins s σ H Q I h
  refine isTrue_and (thn (ha pins s σ H _ I h) fun c s1 ⟨H1, I1, q1⟩ => ?_)
  cases c with
  | true => exact hb wh pins s1 σ H1 Q I1 q1
  | false => exact ⟨H1, I1, q1⟩
theorem pw_or (ha : PT X a tA) (hb : PW X (.BoolOp .Or (b :: rest) pos) tB') : PW X (.BoolOp .Or (a :: b :: rest) pos) (tOr tA tB') := by
  intro wh pins s σ H Q I h
  refine isTrue_or (thn (ha pins s σ H _ I h) fun c s1 ⟨H1, I1, q1⟩ => ?_)
  cases c with
  | true => exact ⟨H1, I1, q1⟩
  | false => exact hb wh pins s1 σ H1 Q I1 q1
theorem pt_not (ha : PT X a tA) : PT X (.UnaryOp .Not a pos) (tNot tA) := by
  intro pins s σ H Q I h
  exact isTrue_not (ha pins s σ H (fun c H1 => Q (!c) H1) I h)
/-- .. as values (bools) -/
def tAndV (ta tb : TE) : TE := fun σ H Q => ta σ H fun x H1 => ∃ c, x = .bl c ∧ if c = true then tb σ H1 Q else Q (.bl false) H1
def tOrV (ta tb : TE) : TE := fun σ H Q => ta σ H fun x H1 => ∃ c, x = .bl c ∧ if c = true then Q (.bl true) H1 else tb σ H1 Q
def tNotV (ta : TE) : TE := fun σ H Q => ta σ H fun x H1 => ∃ c, x = .bl c ∧ Q (.bl (!c)) H1
theorem pe_one {op} {t : TE} (h : PE X a t) : PE X (.BoolOp op [a] pos) t := fun pins s σ H Q I hw => BoolOp_one (h pins s σ H Q I hw)
theorem pe_and (ha : PE X a ta) (hb : PE X (.BoolOp .And (b :: rest) pos) tb) : PE X (.BoolOp .And (a :: b :: rest) pos) (tAndV ta tb) := by
  intro pins s σ H Q I h
  refine BoolOp_and (thn (ha pins s σ H _ I h) fun v s1 ⟨x, H1, I1, r1, q1⟩ => ?_)
  obtain ⟨c, rfl, q1⟩ := q1
  cases r1
  refine wpAny_truthy_bool ?_
  cases c with
  | true => exact hb pins s1 σ H1 Q I1 q1
  | false => exact ⟨.bl false, H1, I1, rfl, q1⟩
theorem pe_or (ha : PE X a ta) (hb : PE X (.BoolOp .Or (b :: rest) pos) tb) : PE X (.BoolOp .Or (a :: b :: rest) pos) (tOrV ta tb) := by
  intro pins s σ H Q I h
  refine BoolOp_or (thn (ha pins s σ H _ I h) fun v s1 ⟨x, H1, I1, r1, q1⟩ => ?_)
  obtain ⟨c, rfl, q1⟩ := q1
  cases r1
  refine wpAny_truthy_bool ?_
  cases c with
  | false => exact hb pins s1 σ H1 Q I1 q1
  | true => exact ⟨.bl true, H1, I1, rfl, q1⟩
theorem pe_not (ha : PE X a ta) : PE X (.UnaryOp .Not a pos) (tNotV ta) := by
  intro pins s σ H Q I h
  refine UnaryOp_ (thn (ha pins s σ H _ I h) fun v s1 ⟨x, H1, I1, r1, q1⟩ => ?_)
  obtain ⟨c, rfl, q1⟩ := q1
  cases r1
  exact not_of (wpAny_truthy_bool ⟨.bl (!c), H1, I1, rfl, q1⟩)
/-- a if t else b -/
def tIf (t : TT) (ta tb : TE) : TE := fun σ H Q => t σ H fun c H1 => if c = true then ta σ H1 Q else tb σ H1 Q
theorem pe_ifExp {c : Expr} (hc : PT X c tA) (ha : PE X a ta) (hb : PE X b tb) : PE X (.IfExp c a b pos) (tIf tA ta tb) := by
  intro pins s σ H Q I h
  refine wpAny_IfExp (thn (hc pins s σ H _ I h) fun d s1 ⟨H1, I1, q1⟩ => ?_)
  cases d with
  | true => exact ha pins s1 σ H1 Q I1 q1
  | false => exact hb pins s1 σ H1 Q I1 q1
end
end L2

namespace L2
open PySem PySem.Spec PyProof.Rows

/-! ### a list, a tuple that is read: tracked, frozen, or an object of the module -/
def SqL (K : PySem.W.Frag) (H : Hp) (a : Addr) (xs : List V) : Prop :=
  Rd H a (.lst xs) ∨
    ∃ (o : Obj) (its : Array Value) (n : Nat), K.lookup a = some o ∧ o.cls = .type "list" ∧ o.dict = none ∧ o.data = .seq its n ∧ its.size ≤ sizeLine ∧ Vals xs its.toList
def SqT (K : PySem.W.Frag) (H : Hp) (a : Addr) (xs : List V) : Prop :=
  Rd H a (.tup xs) ∨
    ∃ (o : Obj) (its : Array Value) (n : Nat), K.lookup a = some o ∧ o.cls = .type "tuple" ∧ o.data = .seq its n ∧ its.size ≤ sizeLine ∧ Vals xs its.toList
def absV : Value → Option V
  | .none => some .non
  | .bool b => some (.bl b)
  | .int i _ => some (.int i)
  | .str x _ => some (.str x)
  | .bytes b _ => some (.byt b)
  | .float b _ => some (.flt b)
  | .ref a => some (.ref a)
  | .type n => some (.ty n)
  | _ => none
theorem RelV.abs {x : V} {u : Value} (r : RelV x u) : absV u = some x := by
  cases x with
  | non => cases r; rfl
  | bl _ => cases r; rfl
  | int _ => obtain ⟨t, rfl⟩ := r; rfl
  | str _ => obtain ⟨t, rfl⟩ := r; rfl
  | byt _ => obtain ⟨t, rfl⟩ := r; rfl
  | flt _ => obtain ⟨t, rfl⟩ := r; rfl
  | ref _ => cases r; rfl
  | ty _ => cases r; rfl
theorem RelV.inj {x y : V} {u : Value} (r : RelV x u) (q : RelV y u) : x = y := Option.some.inj (r.abs.symm.trans q.abs)
theorem Vals.inj : ∀ {xs ys : List V} {us : List Value}, Vals xs us → Vals ys us → xs = ys
  | _, _, _, .nil, .nil => rfl
  | _, _, _, .cons r t, .cons r' t' => by rw [r.inj r', Vals.inj t t']
section
variable {X : Cx} {pins : List (Addr × Obj)} {σ : St} {H : Hp} {s : Shared} {a : Addr} {xs ys : List V}
theorem SqL.of {K : PySem.W.Frag} (h : H a = some (.lst xs)) : SqL K H a xs := .inl (.inl h)
theorem SqT.of {K : PySem.W.Frag} (h : H a = some (.tup xs)) : SqT K H a xs := .inl (.inl h)
theorem Inv.list (I : Inv X pins σ H s) (h : SqL X.K H a xs) : ∃ its : List Value, Vals xs its ∧ PlainL s.heap a its.toArray ∧ xs.length ≤ sizeLine := by
  rcases h with h | ⟨o, its, n, hk, hc, hd, hs, hz, r⟩
  · obtain ⟨z, its, n, r, e⟩ := h.ok I.hok
    exact ⟨its, r, ⟨_, n, e, rfl, rfl, rfl⟩, z⟩
  · refine ⟨its.toList, r, ⟨o, n, I.kIn a o hk, hc, hd, by simpa using hs⟩, ?_⟩
    have e := r.length
    simp only [Array.length_toList] at e
    omega
theorem Inv.tuple (I : Inv X pins σ H s) (h : SqT X.K H a xs) : ∃ its : List Value, Vals xs its ∧ IsTup s.heap a its.toArray ∧ xs.length ≤ sizeLine := by
  rcases h with h | ⟨o, its, n, hk, hc, hs, hz, r⟩
  · obtain ⟨z, its, r, p⟩ := h.ok I.hok
    exact ⟨its, r, p, z⟩
  · refine ⟨its.toList, r, ⟨o, I.kIn a o hk, hc, n, by simpa using hs⟩, ?_⟩
    have e := r.length
    simp only [Array.length_toList] at e
    omega
theorem Inv.list_inj (I : Inv X pins σ H s) (h : SqL X.K H a xs) (h' : SqL X.K H a ys) : xs = ys := by
  obtain ⟨its, r, ⟨o, n, e, _, _, d⟩, _⟩ := I.list h
  obtain ⟨its', r', ⟨o', n', e', _, _, d'⟩, _⟩ := I.list h'
  rw [e] at e'; cases e'
  rw [d] at d'
  injection d' with d1 _
  have : its = its' := by simpa using congrArg Array.toList d1
  subst this
  exact r.inj r'
theorem Inv.tuple_inj (I : Inv X pins σ H s) (h : SqT X.K H a xs) (h' : SqT X.K H a ys) : xs = ys := by
  obtain ⟨its, r, ⟨o, e, _, n, d⟩, _⟩ := I.tuple h
  obtain ⟨its', r', ⟨o', e', _, n', d'⟩, _⟩ := I.tuple h'
  rw [e] at e'; cases e'
  rw [d] at d'
  injection d' with d1 _
  have : its = its' := by simpa using congrArg Array.toList d1
  subst this
  exact r.inj r'
end

/-! ### another wish about exceptions -/
abbrev Cx.wish (X : Cx) (E : Value → Shared → Prop) : Cx := { X with xe := E }
/-- no exception leaves -/
abbrev Cx.nox (X : Cx) : Cx := X.wish fun _ _ => False
theorem Cx.Ok.wish {X : Cx} (ok : X.Ok) (E : Value → Shared → Prop) : (X.wish E).Ok :=
  ⟨ok.mod, ok.kind, ok.glob, ok.blt, ok.above, ok.inj, ok.has, ok.cab, ok.hd, ok.frames, ok.stk, ok.exf, ok.bs, ok.bsz, ok.noex, ok.exfs, ok.funs, ok.frf⟩
theorem Cx.Ok.unwish {X : Cx} {E : Value → Shared → Prop} (ok : (X.wish E).Ok) : X.Ok :=
  ⟨ok.mod, ok.kind, ok.glob, ok.blt, ok.above, ok.inj, ok.has, ok.cab, ok.hd, ok.frames, ok.stk, ok.exf, ok.bs, ok.bsz, ok.noex, ok.exfs, ok.funs, ok.frf⟩
section
variable {X : Cx} {pins : List (Addr × Obj)} {σ : St} {H : Hp} {s : Shared} {E : Value → Shared → Prop}
theorem Inv.wish (I : Inv X pins σ H s) (E : Value → Shared → Prop) : Inv (X.wish E) pins σ H s := ⟨I.ok.wish E, I.os, I.bare, I.base, I.loc, I.cell, I.free, I.freeC, I.pin, I.hok, I.len⟩
theorem Inv.unwish (I : Inv (X.wish E) pins σ H s) : Inv X pins σ H s := ⟨I.ok.unwish, I.os, I.bare, I.base, I.loc, I.cell, I.free, I.freeC, I.pin, I.hok, I.len⟩
theorem SP.unwish {D : Ends} {f : Flow} {s' : Shared} (h : SP (X.wish E) pins D f s') : SP X pins D f s' := by
  cases f with
  | next => obtain ⟨σ', H', I, q⟩ := h; exact ⟨σ', H', I.unwish, q⟩
  | brk => obtain ⟨σ', H', I, q⟩ := h; exact ⟨σ', H', I.unwish, q⟩
  | cont => obtain ⟨σ', H', I, q⟩ := h; exact ⟨σ', H', I.unwish, q⟩
  | ret u => obtain ⟨v, σ', H', I, r, q⟩ := h; exact ⟨v, σ', H', I.unwish, r, q⟩
theorem PE.nox {e : Expr} {t : TE} (h : PE X.nox e t) : PE X e t := fun pins s σ H Q I hw =>
  wpAny_mono (h pins s σ H Q (I.wish _) hw) (fun _ _ ⟨v, H', I', r, q⟩ => ⟨v, H', I'.unwish, r, q⟩) fun _ _ z => False.elim z
theorem PT.nox {e : Expr} {t : TT} (h : PT X.nox e t) : PT X e t := fun pins s σ H Q I hw =>
  wpAny_mono (h pins s σ H Q (I.wish _) hw) (fun _ _ ⟨H', I', q⟩ => ⟨H', I'.unwish, q⟩) fun _ _ z => False.elim z
theorem PSs.nox {st : List Stmt} {t : TS} (h : PSs X.nox st t) : PSs X st t := fun pins s σ H D I hw =>
  wpAny_mono (h pins s σ H D (I.wish _) hw) (fun _ _ q => q.unwish) fun _ _ z => False.elim z
end

/-! ### blocks and small statements -/
section
variable {X : Cx} {st : Stmt} {rest : List Stmt} {t u : TS} {e : Expr} {te : TE} {pos : Pos}
def tNext : TS := fun D σ H => D.nx σ H
def tSeq (t u : TS) : TS := fun D σ H => t { D with nx := u D } σ H
theorem pss_nil : PSs X [] tNext := fun _ _ σ H _ I h => wpAny_execs_nil ⟨σ, H, I, h⟩
theorem pss_cons (h1 : PS X st t) (h2 : PSs X rest u) : PSs X (st :: rest) (tSeq t u) := by
  intro pins s σ H D I h
  refine wpAny_execs_cons (thn (h1 pins s σ H { D with nx := u D } I h) fun f s1 q => ?_)
  cases f with
  | next =>
    obtain ⟨σ', H', I', q⟩ := q
    exact h2 pins s1 σ' H' D I' q
  | ret v => exact q
  | brk => exact q
  | cont => exact q
theorem pss_one (h1 : PS X st t) : PSs X [st] t := by
  intro pins s σ H D I h
  refine wpAny_execs_cons (thn (h1 pins s σ H D I h) fun f s1 q => ?_)
  cases f with
  | next => exact wpAny_execs_nil q
  | ret v => exact q
  | brk => exact q
  | cont => exact q
def tBreak : TS := fun D σ H => D.bk σ H
def tCont : TS := fun D σ H => D.ct σ H
theorem ps_pass : PS X (.Pass pos) tNext := fun _ _ σ H _ I h => wpAny_Pass ⟨σ, H, I, h⟩
theorem ps_break : PS X (.Break pos) tBreak := fun _ _ σ H _ I h => wpAny_Break ⟨σ, H, I, h⟩
theorem ps_continue : PS X (.Continue pos) tCont := fun _ _ σ H _ I h => wpAny_Continue ⟨σ, H, I, h⟩
/-- in a def's body nothing is shown -/
theorem Inv.quiet {pins : List (Addr × Obj)} {σ : St} {H : Hp} {s : Shared} (I : Inv X pins σ H s) : interactive X.env = false := by simp [interactive, I.ok.kind]
/-- a docstring -/
theorem ps_doc {x j pos pos'} : PS X (.Expr (.Constant (.str x) j pos) pos') tNext := fun _ s σ H _ I h => wpAny_Expr (Calls.Constant_str (show SP X _ _ .next { s with toks := s.toks + 1 } from ⟨σ, H, I.tok _, h⟩)) I.quiet
/-- an expression whose value is dropped -/
def tDrop (te : TE) : TS := fun D σ H => te σ H fun _ H1 => D.nx σ H1
theorem ps_expr (he : PE X e te) (hs : swapsWith e none pos.line X.env = pure false := by rfl) : PS X (.Expr e pos) (tDrop te) := by
  intro pins s σ H D I h
  exact wpAny_Expr_any (thn (he pins s σ H _ I h) fun v s1 ⟨x, H1, I1, r1, q1⟩ => ⟨σ, H1, I1, q1⟩) I.quiet hs
def tRet (te : TE) : TS := fun D σ H => te σ H D.rt
theorem ps_ret (he : PE X e te) : PS X (.Return (some e) pos) (tRet te) := by
  intro pins s σ H D I h
  exact wpAny_Return_some (thn (he pins s σ H _ I h) fun v s1 ⟨x, H1, I1, r1, q1⟩ => ⟨x, σ, H1, I1, r1, q1⟩)
def tRetN : TS := fun D _ H => D.rt .non H
theorem ps_retN : PS X (.Return none pos) tRetN := fun _ _ σ H _ I h => wpAny_Return_none ⟨.non, σ, H, I, rfl, h⟩
def tIfS (c : TT) (t u : TS) : TS := fun D σ H => c σ H fun b H1 => if b = true then t D σ H1 else u D σ H1
theorem ps_if {c : Expr} {a b : List Stmt} {tc : TT} (hc : PT X c tc) (ha : PSs X a t) (hb : PSs X b u) : PS X (.If c a b pos) (tIfS tc t u) := by
  intro pins s σ H D I h
  refine wpAny_If (thn (hc pins s σ H _ I h) fun d s1 ⟨H1, I1, q1⟩ => ?_)
  cases d with
  | true => exact ha pins s1 σ H1 D I1 q1
  | false => exact hb pins s1 σ H1 D I1 q1
/-- code that the proof never comes to -/
def tNever : TS := fun _ _ _ => False
theorem ps_never : PS X st tNever := fun _ _ _ _ _ _ h => h.elim
theorem pss_never {sts : List Stmt} : PSs X sts tNever := fun _ _ _ _ _ _ h => h.elim
end

/-! ### targets -/
abbrev TG := V → St → Hp → (St → Hp → Prop) → Prop
abbrev TGs := List V → St → Hp → (St → Hp → Prop) → Prop
def PG (X : Cx) (target : Expr) (t : TG) : Prop :=
  ∀ (pins : List (Addr × Obj)) (s : Shared) (σ : St) (H : Hp) (v : V) (u : Value) (Q : St → Hp → Prop), Inv X pins σ H s → RelV v u → t v σ H Q →
    wpAny (model X.prog X.w) X.A (assign target X.env u) (fun _ s' => ∃ σ' H', Inv X pins σ' H' s' ∧ Q σ' H') X.xe s
/-- several targets, one after another -/
def PGs (X : Cx) (ts : List Expr) (t : TGs) : Prop :=
  ∀ (pins : List (Addr × Obj)) (s : Shared) (σ : St) (H : Hp) (vs : List V) (us : List Value) (Q : St → Hp → Prop), Inv X pins σ H s → Vals vs us → t vs σ H Q →
    wpAny (model X.prog X.w) X.A (assignInOrder ((assignEach ts X.env).map (·.2)) us) (fun _ s' => ∃ σ' H', Inv X pins σ' H' s' ∧ Q σ' H') X.xe s
/-- o[i] = v, by values -/
abbrev TSet := V → V → V → Hp → (Hp → Prop) → Prop
def PSet (X : Cx) (t : TSet) : Prop :=
  ∀ (pins : List (Addr × Obj)) (s : Shared) (σ : St) (H : Hp) (o i v : V) (ov iv u : Value) (Q : Hp → Prop), Inv X pins σ H s → RelV o ov → RelV i iv → RelV v u → t o i v H Q →
    wpAny (model X.prog X.w) X.A (setItem ov iv u) (fun _ s' => ∃ H', Inv X pins σ H' s' ∧ Q H') X.xe s
/-- a op= b, by values -/
abbrev TIp := V → V → Hp → VK → Prop
def PIp (X : Cx) (op : Operator) (t : TIp) : Prop :=
  ∀ (pins : List (Addr × Obj)) (s : Shared) (σ : St) (H : Hp) (x y : V) (v u : Value) (Q : VK), Inv X pins σ H s → RelV x v → RelV y u → t x y H Q →
    wpAny (model X.prog X.w) X.A (inplaceOp op v u) (EP X pins σ Q) X.xe s
section
variable {X : Cx} {pos : Pos}
def gName (i : Nat) : TG := fun v σ H Q => Q (σ.set i (some v)) H
theorem pg_name {i : Nat} {x : Str} (hN : X.N.Nodup) (hi : X.N[i]? = some x) (hx : Loc X.env.scope x) (hf : X.fn x = true ∨ X.env.scope.names.lookup x = some .local := by first | exact .inl rfl | exact .inr rfl | assumption) : PG X (.Name x pos) (gName i) := by
  intro pins s σ H v u Q I r h
  exact wpAny_assign_Name (store_ok I hN hi hx r (fun s' I' => ⟨_, H, I', h⟩) hf)
def gNil : TGs := fun vs σ H Q => vs = [] ∧ Q σ H
def gCons (t : TG) (u : TGs) : TGs := fun vs σ H Q => ∃ v r, vs = v :: r ∧ t v σ H fun σ' H' => u r σ' H' Q
theorem pgs_nil : PGs X [] gNil := by
  intro pins s σ H vs us Q I r h
  obtain ⟨e, h⟩ := h
  subst e
  cases r
  exact assignInOrder_nil ⟨σ, H, I, h⟩
theorem pgs_cons {e : Expr} {es : List Expr} {t : TG} {u : TGs} (h1 : PG X e t) (h2 : PGs X es u)
    (hs : (assignEach (e :: es) X.env).map (·.2) = assign e X.env :: (assignEach es X.env).map (·.2) := by rfl) : PGs X (e :: es) (gCons t u) := by
  intro pins s σ H vs us Q I r h
  obtain ⟨v, vr, e1, h⟩ := h
  subst e1
  cases r with
  | cons r rr =>
    rw [hs]
    refine assignInOrder_cons (thn (h1 pins s σ H _ _ _ I r h) fun _ s1 ⟨σ1, H1, I1, q1⟩ => ?_)
    exact h2 pins s1 σ1 H1 _ _ Q I1 rr q1
/-- (a, b, ..) = a tuple of that length -/
def gTup (K : PySem.W.Frag) (n : Nat) (t : TGs) : TG := fun v σ H Q => ∃ a xs, v = .ref a ∧ SqT K H a xs ∧ xs.length = n ∧ t xs σ H Q
theorem pg_tup {es : List Expr} {k : Nat} {t : TGs} {n : Nat} (hc : X.calm = true) (h : PGs X es t)
    (hn : (assignEach es X.env).length = n := by rfl) (hst : (assignEach es X.env).findIdx? (·.1) = none := by rfl) : PG X (.Tuple es k pos) (gTup X.K n t) := by
  intro pins s σ H v u Q I r hw
  obtain ⟨a, xs, e1, hq, hl, hw⟩ := hw
  subst e1
  cases r
  obtain ⟨its, rv, ht, hz⟩ := I.tuple hq
  refine assign_Tuple_tuple (I.ok.hd hc) ht (by simp [hn, ← hl, rv.length]) hst fun h' hx => ?_
  have I1 : Inv X pins σ H { s with heap := h' } := I.kept (t' := s.toks) fun b o e => hx b o (Nat.ne_of_lt (Heap.lt_size e)) e
  exact h pins _ σ H xs _ Q I1 (by simpa using rv) hw
/-- o[i] = .. -/
def gSub (to ti : TE) (t : TSet) : TG := fun v σ H Q => to σ H fun o H1 => ti σ H1 fun i H2 => t o i v H2 fun H3 => Q σ H3
theorem pg_sub {o i : Expr} {to ti : TE} {t : TSet} (ho : PE X o to) (hi : PE X i ti) (hs : PSet X t)
    (ha : ∀ v, assign (.Subscript o i pos) X.env v = (do
      let ov ← holding [v] (eval o X.env)
      let iv ← holding [v, ov] (eval i X.env)
      standAt pos
      holding [v, ov, iv] (setItem ov iv v)
      release [v, ov, iv] []) := by intro _; rfl) : PG X (.Subscript o i pos) (gSub to ti t) := by
  intro pins s σ H v u Q I r h
  rw [ha]
  refine wpAny_bind (wpAny_holding (thn (ho pins s σ H _ I h) fun ov s1 ⟨x, H1, I1, r1, q1⟩ => ?_))
  refine wpAny_bind (wpAny_holding (thn (hi pins s1 σ H1 _ I1 q1) fun iv s2 ⟨y, H2, I2, r2, q2⟩ => ?_))
  refine wpAny_bind (wpAny_standAt (wpAny_bind (wpAny_holding (thn (hs pins s2 σ H2 x y v ov iv u _ I2 r1 r2 r q2) fun _ s3 ⟨H3, I3, q3⟩ => ?_))))
  exact wpAny_release ⟨σ, H3, I3, q3⟩
/-- target = value -/
def tAsg (te : TE) (g : TG) : TS := fun D σ H => te σ H fun x H1 => g x σ H1 D.nx
theorem ps_asg {tg e : Expr} {te : TE} {g : TG} (he : PE X e te) (hg : PG X tg g) (hs : swapsWithSole [tg] e pos.line X.env = pure false := by rfl) (hw : swappedStores [tg] e X.env = pure none := by rfl)
    (h1 : (assignEach [tg] X.env).map (·.2) = [assign tg X.env] := by rfl) : PS X (.Assign [tg] e pos) (tAsg te g) := by
  intro pins s σ H D I h
  refine wpAny_Assign_stores (thn (he pins s σ H _ I h) fun v s1 ⟨x, H1, I1, r1, q1⟩ => ?_) hs hw
  rw [h1]
  exact thn (hg pins s1 σ H1 x v _ I1 r1 q1) fun _ s2 q => q
/-- name = value -/
theorem ps_set {i : Nat} {x : Str} {e : Expr} {te : TE} {pos' : Pos} (hN : X.N.Nodup) (hi : X.N[i]? = some x) (hx : Loc X.env.scope x) (he : PE X e te) (hs : swapsWith e (some (.Name x pos')) pos.line X.env = pure false := by rfl) (hf : X.fn x = true ∨ X.env.scope.names.lookup x = some .local := by first | exact .inl rfl | exact .inr rfl | assumption) :
    PS X (.Assign [.Name x pos'] e pos) (tAsg te (gName i)) := by
  intro pins s σ H D I h
  refine wpAny_Assign_Name (thn (he pins s σ H _ I h) fun v s1 ⟨y, H1, I1, r1, q1⟩ => ?_) hs
  exact store_ok I1 hN hi hx r1 (fun s2 I2 => ⟨_, H1, I2, q1⟩) hf
/-- a, b = x, y with plain local names: stored from the right; the pair itself is not tracked (the opening rows as in PyProof/Rows/TupAssign.lean:23) -/
def tPar (i j : Nat) (ta : TA) : TS := fun D σ H => ta σ H fun vs H1 => ∃ v w, vs = [v, w] ∧ D.nx ((σ.set i (some v)).set j (some w)) H1
theorem ps_par {i j : Nat} {x y : Str} {a b : Expr} {ta : TA} {px py pt : Pos} {kt k2 pt2} (hc : X.calm = true) (hN : X.N.Nodup) (hi : X.N[i]? = some x) (hj : X.N[j]? = some y) (hij : i ≠ j)
    (hx : X.env.scope.names.lookup x = some .local) (hy : X.env.scope.names.lookup y = some .local) (ha : PA X [a, b] ta)
    (hw : swappedStores [.Tuple [.Name x px, .Name y py] kt pt] (.Tuple [a, b] k2 pt2) X.env = pure (some [x, y]))
    (hs : swapsWithSole [.Tuple [.Name x px, .Name y py] kt pt] (.Tuple [a, b] k2 pt2) pos.line X.env = pure false := by rfl) :
    PS X (.Assign [.Tuple [.Name x px, .Name y py] kt pt] (.Tuple [a, b] k2 pt2) pos) (tPar i j ta) := by
  intro pins s σ H D I h
  rw [exec_Assign_arm]
  refine wpAny_bind (wpAny_standAt ?_)
  rw [hs]
  refine wpAny_bind (wpAny_pure ?_)
  rw [if_neg (by decide)]
  refine wpAny_bind (Tuple_ (thn (ha _ pins s σ H _ I h) fun us s1 ⟨vs, H1, I1, r1, q1⟩ => ?_))
  obtain ⟨v, w, e1, q1⟩ := q1
  subst e1
  obtain ⟨u1, u2, rfl, rv, rw'⟩ : ∃ u1 u2, us = [u1, u2] ∧ RelV v u1 ∧ RelV w u2 := by
    cases r1 with
    | cons p q =>
      cases q with
      | cons p' q' =>
        cases q'
        exact ⟨_, _, rfl, p, p'⟩
  refine wpAny_newObj_type ?_ (by show 2 ≤ sizeLine; decide)
  have I2 : Inv X pins σ H1 { s1 with heap := s1.heap.push { cls := .type "tuple", data := .seq [u1, u2].toArray } } := I1.kept (t' := s1.toks) fun b o e => Heap.get?_push_of_some _ e
  rw [hw]
  refine wpAny_bind (wpAny_pure ?_)
  show wpAny (model X.prog X.w) X.A (do rule "assign.swapped-stores"; let items ← unpackItems (.ref s1.heap.objs.size) 2 none; assignInOrder [fun v => bindName X.env y v, fun v => bindName X.env x v] items.reverse; pure Flow.next) _ _ _
  refine wpAny_bind (wpAny_rule (wpAny_bind (unpackItems_tuple (items := #[u1, u2]) (I.ok.hd hc) (IsTup.new s1.heap _) fun h' hx' => ?_)))
  have I3 := I2.kept (h' := h') (t' := s1.toks) fun b o e => hx' b o (Nat.ne_of_lt (Heap.lt_size e)) e
  show wpAny _ _ (assignInOrder [fun v => bindName X.env y v, fun v => bindName X.env x v] [u2, u1] >>= fun _ => pure Flow.next) _ _ _
  refine wpAny_bind (assignInOrder_cons (wpAny_bindName (store_ok I3 hN hj (.inl hy) rw' (fun s2 I4 => ?_) (.inr hy))))
  refine assignInOrder_cons (wpAny_bindName (store_ok I4 hN hi (.inl hx) rv (fun s3 I5 => assignInOrder_nil (wpAny_pure ?_)) (.inr hx)))
  rw [List.set_comm _ _ (Ne.symm hij)] at I5
  exact ⟨_, H1, I5, q1⟩
/-- name op= e -/
def tAug (i : Nat) (te : TE) (ti : TIp) : TS := fun D σ H => ∃ x, σ[i]? = some (some x) ∧ te σ H fun y H1 => ti x y H1 fun z H2 => D.nx (σ.set i (some z)) H2
theorem ps_aug {i : Nat} {x : Str} {e : Expr} {te : TE} {op : Operator} {ti : TIp} {pos' : Pos} (hN : X.N.Nodup) (hi : X.N[i]? = some x) (hx : Loc X.env.scope x) (he : PE X e te) (ho : PIp X op ti) (hf : X.fn x = true ∨ X.env.scope.names.lookup x = some .local := by first | exact .inl rfl | exact .inr rfl | assumption) :
    PS X (.AugAssign (.Name x pos') op e pos) (tAug i te ti) := by
  intro pins s σ H D I h
  obtain ⟨v, e1, h⟩ := h
  obtain ⟨m, hn, hl⟩ := I.loc
  have vis : Vis X.env.scope x := by rcases hx with k | k; exact .inl k; exact .inr (.inl k)
  obtain ⟨u, r, l⟩ := hl i x v hi e1 vis
  refine wpAny_AugAssign_Name ?_
  have go : wpAny (model X.prog X.w) X.A (eval e X.env) (fun w s₂ => wpAny (model X.prog X.w) X.A (inplaceOp op u w) (fun r s₃ => wpAny (model X.prog X.w) X.A (storeName X.env x r) (fun _ => SP X pins D .next) X.xe s₃) X.xe s₂) X.xe s := by
    refine thn (he pins s σ H _ I h) fun w s1 ⟨y, H1, I1, r1, q1⟩ => ?_
    refine thn (ho pins s1 σ H1 v y u w _ I1 r r1 q1) fun z s2 ⟨zv, H2, I2, r2, q2⟩ => ?_
    exact store_ok I2 hN hi hx r2 (fun s3 I3 => ⟨_, H2, I3, q2⟩) hf
  rcases l with ⟨hk, hm⟩ | ⟨hk, c, hc, hcell⟩
  · exact wpAny_loadName_local I.ok.kind hk hn hm go
  · rcases hk with hk | hk
    · exact wpAny_loadName_cell I.ok.kind hk hc hcell go
    · rcases hx with k | k
      · have : X.env.scope.names.lookup x = some .free := hk
        rw [k] at this; cases this
      · have : X.env.scope.names.lookup x = some .free := hk
        rw [k] at this; cases this
/-- o[i] op= e -/
def tAugS (to ti te : TE) (tget : V → V → Hp → VK → Prop) (tip : TIp) (tset : TSet) : TS := fun D σ H => to σ H fun o H1 => ti σ H1 fun i H2 => tget o i H2 fun x H3 => te σ H3 fun y H4 => tip x y H4 fun z H5 => tset o i z H5 fun H6 => D.nx σ H6
/-- o[i], by values -/
def PGet (X : Cx) (t : V → V → Hp → VK → Prop) : Prop :=
  ∀ (pins : List (Addr × Obj)) (s : Shared) (σ : St) (H : Hp) (o i : V) (ov iv : Value) (Q : VK), Inv X pins σ H s → RelV o ov → RelV i iv → t o i H Q →
    wpAny (model X.prog X.w) X.A (getItem ov iv) (EP X pins σ Q) X.xe s
theorem ps_augS {o i e : Expr} {to ti te : TE} {tget : V → V → Hp → VK → Prop} {tip : TIp} {tset : TSet} {op : Operator} {tpos : Pos} (ho : PE X o to) (hi : PE X i ti) (hg : PGet X tget) (he : PE X e te) (hp : PIp X op tip) (hs : PSet X tset)
    (ha : ∀ ov iv new, augStore i ov iv new = (do holding [new, ov, iv] (setItem ov iv new); release [new, ov, iv] []; pure .next) := by intros; rfl) : PS X (.AugAssign (.Subscript o i tpos) op e pos) (tAugS to ti te tget tip tset) := by
  intro pins s σ H D I h
  refine wpAny_AugAssign_SubscriptAny (thn (ho pins s σ H _ I h) fun ov s1 ⟨x1, H1, I1, r1, q1⟩ => ?_) ha
  refine thn (hi pins s1 σ H1 _ I1 q1) fun iv s2 ⟨x2, H2, I2, r2, q2⟩ => ?_
  refine thn (hg pins s2 σ H2 x1 x2 ov iv _ I2 r1 r2 q2) fun old s3 ⟨x3, H3, I3, r3, q3⟩ => ?_
  refine thn (he pins s3 σ H3 _ I3 q3) fun v s4 ⟨x4, H4, I4, r4, q4⟩ => ?_
  refine thn (hp pins s4 σ H4 x3 x4 old v _ I4 r3 r4 q4) fun new s5 ⟨x5, H5, I5, r5, q5⟩ => ?_
  exact thn (hs pins s5 σ H5 x1 x2 x5 ov iv new _ I5 r1 r2 r5 q5) fun _ s6 ⟨H6, I6, q6⟩ => ⟨σ, H6, I6, q6⟩
/-- ints -/
def ipI (f : Int → Int → Int) : TIp := fun x y H Q => ∃ i j, x = .int i ∧ y = .int j ∧ Q (.int (f i j)) H
theorem ip_add : PIp X .Add (ipI fun i j => i + j) := by
  intro pins s σ H x y v u Q I r1 r2 h
  obtain ⟨i, j, e1, e2, q⟩ := h
  subst e1; subst e2
  obtain ⟨t, rfl⟩ := r1
  obtain ⟨t', rfl⟩ := r2
  exact iadd_int ⟨.int _, H, I.tok _, ⟨_, rfl⟩, q⟩
theorem ip_sub : PIp X .Sub (ipI fun i j => i - j) := by
  intro pins s σ H x y v u Q I r1 r2 h
  obtain ⟨i, j, e1, e2, q⟩ := h
  subst e1; subst e2
  obtain ⟨t, rfl⟩ := r1
  obtain ⟨t', rfl⟩ := r2
  exact isub_int ⟨.int _, H, I.tok _, ⟨_, rfl⟩, q⟩
end

/-! ### while -/
section
variable {X : Cx} {pos : Pos}
/-- the invariant W with its measure -/
def tWhile (c : TT) (tb : TS) : TS := fun D σ H => ∃ W : Nat → St → Hp → Prop, (∃ m, W m σ H) ∧ ∀ m σ H, W m σ H →
  c σ H fun b H1 => if b = true then ∃ N : St → Hp → Prop, (∀ σ' H', N σ' H' → ∃ m', m' < m ∧ W m' σ' H') ∧ tb { D with nx := N, ct := N, bk := D.nx } σ H1 else D.nx σ H1
theorem ps_while {c : Expr} {body : List Stmt} {tc : TT} {tb : TS} (hp : PassesOwn (model X.prog X.w) X.A X.env X.xe) (hc : PT X c tc) (hb : PSs X body tb) : PS X (.While c body [] pos) (tWhile tc tb) := by
  intro pins s σ H D I h
  obtain ⟨W, ⟨m0, w0⟩, turn⟩ := h
  refine wpAny_While (codeAny_whileLoop (fun n s' => ∃ σ' H', Inv X pins σ' H' s' ∧ W n σ' H') ?_ m0 ⟨σ, H, I, w0⟩)
  rintro n s1 ⟨σ1, H1, I1, w1⟩
  refine wpAny_passesOwn hp (thn (hc pins s1 σ1 H1 _ I1 (turn n σ1 H1 w1)) fun b s2 ⟨H2, I2, q2⟩ => ?_)
  cases b with
  | true =>
    obtain ⟨N, hN, q2⟩ := q2
    rw [if_pos rfl]
    refine wpAny_passesOwn hp (thn (hb pins s2 σ1 H2 _ I2 q2) fun f s3 q3 => ?_)
    cases f with
    | next =>
      obtain ⟨σ3, H3, I3, n3⟩ := q3
      obtain ⟨m', hm, w3⟩ := hN σ3 H3 n3
      exact ⟨m', hm, σ3, H3, I3, w3⟩
    | cont =>
      obtain ⟨σ3, H3, I3, n3⟩ := q3
      obtain ⟨m', hm, w3⟩ := hN σ3 H3 n3
      exact ⟨m', hm, σ3, H3, I3, w3⟩
    | brk => exact q3
    | ret v => exact q3
  | false =>
    rw [if_neg Bool.false_ne_true]
    exact wpAny_execs_nil ⟨σ1, H2, I2, q2⟩
end

/-! ### what a loop or a comprehension walks -/
/-- at turn i: it yields x (the heap may grow), or it stops -/
structure It where
  go : Nat → Hp → Prop
  yld : Nat → Hp → V → Hp → Prop
  stop : Nat → Hp → Prop
/-- the iterator's own objects may turn: they are not the frame's, not pinned, younger than the entry (or a comprehension's own) -/
def FpOk (X : Cx) (pins : List (Addr × Obj)) (H : Hp) (b : Addr) : Prop :=
  H b = none ∧ b ≠ X.env.locals ∧ b ∉ X.fs ∧ (b ∈ X.ex ∨ X.s₀.heap.objs.size ≤ b) ∧ (∀ x c, X.env.cells.lookup x = some c → c ≠ b) ∧ ∀ p ∈ X.pn ++ pins, p.1 ≠ b
theorem Inv.fpOk {X : Cx} {pins : List (Addr × Obj)} {σ : St} {H H' : Hp} {s : Shared} {b : Addr} (I : Inv X pins σ H s) (hb : s.heap.objs.size ≤ b) (hn : H' b = none) : FpOk X pins H' b := by
  refine ⟨hn, Nat.ne_of_gt (Nat.lt_of_lt_of_le I.lt hb), I.nofs hb, .inr (Nat.le_trans I.sz hb), fun x c e z => ?_, fun p hp z => ?_⟩
  · obtain ⟨v, q⟩ := I.cell x c e
    exact absurd (Nat.lt_of_lt_of_le q.lt (by rw [z]; exact hb)) (Nat.lt_irrefl _)
  · exact absurd (Nat.lt_of_lt_of_le (Heap.lt_size (I.pin p hp).1) (by rw [z]; exact hb)) (Nat.lt_irrefl _)
structure Turn (P : Program) (w : World) (K : PySem.W.Frag) (tg : Expr) (J : It) (fp : List Addr) (it : Addr) (tn : Nat → Heap → Prop) : Prop where
  mem : it ∈ fp
  obj : ∀ i h, tn i h → ∀ b ∈ fp, ∃ o, h.get? b = some o ∧ ∀ v, o.data ≠ .cell v
  keep : ∀ i h h', tn i h → (∀ b ∈ fp, ∀ o, h.get? b = some o → h'.get? b = some o) → tn i h'
  item : ∀ (X : Cx), X.prog = P → X.w = w → X.K = K → X.calm = true → ∀ (i : Nat) (pins : List (Addr × Obj)) (s : Shared) (σ : St) (H : Hp) (E : Value → Shared → Prop), Inv X pins σ H s → (∀ b ∈ fp, FpOk X pins H b) → tn i s.heap → J.go i H →
    wpAny (model P w) X.A (pyNext (.ref it)) (fun r s1 => ∃ u, r = some u ∧
      wpAny (model P w) X.A (letOwnedTupleGo tg (.ref it) u) (fun _ s2 => ∃ x H', Inv X pins σ H' s2 ∧ RelV x u ∧ J.yld i H x H' ∧ tn (i + 1) s2.heap ∧ ∀ b ∈ fp, H' b = none) E s1) E s
  done : ∀ (X : Cx), X.prog = P → X.w = w → X.K = K → X.calm = true → ∀ (i : Nat) (pins : List (Addr × Obj)) (s : Shared) (σ : St) (H : Hp) (E : Value → Shared → Prop), Inv X pins σ H s → (∀ b ∈ fp, FpOk X pins H b) → tn i s.heap → J.stop i H →
    wpAny (model P w) X.A (pyNext (.ref it)) (fun r s1 => r = none ∧ Inv X pins σ H s1) E s
  self : ∀ (A : Around) (i : Nat) (s : Shared) (Q : Value → Shared → Prop) (E : Value → Shared → Prop), tn i s.heap → Q (.ref it) s → wpAny (model P w) A (pyIter (.ref it)) Q E s
abbrev TI := St → Hp → (It → Hp → Prop) → Prop
/-- an iterator has come -/
def PIE (X : Cx) (pins : List (Addr × Obj)) (σ : St) (tg : Expr) (R : It → Hp → Prop) (itv : Value) (s2 : Shared) : Prop :=
  ∃ (it : Addr) (fp : List Addr) (tn : Nat → Heap → Prop) (J : It) (H' : Hp), itv = .ref it ∧ Inv X pins σ H' s2 ∧ Turn X.prog X.w X.K tg J fp it tn ∧ tn 0 s2.heap ∧ (∀ b ∈ fp, FpOk X pins H' b) ∧ R J H'
def PI (X : Cx) (tg iter : Expr) (wi : TI) : Prop :=
  ∀ (pins : List (Addr × Obj)) (s : Shared) (σ : St) (H : Hp) (R : It → Hp → Prop), Inv X pins σ H s → wi σ H R →
    wpAny (model X.prog X.w) X.A (eval iter X.env) (fun v s1 => wpAny (model X.prog X.w) X.A (pyIter v) (PIE X pins σ tg R) X.xe s1) X.xe s

/-- the step ahead of the store is nothing for an iterator that keeps no tuple -/
theorem go_of {M : Model} {A : Around} {E : Value → Shared → Prop} {s : Shared} {tg : Expr} {it : Addr} {u : Value} {o : Obj} {n : String} {vs : Array Value} {Q : Unit → Shared → Prop} (ho : s.heap.get? it = some o) (hc : o.cls = .type n) (hd : o.data = .fields vs)
    (hn : ["enumerate", "zip", "dict_itemiterator", "dict_reverseitemiterator", "odict_iterator", "itertools.zip_longest", "itertools.pairwise"].contains n = false) (hQ : Q () s) : wpAny M A (letOwnedTupleGo tg (.ref it) u) Q E s := by
  unfold letOwnedTupleGo
  cases tg <;> first
    | exact wpAny_pure hQ
    | (cases u <;> first
        | exact wpAny_pure hQ
        | (refine wpAny_bind (wpAny_load ho ?_)
           rw [hc, hd]
           show wpAny M A (if (["enumerate", "zip", "dict_itemiterator", "dict_reverseitemiterator", "odict_iterator", "itertools.zip_longest", "itertools.pairwise"].contains n && vs[0]? == some (rawInt _)) = true then _ else _) Q E s
           rw [if_neg (by intro h; rw [hn, Bool.false_and] at h; cases h)]
           exact wpAny_pure hQ))

/-- the list at a, as it stands at each turn (a loop may append to it) -/
def Itl (K : PySem.W.Frag) (a : Addr) : It :=
  ⟨fun i H => ∃ xs x, SqL K H a xs ∧ xs[i]? = some x, fun i H x H' => H' = H ∧ ∀ xs, SqL K H a xs → xs[i]? = some x, fun i H => ∃ xs, SqL K H a xs ∧ xs.length ≤ i⟩
def Itt (K : PySem.W.Frag) (a : Addr) : It :=
  ⟨fun i H => ∃ xs x, SqT K H a xs ∧ xs[i]? = some x, fun i H x H' => H' = H ∧ ∀ xs, SqT K H a xs → xs[i]? = some x, fun i H => ∃ xs, SqT K H a xs ∧ xs.length ≤ i⟩
/-- lo, lo + 1, .. (n of them) -/
def Itr (lo : Int) (n : Nat) : It := ⟨fun i _ => i < n, fun i H x H' => H' = H ∧ x = .int (lo + i), fun i _ => n ≤ i⟩
theorem turn_list {P : Program} {w : World} {K : PySem.W.Frag} {tg : Expr} (a it : Addr) : Turn P w K tg (Itl K a) [it] it (fun i h => h.IsListIter it a i) where
  mem := by simp
  obj := fun i h st b hb => by
    have e : b = it := by simpa using hb
    subst e
    obtain ⟨o, e, c, d⟩ := st
    exact ⟨o, e, fun v z => by rw [d] at z; cases z⟩
  keep := fun i h h' st k => st.at fun o e => k it (by simp) o e
  item := by
    intro X hP hw hK hc i pins s σ H E I hf st hg
    subst hP hw hK
    obtain ⟨xs, x, hq, hx⟩ := hg
    obtain ⟨its, rv, p, hz⟩ := I.list hq
    obtain ⟨u, hu, ru⟩ := rv.get hx
    obtain ⟨f0, f1, f2, f3, f4, f5⟩ := hf it (by simp)
    refine wpAny_pyNext_list_item st p.isList (x := u) (by simpa using hu) fun h' st' sb => ?_
    have I1 : Inv X pins σ H { s with heap := h' } := I.turned (t' := s.toks) (fun b o hb e => (sb.2 b hb).trans e) f0 f1 f3 f4 f5
    obtain ⟨o, e, c, d⟩ := id st'
    exact ⟨u, rfl, go_of (s := { s with heap := h' }) e c d (by decide) ⟨x, H, I1, ru, ⟨rfl, fun ys hy => by rw [I.list_inj hy hq]; exact hx⟩, st', fun b hb => (hf b hb).1⟩⟩
  done := by
    intro X hP hw hK hc i pins s σ H E I hf st hg
    subst hP hw hK
    obtain ⟨xs, hq, hx⟩ := hg
    obtain ⟨its, rv, p, hz⟩ := I.list hq
    obtain ⟨f0, f1, f2, f3, f4, f5⟩ := hf it (by simp)
    have hl := rv.length
    exact wpAny_pyNext_list_end (I.ok.hd hc) st p.isList (by simp; omega) fun h' eb => ⟨rfl, I.turned (t' := s.toks) (fun b o hb e => eb b o hb e) f0 f1 f3 f4 f5⟩
  self := fun _ _ _ _ _ st h => wpAny_pyIter_listiter st h
theorem turn_tuple {P : Program} {w : World} {K : PySem.W.Frag} {tg : Expr} (a it : Addr) : Turn P w K tg (Itt K a) [it] it (fun i h => h.IsTupleIter it a i) where
  mem := by simp
  obj := fun i h st b hb => by
    have e : b = it := by simpa using hb
    subst e
    obtain ⟨o, e, c, d⟩ := st
    exact ⟨o, e, fun v z => by rw [d] at z; cases z⟩
  keep := fun i h h' st k => st.at fun o e => k it (by simp) o e
  item := by
    intro X hP hw hK hc i pins s σ H E I hf st hg
    subst hP hw hK
    obtain ⟨xs, x, hq, hx⟩ := hg
    obtain ⟨its, rv, p, hz⟩ := I.tuple hq
    obtain ⟨u, hu, ru⟩ := rv.get hx
    obtain ⟨f0, f1, f2, f3, f4, f5⟩ := hf it (by simp)
    refine wpAny_pyNext_tuple_item st (show s.heap.IsTuple a its.toArray from p) (x := u) (by simpa using hu) fun h' st' sb => ?_
    have I1 : Inv X pins σ H { s with heap := h' } := I.turned (t' := s.toks) (fun b o hb e => (sb.2 b hb).trans e) f0 f1 f3 f4 f5
    obtain ⟨o, e, c, d⟩ := id st'
    exact ⟨u, rfl, go_of (s := { s with heap := h' }) e c d (by decide) ⟨x, H, I1, ru, ⟨rfl, fun ys hy => by rw [I.tuple_inj hy hq]; exact hx⟩, st', fun b hb => (hf b hb).1⟩⟩
  done := by
    intro X hP hw hK hc i pins s σ H E I hf st hg
    subst hP hw hK
    obtain ⟨xs, hq, hx⟩ := hg
    obtain ⟨its, rv, p, hz⟩ := I.tuple hq
    obtain ⟨f0, f1, f2, f3, f4, f5⟩ := hf it (by simp)
    have hl := rv.length
    exact wpAny_pyNext_tuple_end (I.ok.hd hc) st (show s.heap.IsTuple a its.toArray from p) (by simp; omega) fun h' eb => ⟨rfl, I.turned (t' := s.toks) (fun b o hb e => eb b o hb e) f0 f1 f3 f4 f5⟩
  self := fun _ _ _ _ _ st h => wpAny_pyIter_tupleiter st h
theorem turn_range {P : Program} {w : World} {K : PySem.W.Frag} {tg : Expr} (it : Addr) (lo : Int) (n : Nat) : Turn P w K tg (Itr lo n) [it] it (fun i h => IsRangeIter h it (lo + (i : Nat) * 1) ((n : Int) - (i : Nat)) 1) where
  mem := by simp
  obj := fun i h st b hb => by
    have e : b = it := by simpa using hb
    subst e
    exact ⟨_, st, fun v z => by
      have z' : Data.fields _ = Data.cell v := z
      cases z'⟩
  keep := fun i h h' st k => k it (by simp) _ st
  item := by
    intro X hP hw hK hc i pins s σ H E I hf st hg
    subst hP hw hK
    obtain ⟨f0, f1, f2, f3, f4, f5⟩ := hf it (by simp)
    have W := Walks.range (prog := X.prog) (w := X.w) (I.ok.hd hc) it lo 1 n
    refine W.item i s _ _ hg st fun v h' tk hv st' kk => ?_
    obtain ⟨t, rfl⟩ := hv
    have I1 : Inv X pins σ H { s with heap := h', toks := tk } := I.turned (fun b o hb e => kk b o (by simpa using hb) e) f0 f1 f3 f4 f5
    refine ⟨_, rfl, go_of (s := { s with heap := h', toks := tk }) (n := "range_iterator") st' rfl rfl (by decide) ⟨.int (lo + i), H, I1, ⟨t, ?_⟩, ⟨rfl, rfl⟩, st', fun b hb => (hf b hb).1⟩⟩
    rw [Int.mul_one]
  done := by
    intro X hP hw hK hc i pins s σ H E I hf st hg
    subst hP hw hK
    obtain ⟨f0, f1, f2, f3, f4, f5⟩ := hf it (by simp)
    exact wpAny_pyNext_range_end (I.ok.hd hc) st (by have : n ≤ i := hg; omega) fun h' eb => ⟨rfl, I.turned (t' := s.toks) (fun b o hb e => eb b o hb e) f0 f1 f3 f4 f5⟩
  self := fun _ _ _ _ _ st h => wpAny_pyIter_rangeiter st h
end L2

namespace L2
open PySem PySem.Spec PyProof.Rows
section
variable {X : Cx} {tg : Expr}
def iList (K : PySem.W.Frag) (tl : TE) : TI := fun σ H R => tl σ H fun x H1 => ∃ a, x = .ref a ∧ (∃ xs, SqL K H1 a xs) ∧ R (Itl K a) H1
def iTup (K : PySem.W.Frag) (tl : TE) : TI := fun σ H R => tl σ H fun x H1 => ∃ a, x = .ref a ∧ (∃ xs, SqT K H1 a xs) ∧ R (Itt K a) H1
theorem pi_list {l : Expr} {tl : TE} (hl : PE X l tl) : PI X tg l (iList X.K tl) := by
  intro pins s σ H R I h
  refine thn (hl pins s σ H _ I h) fun v s1 ⟨x, H1, I1, r1, q1⟩ => ?_
  obtain ⟨a, e, ⟨xs, hq⟩, q⟩ := q1
  subst e
  cases r1
  obtain ⟨its, rv, p, hz⟩ := I1.list hq
  refine wpAny_pyIter_list p.isList ?_
  refine ⟨s1.heap.objs.size, [s1.heap.objs.size], _, _, H1, rfl, I1.kept (t' := s1.toks) fun b o e => Heap.get?_push_of_some _ e, turn_list a _, ⟨_, Heap.get?_push_size _ rfl, rfl, rfl⟩, fun b hb => ?_, q⟩
  have e : b = s1.heap.objs.size := by simpa using hb
  subst e
  exact I1.fpOk (Nat.le_refl _) (I1.hok.fresh (Nat.le_refl _))
theorem pi_tup {l : Expr} {tl : TE} (hl : PE X l tl) : PI X tg l (iTup X.K tl) := by
  intro pins s σ H R I h
  refine thn (hl pins s σ H _ I h) fun v s1 ⟨x, H1, I1, r1, q1⟩ => ?_
  obtain ⟨a, e, ⟨xs, hq⟩, q⟩ := q1
  subst e
  cases r1
  obtain ⟨its, rv, p, hz⟩ := I1.tuple hq
  refine wpAny_pyIter_tuple (show s1.heap.IsTuple a its.toArray from p) ?_
  refine ⟨s1.heap.objs.size, [s1.heap.objs.size], _, _, H1, rfl, I1.kept (t' := s1.toks) fun b o e => Heap.get?_push_of_some _ e, turn_tuple a _, ⟨_, Heap.get?_push_size _ rfl, rfl, rfl⟩, fun b hb => ?_, q⟩
  have e : b = s1.heap.objs.size := by simpa using hb
  subst e
  exact I1.fpOk (Nat.le_refl _) (I1.hok.fresh (Nat.le_refl _))
/-- a range object just made, walked -/
theorem range_it {pins : List (Addr × Obj)} {σ : St} {H : Hp} {s : Shared} {R : It → Hp → Prop} {E : Value → Shared → Prop} {lo hi : Int} {t u v : Tok} {tk : Nat} (I : Inv X pins σ H s) (h1 : -(2 ^ 62) ≤ lo) (h2 : lo < 2 ^ 62) (h3 : -(2 ^ 62) ≤ hi) (h4 : hi < 2 ^ 62)
    (q : R (Itr lo (hi - lo).toNat) H) : wpAny (model X.prog X.w) X.A (pyIter (.ref s.heap.objs.size)) (PIE X pins σ tg R) E { s with heap := s.heap.push { cls := .type "range", data := .fields #[.int lo t, .int hi u, .int 1 v] }, toks := tk } := by
  refine wpAny_pyIter_range (IsRange.new ..) (small_one h1 h2 h3 h4) ?_
  have I1 : Inv X pins σ H { s with heap := s.heap.push { cls := .type "range", data := .fields #[.int lo t, .int hi u, .int 1 v] }, toks := tk } := I.kept fun b o e => Heap.get?_push_of_some _ e
  refine ⟨(s.heap.push { cls := .type "range", data := .fields #[.int lo t, .int hi u, .int 1 v] }).objs.size, [(s.heap.push { cls := .type "range", data := .fields #[.int lo t, .int hi u, .int 1 v] }).objs.size], _, _, H, rfl,
    I1.kept (t' := tk) fun b o e => Heap.get?_push_of_some _ e, turn_range _ lo (hi - lo).toNat, ?_, fun b hb => ?_, q⟩
  · have e1 : lo + ((0 : Nat) : Int) * 1 = lo := by simp
    have e2 : (((hi - lo).toNat : Nat) : Int) - ((0 : Nat) : Int) = Builtin.Range.rangeSize lo hi 1 := by rw [rangeSize_one]; split <;> omega
    show IsRangeIter _ _ (lo + ((0 : Nat) : Int) * 1) ((((hi - lo).toNat : Nat) : Int) - ((0 : Nat) : Int)) 1
    rw [e1, e2]
    exact Heap.get?_push_size _ rfl
  · have e : b = (s.heap.push { cls := .type "range", data := .fields #[.int lo t, .int hi u, .int 1 v] }).objs.size := by simpa using hb
    subst e
    exact I1.fpOk (Nat.le_refl _) (I1.hok.fresh (Nat.le_refl _))
def iRng1 (ta : TA) : TI := fun σ H R => ta σ H fun vs H1 => ∃ j : Int, vs = [.int j] ∧ -(2 ^ 62) ≤ j ∧ j < 2 ^ 62 ∧ R (Itr 0 j.toNat) H1
def iRng2 (ta : TA) : TI := fun σ H R => ta σ H fun vs H1 => ∃ i j : Int, vs = [.int i, .int j] ∧ (-(2 ^ 62) ≤ i ∧ i < 2 ^ 62 ∧ -(2 ^ 62) ≤ j ∧ j < 2 ^ 62) ∧ R (Itr i (j - i).toNat) H1
theorem pi_range1 {a : Expr} {ta : TA} {p pos : Pos} (hg : Gl X "range") (hm : X.mg "range" = none) (ha : PA X [a] ta) (hs : starEach [a] X.env = [(false, eval a X.env)] := by rfl) : PI X tg (.Call (.Name "range" p) [a] [] pos) (iRng1 ta) := by
  intro pins s σ H R I h
  refine Call_ (ld_blt I hg hm boot_range (PyProof.Rows.callWith_type1 (thn (ha pos pins s σ H _ I h) fun us s1 ⟨vs, H1, I1, r1, q1⟩ => ?_) hs rfl))
  obtain ⟨j, e, q1, q2, q⟩ := q1
  subst e
  cases r1 with
  | cons r rr =>
    cases rr
    obtain ⟨t, rfl⟩ := r
    exact call_range_1 (range_it I1 (by omega) (by omega) q1 q2 (by simpa using q))
theorem pi_range2 {a b : Expr} {ta : TA} {p pos : Pos} (hg : Gl X "range") (hm : X.mg "range" = none) (ha : PA X [a, b] ta) (hs : starEach [a, b] X.env = [(false, eval a X.env), (false, eval b X.env)] := by rfl) (hs2 : starEach [b] X.env = [(false, eval b X.env)] := by rfl) :
    PI X tg (.Call (.Name "range" p) [a, b] [] pos) (iRng2 ta) := by
  intro pins s σ H R I h
  refine Call_ (ld_blt I hg hm boot_range (PyProof.Rows.callWith_type1 (thn (ha pos pins s σ H _ I h) fun us s1 ⟨vs, H1, I1, r1, q1⟩ => ?_) (by rw [hs, hs2]) (by rw [hs2]; rfl)))
  obtain ⟨i, j, e, ⟨q1, q2, q3, q4⟩, q⟩ := q1
  subst e
  cases r1 with
  | cons r rr =>
    cases rr with
    | cons r' rr =>
      cases rr
      obtain ⟨t, rfl⟩ := r
      obtain ⟨t', rfl⟩ := r'
      exact call_range_2 (range_it I1 q1 q2 q3 q4 q)

/-! ### for -/
/-- W: the invariant by the turn and a measure; N: what the body is to reach -/
def tFor (wi : TI) (g : TG) (tb : TS) : TS := fun D σ H => wi σ H fun J H1 => ∃ W : Nat → Nat → St → Hp → Prop, (∃ m, W 0 m σ H1) ∧ ∀ i m σ H, W i m σ H →
  (J.stop i H ∧ D.nx σ H) ∨ (J.go i H ∧ ∃ N : St → Hp → Prop, (∀ σ' H', N σ' H' → ∃ m', m' < m ∧ W (i + 1) m' σ' H') ∧ ∀ x H', J.yld i H x H' → g x σ H' fun σ2 H2 => tb { D with nx := N, ct := N, bk := D.nx } σ2 H2)
/-- the records at fp as they stand -/
def pinsAt (fp : List Addr) (h : Heap) : List (Addr × Obj) := fp.filterMap fun b => (h.get? b).map fun o => (b, o)
theorem mem_pinsAt {fp : List Addr} {h : Heap} {b : Addr} {o : Obj} (hb : b ∈ fp) (e : h.get? b = some o) : (b, o) ∈ pinsAt fp h := List.mem_filterMap.mpr ⟨b, hb, by rw [e]; rfl⟩
theorem of_pinsAt {fp : List Addr} {h : Heap} {p : Addr × Obj} (hp : p ∈ pinsAt fp h) : p.1 ∈ fp ∧ h.get? p.1 = some p.2 := by
  obtain ⟨b, hb, e⟩ := List.mem_filterMap.mp hp
  cases q : h.get? b with
  | none => rw [q] at e; cases e
  | some o =>
    rw [q] at e
    have e' : (b, o) = p := Option.some.inj e
    subst e'
    exact ⟨hb, q⟩
theorem Inv.pinned {pins : List (Addr × Obj)} {σ : St} {H : Hp} {s : Shared} {fp : List Addr} (I : Inv X pins σ H s) (hf : ∀ b ∈ fp, FpOk X pins H b) (ho : ∀ b ∈ fp, ∃ o, s.heap.get? b = some o ∧ ∀ v, o.data ≠ .cell v) : Inv X (pins ++ pinsAt fp s.heap) σ H s :=
  I.pins_of fun p hp => (List.mem_append.mp hp).elim (fun z => I.pin p (List.mem_append_right _ z)) fun z => by
    obtain ⟨hb, e⟩ := of_pinsAt z
    obtain ⟨f0, f1, f2, _⟩ := hf p.1 hb
    obtain ⟨o, e', d⟩ := ho p.1 hb
    rw [e] at e'; cases e'
    exact ⟨e, f0, f1, f2, d⟩
theorem Inv.unpinned {pins pl : List (Addr × Obj)} {σ : St} {H : Hp} {s : Shared} (I : Inv X (pins ++ pl) σ H s) : Inv X pins σ H s := I.pins_of fun p hp => I.pin p (List.mem_append_right _ (List.mem_append_left _ hp))
theorem ps_for {iter : Expr} {body : List Stmt} {wi : TI} {g : TG} {tb : TS} {pos : Pos} (hp : PassesOwn (model X.prog X.w) X.A X.env X.xe) (hc : X.calm = true) (hi : PI X tg iter wi) (hg : PG X tg g) (hb : PSs X body tb)
    (hs : ∀ x, foldedSetIterable iter X.env x = pure x := by intro _; rfl) : PS X (.For tg iter body [] pos) (tFor wi g tb) := by
  intro pins s σ H D I h
  refine wpAny_For (thn (hi pins s σ H _ I h) fun v s1 h1 => thn h1 fun itv s2 h2 => ?_) hs
  obtain ⟨it, fp, tn, J, H2, e, I2, T, st2, f2, W, ⟨m0, w0⟩, turn⟩ := h2
  subst e
  -- what stays true of the iterator's objects through the loop
  have stat : ∀ {H' : Hp}, (∀ b ∈ fp, H' b = none) → ∀ b ∈ fp, FpOk X pins H' b := fun hn b hb => ⟨hn b hb, (f2 b hb).2⟩
  refine codeAny_forLoop_any (fun n s' => ∃ i σ' H', Inv X pins σ' H' s' ∧ tn i s'.heap ∧ (∀ b ∈ fp, H' b = none) ∧ W i n σ' H') ?_ m0 ⟨0, σ, H2, I2, st2, fun b hb => (f2 b hb).1, w0⟩
  rintro n s3 ⟨i, σ3, H3, I3, st3, fr3, w3⟩
  rcases turn i n σ3 H3 w3 with ⟨stop, qn⟩ | ⟨go, N, hN, step⟩
  · refine wpAny_passesOwn hp (thn (T.done X rfl rfl rfl hc i pins s3 σ3 H3 X.xe I3 (stat fr3) st3 stop) fun r s4 ⟨hr, I4⟩ => ?_)
    subst hr
    exact wpAny_execs_nil ⟨σ3, H3, I4, qn⟩
  · refine wpAny_passesOwn hp (thn (T.item X rfl rfl rfl hc i pins s3 σ3 H3 X.xe I3 (stat fr3) st3 go) fun r s4 ⟨u, hr, h4⟩ => ?_)
    subst hr
    refine wpAny_passesOwn hp (thn h4 fun _ s5 ⟨x, H5, I5, r5, y5, st5, fr5⟩ => ?_)
    have I5' := I5.pinned (stat fr5) (T.obj _ _ st5)
    refine wpAny_passesOwn hp (thn (hg _ s5 σ3 H5 x u _ I5' r5 (step x H5 y5)) fun _ s6 ⟨σ6, H6, I6, q6⟩ => ?_)
    refine wpAny_passesOwn hp (thn (hb _ s6 σ6 H6 _ I6 q6) fun f s7 q7 => ?_)
    have again : ∀ {σ7 : St} {H7 : Hp}, Inv X (pins ++ pinsAt fp s5.heap) σ7 H7 s7 → N σ7 H7 → ∃ m, m < n ∧ ∃ i σ' H', Inv X pins σ' H' s7 ∧ tn i s7.heap ∧ (∀ b ∈ fp, H' b = none) ∧ W i m σ' H' := fun {σ7 H7} I7 n7 => by
      obtain ⟨m', hm, w7⟩ := hN σ7 H7 n7
      refine ⟨m', hm, i + 1, σ7, H7, I7.unpinned, T.keep _ _ _ st5 fun b hb o e => (I7.pin (b, o) (List.mem_append_right _ (List.mem_append_right _ (mem_pinsAt hb e)))).1, fun b hb => ?_, w7⟩
      obtain ⟨o, e, d⟩ := T.obj _ _ st5 b hb
      exact (I7.pin (b, o) (List.mem_append_right _ (List.mem_append_right _ (mem_pinsAt hb e)))).2.1
    cases f with
    | next => obtain ⟨σ7, H7, I7, n7⟩ := q7; exact again I7 n7
    | cont => obtain ⟨σ7, H7, I7, n7⟩ := q7; exact again I7 n7
    | brk => obtain ⟨σ7, H7, I7, q7⟩ := q7; exact ⟨σ7, H7, I7.unpinned, q7⟩
    | ret v => obtain ⟨x7, σ7, H7, I7, r7, q7⟩ := q7; exact ⟨x7, σ7, H7, I7.unpinned, r7, q7⟩
end

/-! ### the forms one uses -/
/-- over a list that the body leaves as it is -/
theorem for_list {K : PySem.W.Frag} {a : Addr} {xs : List V} {g : TG} {tb : TS} {D : Ends} {σ : St} {H : Hp} (Pv : Nat → St → Hp → Prop) (h0 : Pv 0 σ H) (hl : ∀ i σ H, i ≤ xs.length → Pv i σ H → SqL K H a xs)
    (hs : ∀ i x σ H, xs[i]? = some x → Pv i σ H → g x σ H fun σ2 H2 => tb { D with nx := Pv (i + 1), ct := Pv (i + 1), bk := D.nx } σ2 H2) (hd : ∀ σ H, Pv xs.length σ H → D.nx σ H) :
    ∃ W : Nat → Nat → St → Hp → Prop, (∃ m, W 0 m σ H) ∧ ∀ i m σ H, W i m σ H →
      ((Itl K a).stop i H ∧ D.nx σ H) ∨ ((Itl K a).go i H ∧ ∃ N : St → Hp → Prop, (∀ σ' H', N σ' H' → ∃ m', m' < m ∧ W (i + 1) m' σ' H') ∧ ∀ x H', (Itl K a).yld i H x H' → g x σ H' fun σ2 H2 => tb { D with nx := N, ct := N, bk := D.nx } σ2 H2) := by
  refine ⟨fun i m σ H => m = xs.length - i ∧ i ≤ xs.length ∧ Pv i σ H, ⟨xs.length, by simp, Nat.zero_le _, h0⟩, ?_⟩
  rintro i m σ H ⟨rfl, hi, p⟩
  have q := hl i σ H hi p
  by_cases hlt : i < xs.length
  · refine .inr ⟨⟨xs, xs[i], q, by simp [hlt]⟩, Pv (i + 1), fun σ' H' p' => ⟨xs.length - (i + 1), by omega, rfl, hlt, p'⟩, fun x H' y => ?_⟩
    obtain ⟨e, y⟩ := y
    subst e
    exact hs i x σ _ (y xs q) p
  · have e : i = xs.length := by omega
    subst e
    exact .inl ⟨⟨xs, q, Nat.le_refl _⟩, hd σ H p⟩
theorem for_tup {K : PySem.W.Frag} {a : Addr} {xs : List V} {g : TG} {tb : TS} {D : Ends} {σ : St} {H : Hp} (Pv : Nat → St → Hp → Prop) (h0 : Pv 0 σ H) (hl : ∀ i σ H, i ≤ xs.length → Pv i σ H → SqT K H a xs)
    (hs : ∀ i x σ H, xs[i]? = some x → Pv i σ H → g x σ H fun σ2 H2 => tb { D with nx := Pv (i + 1), ct := Pv (i + 1), bk := D.nx } σ2 H2) (hd : ∀ σ H, Pv xs.length σ H → D.nx σ H) :
    ∃ W : Nat → Nat → St → Hp → Prop, (∃ m, W 0 m σ H) ∧ ∀ i m σ H, W i m σ H →
      ((Itt K a).stop i H ∧ D.nx σ H) ∨ ((Itt K a).go i H ∧ ∃ N : St → Hp → Prop, (∀ σ' H', N σ' H' → ∃ m', m' < m ∧ W (i + 1) m' σ' H') ∧ ∀ x H', (Itt K a).yld i H x H' → g x σ H' fun σ2 H2 => tb { D with nx := N, ct := N, bk := D.nx } σ2 H2) := by
  refine ⟨fun i m σ H => m = xs.length - i ∧ i ≤ xs.length ∧ Pv i σ H, ⟨xs.length, by simp, Nat.zero_le _, h0⟩, ?_⟩
  rintro i m σ H ⟨rfl, hi, p⟩
  have q := hl i σ H hi p
  by_cases hlt : i < xs.length
  · refine .inr ⟨⟨xs, xs[i], q, by simp [hlt]⟩, Pv (i + 1), fun σ' H' p' => ⟨xs.length - (i + 1), by omega, rfl, hlt, p'⟩, fun x H' y => ?_⟩
    obtain ⟨e, y⟩ := y
    subst e
    exact hs i x σ _ (y xs q) p
  · have e : i = xs.length := by omega
    subst e
    exact .inl ⟨⟨xs, q, Nat.le_refl _⟩, hd σ H p⟩
theorem for_range {lo : Int} {n : Nat} {g : TG} {tb : TS} {D : Ends} {σ : St} {H : Hp} (Pv : Nat → St → Hp → Prop) (h0 : Pv 0 σ H)
    (hs : ∀ i σ H, i < n → Pv i σ H → g (.int (lo + i)) σ H fun σ2 H2 => tb { D with nx := Pv (i + 1), ct := Pv (i + 1), bk := D.nx } σ2 H2) (hd : ∀ σ H, Pv n σ H → D.nx σ H) :
    ∃ W : Nat → Nat → St → Hp → Prop, (∃ m, W 0 m σ H) ∧ ∀ i m σ H, W i m σ H →
      ((Itr lo n).stop i H ∧ D.nx σ H) ∨ ((Itr lo n).go i H ∧ ∃ N : St → Hp → Prop, (∀ σ' H', N σ' H' → ∃ m', m' < m ∧ W (i + 1) m' σ' H') ∧ ∀ x H', (Itr lo n).yld i H x H' → g x σ H' fun σ2 H2 => tb { D with nx := N, ct := N, bk := D.nx } σ2 H2) := by
  refine ⟨fun i m σ H => m = n - i ∧ i ≤ n ∧ Pv i σ H, ⟨n, by simp, Nat.zero_le _, h0⟩, ?_⟩
  rintro i m σ H ⟨rfl, hi, p⟩
  by_cases hlt : i < n
  · refine .inr ⟨hlt, Pv (i + 1), fun σ' H' p' => ⟨n - (i + 1), by omega, rfl, hlt, p'⟩, fun x H' y => ?_⟩
    obtain ⟨e, y⟩ := y
    subst e y
    exact hs i σ _ hlt p
  · have e : i = n := by omega
    subst e
    exact .inl ⟨Nat.le_refl _, hd σ H p⟩
/-- while, by a word and a measure of the state -/
theorem while_by {c : TT} {tb : TS} {D : Ends} {σ : St} {H : Hp} (Pv : St → Hp → Prop) (μ : St → Hp → Nat) (h0 : Pv σ H)
    (hs : ∀ σ H, Pv σ H → c σ H fun b H1 => if b = true then tb { D with nx := fun σ' H' => Pv σ' H' ∧ μ σ' H' < μ σ H, ct := fun σ' H' => Pv σ' H' ∧ μ σ' H' < μ σ H, bk := D.nx } σ H1 else D.nx σ H1)
    (mono : ∀ σ H Q Q', (∀ b H1, Q b H1 → Q' b H1) → c σ H Q → c σ H Q') : tWhile c tb D σ H := by
  refine ⟨fun m σ H => m = μ σ H ∧ Pv σ H, ⟨_, rfl, h0⟩, ?_⟩
  rintro m σ H ⟨rfl, p⟩
  refine mono σ H _ _ (fun b H1 q => ?_) (hs σ H p)
  cases b with
  | true => exact ⟨_, fun σ' H' ⟨p', l⟩ => ⟨_, l, rfl, p'⟩, q⟩
  | false => exact q
end L2

namespace L2
open PySem PySem.Spec PyProof.Rows

abbrev R2 := V → V → Hp → VK → Prop
/-- a two-place operation on values: f is binaryOp op, inplaceOp op or compareOp op -/
def OpR (X : Cx) (f : Value → Value → Sem Value) (r : R2) : Prop :=
  ∀ (pins : List (Addr × Obj)) (s : Shared) (σ : St) (H : Hp) (x y : V) (v u : Value) (Q : VK), Inv X pins σ H s → RelV x v → RelV y u → r x y H Q →
    wpAny (model X.prog X.w) X.A (f v u) (EP X pins σ Q) X.xe s
/-- a one-place operation -/
def UnR (X : Cx) (f : Value → Sem Value) (r : V → Hp → VK → Prop) : Prop :=
  ∀ (pins : List (Addr × Obj)) (s : Shared) (σ : St) (H : Hp) (x : V) (v : Value) (Q : VK), Inv X pins σ H s → RelV x v → r x H Q →
    wpAny (model X.prog X.w) X.A (f v) (EP X pins σ Q) X.xe s
/-- a call of a value that is known (a builtin, a type) with values -/
def CallR (X : Cx) (f : Value) (r : List V → Hp → VK → Prop) : Prop :=
  ∀ (pins : List (Addr × Obj)) (s : Shared) (σ : St) (H : Hp) (xs : List V) (us : List Value) (Q : VK), Inv X pins σ H s → Vals xs us → r xs H Q →
    wpAny (model X.prog X.w) X.A (call f us) (EP X pins σ Q) X.xe s
/-- a value's truth -/
def TruR (X : Cx) (r : V → Hp → (Bool → Hp → Prop) → Prop) : Prop :=
  ∀ (pins : List (Addr × Obj)) (s : Shared) (σ : St) (H : Hp) (x : V) (v : Value) (Q : Bool → Hp → Prop), Inv X pins σ H s → RelV x v → r x H Q →
    wpAny (model X.prog X.w) X.A (truthy v) (TP X pins σ Q) X.xe s

def tOp (r : R2) (ta tb : TE) : TE := fun σ H Q => ta σ H fun x H1 => tb σ H1 fun y H2 => r x y H2 Q
def tUn (r : V → Hp → VK → Prop) (ta : TE) : TE := fun σ H Q => ta σ H fun x H1 => r x H1 Q
/-- ints in, under C, and a value out -/
def rI (C : Int → Int → Prop) (g : Int → Int → V) : R2 := fun x y H Q => ∃ i j, x = .int i ∧ y = .int j ∧ C i j ∧ Q (g i j) H
def rI0 (g : Int → Int → V) : R2 := fun x y H Q => ∃ i j, x = .int i ∧ y = .int j ∧ Q (g i j) H
def rU (g : Int → V) : V → Hp → VK → Prop := fun x H Q => ∃ i, x = .int i ∧ Q (g i) H

section
variable {X : Cx} {a b c : Expr} {ta tb tc : TE} {pos : Pos}

theorem binT (ha : PE X a ta) (hb : PE X b tb) {pins : List (Addr × Obj)} {s : Shared} {σ : St} {H : Hp} {R : V → V → Hp → Prop} (I : Inv X pins σ H s)
    (h : ta σ H fun x H1 => tb σ H1 fun y H2 => R x y H2) {Q : Value → Shared → Prop} {f : Value → Value → Sem Value}
    (hf : ∀ v u s2 x y H2, Inv X pins σ H2 s2 → RelV x v → RelV y u → R x y H2 → wpAny (model X.prog X.w) X.A (f v u) Q X.xe s2) :
    wpAny (model X.prog X.w) X.A (eval a X.env) (fun v s₁ => wpAny (model X.prog X.w) X.A (eval b X.env) (fun u s₂ => wpAny (model X.prog X.w) X.A (f v u) Q X.xe s₂) X.xe s₁) X.xe s := by
  refine thn (ha pins s σ H _ I h) fun v s1 ⟨x, H1, I1, r1, q1⟩ => ?_
  refine thn (hb pins s1 σ H1 _ I1 q1) fun u s2 ⟨y, H2, I2, r2, q2⟩ => ?_
  exact hf v u s2 x y H2 I2 r1 r2 q2

theorem pe_op {op : Operator} {r : R2} (ho : OpR X (binaryOp op) r) (ha : PE X a ta) (hb : PE X b tb) : PE X (.BinOp a op b pos) (tOp r ta tb) := by
  intro pins s σ H Q I h
  exact wpAny_BinOp (binT ha hb I h fun v u s2 x y H2 I2 rx ry q => ho pins s2 σ H2 x y v u Q I2 rx ry q)
theorem pe_un {op : UnaryOp} {r : V → Hp → VK → Prop} (ho : UnR X (unaryOp op) r) (ha : PE X a ta) : PE X (.UnaryOp op a pos) (tUn r ta) := by
  intro pins s σ H Q I h
  exact UnaryOp_ (thn (ha pins s σ H _ I h) fun v s1 ⟨x, H1, I1, r1, q1⟩ => ho pins s1 σ H1 x v Q I1 r1 q1)
/-- a op= e at a name: the name's slot i -/
theorem augR {op : Operator} {r : R2} (ho : OpR X (inplaceOp op) r) {pins : List (Addr × Obj)} {s : Shared} {σ : St} {H : Hp} {x y : V} {v u : Value} {Q : VK} (I : Inv X pins σ H s)
    (rx : RelV x v) (ry : RelV y u) (q : r x y H Q) : wpAny (model X.prog X.w) X.A (inplaceOp op v u) (EP X pins σ Q) X.xe s := ho pins s σ H x y v u Q I rx ry q

/-! ### ints -/
theorem opI {f : Value → Value → Sem Value} {C : Int → Int → Prop} {g : Int → Int → Int}
    (rule : ∀ (i j : Int) (t u : Tok) (s : Shared) (Q : Value → Shared → Prop) (E : Value → Shared → Prop), C i j → Q (.int (g i j) s.toks) { s with toks := s.toks + 1 } → wpAny (model X.prog X.w) X.A (f (.int i t) (.int j u)) Q E s) :
    OpR X f (rI C fun i j => .int (g i j)) := by
  intro pins s σ H x y v u Q I rx ry h
  obtain ⟨i, j, rfl, rfl, hc, q⟩ := h
  obtain ⟨t, rfl⟩ := rx
  obtain ⟨t', rfl⟩ := ry
  exact rule i j t t' s _ _ hc ⟨.int (g i j), H, I.tok _, ⟨_, rfl⟩, q⟩
theorem opI0 {f : Value → Value → Sem Value} {g : Int → Int → Int}
    (rule : ∀ (i j : Int) (t u : Tok) (s : Shared) (Q : Value → Shared → Prop) (E : Value → Shared → Prop), Q (.int (g i j) s.toks) { s with toks := s.toks + 1 } → wpAny (model X.prog X.w) X.A (f (.int i t) (.int j u)) Q E s) :
    OpR X f (rI0 fun i j => .int (g i j)) := by
  intro pins s σ H x y v u Q I rx ry h
  obtain ⟨i, j, rfl, rfl, q⟩ := h
  obtain ⟨t, rfl⟩ := rx
  obtain ⟨t', rfl⟩ := ry
  exact rule i j t t' s _ _ ⟨.int (g i j), H, I.tok _, ⟨_, rfl⟩, q⟩
theorem opB0 {f : Value → Value → Sem Value} {g : Int → Int → Bool}
    (rule : ∀ (i j : Int) (t u : Tok) (s : Shared) (Q : Value → Shared → Prop) (E : Value → Shared → Prop), Q (.bool (g i j)) s → wpAny (model X.prog X.w) X.A (f (.int i t) (.int j u)) Q E s) :
    OpR X f (rI0 fun i j => .bl (g i j)) := by
  intro pins s σ H x y v u Q I rx ry h
  obtain ⟨i, j, rfl, rfl, q⟩ := h
  obtain ⟨t, rfl⟩ := rx
  obtain ⟨t', rfl⟩ := ry
  exact rule i j t t' s _ _ ⟨.bl (g i j), H, I, rfl, q⟩

def CDiv (i j : Int) : Prop := 0 < j ∧ j < 1073741824
def CDivN (i j : Int) : Prop := j ≠ 0 ∧ j.natAbs < 1073741824
def CPow (i j : Int) : Prop := 0 ≤ j ∧ j ≤ 1000000 ∧ i.natAbs < 2 ^ 64
def CMul (i j : Int) : Prop := (-(2 ^ 64) < i ∧ i < 2 ^ 64) ∨ (-(2 ^ 64) < j ∧ j < 2 ^ 64)
theorem CMul.ok {i j : Int} (h : CMul i j) : IntMulOk i j := by
  rcases h with ⟨h1, h2⟩ | ⟨h1, h2⟩
  · exact .of_left (intBits_le_64 h1 h2)
  · exact .of_right (intBits_le_64 h1 h2)
theorem two_pow_nn (k : Nat) : (0 : Int) ≤ 2 ^ k := by
  rw [two_pow_cast]
  exact Int.natCast_nonneg _

theorem op_add : OpR X (binaryOp .Add) (rI0 fun i j => .int (i + j)) := opI0 fun _ _ _ _ _ _ _ q => add_int q
theorem op_sub : OpR X (binaryOp .Sub) (rI0 fun i j => .int (i - j)) := opI0 fun _ _ _ _ _ _ _ q => sub_int q
theorem op_mul : OpR X (binaryOp .Mult) (rI CMul fun i j => .int (i * j)) := opI fun _ _ _ _ _ _ _ hc q => mul_int q hc.ok
/-- // by a positive divisor -/
theorem op_fdiv : OpR X (binaryOp .FloorDiv) (rI CDiv fun i j => .int (i / j)) := opI fun i j _ _ _ _ _ hc q => by
  have h1 : (0 : Int) < j := hc.1
  have h2 : j < 1073741824 := hc.2
  exact floordiv_int (by omega) (by rw [Int.fdiv_eq_ediv_of_nonneg i (by omega)]; exact q) (.inl (PyProof.noPylong_small (by omega)))
theorem op_fdivN : OpR X (binaryOp .FloorDiv) (rI CDivN fun i j => .int (i.fdiv j)) := opI fun _ _ _ _ _ _ _ hc q => floordiv_int hc.1 q (.inl (PyProof.noPylong_small hc.2))
/-- % by a positive divisor of any size -/
theorem op_mod : OpR X (binaryOp .Mod) (rI (fun _ j => 0 < j) fun i j => .int (i % j)) := opI fun i j _ _ _ _ _ hc q => by
  have h1 : (0 : Int) < j := hc
  exact mod_int' (by omega) (by rw [Int.fmod_eq_emod_of_nonneg i (by omega)]; exact q)
theorem op_modN : OpR X (binaryOp .Mod) (rI (fun _ j => j ≠ 0) fun i j => .int (i.fmod j)) := opI fun _ _ _ _ _ _ _ hc q => mod_int' hc q
theorem op_pow : OpR X (binaryOp .Pow) (rI CPow fun i j => .int (i ^ j.toNat)) := opI fun _ _ _ _ _ _ _ hc q => pow_int_small hc.1 hc.2.1 hc.2.2 q
theorem op_shl : OpR X (binaryOp .LShift) (rI CPow fun i j => .int (i * 2 ^ j.toNat)) := opI fun _ _ _ _ _ _ _ hc q => lshift_int_small hc.1 hc.2.1 hc.2.2 q
theorem op_shr : OpR X (binaryOp .RShift) (rI (fun _ j => 0 ≤ j) fun i j => .int (i / 2 ^ j.toNat)) := opI fun i j _ _ _ _ _ hc q =>
  rshift_int hc (by rw [Int.fdiv_eq_ediv_of_nonneg i (two_pow_nn _)]; exact q)
theorem op_and : OpR X (binaryOp .BitAnd) (rI0 fun i j => .int (Builtin.bitAnd i j)) := opI0 fun _ _ _ _ _ _ _ q => and_int q
theorem op_or : OpR X (binaryOp .BitOr) (rI0 fun i j => .int (Builtin.bitOr i j)) := opI0 fun _ _ _ _ _ _ _ q => or_int q
theorem op_xor : OpR X (binaryOp .BitXor) (rI0 fun i j => .int (Builtin.bitXor i j)) := opI0 fun _ _ _ _ _ _ _ q => xor_int q

theorem iop_add : OpR X (inplaceOp .Add) (rI0 fun i j => .int (i + j)) := opI0 fun _ _ _ _ _ _ _ q => iadd_int q
theorem iop_sub : OpR X (inplaceOp .Sub) (rI0 fun i j => .int (i - j)) := opI0 fun _ _ _ _ _ _ _ q => isub_int q
theorem iop_mul : OpR X (inplaceOp .Mult) (rI CMul fun i j => .int (i * j)) := opI fun _ _ _ _ _ _ _ hc q => imul_int q hc.ok
theorem iop_fdiv : OpR X (inplaceOp .FloorDiv) (rI CDiv fun i j => .int (i / j)) := opI fun i j _ _ _ _ _ hc q => by
  have h1 : (0 : Int) < j := hc.1
  have h2 : j < 1073741824 := hc.2
  exact ifloordiv_int (by omega) (by rw [Int.fdiv_eq_ediv_of_nonneg i (by omega)]; exact q) (.inl (PyProof.noPylong_small (by omega)))
theorem iop_mod : OpR X (inplaceOp .Mod) (rI (fun _ j => 0 < j) fun i j => .int (i % j)) := opI fun i j _ _ _ _ _ hc q => by
  have h1 : (0 : Int) < j := hc
  exact imod_int (by omega) (by rw [Int.fmod_eq_emod_of_nonneg i (by omega)]; exact q)
theorem iop_shl : OpR X (inplaceOp .LShift) (rI CPow fun i j => .int (i * 2 ^ j.toNat)) := opI fun _ _ _ _ _ _ _ hc q => ilshift_int_small hc.1 hc.2.1 hc.2.2 q
theorem iop_shr : OpR X (inplaceOp .RShift) (rI (fun _ j => 0 ≤ j) fun i j => .int (i / 2 ^ j.toNat)) := opI fun i j _ _ _ _ _ hc q =>
  irshift_int hc (by rw [Int.fdiv_eq_ediv_of_nonneg i (two_pow_nn _)]; exact q)
theorem iop_and : OpR X (inplaceOp .BitAnd) (rI0 fun i j => .int (Builtin.bitAnd i j)) := opI0 fun _ _ _ _ _ _ _ q => iand_int q
theorem iop_or : OpR X (inplaceOp .BitOr) (rI0 fun i j => .int (Builtin.bitOr i j)) := opI0 fun _ _ _ _ _ _ _ q => ior_int q
theorem iop_xor : OpR X (inplaceOp .BitXor) (rI0 fun i j => .int (Builtin.bitXor i j)) := opI0 fun _ _ _ _ _ _ _ q => ixor_int q

theorem unI {f : Value → Sem Value} {g : Int → Int}
    (rule : ∀ (i : Int) (t : Tok) (s : Shared) (Q : Value → Shared → Prop) (E : Value → Shared → Prop), Q (.int (g i) s.toks) { s with toks := s.toks + 1 } → wpAny (model X.prog X.w) X.A (f (.int i t)) Q E s) :
    UnR X f (rU fun i => .int (g i)) := by
  intro pins s σ H x v Q I rx h
  obtain ⟨i, rfl, q⟩ := h
  obtain ⟨t, rfl⟩ := rx
  exact rule i t s _ _ ⟨.int (g i), H, I.tok _, ⟨_, rfl⟩, q⟩
theorem un_neg : UnR X (unaryOp .USub) (rU fun i => .int (-i)) := unI fun _ _ _ _ _ q => neg_int q
theorem un_inv : UnR X (unaryOp .Invert) (rU fun i => .int (Builtin.bitNot i)) := unI fun _ _ _ _ _ q => invert_int q

/-! ### bools among ints: n += (a < b) -/
theorem op_add_ib : OpR X (binaryOp .Add) (fun x y H Q => ∃ i k, x = .int i ∧ y = .bl k ∧ Q (.int (i + b2i k)) H) := by
  intro pins s σ H x y v u Q I rx ry h
  obtain ⟨i, k, rfl, rfl, q⟩ := h
  obtain ⟨t, rfl⟩ := rx
  cases ry
  exact add_int_bool ⟨.int (i + b2i k), H, I.tok _, ⟨_, rfl⟩, q⟩
end

/-! ### comparisons -/
/-- the scalars that == tells apart as data does -/
def scal : V → V → Bool
  | .non, .non => true | .non, .int _ => true | .int _, .non => true | .non, .bl _ => true | .bl _, .non => true | .non, .str _ => true | .str _, .non => true
  | .int _, .int _ => true | .bl _, .bl _ => true | .str _, .str _ => true | .byt _, .byt _ => true
  | .int _, .str _ => true | .str _, .int _ => true | .bl _, .str _ => true | .str _, .bl _ => true
  | _, _ => false
def rEq : R2 := fun x y H Q => scal x y = true ∧ Q (.bl (decide (x = y))) H
def rNe : R2 := fun x y H Q => scal x y = true ∧ Q (.bl (!decide (x = y))) H

theorem dec_int {i j : Int} : decide (V.int i = V.int j) = (i == j) := by
  rw [Bool.eq_iff_iff]
  simp
theorem dec_bl {i j : Bool} : decide (V.bl i = V.bl j) = (i == j) := by
  rw [Bool.eq_iff_iff]
  simp
theorem dec_str {i j : Str} : decide (V.str i = V.str j) = (i == j) := by
  rw [Bool.eq_iff_iff]
  simp
theorem dec_byt {i j : Array UInt8} : decide (V.byt i = V.byt j) = (i.toList == j.toList) := by
  rw [Bool.eq_iff_iff]
  cases i
  cases j
  simp

section
variable {X : Cx} {a b c : Expr} {ta tb tc : TE} {pos : Pos}
theorem fin_bl {pins : List (Addr × Obj)} {σ : St} {H : Hp} {s : Shared} {Q : VK} {k k' : Bool} (I : Inv X pins σ H s) (q : Q (.bl k) H) (e : k = k') : EP X pins σ Q (.bool k') s := by
  subst e
  exact ⟨.bl k, H, I, rfl, q⟩
theorem op_eq : OpR X (compareOp .Eq) rEq := by
  intro pins s σ H x y v u Q I rx ry h
  obtain ⟨hs, q⟩ := h
  cases x with
  | non =>
    cases rx
    cases y with
    | non => cases ry; exact PySem.EqNone.eq_none_none (fin_bl I q (by simp))
    | bl j => cases ry; exact PySem.EqNone.eq_none_bool (fin_bl I q (by simp))
    | int j => obtain ⟨t', rfl⟩ := ry; exact PySem.EqNone.eq_none_int (fin_bl I q (by simp))
    | str j => obtain ⟨t', rfl⟩ := ry; exact PySem.EqNone.eq_none_str (fin_bl I q (by simp))
    | _ => exact absurd (show false = true from hs) Bool.false_ne_true
  | bl i =>
    cases rx
    cases y with
    | non => cases ry; exact PySem.EqNone.eq_bool_none (fin_bl I q (by simp))
    | bl j => cases ry; exact eq_bool (fin_bl I q dec_bl)
    | str j => obtain ⟨t', rfl⟩ := ry; exact PySem.EqMixed.eq_bool_str (fin_bl I q (by simp))
    | _ => exact absurd (show false = true from hs) Bool.false_ne_true
  | int i =>
    obtain ⟨t, rfl⟩ := rx
    cases y with
    | non => cases ry; exact PySem.EqNone.eq_int_none (fin_bl I q (by simp))
    | int j => obtain ⟨t', rfl⟩ := ry; exact eq_int (fin_bl I q dec_int)
    | str j => obtain ⟨t', rfl⟩ := ry; exact PySem.EqMixed.eq_int_str (fin_bl I q (by simp))
    | _ => exact absurd (show false = true from hs) Bool.false_ne_true
  | str i =>
    obtain ⟨t, rfl⟩ := rx
    cases y with
    | non => cases ry; exact PySem.EqNone.eq_str_none (fin_bl I q (by simp))
    | bl j => cases ry; exact PySem.EqMixed.eq_str_bool (fin_bl I q (by simp))
    | int j => obtain ⟨t', rfl⟩ := ry; exact PySem.EqMixed.eq_str_int (fin_bl I q (by simp))
    | str j => obtain ⟨t', rfl⟩ := ry; exact eq_str (fin_bl I q dec_str)
    | _ => exact absurd (show false = true from hs) Bool.false_ne_true
  | byt i =>
    obtain ⟨t, rfl⟩ := rx
    cases y with
    | byt j => obtain ⟨t', rfl⟩ := ry; exact PySem.W.eq_bytes (fin_bl I q dec_byt)
    | _ => exact absurd (show false = true from hs) Bool.false_ne_true
  | _ => cases y <;> exact absurd (show false = true from hs) Bool.false_ne_true
theorem op_ne : OpR X (compareOp .NotEq) rNe := by
  intro pins s σ H x y v u Q I rx ry h
  obtain ⟨hs, q⟩ := h
  cases x with
  | non =>
    cases rx
    cases y with
    | non => cases ry; exact PySem.EqNone.ne_none_none (fin_bl I q (by simp))
    | bl j => cases ry; exact PySem.EqNone.ne_none_bool (fin_bl I q (by simp))
    | int j => obtain ⟨t', rfl⟩ := ry; exact PySem.EqNone.ne_none_int (fin_bl I q (by simp))
    | str j => obtain ⟨t', rfl⟩ := ry; exact PySem.EqNone.ne_none_str (fin_bl I q (by simp))
    | _ => exact absurd (show false = true from hs) Bool.false_ne_true
  | bl i =>
    cases rx
    cases y with
    | non => cases ry; exact PySem.EqNone.ne_bool_none (fin_bl I q (by simp))
    | bl j => cases ry; exact ne_bool (fin_bl I q (congrArg not dec_bl))
    | str j => obtain ⟨t', rfl⟩ := ry; exact PySem.EqMixed.ne_bool_str (fin_bl I q (by simp))
    | _ => exact absurd (show false = true from hs) Bool.false_ne_true
  | int i =>
    obtain ⟨t, rfl⟩ := rx
    cases y with
    | non => cases ry; exact PySem.EqNone.ne_int_none (fin_bl I q (by simp))
    | int j => obtain ⟨t', rfl⟩ := ry; exact ne_int (fin_bl I q (congrArg not dec_int))
    | str j => obtain ⟨t', rfl⟩ := ry; exact PySem.EqMixed.ne_int_str (fin_bl I q (by simp))
    | _ => exact absurd (show false = true from hs) Bool.false_ne_true
  | str i =>
    obtain ⟨t, rfl⟩ := rx
    cases y with
    | non => cases ry; exact PySem.EqNone.ne_str_none (fin_bl I q (by simp))
    | bl j => cases ry; exact PySem.EqMixed.ne_str_bool (fin_bl I q (by simp))
    | int j => obtain ⟨t', rfl⟩ := ry; exact PySem.EqMixed.ne_str_int (fin_bl I q (by simp))
    | str j => obtain ⟨t', rfl⟩ := ry; exact ne_str (fin_bl I q (congrArg not dec_str))
    | _ => exact absurd (show false = true from hs) Bool.false_ne_true
  | byt i =>
    obtain ⟨t, rfl⟩ := rx
    cases y with
    | byt j => obtain ⟨t', rfl⟩ := ry; exact PySem.W.ne_bytes (fin_bl I q (congrArg not dec_byt))
    | _ => exact absurd (show false = true from hs) Bool.false_ne_true
  | _ => cases y <;> exact absurd (show false = true from hs) Bool.false_ne_true

theorem op_lt : OpR X (compareOp .Lt) (rI0 fun i j => .bl (decide (i < j))) := opB0 fun _ _ _ _ _ _ _ q => lt_int q
theorem op_le : OpR X (compareOp .LtE) (rI0 fun i j => .bl (decide (i ≤ j))) := opB0 fun _ _ _ _ _ _ _ q => le_int q
theorem op_gt : OpR X (compareOp .Gt) (rI0 fun i j => .bl (decide (j < i))) := opB0 fun _ _ _ _ _ _ _ q => gt_int q
theorem op_ge : OpR X (compareOp .GtE) (rI0 fun i j => .bl (decide (j ≤ i))) := opB0 fun _ _ _ _ _ _ _ q => ge_int q
theorem op_lt_str : OpR X (compareOp .Lt) (fun x y H Q => ∃ i j, x = .str i ∧ y = .str j ∧ Q (.bl (decide (i.cps.toList < j.cps.toList))) H) := by
  intro pins s σ H x y v u Q I rx ry h
  obtain ⟨i, j, rfl, rfl, q⟩ := h
  obtain ⟨t, rfl⟩ := rx
  obtain ⟨t', rfl⟩ := ry
  exact lt_str (fin_bl I q rfl)
/-- the one string within the other -/
theorem op_in_str : OpR X (compareOp .In) (fun x y H Q => ∃ i j, x = .str i ∧ y = .str j ∧ Q (.bl (!(Builtin.Str.occurrences j i 0 j.length 1).isEmpty)) H) := by
  intro pins s σ H x y v u Q I rx ry h
  obtain ⟨i, j, rfl, rfl, q⟩ := h
  obtain ⟨t, rfl⟩ := rx
  obtain ⟨t', rfl⟩ := ry
  exact in_str (fin_bl I q rfl)

/-- is None, is not None: the right side a value none -/
theorem op_isN : OpR X (compareOp .Is) (fun x y H Q => y = .non ∧ Q (.bl (decide (x = .non))) H) := by
  intro pins s σ H x y v u Q I rx ry h
  obtain ⟨rfl, q⟩ := h
  cases ry
  refine is_none_gen (fin_bl I q ?_)
  cases x <;> first
    | (cases rx; rfl)
    | (obtain ⟨t, rfl⟩ := rx; rfl)
theorem op_notN : OpR X (compareOp .IsNot) (fun x y H Q => y = .non ∧ Q (.bl (!decide (x = .non))) H) := by
  intro pins s σ H x y v u Q I rx ry h
  obtain ⟨rfl, q⟩ := h
  cases ry
  refine isnot_none_gen (fin_bl I q ?_)
  cases x <;> first
    | (cases rx; rfl)
    | (obtain ⟨t, rfl⟩ := rx; rfl)

theorem op_notin_str : OpR X (compareOp .NotIn) (fun x y H Q => ∃ i j, x = .str i ∧ y = .str j ∧ Q (.bl (!(!(Builtin.Str.occurrences j i 0 j.length 1).isEmpty))) H) := by
  intro pins s σ H x y v u Q I rx ry h
  obtain ⟨i, j, rfl, rfl, q⟩ := h
  obtain ⟨t, rfl⟩ := rx
  obtain ⟨t', rfl⟩ := ry
  exact notIn_str (fin_bl I q rfl)
/-- is, is not of two objects that are tracked lists or instances -/
def isObj : HO → Bool
  | .lst _ => true
  | .ins _ _ _ => true
  | _ => false
theorem obj_there {pins : List (Addr × Obj)} {s : Shared} {σ : St} {H : Hp} {a : Addr} {o : HO} (I : Inv X pins σ H s) (h : H a = some o) (p : isObj o = true) : ∃ ob, s.heap.get? a = some ob ∧ ob.cls ≠ .type "tuple" := by
  cases o with
  | lst xs =>
    obtain ⟨_, its, n, _, e⟩ : xs.length ≤ sizeLine ∧ ∃ (its : List Value) (n : Nat), Vals xs its ∧ s.heap.get? a = some { cls := .type "list", data := .seq its.toArray n } := I.hok a _ h
    exact ⟨_, e, (by show Value.type "list" ≠ .type "tuple"; decide +kernel)⟩
  | ins C dx fs =>
    have x := I.hok a _ h
    obtain ⟨_, _, _, e, _⟩ := x
    exact ⟨_, e, (by show Value.ref C ≠ .type "tuple"; exact fun z => by cases z)⟩
  | _ => exact absurd (show false = true from p) Bool.false_ne_true
theorem op_is_ref : OpR X (compareOp .Is) (fun x y H Q => ∃ a b oa ob, x = .ref a ∧ y = .ref b ∧ H a = some oa ∧ isObj oa = true ∧ H b = some ob ∧ isObj ob = true ∧ Q (.bl (decide (a = b))) H) := by
  intro pins s σ H x y v u Q I rx ry h
  obtain ⟨a, b, oa, ob, rfl, rfl, ha, pa, hb, pb, q⟩ := h
  cases rx
  cases ry
  obtain ⟨o1, e1, n1⟩ := obj_there I ha pa
  obtain ⟨o2, e2, _⟩ := obj_there I hb pb
  by_cases z : a = b
  · subst z
    exact wpAny_is_ref_self (fin_bl I q (by simp))
  · exact wpAny_is_ref_other z e1 e2 n1 (fin_bl I q (by simp [z]))
theorem op_isnot_ref : OpR X (compareOp .IsNot) (fun x y H Q => ∃ a b oa ob, x = .ref a ∧ y = .ref b ∧ H a = some oa ∧ isObj oa = true ∧ H b = some ob ∧ isObj ob = true ∧ Q (.bl (!decide (a = b))) H) := by
  intro pins s σ H x y v u Q I rx ry h
  obtain ⟨a, b, oa, ob, rfl, rfl, ha, pa, hb, pb, q⟩ := h
  cases rx
  cases ry
  obtain ⟨o1, e1, n1⟩ := obj_there I ha pa
  obtain ⟨o2, e2, _⟩ := obj_there I hb pb
  by_cases z : a = b
  · subst z
    exact wpAny_isNot_ref_self (fin_bl I q (by simp))
  · exact wpAny_isNot_ref_other z e1 e2 n1 (fin_bl I q (by simp [z]))

/-- two rules for one operation: by cases -/
theorem OpR.or {f : Value → Value → Sem Value} {r r' : R2} (h : OpR X f r) (h' : OpR X f r') : OpR X f (fun x y H Q => r x y H Q ∨ r' x y H Q) := by
  intro pins s σ H x y v u Q I rx ry q
  rcases q with q | q
  · exact h pins s σ H x y v u Q I rx ry q
  · exact h' pins s σ H x y v u Q I rx ry q

theorem nomark (b : Expr) {op : CmpOp} (h : op ≠ .In := by decide) (h2 : op ≠ .NotIn := by decide) : behindInMarks op b = false := by
  have e1 : (op == CmpOp.In) = false := by cases op <;> first | rfl | exact absurd rfl h
  have e2 : (op == CmpOp.NotIn) = false := by cases op <;> first | rfl | exact absurd rfl h2
  cases b <;> simp [behindInMarks, e1, e2]
/-- a comparison as a value; hm: nomark b, or (for in, not in) by with_unfolding_all rfl -/
theorem pe_cmpR {op : CmpOp} {r : R2} (ho : OpR X (compareOp op) r) (ha : PE X a ta) (hb : PE X b tb) (hm : behindInMarks op b = false) : PE X (.Compare a [op] [b] pos) (tOp r ta tb) := by
  intro pins s σ H Q I h
  exact wpAny_Compare1 (binT ha hb I h fun v u s2 x y H2 I2 rx ry q => ho pins s2 σ H2 x y v u Q I2 rx ry q) hm
/-- a reading of a value as a test -/
def tTest (t : TE) : TT := fun σ H Q => t σ H fun x H' => ∃ k, x = .bl k ∧ Q k H'
theorem pt_cmpR {op : CmpOp} {r : R2} (ho : OpR X (compareOp op) r) (ha : PE X a ta) (hb : PE X b tb) (hm : behindInMarks op b = false) : PT X (.Compare a [op] [b] pos) (tTest (tOp r ta tb)) := by
  intro pins s σ H Q I h
  refine wpAny_isTrue_Compare1 (thn (ha pins s σ H _ I h) fun v s1 ⟨x, H1, I1, r1, q1⟩ => thn (hb pins s1 σ H1 _ I1 q1) fun u s2 ⟨y, H2, I2, r2, q2⟩ =>
    thn (ho pins s2 σ H2 x y v u _ I2 r1 r2 q2) fun c s3 ⟨z, H3, I3, r3, k, e, q3⟩ => ?_) hm
  subst e
  cases r3
  exact wpAny_truthy_bool ⟨H3, I3, q3⟩
/-- a op1 b op2 c -/
def tChain (r r' : R2) (ta tb tc : TE) : TE := fun σ H Q => ta σ H fun x H1 => tb σ H1 fun y H2 => r x y H2 fun z H3 => ∃ k, z = .bl k ∧
  (if k = true then tc σ H3 fun w' H4 => r' y w' H4 Q else Q (.bl false) H3)
theorem pe_chain {op op' : CmpOp} {r r' : R2} (ho : OpR X (compareOp op) r) (ho' : OpR X (compareOp op') r') (ha : PE X a ta) (hb : PE X b tb) (hc : PE X c tc)
    (hm : lastMarks [op, op'] [b, c] = false := by with_unfolding_all rfl) : PE X (.Compare a [op, op'] [b, c] pos) (tChain r r' ta tb tc) := by
  intro pins s σ H Q I h
  refine Compare_chain (thn (ha pins s σ H _ I h) fun v s1 ⟨x, H1, I1, r1, q1⟩ => chain_link (thn (hb pins s1 σ H1 _ I1 q1) fun u s2 ⟨y, H2, I2, r2, q2⟩ =>
    thn (ho pins s2 σ H2 x y v u _ I2 r1 r2 q2) fun d s3 ⟨z, H3, I3, r3, k, e, q3⟩ => ?_)) hm
  subst e
  cases r3
  refine wpAny_truthy_bool ?_
  cases k with
  | false => exact ite_ff ⟨.bl false, H3, I3, rfl, q3⟩
  | true => exact ite_tt (chain_last (thn (hc pins s3 σ H3 _ I3 q3) fun w' s4 ⟨z', H4, I4, r4, q4⟩ => ho' pins s4 σ H4 y z' u w' Q I4 r2 r4 q4))
theorem pt_chain {op op' : CmpOp} {r r' : R2} (ho : OpR X (compareOp op) r) (ho' : OpR X (compareOp op') r') (ha : PE X a ta) (hb : PE X b tb) (hc : PE X c tc)
    (hm : lastMarks [op, op'] [b, c] = false := by with_unfolding_all rfl) : PT X (.Compare a [op, op'] [b, c] pos) (tTest (tChain r r' ta tb tc)) := by
  intro pins s σ H Q I h
  refine isTrue_chain (thn (ha pins s σ H _ I h) fun v s1 ⟨x, H1, I1, r1, q1⟩ => test_link (thn (hb pins s1 σ H1 _ I1 q1) fun u s2 ⟨y, H2, I2, r2, q2⟩ =>
    thn (ho pins s2 σ H2 x y v u _ I2 r1 r2 q2) fun d s3 ⟨z, H3, I3, r3, k, e, q3⟩ => ?_)) hm
  subst e
  cases r3
  refine wpAny_truthy_bool ?_
  cases k with
  | false =>
    obtain ⟨k', e', q'⟩ := q3
    cases e'
    exact ite_ff ⟨H3, I3, q'⟩
  | true =>
    refine ite_tt (test_last (thn (hc pins s3 σ H3 _ I3 q3) fun w' s4 ⟨z', H4, I4, r4, q4⟩ => thn (ho' pins s4 σ H4 y z' u w' _ I4 r2 r4 q4) fun d' s5 ⟨z2, H5, I5, r5, k2, e2, q5⟩ => ?_))
    subst e2
    cases r5
    exact wpAny_truthy_bool ⟨H5, I5, q5⟩

/-! ### truth -/
/-- a value's truth by the abstract heap -/
def TruV (K : PySem.W.Frag) (x : V) (H : Hp) (k : Bool) : Prop :=
  match x with
  | .non => k = false
  | .bl b => k = b
  | .int i => k = (i != 0)
  | .str y => y.length ≤ sizeLine ∧ k = ((y.length : Int) != 0)
  | .byt y => y.size ≤ sizeLine ∧ k = ((y.size : Int) != 0)
  | .ref p => (∃ xs, SqL K H p xs ∧ k = !xs.isEmpty) ∨ (∃ xs, SqT K H p xs ∧ k = !xs.isEmpty) ∨ ∃ kvs, H p = some (.dK kvs) ∧ k = !kvs.isEmpty
  | _ => False
theorem isEmpty_kv {κ : Type} {kvs : List (κ × V)} {vs : List (κ × Value)} (r : KV kvs vs) : (!vs.isEmpty) = !kvs.isEmpty := by
  cases r <;> rfl
theorem isEmpty_of {xs : List V} {its : List Value} (r : Vals xs its) : (!its.toArray.isEmpty) = !xs.isEmpty := by
  cases r <;> simp
theorem line63 : (sizeLine : Nat) < 2 ^ 63 := by rw [sizeLine_eq]; decide
theorem tru_ok : TruR X (fun x H Q => ∃ k, TruV X.K x H k ∧ Q k H) := by
  intro pins s σ H x v Q I rx h
  obtain ⟨k, e, q⟩ := h
  have hl := line63
  have hs : sizeLine = 16777216 := sizeLine_eq
  cases x with
  | non =>
    cases rx
    have e' : k = false := e
    subst e'
    exact truthy_none ⟨H, I, q⟩
  | bl b =>
    cases rx
    have e' : k = b := e
    subst e'
    exact wpAny_truthy_bool ⟨H, I, q⟩
  | int i =>
    obtain ⟨t, rfl⟩ := rx
    have e' : k = (i != 0) := e
    subst e'
    exact PySem.P.truthy_int ⟨H, I, q⟩
  | str y =>
    obtain ⟨t, rfl⟩ := rx
    obtain ⟨hy, e'⟩ : y.length ≤ sizeLine ∧ k = ((y.length : Int) != 0) := e
    subst e'
    exact PySem.P.truthy_str (by omega) ⟨H, I.tok _, q⟩
  | byt y =>
    obtain ⟨t, rfl⟩ := rx
    obtain ⟨hy, e'⟩ : y.size ≤ sizeLine ∧ k = ((y.size : Int) != 0) := e
    subst e'
    exact PySem.W.truthy_bytes (by omega) ⟨H, I.tok _, q⟩
  | ref p =>
    cases rx
    have e' : (∃ xs, SqL X.K H p xs ∧ k = !xs.isEmpty) ∨ (∃ xs, SqT X.K H p xs ∧ k = !xs.isEmpty) ∨ ∃ kvs, H p = some (.dK kvs) ∧ k = !kvs.isEmpty := e
    rcases e' with ⟨xs, hx, e'⟩ | ⟨xs, hx, e'⟩ | ⟨kvs, hx, e'⟩
    · subst e'
      obtain ⟨its, r, pl, hz⟩ := I.list hx
      have hlen := r.length
      exact wpAny_truthy_list pl.isList (by simp only [List.size_toArray]; omega) ⟨H, I.tok _, by rw [isEmpty_of r]; exact q⟩
    · subst e'
      obtain ⟨its, r, pl, hz⟩ := I.tuple hx
      have hlen := r.length
      exact truthy_tuple pl (by simp only [List.size_toArray]; omega) ⟨H, I.tok _, by rw [isEmpty_of r]; exact q⟩
    · subst e'
      obtain ⟨hz, hS, vs, r, m⟩ : kvs.length ≤ sizeLine ∧ (p == sysModules) = false ∧ ∃ vs, KV kvs vs ∧ s.heap.DictOf (mixKind X.prog X.w) p vs := I.hok p _ hx
      have hlen : kvs.length = vs.length := Paired.length r
      exact wpAny_truthy_dict hS m (by omega) ⟨H, I.tok _, by rw [isEmpty_kv r]; exact q⟩
  | _ => exact (show False from e).elim
/-- any expression whose test is its value's truth (a name, a call, a subscript, a field ..: he by fun _ => rfl) -/
theorem pt_truth (ha : PE X a ta) (he : ∀ whole, isTrue a X.env whole = (do let v ← whole; standAt a.pos; holding [v] (truthy v))) :
    PT X a (fun σ H Q => ta σ H fun x H' => ∃ k, TruV X.K x H' k ∧ Q k H') := by
  intro pins s σ H Q I h
  exact isTrue_plain (thn (ha pins s σ H _ I h) fun v s1 ⟨x, H1, I1, r1, q1⟩ => tru_ok pins s1 σ H1 x v Q I1 r1 q1) (he _)

/-! ### strs and bytes -/
theorem pe_byt {x : List UInt8} {k : Nat} : PE X (.Constant (.bytes x) k pos) (fun _ H Q => Q (.byt x.toArray) H) := fun _ _ _ H _ I h => PySem.W.Constant_bytes ⟨.byt x.toArray, H, I.tok _, ⟨_, rfl⟩, h⟩
theorem op_add_str : OpR X (binaryOp .Add) (fun x y H Q => ∃ i j, x = .str i ∧ y = .str j ∧ i.length + j.length ≤ sizeLine ∧ Q (.str (i ++ j)) H) := by
  intro pins s σ H x y v u Q I rx ry h
  obtain ⟨i, j, rfl, rfl, hz, q⟩ := h
  obtain ⟨t, rfl⟩ := rx
  obtain ⟨t', rfl⟩ := ry
  exact add_str (fun t' tk => ⟨.str (i ++ j), H, I.tok _, ⟨_, rfl⟩, q⟩) hz
theorem iop_add_str : OpR X (inplaceOp .Add) (fun x y H Q => ∃ i j, x = .str i ∧ y = .str j ∧ i.length + j.length ≤ sizeLine ∧ Q (.str (i ++ j)) H) := by
  intro pins s σ H x y v u Q I rx ry h
  obtain ⟨i, j, rfl, rfl, hz, q⟩ := h
  obtain ⟨t, rfl⟩ := rx
  obtain ⟨t', rfl⟩ := ry
  exact iadd_str (fun t' tk => ⟨.str (i ++ j), H, I.tok _, ⟨_, rfl⟩, q⟩) hz
theorem op_add_byt : OpR X (binaryOp .Add) (fun x y H Q => ∃ i j, x = .byt i ∧ y = .byt j ∧ i.size + j.size ≤ 16777216 ∧ Q (.byt (i ++ j)) H) := by
  intro pins s σ H x y v u Q I rx ry h
  obtain ⟨i, j, rfl, rfl, hz, q⟩ := h
  obtain ⟨t, rfl⟩ := rx
  obtain ⟨t', rfl⟩ := ry
  exact PySem.W.KBy.add_bytes hz (fun t' tk => ⟨.byt (i ++ j), H, I.tok _, ⟨_, rfl⟩, q⟩)

def PlainIxT (b : Expr) : Prop := ∀ o i, subscripted b false o i = operate [o, i] (getItem o i)
/-- s[i], 0 ≤ i < len -/
theorem pe_item_str (ha : PE X a ta) (hb : PE X b tb) (hs : PlainIxT b) :
    PE X (.Subscript a b pos) (tOp (fun x y H Q => ∃ z i c, x = .str z ∧ y = .int i ∧ 0 ≤ i ∧ i < 2 ^ 63 ∧ i < z.length ∧ z.cps[i.toNat]? = some c ∧ Q (.str ⟨#[c]⟩) H) ta tb) := by
  intro pins s σ H Q I h
  refine Subscript_ (binT ha hb I h fun v u s2 x y H2 I2 rx ry q => ?_)
  obtain ⟨z, i, c, rfl, rfl, h0, h63, h1, hc, q⟩ := q
  obtain ⟨t, rfl⟩ := rx
  obtain ⟨t', rfl⟩ := ry
  have e : seqIndex? i z.length = some i.toNat := PySem.StrLaws.seqIndex_nonneg h0 h1
  exact tail_any (typeIs_str s2 z t) slot_str_getitem.lookup (getItem_str (c := c) (by
    have e1 : decide (i < -(2 ^ 63 : Int)) = false := decide_eq_false (by omega)
    have e2 : decide (i ≥ 2 ^ 63) = false := decide_eq_false (by omega)
    rw [e1, e2] <;> rfl) (by rw [e]; exact hc) ⟨.str ⟨#[c]⟩, H2, I2.tok _, ⟨_, rfl⟩, q⟩) (hs _ _)
/-- b[i], 0 ≤ i < len -/
theorem pe_item_byt (ha : PE X a ta) (hb : PE X b tb) (hs : PlainIxT b) :
    PE X (.Subscript a b pos) (tOp (fun x y H Q => ∃ (z : List UInt8) (i : Int), x = .byt z.toArray ∧ y = .int i ∧ z.length ≤ sizeLine ∧ 0 ≤ i ∧ i < z.length ∧ Q (.int ((z.getD i.toNat 0).toNat : Nat)) H) ta tb) := by
  intro pins s σ H Q I h
  refine Subscript_ (binT ha hb I h fun v u s2 x y H2 I2 rx ry q => ?_)
  obtain ⟨z, i, rfl, rfl, hz, h0, h1, q⟩ := q
  obtain ⟨t, rfl⟩ := rx
  obtain ⟨t', rfl⟩ := ry
  have hl : sizeLine = 16777216 := sizeLine_eq
  exact tail_any (PySem.W.typeIs_bytes s2 z.toArray t) PySem.W.FB.slot_bytes_getitem.lookup (PySem.W.getItem_bytes (by omega) h0 h1 ⟨.int ((z.getD i.toNat 0).toNat : Nat), H2, I2.tok _, ⟨_, rfl⟩, q⟩) (hs _ _)

/-! ### scalar builtins, by CallR -/
theorem vals1 {x : V} {us : List Value} (r : Vals [x] us) : ∃ u, us = [u] ∧ RelV x u := by
  cases r with
  | cons r1 r2 => cases r2; exact ⟨_, rfl, r1⟩
theorem vals2 {x y : V} {us : List Value} (r : Vals [x, y] us) : ∃ u w', us = [u, w'] ∧ RelV x u ∧ RelV y w' := by
  cases r with
  | cons r1 r2 =>
    cases r2 with
    | cons r3 r4 => cases r4; exact ⟨_, _, rfl, r1, r3⟩
theorem call_abs : CallR X (.builtin "abs") (fun xs H Q => ∃ i, xs = [.int i] ∧ Q (.int (if i < 0 then -i else i)) H) := by
  intro pins s σ H xs us Q I r h
  obtain ⟨i, rfl, q⟩ := h
  obtain ⟨u, rfl, t, rfl⟩ := vals1 r
  exact call_abs_int fun u tk => ⟨.int (if i < 0 then -i else i), H, I.tok _, ⟨_, rfl⟩, q⟩
theorem call_max2 (hc : X.calm = true) : CallR X (.builtin "max") (fun xs H Q => ∃ i j, xs = [.int i, .int j] ∧ Q (.int (if j > i then j else i)) H) := by
  intro pins s σ H xs us Q I r h
  obtain ⟨i, j, rfl, q⟩ := h
  obtain ⟨u, w', rfl, ⟨t, rfl⟩, ⟨t', rfl⟩⟩ := vals2 r
  refine max_two_ints (I.ok.hd hc) fun h' tk k => ⟨_, H, I.kept k, ?_, q⟩
  by_cases hj : j > i
  · rw [if_pos hj, if_pos hj]; exact ⟨_, rfl⟩
  · rw [if_neg hj, if_neg hj]; exact ⟨_, rfl⟩
theorem call_min2 (hc : X.calm = true) : CallR X (.builtin "min") (fun xs H Q => ∃ i j, xs = [.int i, .int j] ∧ Q (.int (if j < i then j else i)) H) := by
  intro pins s σ H xs us Q I r h
  obtain ⟨i, j, rfl, q⟩ := h
  obtain ⟨u, w', rfl, ⟨t, rfl⟩, ⟨t', rfl⟩⟩ := vals2 r
  refine min_two_ints (I.ok.hd hc) fun h' tk k => ⟨_, H, I.kept k, ?_, q⟩
  by_cases hj : j < i
  · rw [if_pos hj, if_pos hj]; exact ⟨_, rfl⟩
  · rw [if_neg hj, if_neg hj]; exact ⟨_, rfl⟩
theorem call_int1 : CallR X (.type "int") (fun xs H Q => (∃ i, xs = [.int i] ∧ Q (.int i) H) ∨ ∃ k, xs = [.bl k] ∧ Q (.int (if k then 1 else 0)) H) := by
  intro pins s σ H xs us Q I r h
  rcases h with ⟨i, rfl, q⟩ | ⟨k, rfl, q⟩
  · obtain ⟨u, rfl, t, rfl⟩ := vals1 r
    exact call_int_int ⟨.int i, H, I, ⟨_, rfl⟩, q⟩
  · obtain ⟨u, rfl, r1⟩ := vals1 r
    cases r1
    exact call_int_bool ⟨.int (if k then 1 else 0), H, I.tok _, ⟨_, rfl⟩, q⟩
theorem call_bool1 : CallR X (.type "bool") (fun xs H Q => (∃ i, xs = [.int i] ∧ Q (.bl (i != 0)) H) ∨ ∃ k, xs = [.bl k] ∧ Q (.bl k) H) := by
  intro pins s σ H xs us Q I r h
  rcases h with ⟨i, rfl, q⟩ | ⟨k, rfl, q⟩
  · obtain ⟨u, rfl, t, rfl⟩ := vals1 r
    exact call_bool_int ⟨.bl (i != 0), H, I, rfl, q⟩
  · obtain ⟨u, rfl, r1⟩ := vals1 r
    cases r1
    exact call_bool_bool ⟨.bl k, H, I, rfl, q⟩
theorem call_str_int : CallR X (.type "str") (fun xs H Q => ∃ i, xs = [.int i] ∧ i.natAbs.log2 < 1920 ∧ Q (.str (toString i)) H) := by
  intro pins s σ H xs us Q I r h
  obtain ⟨i, rfl, hz, q⟩ := h
  obtain ⟨u, rfl, t, rfl⟩ := vals1 r
  exact PySem.P.str_of_int hz ⟨.str _, H, I.tok _, ⟨_, rfl⟩, q⟩
theorem call_ord : CallR X (.builtin "ord") (fun xs H Q => ∃ x, xs = [.str x] ∧ x.length = 1 ∧ Q (.int (x.cps.getD 0 0 : Nat)) H) := by
  intro pins s σ H xs us Q I r h
  obtain ⟨x, rfl, hz, q⟩ := h
  obtain ⟨u, rfl, t, rfl⟩ := vals1 r
  exact ord_of_one hz ⟨.int _, H, I.tok _, ⟨_, rfl⟩, q⟩
theorem call_chr : CallR X (.builtin "chr") (fun xs H Q => ∃ i, xs = [.int i] ∧ 0 ≤ i ∧ i ≤ 1114111 ∧ Q (.str ⟨#[i.toNat]⟩) H) := by
  intro pins s σ H xs us Q I r h
  obtain ⟨i, rfl, h0, h1, q⟩ := h
  obtain ⟨u, rfl, t, rfl⟩ := vals1 r
  exact chr_of_range h0 h1 ⟨.str _, H, I.tok _, ⟨_, rfl⟩, q⟩
/-- len of a str, a bytes, a list, a tuple -/
def LenV (K : PySem.W.Frag) (x : V) (H : Hp) (n : Nat) : Prop :=
  match x with
  | .str y => y.length ≤ sizeLine ∧ n = y.length
  | .byt y => y.size ≤ sizeLine ∧ n = y.size
  | .ref p => (∃ xs, SqL K H p xs ∧ n = xs.length) ∨ ∃ xs, SqT K H p xs ∧ n = xs.length
  | _ => False
theorem call_len : CallR X (.builtin "len") (fun xs H Q => ∃ x n, xs = [x] ∧ LenV X.K x H n ∧ Q (.int n) H) := by
  intro pins s σ H xs us Q I r h
  obtain ⟨x, n, rfl, e, q⟩ := h
  obtain ⟨u, rfl, rx⟩ := vals1 r
  have hl := line63
  have hs : sizeLine = 16777216 := sizeLine_eq
  cases x with
  | str y =>
    obtain ⟨t, rfl⟩ := rx
    obtain ⟨hy, e'⟩ : y.length ≤ sizeLine ∧ n = y.length := e
    subst e'
    exact len_str (by omega) ⟨.int _, H, I.tok _, ⟨_, rfl⟩, q⟩
  | byt y =>
    obtain ⟨t, rfl⟩ := rx
    obtain ⟨hy, e'⟩ : y.size ≤ sizeLine ∧ n = y.size := e
    subst e'
    exact PySem.W.len_bytes (by omega) ⟨.int _, H, I.tok _, ⟨_, rfl⟩, q⟩
  | ref p =>
    cases rx
    have e' : (∃ xs, SqL X.K H p xs ∧ n = xs.length) ∨ ∃ xs, SqT X.K H p xs ∧ n = xs.length := e
    rcases e' with ⟨xs, hx, e'⟩ | ⟨xs, hx, e'⟩
    · subst e'
      obtain ⟨its, r', pl, hz⟩ := I.list hx
      have hlen := r'.length
      exact Calls.call_len_list pl.isList (by simp only [List.size_toArray]; omega) ⟨.int xs.length, H, I.tok _, ⟨_, by simp only [List.size_toArray]; rw [hlen]⟩, q⟩
    · subst e'
      obtain ⟨its, r', pl, hz⟩ := I.tuple hx
      have hlen := r'.length
      exact len_tuple pl (by simp only [List.size_toArray]; omega) ⟨.int xs.length, H, I.tok _, ⟨_, by simp only [List.size_toArray]; rw [hlen]⟩, q⟩
  | _ => exact (show False from e).elim
/-- divmod: a new tuple -/
theorem call_divmod : CallR X (.builtin "divmod") (fun xs H Q => ∃ i j, xs = [.int i, .int j] ∧ CDiv i j ∧ ∀ p, H p = none → Q (.ref p) (upd H p (.tup [.int (i / j), .int (i % j)]))) := by
  intro pins s σ H xs us Q I r h
  obtain ⟨i, j, rfl, ⟨h1, h2⟩, q⟩ := h
  obtain ⟨u, w', rfl, ⟨t, rfl⟩, ⟨t', rfl⟩⟩ := vals2 r
  refine divmod_int (by omega) ?_ (.inl (PyProof.noPylong_small (by omega)))
  rw [Int.fdiv_eq_ediv_of_nonneg i (by omega), Int.fmod_eq_emod_of_nonneg i (by omega)]
  have hn : H s.heap.objs.size = none := I.hok.fresh (Nat.le_refl _)
  refine ⟨.ref s.heap.objs.size, _, ?_, rfl, q _ hn⟩
  refine I.laid (fun b o e => Heap.get?_push_of_some _ e) (Nat.le_refl _) ⟨by simp only [List.length_cons, List.length_nil]; rw [sizeLine_eq]; decide, [.int (i / j) s.toks, .int (i % j) (s.toks + 1)], .cons ⟨_, rfl⟩ (.cons ⟨_, rfl⟩ .nil), ?_⟩
  exact ⟨_, Heap.get?_push_size s.heap rfl, rfl, 0, rfl⟩
end
end L2

namespace L2
open PySem PySem.Spec PyProof.Rows

/-! ### an instance, its attributes a map -/
structure ObjM (h : Heap) (x dx C : Addr) (mA : Str → Option Value) : Prop where
  obj : h.get? x = some (PySem.W.instObj C dx)
  ns : h.Ns1 dx mA
  ne : dx ≠ x

theorem lookIn_ns {h : Heap} {dx : Addr} {mA : Str → Option Value} (n : h.Ns1 dx mA) : ∃ od, h.get? dx = some od ∧ ∀ name, PySem.W.lookIn name od = some (mA name) := by
  obtain ⟨o, es, ep, ho, hd, hk, _, hm⟩ := n
  refine ⟨o, ho, fun name => ?_⟩
  have e := hm name
  unfold nsFind findBy at e
  rw [← Array.find?_toList] at e
  unfold PySem.W.lookIn
  rw [hd]
  dsimp only
  split
  · rename_i y q
    rw [q] at e
    exact congrArg some e
  · rename_i q
    rw [q] at e
    have a : es.toList.any (·.refKey) = false := by
      rw [List.any_eq_false]
      intro y hy
      obtain ⟨z, t, hkey⟩ := hk y (Array.mem_toList_iff.mp hy)
      simp [DictEntry.refKey, hkey]
    have a' : ¬ es.toList.any (·.refKey) = true := by rw [a]; exact Bool.false_ne_true
    rw [if_neg a']
    exact congrArg some e

theorem ObjM.look {h : Heap} {x dx C : Addr} {mA : Str → Option Value} (I : ObjM h x dx C mA) : ∃ od, PySem.W.InstAt h x (PySem.W.instObj C dx) C (some od) ∧ ∀ name, PySem.W.lookIn name od = some (mA name) :=
  let ⟨od, ho, hl⟩ := lookIn_ns I.ns
  ⟨od, ⟨I.obj, rfl, rfl, ho⟩, hl⟩

section
variable {prog : Program} {w : World} {A : Around} {E : Value → Shared → Prop} {s : Shared} {K : PySem.W.Frag} {x dx C f : Addr} {mA : Str → Option Value} {name : Str} {v : Value}

theorem get_map {expr : Bool} {Q : Value → Shared → Prop} (X : K.In s.heap) (I : ObjM s.heap x dx C mA) (hg : PySem.W.plainGet K C name = true) (hh : PySem.W.hasDictIn K C = true)
    (ha : PySem.W.findIn K (.ref C) name = some none) (hv : mA name = some v) (hv' : PySem.W.handedIn v = true) (h : Q v { s with toks := s.toks + 1 }) :
    wpAny (model prog w) A (getAttr (.ref x) name expr) Q E s := by
  obtain ⟨od, J, hl⟩ := I.look
  exact PySem.W.get_value X J (PySem.W.plainGet_of hg).1 (PySem.W.findObj_own hh ha rfl (by rw [hl, hv])) hv' h

theorem get_const {expr : Bool} {a : Value} {Q : Value → Shared → Prop} (X : K.In s.heap) (I : ObjM s.heap x dx C mA) (hg : PySem.W.plainGet K C name = true) (hh : PySem.W.hasDictIn K C = true)
    (ha : PySem.W.findIn K (.ref C) name = some (some a)) (hn : PySem.W.specialIn K a "__get__" = some none) (hc : PySem.W.copiedNames.contains name = false) (hv : mA name = none) (hv' : PySem.W.handedIn a = true)
    (h : Q a { s with toks := s.toks + 1 }) : wpAny (model prog w) A (getAttr (.ref x) name expr) Q E s := by
  obtain ⟨od, J, hl⟩ := I.look
  exact PySem.W.get_value X J (PySem.W.plainGet_of hg).1 (PySem.W.findObj_cls hh ha hn hv' hc (by rw [hl, hv])) hv' h

theorem get_meth {pl : Sem Bool} {Q : Value × List Value → Shared → Prop} (X : K.In s.heap) (I : ObjM s.heap x dx C mA) (hg : PySem.W.plainGet K C name = true)
    (hf : PySem.W.findIn K (.ref C) name = some (some (.ref f))) (ht : PySem.W.isFn K (.ref f) = true) (hv : mA name = none) (h : Q (.ref f, [.ref x]) s) :
    wpAny (model prog w) A (getMethod (.ref x) name pl) Q E s := by
  obtain ⟨od, J, hl⟩ := I.look
  exact PySem.W.method_fn X J (PySem.W.plainGet_of hg).1 (PySem.W.plainGet_of hg).2 hf (beq_iff_eq.mp ht) (by show (PySem.W.lookIn name od).map (·.isSome) = some false; rw [hl, hv]; rfl) h

theorem set_map {ns : List Str} {Q : Unit → Shared → Prop} (X : K.In s.heap) (I : ObjM s.heap x dx C mA)
    (hs : PySem.W.findIn K (.ref C) "__setattr__" = some (some (.builtin "object.__setattr__"))) (hp : PySem.W.plainOver K C = true) (ht : PySem.W.takerIn K C name = some none) (hh : PySem.W.hasDictIn K C = true)
    (hw : PySem.Within mA ns) (hsz : ns.length ≤ sizeLine)
    (h : ∀ h', ObjM h' x dx C (fun y => if y = name then some v else mA y) → Heap.SameBut dx s.heap h' → Q () { s with heap := h', toks := s.toks + 2 }) :
    wpAny (model prog w) A (setAttr (.ref x) name v) Q E s := by
  obtain ⟨od, J, hl⟩ := I.look
  refine PySem.W.set_plain X J hs (PySem.W.osa_open (s := { s with toks := s.toks + 1 }) (r := none) X J hp ht fun b => ?_)
  obtain ⟨cd, hc, hd'⟩ := PySem.W.any_some hh
  have hx : s.heap.get? x = some ⟨.ref C, some dx, .plain, #[]⟩ := I.obj
  refine wpAny_bind (wpAny_pure (wpAny_bind (wpAny_bind (wpAny_loadPart hx (wpAny_bind (PySem.W.Looks.here (s := { s with toks := s.toks + 1 }) (PySem.W.looks_clsIn X hc) ?_))))))
  rw [hd']
  refine wpAny_pure (a := some dx) (wpAny_bind (wpAny_pure (wpAny_bind ?_)))
  refine wpAny_nsSet1 (s := { s with toks := s.toks + 1 }) I.ns fun h' hn2 hs2 => ?_
  obtain ⟨oD, esD, epD, hoD, hdD, hcD⟩ := hn2.count (PySem.Within.cons name v hw)
  refine wpAny_bind (wpAny_lookBehind hoD (by rw [hdD]; exact pastItsLine_dict (Nat.le_trans hcD (by rw [List.length_cons]; omega))) ?_)
  exact wpAny_pure (h _ ⟨(hs2.2 _ (Ne.symm I.ne)).trans I.obj, hn2, I.ne⟩ hs2)

/-- C(..): the dict at the heap's end, the instance behind it; then its __init__ -/
theorem make_map {R : Result → Shared → Prop} {vs : List Value} {kw : List (Str × Value)} (X : K.In s.heap) (hm : PySem.W.makesIn K C = true)
    (hi : PySem.W.findIn K (.ref C) "__init__" = some (some (.ref f))) (hf : PySem.W.typeIn K (.ref f) = some (.type "function"))
    (h : codeAny (model prog w) (A.under (.builtin "type.__call__" ⟨.ref C :: vs, kw⟩)) (.call (.ref f) ⟨.ref (s.heap.objs.size + 1) :: vs, kw⟩) (PySem.W.InitBack (s.heap.objs.size + 1) R)
      { s with heap := (s.heap.push PySem.W.emptyDict).push (PySem.W.instObj C s.heap.objs.size) }) :
    codeAny (model prog w) A (.call (.ref C) ⟨vs, kw⟩) R s := by
  obtain ⟨hh, g, d, t, os⟩ := s
  exact PySem.W.make_core (PySem.W.makes_of X hm) (PySem.W.looks_findIn X hi) (fun self => PySem.W.bind_fn X self hf) (.inl rfl) h
/-- C() where there is no __init__ but object's -/
theorem make_map0 {R : Result → Shared → Prop} (X : K.In s.heap) (hm : PySem.W.makesIn K C = true)
    (hi : PySem.W.findIn K (.ref C) "__init__" = some (some (.builtin "object.__init__")))
    (hb : ∀ self, PySem.W.Looks (model prog w) s.heap (bindSpecial (.builtin "object.__init__") self) (.builtin "object.__init__", [self]))
    (h : codeAny (model prog w) (A.under (.builtin "type.__call__" ⟨[.ref C], []⟩)) (.call (.builtin "object.__init__") ⟨[.ref (s.heap.objs.size + 1)], []⟩) (PySem.W.InitBack (s.heap.objs.size + 1) R)
      { s with heap := (s.heap.push PySem.W.emptyDict).push (PySem.W.instObj C s.heap.objs.size) }) :
    codeAny (model prog w) A (.call (.ref C) ⟨[], []⟩) R s := by
  obtain ⟨hh, g, d, t, os⟩ := s
  exact PySem.W.make_core (PySem.W.makes_of X hm) (PySem.W.looks_findIn X hi) hb (.inr ⟨rfl, rfl⟩) h
end

/-! ### the attributes as a list of pairs -/
def putF (f : Str) (v : V) : List (Str × V) → List (Str × V)
  | [] => [(f, v)]
  | (g, x) :: r => if g = f then (g, v) :: r else (g, x) :: putF f v r
theorem lookup_putF (f g : Str) (v : V) : ∀ fs : List (Str × V), (putF f v fs).lookup g = if g = f then some v else fs.lookup g
  | [] => by
    show List.lookup g [(f, v)] = _
    by_cases h : g = f
    · have hb : (g == f) = true := beq_iff_eq.mpr h
      simp only [List.lookup, hb, if_pos h]
    · have hb : (g == f) = false := beq_eq_false_iff_ne.mpr h
      simp only [List.lookup, hb, if_neg h]
  | (k, x) :: r => by
    have ih := lookup_putF f g v r
    rw [show putF f v ((k, x) :: r) = (if k = f then (k, v) :: r else (k, x) :: putF f v r) from rfl]
    by_cases hk : k = f
    · rw [if_pos hk]
      by_cases h : g = k
      · have hb : (g == k) = true := beq_iff_eq.mpr h
        simp only [List.lookup, hb, if_pos (h.trans hk)]
      · have hb : (g == k) = false := beq_eq_false_iff_ne.mpr h
        simp only [List.lookup, hb, if_neg (fun e : g = f => h (e.trans hk.symm))]
    · rw [if_neg hk]
      by_cases h : g = k
      · have hb : (g == k) = true := beq_iff_eq.mpr h
        simp only [List.lookup, hb, if_neg (fun e : g = f => hk (h.symm.trans e))]
      · have hb : (g == k) = false := beq_eq_false_iff_ne.mpr h
        simp only [List.lookup, hb]
        exact ih
theorem keys_putF (f : Str) (v : V) : ∀ fs : List (Str × V), f ∈ (putF f v fs).map (·.1) ∧ ∀ g, g ∈ fs.map (·.1) → g ∈ (putF f v fs).map (·.1)
  | [] => ⟨by simp [putF], fun g h => by simp at h⟩
  | (k, x) :: r => by
    obtain ⟨i1, i2⟩ := keys_putF f v r
    rw [show putF f v ((k, x) :: r) = (if k = f then (k, v) :: r else (k, x) :: putF f v r) from rfl]
    by_cases hk : k = f
    · rw [if_pos hk]
      subst hk
      exact ⟨by simp, fun g h => by simpa using h⟩
    · rw [if_neg hk]
      refine ⟨?_, fun g h => ?_⟩
      · rw [List.map_cons]
        exact List.mem_cons_of_mem _ i1
      · rw [List.map_cons] at h ⊢
        rcases List.mem_cons.mp h with e | e
        · exact List.mem_cons.mpr (.inl e)
        · exact List.mem_cons_of_mem _ (i2 g e)
theorem length_putF (f : Str) (v : V) : ∀ fs : List (Str × V), (putF f v fs).length ≤ fs.length + 1
  | [] => by simp [putF]
  | (k, x) :: r => by
    have ih := length_putF f v r
    rw [show putF f v ((k, x) :: r) = (if k = f then (k, v) :: r else (k, x) :: putF f v r) from rfl]
    by_cases hk : k = f
    · rw [if_pos hk, List.length_cons, List.length_cons]; omega
    · rw [if_neg hk, List.length_cons, List.length_cons]; omega

theorem RelO.some_of {v : V} {o : Option Value} (r : RelO (some v) o) : ∃ u, o = some u ∧ RelV v u := by
  cases o with
  | none => exact (show False from r).elim
  | some u => exact ⟨u, rfl, r⟩
theorem RelO.none_of {o : Option Value} (r : RelO none o) : o = none := by
  cases o with
  | none => rfl
  | some u => exact (show False from r).elim
theorem handed_of {v : V} {u : Value} (r : RelV v u) : PySem.W.handedIn u = true := by
  cases v with
  | non => cases (show u = Value.none from r); rfl
  | bl b => cases (show u = Value.bool b from r); rfl
  | int i => obtain ⟨t, e⟩ := (show ∃ t, u = Value.int i t from r); cases e; rfl
  | str x => obtain ⟨t, e⟩ := (show ∃ t, u = Value.str x t from r); cases e; rfl
  | byt b => obtain ⟨t, e⟩ := (show ∃ t, u = Value.bytes b t from r); cases e; rfl
  | flt b => obtain ⟨t, e⟩ := (show ∃ t, u = Value.float b t from r); cases e; rfl
  | ref a => cases (show u = Value.ref a from r); rfl
  | ty n => cases (show u = Value.type n from r); rfl

section
variable {P : Program} {w : World} {H H' : Hp} {h h' : Heap} {a C dx : Addr} {fs fs' : List (Str × V)}
theorem ins_get (hok : HOk P w H h) (e : H a = some (.ins C dx fs)) : ∃ mA, ObjM h a dx C mA ∧ (∀ f, RelO (fs.lookup f) (mA f)) ∧ PySem.Within mA (fs.map (·.1)) ∧ fs.length ≤ 1000 ∧ H dx = some (.own a) := by
  obtain ⟨d, z, ne, ob, mA, n, r, q⟩ := (show ObjOk P w H h a (.ins C dx fs) from hok a _ e)
  exact ⟨mA, ⟨ob, n, ne⟩, r, q, z, d⟩
end

/-! ### what of the text a class must have -/
structure Cls (K : PySem.W.Frag) (C : Addr) : Prop where
  pg : PySem.W.plainGet K C Str.empty = true
  hd : PySem.W.hasDictIn K C = true
  po : PySem.W.plainOver K C = true
  sa : PySem.W.findIn K (.ref C) "__setattr__" = some (some (.builtin "object.__setattr__"))
theorem Cls.get {K : PySem.W.Frag} {C : Addr} (c : Cls K C) (f : Str) : PySem.W.plainGet K C f = true := c.pg
/-- no class of it has the name -/
def NoAttr (K : PySem.W.Frag) (C : Addr) (f : Str) : Prop := PySem.W.findIn K (.ref C) f = some none
theorem NoAttr.taker {K : PySem.W.Frag} {C : Addr} {f : Str} (n : NoAttr K C f) : PySem.W.takerIn K C f = some none := by
  unfold PySem.W.takerIn
  rw [show PySem.W.findIn K (.ref C) f = some none from n]
  rfl
/-- a constant of the class -/
structure Con (K : PySem.W.Frag) (C : Addr) (f : Str) (v : V) (u : Value) : Prop where
  at_ : PySem.W.findIn K (.ref C) f = some (some u)
  rel : RelV v u
  get : PySem.W.specialIn K u "__get__" = some none
  cp : PySem.W.copiedNames.contains f = false
/-- a method: a plain def of the class or of one above it -/
structure Meth (K : PySem.W.Frag) (C : Addr) (m : Str) (f : Addr) : Prop where
  at_ : PySem.W.findIn K (.ref C) m = some (some (.ref f))
  fn : PySem.W.isFn K (.ref f) = true
  kp : PySem.W.keepIn K (.ref f) = true

section
variable {X : Cx} {pins : List (Addr × Obj)} {σ : St} {H : Hp} {s : Shared} {a C dx : Addr} {fs : List (Str × V)} {f : Str} {v : V} {A : Around} {E : Value → Shared → Prop}

theorem getattr_ok {b : Bool} {Q : Value → Shared → Prop} (I : Inv X pins σ H s) (e : H a = some (.ins C dx fs)) (c : Cls X.K C) (n : NoAttr X.K C f) (l : fs.lookup f = some v)
    (h : ∀ u s', Inv X pins σ H s' → RelV v u → Q u s') : wpAny (model X.prog X.w) A (getAttr (.ref a) f b) Q E s := by
  obtain ⟨mA, O, r, _, _, _⟩ := ins_get I.hok e
  obtain ⟨u, hu, ru⟩ := RelO.some_of (v := v) (o := mA f) (by rw [← l]; exact r f)
  exact get_map I.kIn O (c.get f) c.hd n hu (handed_of ru) (h u _ (I.tok _) ru)

theorem getcon_ok {b : Bool} {u : Value} {Q : Value → Shared → Prop} (I : Inv X pins σ H s) (e : H a = some (.ins C dx fs)) (c : Cls X.K C) (k : Con X.K C f v u) (l : fs.lookup f = none)
    (h : ∀ s', Inv X pins σ H s' → Q u s') : wpAny (model X.prog X.w) A (getAttr (.ref a) f b) Q E s := by
  obtain ⟨mA, O, r, _, _, _⟩ := ins_get I.hok e
  have hn : mA f = none := RelO.none_of (by rw [← l]; exact r f)
  exact get_const I.kIn O (c.get f) c.hd k.at_ k.get k.cp hn (handed_of k.rel) (h _ (I.tok _))

theorem getmeth_ok {m : Str} {g : Addr} {pl : Sem Bool} {Q : Value × List Value → Shared → Prop} (I : Inv X pins σ H s) (e : H a = some (.ins C dx fs)) (c : Cls X.K C) (k : Meth X.K C m g) (l : fs.lookup m = none)
    (h : Q (.ref g, [.ref a]) s) : wpAny (model X.prog X.w) A (getMethod (.ref a) m pl) Q E s := by
  obtain ⟨mA, O, r, _, _, _⟩ := ins_get I.hok e
  have hn : mA m = none := RelO.none_of (by rw [← l]; exact r m)
  exact get_meth I.kIn O (c.get m) k.at_ k.fn hn h

theorem setattr_ok {y : V} {u : Value} {Q : Unit → Shared → Prop} (I : Inv X pins σ H s) (e : H a = some (.ins C dx fs)) (c : Cls X.K C) (n : NoAttr X.K C f) (hl : fs.length < 1000) (ry : RelV y u)
    (h : ∀ s', Inv X pins σ (upd H a (.ins C dx (putF f y fs))) s' → Q () s') : wpAny (model X.prog X.w) A (setAttr (.ref a) f u) Q E s := by
  obtain ⟨mA, O, r, wi, _, ho⟩ := ins_get I.hok e
  have hz : (fs.map (·.1)).length ≤ sizeLine := by rw [List.length_map, sizeLine_eq]; omega
  refine set_map I.kIn O c.sa c.po n.taker c.hd wi hz fun h' O' sb => h _ ?_
  have hd : ∃ o, h'.get? dx = some o := let ⟨o, _, _, e', _⟩ := O'.ns; ⟨o, e'⟩
  refine I.write (x := a) (e := dx) (by rw [e]; exact True.intro) (.inr ho) (fun b q hb z => (sb.2 b hb).trans z) hd ?_
  refine ⟨by rw [upd_ne O.ne]; exact ho, ?_, O.ne, O'.obj, _, O'.ns, fun g => ?_, fun g hg => ?_⟩
  · have := length_putF f y fs; omega
  · show RelO ((putF f y fs).lookup g) (if g = f then some u else mA g)
    rw [lookup_putF]
    by_cases q : g = f
    · rw [if_pos q, if_pos q]; exact ry
    · rw [if_neg q, if_neg q]; exact r g
  · by_cases q : g = f
    · rw [q]; exact (keys_putF f y fs).1
    · refine (keys_putF f y fs).2 g (wi g fun z => hg ?_)
      show (if g = f then some u else mA g) = none
      rw [if_neg q]; exact z

/-- a new instance, tracked, without attributes -/
theorem Inv.made (I : Inv X pins σ H s) : Inv X pins σ (upd (upd H s.heap.objs.size (.own (s.heap.objs.size + 1))) (s.heap.objs.size + 1) (.ins C s.heap.objs.size []))
    { s with heap := (s.heap.push PySem.W.emptyDict).push (PySem.W.instObj C s.heap.objs.size) } := by
  have e1 : (s.heap.push PySem.W.emptyDict).get? s.heap.objs.size = some PySem.W.emptyDict := Heap.get?_push_size s.heap rfl
  have e2 : ((s.heap.push PySem.W.emptyDict).push (PySem.W.instObj C s.heap.objs.size)).get? (s.heap.objs.size + 1) = some (PySem.W.instObj C s.heap.objs.size) := by
    have := Heap.get?_push_size (s.heap.push PySem.W.emptyDict) (o := PySem.W.instObj C s.heap.objs.size) rfl
    rwa [Heap.size_push] at this
  have e3 : (s.heap.push PySem.W.emptyDict).Ns s.heap.objs.size (fun _ => none) := ⟨PySem.W.emptyDict, #[], _, e1, rfl, (fun e he => absurd he (by simp)), fun _ => rfl⟩
  have I1 := I.laid (a := s.heap.objs.size) (o := .own (s.heap.objs.size + 1)) (h' := s.heap.push PySem.W.emptyDict) (t' := s.toks) (fun b u q => Heap.get?_push_of_some _ q) (Nat.le_refl _) ⟨_, e1⟩
  refine I1.laid (a := s.heap.objs.size + 1) (o := .ins C s.heap.objs.size []) (t' := s.toks) (fun b u q => Heap.get?_push_of_some _ q) (Nat.le_of_eq (Heap.size_push _ _)) ?_
  have ne : s.heap.objs.size ≠ s.heap.objs.size + 1 := Nat.ne_of_lt (Nat.lt_succ_self _)
  refine ⟨by rw [upd_ne ne, upd_same], Nat.zero_le _, ne, e2, fun _ => none, (Heap.Ns1.of_empty e3).at fun o q => Heap.get?_push_of_some _ q, fun _ => True.intro, fun y hy => absurd rfl hy⟩

/-- e.f where nothing but the object is asked: through attributeBase (super) and the last hold -/
theorem attr_of {prog : Program} {w : World} {env : Env} {e : Expr} {f : Str} {pos : Pos} {s : Shared} {Q : Value → Shared → Prop} (hb : attributeBase e f env (eval e env) = eval e env)
    (h : wpAny (model prog w) A (eval e env) (fun o s₁ => wpAny (model prog w) A (getAttr o f true) Q E s₁) E s) : wpAny (model prog w) A (eval (.Attribute e f pos) env) Q E s :=
  Attribute_any_ h (by rw [arm_eval_Attribute, hb])
end

/-! ### readings and rules -/
/-- e.f, an attribute of the instance -/
def tFld (K : PySem.W.Frag) (ta : TE) (f : Str) : TE := fun σ H Q => ta σ H fun x H1 => ∃ a C dx fs v, x = .ref a ∧ H1 a = some (.ins C dx fs) ∧ Cls K C ∧ NoAttr K C f ∧ fs.lookup f = some v ∧ Q v H1
/-- e.f, a constant of the class -/
def tCon (K : PySem.W.Frag) (ta : TE) (f : Str) : TE := fun σ H Q => ta σ H fun x H1 => ∃ a C dx fs v u, x = .ref a ∧ H1 a = some (.ins C dx fs) ∧ Cls K C ∧ Con K C f v u ∧ fs.lookup f = none ∧ Q v H1
/-- e.f = value -/
def sFld (K : PySem.W.Frag) (ta tv : TE) (f : Str) : TS := fun D σ H => tv σ H fun y H1 => ta σ H1 fun x H2 => ∃ a C dx fs, x = .ref a ∧ H2 a = some (.ins C dx fs) ∧ Cls K C ∧ NoAttr K C f ∧ fs.length < 1000 ∧
  D.nx σ (upd H2 a (.ins C dx (putF f y fs)))
/-- an augmented operator on two values -/
def InOp (X : Cx) (op : Operator) (rd : V → V → Hp → VK → Prop) : Prop :=
  ∀ (pins : List (Addr × Obj)) (s : Shared) (σ : St) (H : Hp) (x y : V) (u v : Value) (Q : VK), Inv X pins σ H s → RelV x u → RelV y v → rd x y H Q → wpAny (model X.prog X.w) X.A (inplaceOp op u v) (EP X pins σ Q) X.xe s
/-- e.f op= value -/
def sFldAug (K : PySem.W.Frag) (ta tv : TE) (rd : V → V → Hp → VK → Prop) (f : Str) : TS := fun D σ H => ta σ H fun x H1 => ∃ a C dx fs v, x = .ref a ∧ H1 a = some (.ins C dx fs) ∧ Cls K C ∧ NoAttr K C f ∧ fs.lookup f = some v ∧
  tv σ H1 fun y H2 => rd v y H2 fun z H3 => ∃ dx' fs', H3 a = some (.ins C dx' fs') ∧ fs'.length < 1000 ∧ D.nx σ (upd H3 a (.ins C dx' (putF f z fs')))

section
variable {X : Cx} {o e value : Expr} {f : Str} {pos pos' tpos : Pos} {ta tv : TE}
theorem pe_fld (he : PE X e ta) (hb : attributeBase e f X.env (eval e X.env) = eval e X.env) : PE X (.Attribute e f pos) (tFld X.K ta f) := by
  intro pins s σ H Q I h
  refine attr_of hb (thn (he pins s σ H _ I h) fun u s1 ⟨x, H1, I1, rx, a, C, dx, fs, v, ex, ea, c, n, l, q⟩ => ?_)
  subst ex
  obtain rfl : u = Value.ref a := rx
  exact getattr_ok I1 ea c n l fun u' s2 I2 ru => ⟨v, H1, I2, ru, q⟩
theorem pe_con (he : PE X e ta) (hb : attributeBase e f X.env (eval e X.env) = eval e X.env) : PE X (.Attribute e f pos) (tCon X.K ta f) := by
  intro pins s σ H Q I h
  refine attr_of hb (thn (he pins s σ H _ I h) fun u s1 ⟨x, H1, I1, rx, a, C, dx, fs, v, u0, ex, ea, c, k, l, q⟩ => ?_)
  subst ex
  obtain rfl : u = Value.ref a := rx
  exact getcon_ok I1 ea c k l fun s2 I2 => ⟨v, H1, I2, k.rel, q⟩
theorem ps_fld (ha : PE X o ta) (hv : PE X value tv) (hs : swapsWith value (some (.Attribute o f pos')) pos.line X.env = pure false) : PS X (.Assign [.Attribute o f pos'] value pos) (sFld X.K ta tv f) := by
  intro pins s σ H D I h
  refine plainObj_wpAny_Assign_Attribute (thn (hv pins s σ H _ I h) fun u s1 ⟨y, H1, I1, ry, q⟩ => thn (ha pins s1 σ H1 _ I1 q) fun ov s2 ⟨x, H2, I2, rx, a, C, dx, fs, ex, ea, c, n, l, q2⟩ => ?_) hs
  subst ex
  obtain rfl : ov = Value.ref a := rx
  exact setattr_ok I2 ea c n l ry fun s3 I3 => ⟨σ, _, I3, q2⟩
theorem ps_fldaug {op : Operator} {rd : V → V → Hp → VK → Prop} (ha : PE X o ta) (hv : PE X value tv) (hop : InOp X op rd) : PS X (.AugAssign (.Attribute o f tpos) op value pos) (sFldAug X.K ta tv rd f) := by
  intro pins s σ H D I h
  refine wpAny_AugAssign_AttributeAny (thn (ha pins s σ H _ I h) fun ov s1 ⟨x, H1, I1, rx, a, C, dx, fs, v, ex, ea, c, n, l, q⟩ => ?_)
  subst ex
  obtain rfl : ov = Value.ref a := rx
  refine getattr_ok I1 ea c n l fun u s2 I2 ru => thn (hv pins s2 σ H1 _ I2 q) fun w3 s3 ⟨y, H2, I3, ry, q3⟩ => thn (hop pins s3 σ H2 v y u w3 _ I3 ru ry q3) fun w4 s4 ⟨z, H3, I4, rz, dx', fs', ea', l', q4⟩ => ?_
  exact setattr_ok I4 ea' c n l' rz fun s5 I5 => ⟨σ, _, I5, q4⟩
def rAdd : V → V → Hp → VK → Prop := fun x y H Q => ∃ i j, x = .int i ∧ y = .int j ∧ Q (.int (i + j)) H
def rSub : V → V → Hp → VK → Prop := fun x y H Q => ∃ i j, x = .int i ∧ y = .int j ∧ Q (.int (i - j)) H
theorem in_add : InOp X .Add rAdd := by
  rintro pins s σ H x y u v Q I rx ry ⟨i, j, rfl, rfl, q⟩
  obtain ⟨t, rfl⟩ := (show ∃ t, u = Value.int i t from rx)
  obtain ⟨t', rfl⟩ := (show ∃ t', v = Value.int j t' from ry)
  exact PyProof.Rows.iadd_int ⟨.int (i + j), H, I.tok _, ⟨_, rfl⟩, q⟩
theorem in_sub : InOp X .Sub rSub := by
  rintro pins s σ H x y u v Q I rx ry ⟨i, j, rfl, rfl, q⟩
  obtain ⟨t, rfl⟩ := (show ∃ t, u = Value.int i t from rx)
  obtain ⟨t', rfl⟩ := (show ∃ t', v = Value.int j t' from ry)
  exact PyProof.Rows.isub_int ⟨.int (i - j), H, I.tok _, ⟨_, rfl⟩, q⟩

/-- what is between an instance and its method: the tree of a method call -/
theorem methcall_of {pl : Sem Bool} {m : Str} {apos : Pos} {args : List Expr} {pins : List (Addr × Obj)} {s : Shared} {σ : St} {H : Hp} {Q : Value → Shared → Prop} {te : TE} (he : PE X e te) (I : Inv X pins σ H s)
    (h : te σ H fun x H1 => ∃ a C dx fs g, x = .ref a ∧ H1 a = some (.ins C dx fs) ∧ Cls X.K C ∧ Meth X.K C m g ∧ fs.lookup m = none ∧
      ∀ s1, Inv X pins σ H1 s1 → wpAny (model X.prog X.w) X.A (callWith pos (.ref g) [.ref a] (backTo pos (starEach args X.env)) (backToKw pos (keywordEach [] X.env))) Q X.xe s1)
    (ht : eval (.Call (.Attribute e m apos) args [] pos) X.env = (do
      let ov ← eval e X.env
      standAt apos.atName
      let (f, first) ← holding [ov] (getMethod ov m pl)
      callWith pos f first (backTo pos (starEach args X.env)) (backToKw pos (keywordEach [] X.env)))) :
    wpAny (model X.prog X.w) X.A (eval (.Call (.Attribute e m apos) args [] pos) X.env) Q X.xe s := by
  refine PySem.W.methodCall_KW (pl := pl) (thn (he pins s σ H _ I h) fun u s1 ⟨x, H1, I1, rx, a, C, dx, fs, g, ex, ea, c, k, l, q⟩ => ?_) ht
  subst ex
  obtain rfl : u = Value.ref a := rx
  exact getmeth_ok I1 ea c k l (q s1 I1)
end

/-! ### isinstance -/
section
variable {X : Cx} {pins : List (Addr × Obj)} {σ : St} {H : Hp} {s : Shared} {A : Around} {E : Value → Shared → Prop} {Q : Value → Shared → Prop} {c : Value} {b : Bool}
/-- the type of a value, as the fragment's deciders take it; for an instance its class -/
inductive TyOf (K : PySem.W.Frag) (H : Hp) : V → Value → Prop where
  | non : TyOf K H .non (.type "NoneType")
  | bl (x : Bool) : TyOf K H (.bl x) (.type "bool")
  | int (i : Int) : TyOf K H (.int i) (.type "int")
  | str (x : Str) : TyOf K H (.str x) (.type "str")
  | flt (x : UInt64) : TyOf K H (.flt x) (.type "float")
  | lst {a : Addr} {xs : List V} (e : H a = some (.lst xs)) : TyOf K H (.ref a) (.type "list")
  | frz {a : Addr} {o : Obj} {xs : List V} (e : H a = some (.frz o (.lst xs))) : TyOf K H (.ref a) (.type "list")
  | tup {a : Addr} {xs : List V} (e : H a = some (.tup xs)) : TyOf K H (.ref a) (.type "tuple")
  | dK {a : Addr} {kvs : List (Key × V)} (e : H a = some (.dK kvs)) : TyOf K H (.ref a) (.type "dict")
  | dT {a : Addr} {kvs : List (List Key × V)} (e : H a = some (.dT kvs)) : TyOf K H (.ref a) (.type "dict")
  | ins {a C dx : Addr} {fs : List (Str × V)} (e : H a = some (.ins C dx fs)) (cl : Cls K C) (ha : PySem.W.findIn K (.ref C) "__class__" = some (some (.builtin "object.__class__")))
      (hn : PySem.W.specialIn K (.builtin "object.__class__") "__get__" = some (some (.builtin "getset_descriptor.__get__"))) (htk : PySem.W.takesIn K (.builtin "object.__class__") = some true)
      (hm : PySem.W.mroIn K C (.type "object") = some true) : TyOf K H (.ref a) (.ref C)
/-- isinstance(x, c) for one class c, a built-in or an own one: kitOne's answer -/
theorem isinst_ok {x : V} {u t : Value} (I : Inv X pins σ H s) (rx : RelV x u) (ty : TyOf X.K H x t) (e : PySem.W.kitOne X.K t c = some b) (h : ∀ tk, Q (.bool b) { s with toks := tk }) :
    wpAny (model X.prog X.w) A (call (.builtin "isinstance") [u, c]) Q E s := by
  cases ty with
  | non => cases (show u = Value.none from rx); exact PySem.W.kia_one PySem.W.kitx_none I.kIn True.intro e (fun z => nomatch z) h
  | bl y => cases (show u = Value.bool y from rx); exact PySem.W.kia_one PySem.W.kitx_bool I.kIn True.intro e (fun z => nomatch z) h
  | int i => obtain ⟨t, q⟩ := (show ∃ t, u = Value.int i t from rx); cases q; exact PySem.W.kia_one PySem.W.kitx_int I.kIn True.intro e (fun z => nomatch z) h
  | str y => obtain ⟨t, q⟩ := (show ∃ t, u = Value.str y t from rx); cases q; exact PySem.W.kia_one PySem.W.kitx_str I.kIn True.intro e (fun z => nomatch z) h
  | flt y => obtain ⟨t, q⟩ := (show ∃ t, u = Value.float y t from rx); cases q; exact PySem.W.kia_one PySem.W.kitx_float I.kIn True.intro e (fun z => nomatch z) h
  | @lst a xs ea =>
    cases (show u = Value.ref a from rx)
    obtain ⟨_, _, n, _, h1⟩ := (show ObjOk X.prog X.w H s.heap a (.lst xs) from I.hok a _ ea)
    exact PySem.W.kia_one PySem.W.kitx_list I.kIn ⟨_, h1, rfl⟩ e (fun z => nomatch z) h
  | @frz a ob xs ea =>
    cases (show u = Value.ref a from rx)
    obtain ⟨_, _, _, n, _, h1⟩ := (show ObjOk X.prog X.w H s.heap a (.frz ob (.lst xs)) from I.hok a _ ea)
    exact PySem.W.kia_one PySem.W.kitx_list I.kIn ⟨_, h1, rfl⟩ e (fun z => nomatch z) h
  | @tup a xs ea =>
    cases (show u = Value.ref a from rx)
    obtain ⟨_, _, _, p⟩ := (show ObjOk X.prog X.w H s.heap a (.tup xs) from I.hok a _ ea)
    obtain ⟨o, h1, h2, _⟩ := p
    exact PySem.W.kia_one PySem.W.kitx_tuple I.kIn ⟨o, h1, h2⟩ e (fun z => nomatch z) h
  | @dK a kvs ea =>
    cases (show u = Value.ref a from rx)
    obtain ⟨_, _, vs, _, p⟩ := (show ObjOk X.prog X.w H s.heap a (.dK kvs) from I.hok a _ ea)
    obtain ⟨o, es, ep, h1, h2, _⟩ := p
    exact PySem.W.kia_one PySem.W.kitx_dict I.kIn ⟨o, h1, h2.1⟩ e (fun z => nomatch z) h
  | @dT a kvs ea =>
    cases (show u = Value.ref a from rx)
    obtain ⟨_, _, xs, _, o, es, ep, h1, h2, _⟩ := (show ObjOk X.prog X.w H s.heap a (.dT kvs) from I.hok a _ ea)
    exact PySem.W.kia_one PySem.W.kitx_dict I.kIn ⟨o, h1, h2.1⟩ e (fun z => nomatch z) h
  | @ins a C dx fs ea cl ha hn htk hm =>
    cases (show u = Value.ref a from rx)
    obtain ⟨mA, O, _⟩ := ins_get I.hok ea
    obtain ⟨od, J, _⟩ := O.look
    exact PySem.W.kia_one (PySem.W.kitx_own (cl.get _) cl.hd ha hn htk hm) I.kIn J e (fun z => nomatch z) h
end
end L2

namespace L2
open PySem PySem.Spec PyProof.Rows

/-! ### room -/
structure Room (k : Nat) (A : Around) : Prop where
  hd : A.handled = none
  dp : A.depth + 3 * k + 5 < recursionLimit
  un : A.units + 16 * k + 200 < cLine
theorem Room.mono {j k : Nat} {A : Around} (r : Room k A) (h : j ≤ k) : Room j A := ⟨r.hd, by have := r.dp; omega, by have := r.un; omega⟩
theorem Room.deeper {k : Nat} {A : Around} (r : Room (k + 1) A) (env : Env) : Room k (A.deeper env) :=
  ⟨r.hd, by have := r.dp; show A.depth + 1 + 3 * k + 5 < _; omega, by have := r.un; show A.units + 3 + 16 * k + 200 < _; omega⟩
theorem Room.in1 {k : Nat} {A : Around} (r : Room (k + 1) A) : Room k A.in1 :=
  ⟨r.hd, by have := r.dp; show A.depth + 3 * k + 5 < _; omega, by have := r.un; show A.units + 1 + 16 * k + 200 < _; omega⟩
theorem make_depth {A : Around} {C : Addr} {us : List Value} {kw : List (Str × Value)} : (A.under (.builtin "type.__call__" ⟨.ref C :: us, kw⟩)).depth = A.depth + 1 := by
  first | rfl | simp [Around.under, Code.weight, Code.isCreation, Code.isGuard, Code.isCaller, Code.frames, Code.isFrame, guardIds]
theorem make_units {A : Around} {C : Addr} {us : List Value} {kw : List (Str × Value)} : (A.under (.builtin "type.__call__" ⟨.ref C :: us, kw⟩)).units = A.units + 1 := by
  first | rfl | simp [Around.under, Code.cUnits, Code.frames, Code.isFrame]
theorem Room.make {k : Nat} {A : Around} (r : Room (k + 1) A) (C : Addr) (us : List Value) (kw : List (Str × Value)) : Room k (A.under (.builtin "type.__call__" ⟨.ref C :: us, kw⟩)) :=
  ⟨r.hd, by have := r.dp; rw [make_depth]; omega, by have := r.un; rw [make_units]; omega⟩
theorem Room.depth {k : Nat} {A : Around} (r : Room k A) : A.depth < recursionLimit := by have := r.dp; omega
theorem Room.units {k : Nat} {A : Around} (r : Room k A) : A.units + 64 < cLine := by have := r.un; omega
theorem Room.units0 {k : Nat} {A : Around} (r : Room k A) : A.units < cLine := by have := r.un; omega

/-! ### argument lists and displays -/
def tNil : TA := fun _ H Q => Q [] H
def tCons (ta : TE) (tr : TA) : TA := fun σ H Q => ta σ H fun x H1 => tr σ H1 fun xs H2 => Q (x :: xs) H2
section
variable {X : Cx} {e : Expr} {es : List Expr} {te : TE} {t : TA} {pos : Pos}
theorem pa_nil : PA X [] tNil := fun _ _ _ _ H Q I h => Calls.spliced_nil ⟨[], H, I, .nil, h⟩
theorem pa_cons (ha : PE X e te) (hr : PA X es t) (hs : starEach (e :: es) X.env = (false, eval e X.env) :: starEach es X.env := by rfl) : PA X (e :: es) (tCons te t) := by
  intro pos pins s σ H Q I h
  rw [hs]
  show wpAny _ _ (spliced ((false, eval e X.env) :: backTo pos (starEach es X.env))) _ _ s
  refine Calls.spliced_cons (thn (ha pins s σ H _ I h) fun u s1 ⟨x, H1, I1, r1, q1⟩ => ?_)
  exact thn (hr pos pins s1 σ H1 _ I1 q1) fun us s2 ⟨xs, H2, I2, r2, q2⟩ => ⟨x :: xs, H2, I2, .cons r1 r2, q2⟩

/-- a tuple, a list of written items -/
def tTup (t : TA) : TE := fun σ H Q => t σ H fun xs H1 => xs.length ≤ sizeLine ∧ ∀ p, H1 p = none → Q (.ref p) (upd H1 p (.tup xs))
def tLst (t : TA) : TE := fun σ H Q => t σ H fun xs H1 => xs.length ≤ sizeLine ∧ ∀ p, H1 p = none → Q (.ref p) (upd H1 p (.lst xs))
theorem pe_tup {x1} (h : PA X es t) : PE X (.Tuple es x1 pos) (tTup t) := by
  intro pins s σ H Q I hq
  refine wpAny_Tuple_spliced (thn (h pos pins s σ H _ I hq) fun us s1 ⟨xs, H1, I1, r, z, q⟩ => ⟨by rw [← r.length]; exact z, ?_⟩)
  have hf : H1 s1.heap.objs.size = none := I1.hok.fresh (Nat.le_refl _)
  refine ⟨.ref s1.heap.objs.size, upd H1 s1.heap.objs.size (.tup xs), I1.laid (t' := s1.toks) (fun b u e => Heap.get?_push_of_some _ e) (Nat.le_refl _) ?_, rfl, q _ hf⟩
  exact ⟨z, us, r, ⟨_, Heap.get?_push_size _ rfl, rfl, _, rfl⟩⟩
theorem pe_lst (h : PA X es t) : PE X (.List es pos) (tLst t) := by
  intro pins s σ H Q I hq
  refine wpAny_List_spliced (thn (h pos pins s σ H _ I hq) fun us s1 ⟨xs, H1, I1, r, z, q⟩ => ⟨by rw [← r.length]; exact z, ?_⟩)
  have hf : H1 s1.heap.objs.size = none := I1.hok.fresh (Nat.le_refl _)
  refine ⟨.ref s1.heap.objs.size, upd H1 s1.heap.objs.size (.lst xs), I1.laid (t' := s1.toks) (fun b u e => Heap.get?_push_of_some _ e) (Nat.le_refl _) ?_, rfl, q _ hf⟩
  exact ⟨z, us, 0, r, Heap.get?_push_size _ rfl⟩
end

/-! ### what a def promises -/
/-- a def's promise: the bound arguments in the parameters' order, the heap, the wanted end, the wanted exception -/
abbrev Sp := List V → Hp → VK → XK → Prop
/-- how an exception lies behind a call (file 08 gives it): the callers' frames, abstract heap and state ahead of the call, the wish, the exception, the state -/
abbrev CXT := List Env → Hp → Shared → XK → Value → Shared → Prop

/-- the state at a call -/
structure Env0 (P : Program) (w : World) (K : PySem.W.Frag) (mg : Str → Option Value) (base : Heap) (A : Around) (outer : List Env) (s : Shared) (H : Hp) : Prop where
  frames : A.frames = some outer
  mod : Mod K mg base
  bs : ∀ b o, base.get? b = some o → s.heap.get? b = some o ∧ H b = none
  bsz : base.objs.size ≤ s.heap.objs.size
  funs : s.heap.FunFrames base outer
  frf : ∀ b ∈ frs outer, H b = none
  hok : HOk P w H s.heap
  bare : AllBare s.gens
/-- a call's end -/
def CE (outer : List Env) (P : Program) (w : World) (H : Hp) (s : Shared) (Q : VK) (u : Value) (s' : Shared) : Prop :=
  ∃ v H', s'.os = s.os ∧ AllBare s'.gens ∧ Un (frs outer) [] H H' s.heap s'.heap ∧ HOk P w H' s'.heap ∧ RelV v u ∧ Q v H'
def CR (CX : CXT) (outer : List Env) (P : Program) (w : World) (H : Hp) (s : Shared) (Q : VK) (E : XK) (r : Result) (s' : Shared) : Prop :=
  match r with
  | .ok (.ret u) => CE outer P w H s Q u s'
  | .ok _ => False
  | .error e => CX outer H s E e s'
structure FnOk (P : Program) (w : World) (K : PySem.W.Frag) (mg : Str → Option Value) (base : Heap) (CX : CXT) (k : Nat) (f : Addr) (fd : FuncData) (ps : List Str) (sp : Sp) : Prop where
  len : ∀ vs H Q E, sp vs H Q E → vs.length = ps.length
  run : ∀ (A : Around) (outer : List Env) (s : Shared) (H : Hp) (args : Args) (us : List Value) (vs : List V) (Q : VK) (E : XK), Room k A → Env0 P w K mg base A outer s H → BindsTo s fd args (ps.zip us) → Vals vs us → sp vs H Q E →
    codeAny (model P w) A (.call (.ref f) args) (CR CX outer P w H s Q E) s
theorem FnOk.mono {P : Program} {w : World} {K : PySem.W.Frag} {mg : Str → Option Value} {base : Heap} {CX : CXT} {j k : Nat} {f : Addr} {fd : FuncData} {ps : List Str} {sp : Sp} (F : FnOk P w K mg base CX j f fd ps sp) (h : j ≤ k) :
    FnOk P w K mg base CX k f fd ps sp := ⟨F.len, fun A outer s H args us vs Q E hr => F.run A outer s H args us vs Q E (hr.mono h)⟩
/-- a weaker promise -/
theorem FnOk.imp {P : Program} {w : World} {K : PySem.W.Frag} {mg : Str → Option Value} {base : Heap} {CX : CXT} {k : Nat} {f : Addr} {fd : FuncData} {ps : List Str} {sp sp' : Sp} (F : FnOk P w K mg base CX k f fd ps sp)
    (h : ∀ vs H Q E, sp' vs H Q E → sp vs H Q E) : FnOk P w K mg base CX k f fd ps sp' :=
  ⟨fun vs H Q E q => F.len vs H Q E (h _ _ _ _ q), fun A outer s H args us vs Q E hr he hb hv hs => F.run A outer s H args us vs Q E hr he hb hv (h _ _ _ _ hs)⟩

theorem Env0.make {P : Program} {w : World} {K : PySem.W.Frag} {mg : Str → Option Value} {base : Heap} {A : Around} {outer : List Env} {s : Shared} {H : Hp} (e : Env0 P w K mg base A outer s H) (C : Addr) (us : List Value) (kw : List (Str × Value)) :
    Env0 P w K mg base (A.under (.builtin "type.__call__" ⟨.ref C :: us, kw⟩)) outer s H := ⟨by first | exact e.frames | (simpa [Around.under, Code.envs, Code.isFrame, pushEnvs] using e.frames), e.mod, e.bs, e.bsz, e.funs, e.frf, e.hok, e.bare⟩
theorem Env0.in1 {P : Program} {w : World} {K : PySem.W.Frag} {mg : Str → Option Value} {base : Heap} {A : Around} {outer : List Env} {s : Shared} {H : Hp} (e : Env0 P w K mg base A outer s H) :
    Env0 P w K mg base A.in1 outer s H := ⟨e.frames, e.mod, e.bs, e.bsz, e.funs, e.frf, e.hok, e.bare⟩

section
variable {X : Cx} {pins : List (Addr × Obj)} {σ : St} {H : Hp} {s s' : Shared}
/-- from a body: what a callee wants -/
theorem Inv.env0 (I : Inv X pins σ H s) : Env0 X.prog X.w X.K X.mg X.base X.A X.stack s H :=
  ⟨I.ok.frames, I.ok.mod, I.bs, Nat.le_trans I.ok.bsz I.sz, I.stack, I.stkFree, I.hok, I.bare⟩
/-- behind a call -/
theorem Inv.after {Q : VK} {u : Value} (I : Inv X pins σ H s) (h : CE X.stack X.prog X.w H s Q u s') : EP X pins σ Q u s' := by
  obtain ⟨v, H', os, bare, un, hok, r, q⟩ := h
  obtain ⟨hh, g, d, t, os'⟩ := s'
  obtain rfl : os' = s.os := os
  exact ⟨v, H', I.call (h' := hh) (g' := g) (d' := d) (t' := t) (ch := []) un hok bare (fun b z => absurd z (by simp)), r, q⟩
end

/-! ### calls -/
/-- f(..): the written arguments, then the defaults dvs; E: what is wanted of an exception -/
def tCall (sp : Sp) (dvs : List V) (E : XK) (t : TA) : TE := fun σ H Q => t σ H fun vs H1 => sp (vs ++ dvs) H1 Q E
/-- o.m(..) of an instance of the class at C -/
def tMeth (C : Addr) (m : Str) (sp : Sp) (dvs : List V) (E : XK) (ta : TE) (t : TA) : TE := fun σ H Q => ta σ H fun x H1 => ∃ a dx fs, x = .ref a ∧ H1 a = some (.ins C dx fs) ∧ fs.lookup m = none ∧
  t σ H1 fun vs H2 => sp (x :: (vs ++ dvs)) H2 Q E
/-- C(..): a new instance and its dict, then __init__ -/
def tMake (C : Addr) (sp : Sp) (dvs : List V) (E : XK) (t : TA) : TE := fun σ H Q => t σ H fun vs H1 => ∀ x dx, H1 x = none → H1 dx = none → dx ≠ x →
  sp (.ref x :: (vs ++ dvs)) (upd (upd H1 dx (.own x)) x (.ins C dx [])) (fun v H2 => v = .non ∧ Q (.ref x) H2) E

/-- how the parameters are bound: us the positional arguments, kw the keywords' values by name, ds the defaults that fill up -/
def Binds (K : PySem.W.Frag) (fd : FuncData) (ps : List Str) (ds : List Value) : Prop :=
  ∀ (s : Shared) (us : List Value), K.In s.heap → (us ++ ds).length = ps.length → BindsTo s fd ⟨us, []⟩ (ps.zip (us ++ ds))
/-- every parameter is given -/
theorem Binds.all {K : PySem.W.Frag} {fd : FuncData} {ps : List Str} (h : ∀ us : List Value, us.length = ps.length → bindArgs fd ⟨us, []⟩ = pure (ps.zip us)) : Binds K fd ps [] := fun s us _ hl => by
  rw [List.append_nil] at hl ⊢
  exact .of_eq (h us hl)

/-- an exception of a callee reaches what this body wants of exceptions -/
def Passes (CX : CXT) (X : Cx) (E : XK) : Prop := ∀ (pins : List (Addr × Obj)) (σ : St) (H : Hp) (s : Shared) (e : Value) (s' : Shared), Inv X pins σ H s → CX X.stack H s E e s' → X.xe e s'

section
variable {X : Cx} {CX : CXT} {k : Nat} {f C : Addr} {fd : FuncData} {ps : List Str} {sp : Sp} {dvs : List V} {ds : List Value} {E : XK} {x m : Str} {p pos apos : Pos} {e o : Expr} {es : List Expr} {ta : TE} {t : TA}

/-- the callee runs -/
theorem run_fn {pins : List (Addr × Obj)} {σ : St} {H : Hp} {s : Shared} {Q : VK} {us : List Value} {vs : List V} (F : FnOk X.prog X.w X.K X.mg X.base CX k f fd ps sp) (hr : Room k X.A) (hb : Binds X.K fd ps ds) (hd : Vals dvs ds) (hx : Passes CX X E)
    (I : Inv X pins σ H s) (r : Vals vs us) (h : sp (vs ++ dvs) H Q E) : wpAny (model X.prog X.w) X.A (call (.ref f) us) (EP X pins σ Q) X.xe s := by
  have r2 : Vals (vs ++ dvs) (us ++ ds) := r.append hd
  have hl : (us ++ ds).length = ps.length := by rw [← r2.length]; exact F.len _ _ _ _ h
  refine wpAny_call (codeAny_mono (F.run X.A X.stack s H ⟨us, []⟩ (us ++ ds) (vs ++ dvs) Q E hr I.env0 (hb s us I.kIn hl) r2 h) fun r s' hq => ?_)
  cases r with
  | error e => exact hx pins σ H s e s' I hq
  | ok fl =>
    cases fl with
    | ret u => exact I.after hq
    | next => exact False.elim hq
    | brk => exact False.elim hq
    | cont => exact False.elim hq

theorem pe_call (F : FnOk X.prog X.w X.K X.mg X.base CX k f fd ps sp) (hr : Room k X.A) (hg : Gl X x) (hm : X.mg x = some (.ref f)) (hk : PySem.W.keepIn X.K (.ref f) = true) (hb : Binds X.K fd ps ds) (hd : Vals dvs ds) (hx : Passes CX X E)
    (ha : PA X (e :: es) t) (hdb : (x == ("__debug__" : Str)) = false := by decide) (he : starEach (e :: es) X.env = (false, eval e X.env) :: starEach es X.env := by rfl) (hpl : (backTo pos (starEach es X.env)).any (·.1) = false := by rfl) :
    PE X (.Call (.Name x p) (e :: es) [] pos) (tCall sp dvs E t) := by
  intro pins s σ H Q I h
  refine wpAny_Call_Name_kw (ld_glob I hg hm ?_ hdb)
  refine PySem.W.callWith_K (h₀ := X.base) I.ok.mod.kin hk (thn (ha pos pins s σ H _ I h) fun us s1 ⟨vs, H1, I1, r, q⟩ => ⟨I1.kIn, ?_⟩) he hpl
  exact run_fn F hr hb hd hx I1 r q
theorem pe_call0 (F : FnOk X.prog X.w X.K X.mg X.base CX k f fd ps sp) (hr : Room k X.A) (hg : Gl X x) (hm : X.mg x = some (.ref f)) (hk : PySem.W.keepIn X.K (.ref f) = true) (hb : Binds X.K fd ps ds) (hd : Vals dvs ds) (hx : Passes CX X E)
    (hdb : (x == ("__debug__" : Str)) = false := by decide) : PE X (.Call (.Name x p) [] [] pos) (tCall sp dvs E tNil) := by
  intro pins s σ H Q I h
  refine wpAny_Call_Name_kw (ld_glob I hg hm ?_ hdb)
  exact PySem.W.callWith_K0 I.kIn hk (run_fn (us := []) F hr hb hd hx I .nil h)

/-- o.m(e, ..) -/
theorem pe_meth {pl : Sem Bool} (he : PE X o ta) (c : Cls X.K C) (hm : Meth X.K C m f) (F : FnOk X.prog X.w X.K X.mg X.base CX k f fd ps sp) (hr : Room k X.A) (hb : Binds X.K fd ps ds) (hd : Vals dvs ds) (hx : Passes CX X E) (ha : PA X (e :: es) t)
    (hst : starEach (e :: es) X.env = (false, eval e X.env) :: starEach es X.env := by rfl) (hpl : (backTo pos (starEach es X.env)).any (·.1) = false := by rfl)
    (ht : eval (.Call (.Attribute o m apos) (e :: es) [] pos) X.env = (do
      let ov ← eval o X.env
      standAt apos.atName
      let (f, first) ← holding [ov] (getMethod ov m pl)
      callWith pos f first (backTo pos (starEach (e :: es) X.env)) (backToKw pos (keywordEach [] X.env))) := by rfl) :
    PE X (.Call (.Attribute o m apos) (e :: es) [] pos) (tMeth C m sp dvs E ta t) := by
  intro pins s σ H Q I h
  refine PySem.W.methodCall_KW (pl := pl) (thn (he pins s σ H _ I h) fun u s1 ⟨x, H1, I1, rx, a, dx, fs, ex, ea, l, q⟩ => ?_) ht
  subst ex
  obtain rfl : u = Value.ref a := rx
  refine getmeth_ok I1 ea c hm l ?_
  refine PySem.W.callWith_K (first := [.ref a]) (h₀ := X.base) I.ok.mod.kin hm.kp (thn (ha pos pins s1 σ H1 _ I1 q) fun us s2 ⟨vs, H2, I2, r, q2⟩ => ⟨I2.kIn, ?_⟩) hst hpl
  exact run_fn (us := .ref a :: us) (vs := .ref a :: vs) F hr hb hd hx I2 (.cons rfl r) q2
/-- o.m() -/
theorem pe_meth0 {pl : Sem Bool} (he : PE X o ta) (c : Cls X.K C) (hm : Meth X.K C m f) (F : FnOk X.prog X.w X.K X.mg X.base CX k f fd ps sp) (hr : Room k X.A) (hb : Binds X.K fd ps ds) (hd : Vals dvs ds) (hx : Passes CX X E)
    (ht : eval (.Call (.Attribute o m apos) [] [] pos) X.env = (do
      let ov ← eval o X.env
      standAt apos.atName
      let (f, first) ← holding [ov] (getMethod ov m pl)
      callWith pos f first (backTo pos (starEach [] X.env)) (backToKw pos (keywordEach [] X.env))) := by rfl) :
    PE X (.Call (.Attribute o m apos) [] [] pos) (tMeth C m sp dvs E ta tNil) := by
  intro pins s σ H Q I h
  refine PySem.W.methodCall_KW (pl := pl) (thn (he pins s σ H _ I h) fun u s1 ⟨x, H1, I1, rx, a, dx, fs, ex, ea, l, q⟩ => ?_) ht
  subst ex
  obtain rfl : u = Value.ref a := rx
  refine getmeth_ok I1 ea c hm l ?_
  exact PySem.W.callWith_K0 (first := [.ref a]) I1.kIn hm.kp (run_fn (us := [.ref a]) (vs := [.ref a]) F hr hb hd hx I1 (.cons rfl .nil) q)

/-- what a class must have to be made -/
structure Mk (K : PySem.W.Frag) (C f : Addr) : Prop where
  makes : PySem.W.makesIn K C = true
  init : PySem.W.findIn K (.ref C) "__init__" = some (some (.ref f))
  fn : PySem.W.isFn K (.ref f) = true
  kp : PySem.W.keepIn K (.ref C) = true

theorem run_make {pins : List (Addr × Obj)} {σ : St} {H : Hp} {s : Shared} {Q : VK} {us : List Value} {vs : List V} (M : Mk X.K C f) (F : FnOk X.prog X.w X.K X.mg X.base CX k f fd ps sp) (hr : Room (k + 1) X.A) (hb : Binds X.K fd ps ds) (hd : Vals dvs ds)
    (hx : Passes CX X E) (I : Inv X pins σ H s) (r : Vals vs us)
    (h : ∀ x dx, H x = none → H dx = none → dx ≠ x → sp (.ref x :: (vs ++ dvs)) (upd (upd H dx (.own x)) x (.ins C dx [])) (fun v H2 => v = .non ∧ Q (.ref x) H2) E) :
    wpAny (model X.prog X.w) X.A (call (.ref C) us) (EP X pins σ Q) X.xe s := by
  have hq := h (s.heap.objs.size + 1) s.heap.objs.size (I.hok.fresh (Nat.le_succ _)) (I.hok.fresh (Nat.le_refl _)) (Nat.ne_of_lt (Nat.lt_succ_self _))
  have I2 := Inv.made (C := C) I
  have r2 : Vals (V.ref (s.heap.objs.size + 1) :: (vs ++ dvs)) (Value.ref (s.heap.objs.size + 1) :: (us ++ ds)) := .cons rfl (r.append hd)
  have hl : (Value.ref (s.heap.objs.size + 1) :: us ++ ds).length = ps.length := by
    have e := r2.length
    rw [F.len _ _ _ _ hq] at e
    exact e.symm
  refine wpAny_call (make_map (f := f) I.kIn M.makes M.init (beq_iff_eq.mp M.fn) (codeAny_mono (F.run _ X.stack _ _ ⟨Value.ref (s.heap.objs.size + 1) :: us, []⟩ (Value.ref (s.heap.objs.size + 1) :: (us ++ ds)) _ _ E (hr.make C us [])
    (I2.env0.make C us []) (hb _ (Value.ref (s.heap.objs.size + 1) :: us) I2.kIn hl) r2 hq) fun r s' hq' => ?_))
  cases r with
  | error e => exact hx pins σ _ _ e s' I2 hq'
  | ok fl =>
    cases fl with
    | ret u =>
      obtain ⟨v, H', I3, rv, ev, q3⟩ := I2.after hq'
      subst ev
      exact ⟨rv, ⟨V.ref (s.heap.objs.size + 1), H', I3, rfl, q3⟩⟩
    | next => exact False.elim hq'
    | brk => exact False.elim hq'
    | cont => exact False.elim hq'
theorem pe_make (M : Mk X.K C f) (F : FnOk X.prog X.w X.K X.mg X.base CX k f fd ps sp) (hr : Room (k + 1) X.A) (hg : Gl X x) (hm : X.mg x = some (.ref C)) (hb : Binds X.K fd ps ds) (hd : Vals dvs ds) (hx : Passes CX X E)
    (ha : PA X (e :: es) t) (hdb : (x == ("__debug__" : Str)) = false := by decide) (he : starEach (e :: es) X.env = (false, eval e X.env) :: starEach es X.env := by rfl) (hpl : (backTo pos (starEach es X.env)).any (·.1) = false := by rfl) :
    PE X (.Call (.Name x p) (e :: es) [] pos) (tMake C sp dvs E t) := by
  intro pins s σ H Q I h
  refine wpAny_Call_Name_kw (ld_glob I hg hm ?_ hdb)
  refine PySem.W.callWith_K (h₀ := X.base) I.ok.mod.kin M.kp (thn (ha pos pins s σ H _ I h) fun us s1 ⟨vs, H1, I1, r, q⟩ => ⟨I1.kIn, ?_⟩) he hpl
  exact run_make M F hr hb hd hx I1 r q
theorem pe_make0 (M : Mk X.K C f) (F : FnOk X.prog X.w X.K X.mg X.base CX k f fd ps sp) (hr : Room (k + 1) X.A) (hg : Gl X x) (hm : X.mg x = some (.ref C)) (hb : Binds X.K fd ps ds) (hd : Vals dvs ds) (hx : Passes CX X E)
    (hdb : (x == ("__debug__" : Str)) = false := by decide) : PE X (.Call (.Name x p) [] [] pos) (tMake C sp dvs E tNil) := by
  intro pins s σ H Q I h
  refine wpAny_Call_Name_kw (ld_glob I hg hm ?_ hdb)
  exact PySem.W.callWith_K0 I.kIn M.kp (run_make (us := []) M F hr hb hd hx I .nil h)
end

/-! ### keywords -/
/-- the values of the keywords, from the left -/
def PK (X : Cx) (kws : List Keyword) (t : TA) : Prop :=
  ∀ (pos : Pos) (pins : List (Addr × Obj)) (s : Shared) (σ : St) (H : Hp) (Q : List V → Hp → Prop), Inv X pins σ H s → t σ H Q → wpAny (model X.prog X.w) X.A (evalAll ((backToKw pos (keywordEach kws X.env)).map (·.2))) (AP X pins σ Q) X.xe s
section
variable {X : Cx} {CX : CXT} {k : Nat} {f C : Addr} {fd : FuncData} {ps ks : List Str} {sp : Sp} {E : XK} {x m : Str} {p pos apos kpos : Pos} {e o : Expr} {es : List Expr} {kws : List Keyword} {te ta : TE} {t tk : TA} {nm : Option Str}
theorem pk_nil : PK X [] tNil := fun _ _ _ _ H Q I h => wpAny_evalAll_nil ⟨[], H, I, .nil, h⟩
theorem pk_cons (ha : PE X e te) (hr : PK X kws t) : PK X (⟨nm, e, kpos⟩ :: kws) (tCons te t) := by
  intro pos pins s σ H Q I h
  show wpAny _ _ (evalAll ((do let v ← eval e X.env; standAt pos; pure v) :: (backToKw pos (keywordEach kws X.env)).map (·.2))) _ _ s
  refine wpAny_evalAll_cons (wpAny_bind (thn (ha pins s σ H _ I h) fun u s1 ⟨x, H1, I1, r1, q1⟩ => wpAny_bind (wpAny_standAt (wpAny_pure ?_))))
  exact thn (hr pos pins s1 σ H1 _ I1 q1) fun us s2 ⟨xs, H2, I2, r2, q2⟩ => ⟨x :: xs, H2, I2, .cons r1 r2, q2⟩

/-- how a call with keywords binds: g puts the positional values us and the keywords' values ws (names ks) in the parameters' order, defaults among them -/
structure KBinds (K : PySem.W.Frag) (fd : FuncData) (ps ks : List Str) (g : List Value → List Value → List Value) (gV : List V → List V → List V) : Prop where
  to : ∀ (s : Shared) (us ws : List Value), K.In s.heap → (g us ws).length = ps.length → BindsTo s fd ⟨us, ks.zip ws⟩ (ps.zip (g us ws))
  rel : ∀ {vs : List V} {us : List Value} {zs : List V} {ws : List Value}, Vals vs us → Vals zs ws → Vals (gV vs zs) (g us ws)
def tCallK (sp : Sp) (gV : List V → List V → List V) (E : XK) (t tk : TA) : TE := fun σ H Q => t σ H fun vs H1 => tk σ H1 fun zs H2 => sp (gV vs zs) H2 Q E
variable {g : List Value → List Value → List Value} {gV : List V → List V → List V}
theorem run_fnk {pins : List (Addr × Obj)} {σ : St} {H : Hp} {s : Shared} {Q : VK} {us ws : List Value} {vs zs : List V} (F : FnOk X.prog X.w X.K X.mg X.base CX k f fd ps sp) (hr : Room k X.A) (hb : KBinds X.K fd ps ks g gV) (hx : Passes CX X E)
    (I : Inv X pins σ H s) (r : Vals vs us) (rz : Vals zs ws) (h : sp (gV vs zs) H Q E) : wpAny (model X.prog X.w) X.A (call (.ref f) us (ks.zip ws)) (EP X pins σ Q) X.xe s := by
  have r2 := hb.rel r rz
  have hl : (g us ws).length = ps.length := by rw [← r2.length]; exact F.len _ _ _ _ h
  refine wpAny_call (codeAny_mono (F.run X.A X.stack s H ⟨us, ks.zip ws⟩ (g us ws) (gV vs zs) Q E hr I.env0 (hb.to s us ws I.kIn hl) r2 h) fun r s' hq => ?_)
  cases r with
  | error e => exact hx pins σ H s e s' I hq
  | ok fl =>
    cases fl with
    | ret u => exact I.after hq
    | next => exact False.elim hq
    | brk => exact False.elim hq
    | cont => exact False.elim hq
/-- f(e, .., k = v, ..) -/
theorem pe_callK (F : FnOk X.prog X.w X.K X.mg X.base CX k f fd ps sp) (hr : Room k X.A) (hg : Gl X x) (hm : X.mg x = some (.ref f)) (hk : PySem.W.keepIn X.K (.ref f) = true) (hb : KBinds X.K fd ps ks g gV) (hx : Passes CX X E)
    (ha : PA X (e :: es) t) (hkw : PK X kws tk) (hall : (backToKw pos (keywordEach kws X.env)).all (·.1.isSome) = true := by rfl) (hks : (backToKw pos (keywordEach kws X.env)).filterMap (·.1) = ks := by rfl)
    (hdb : (x == ("__debug__" : Str)) = false := by decide) (he : starEach (e :: es) X.env = (false, eval e X.env) :: starEach es X.env := by rfl)
    (hpl : ((backTo pos (starEach (e :: es) X.env)).any (·.1) || (backToKw pos (keywordEach kws X.env)).any (·.1.isNone)) = false := by rfl) :
    PE X (.Call (.Name x p) (e :: es) kws pos) (tCallK sp gV E t tk) := by
  intro pins s σ H Q I h
  refine wpAny_Call_Name_kw (ld_glob I hg hm ?_ hdb)
  refine PySem.W.callWith_KW (h₀ := X.base) I.ok.mod.kin hk hall (thn (ha pos pins s σ H _ I h) fun us s1 ⟨vs, H1, I1, r, q⟩ => ?_) hpl he
  refine thn (hkw pos pins s1 σ H1 _ I1 q) fun ws s2 ⟨zs, H2, I2, rz, q2⟩ => ⟨I2.kIn, ?_⟩
  rw [hks]
  exact run_fnk F hr hb hx I2 r rz q2
end

/-! ### a def's body keeps its promise -/
/-- names: the parameters first -/
structure FnScope (N P : List Str) (sc : Scope) : Prop where
  kind : sc.kind = .function
  co : sc.isCoroutine = false
  gen : sc.isGenerator = false
  nd : N.Nodup
  pre : N.take P.length = P
  par : ∀ x ∈ P, sc.names.lookup x = some .local ∨ sc.names.lookup x = some .cell
  nofree : ∀ y ∈ sc.names, y.2 ≠ .free

theorem bindL_out {kindOf : Str → Option NameKind} {x : Str} : ∀ {binds : List (Str × Value)} {m : Str → Option Value}, (∀ v, (x, v) ∉ binds) → bindL kindOf binds m x = m x
  | [], _, _ => rfl
  | (n, v) :: r, m, h => by
    unfold bindL
    rw [bindL_out fun w hw => h w (List.mem_cons_of_mem _ hw)]
    split
    · have : x ≠ n := by rintro rfl; exact h v List.mem_cons_self
      simp [this]
    · rfl
theorem bindC_out {kindOf : Str → Option NameKind} {x : Str} : ∀ {binds : List (Str × Value)} {m : Str → Option Value}, (∀ v, (x, v) ∉ binds) → bindC kindOf binds m x = m x
  | [], _, _ => rfl
  | (n, v) :: r, m, h => by
    unfold bindC
    rw [bindC_out fun w hw => h w (List.mem_cons_of_mem _ hw)]
    split
    · rfl
    · have : x ≠ n := by rintro rfl; exact h v List.mem_cons_self
      simp [this]
theorem bindL_get {kindOf : Str → Option NameKind} {x : Str} {v : Value} : ∀ {P : List Str} {vs : List Value} {i : Nat} {m : Str → Option Value}, P.Nodup → P[i]? = some x → vs[i]? = some v → kindOf x = some .local →
    bindL kindOf (P.zip vs) m x = some v
  | [], _, _, _, _, h, _, _ => by simp at h
  | _ :: _, [], _, _, _, _, h, _ => by simp at h
  | p :: P, w :: vs, 0, m, nd, h1, h2, hk => by
    simp at h1 h2; subst h1; subst h2
    show bindL kindOf ((p, w) :: P.zip vs) m p = _
    unfold bindL
    rw [bindL_out fun v hv => (List.nodup_cons.mp nd).1 (List.of_mem_zip hv).1, if_pos hk]
    simp
  | p :: P, w :: vs, i + 1, m, nd, h1, h2, hk => by
    show bindL kindOf ((p, w) :: P.zip vs) m x = _
    unfold bindL
    exact bindL_get (i := i) (List.nodup_cons.mp nd).2 (by simpa using h1) (by simpa using h2) hk
theorem bindC_get {kindOf : Str → Option NameKind} {x : Str} {v : Value} : ∀ {P : List Str} {vs : List Value} {i : Nat} {m : Str → Option Value}, P.Nodup → P[i]? = some x → vs[i]? = some v → kindOf x ≠ some .local →
    bindC kindOf (P.zip vs) m x = some v
  | [], _, _, _, _, h, _, _ => by simp at h
  | _ :: _, [], _, _, _, _, h, _ => by simp at h
  | p :: P, w :: vs, 0, m, nd, h1, h2, hk => by
    simp at h1 h2; subst h1; subst h2
    show bindC kindOf ((p, w) :: P.zip vs) m p = _
    unfold bindC
    rw [bindC_out fun v hv => (List.nodup_cons.mp nd).1 (List.of_mem_zip hv).1, if_neg hk]
    simp
  | p :: P, w :: vs, i + 1, m, nd, h1, h2, hk => by
    show bindC kindOf ((p, w) :: P.zip vs) m x = _
    unfold bindC
    exact bindC_get (i := i) (List.nodup_cons.mp nd).2 (by simpa using h1) (by simpa using h2) hk

/-- the names' values at the entry -/
def start (N : List Str) (vs : List V) : St := vs.map some ++ List.replicate (N.length - vs.length) none

/-- the context of a def's body, at its entry; an exception leaves the frame, then lies as CX says -/
def cxOf (CX : CXT) (P : Program) (w : World) (K : PySem.W.Frag) (mg : Str → Option Value) (base : Heap) (N : List Str) (qual : Str) (scope : Scope) (f : Addr) (cd : Value) (A : Around) (outer : List Env) (s : Shared) (H : Hp) (E : XK) : Cx where
  prog := P
  w := w
  K := K
  mg := mg
  base := base
  A := A.deeper (envOfC qual scope s.heap.objs.size f cd)
  N := N
  s₀ := s
  H₀ := H
  env := envOfC qual scope s.heap.objs.size f cd
  outer := outer
  stack := envOfC qual scope s.heap.objs.size f cd :: outer
  ex := []
  calm := true
  fn := fun _ => true
  pn := []
  xe := fun e s' => wpAny (model P w) (A.deeper (envOfC qual scope s.heap.objs.size f cd)) (leaving (envOfC qual scope s.heap.objs.size f cd) e) (fun _ s'' => CX outer H s E e s'') (fun e' s'' => CX outer H s E e' s'') s'

theorem cell_has {sc : Scope} {n : Nat} {x : Str} (h : sc.names.lookup x = some .cell) : ∃ c, (cellsFrom n sc.names []).lookup x = some c := by
  have q := PySem.W.cellsFrom_some sc.names n [] (.inl h)
  exact Option.isSome_iff_exists.mp q

theorem inv_start {CX : CXT} {P : Program} {w : World} {K : PySem.W.Frag} {mg : Str → Option Value} {base : Heap} {N ps : List Str} {qual : Str} {scope : Scope} {f : Addr} {cd : Value} {A : Around} {outer : List Env} {s s1 : Shared} {H : Hp} {E : XK} {us : List Value} {vs : List V}
    (S : FnScope N ps scope) (hd : A.handled = none) (e0 : Env0 P w K mg base A outer s H) (hl : vs.length = ps.length) (r : Vals vs us)
    (x : InCallC s s.heap.objs.size (bindL (envOfC qual scope s.heap.objs.size f cd).kindOf (ps.zip us) fun _ => none) (cellsFrom (s.heap.objs.size + 1) scope.names []) (bindC (envOfC qual scope s.heap.objs.size f cd).kindOf (ps.zip us) fun _ => none) s1) :
    Inv (cxOf CX P w K mg base N qual scope f cd A outer s H E) [] (start N vs) H s1 := by
  have hpl : ps.length ≤ N.length := by have := congrArg List.length S.pre; rw [List.length_take] at this; omega
  obtain ⟨h1, tk, rfl, hk⟩ := x.done
  have noA : ∀ b : Addr, b ∉ (cxOf CX P w K mg base N qual scope f cd A outer s H E).ex := fun b z => absurd (show b ∈ ([] : List Addr) from z) (by simp)
  refine ⟨⟨e0.mod, S.kind, rfl, rfl, Nat.le_refl _, fun y z c h1 h2 => ?_, fun y hy => ?_, fun y c _ h => ?_, fun _ => hd, Around.frames_deeper e0.frames, .inr ⟨rfl, rfl⟩, fun b z => absurd z (noA b), e0.bs, e0.bsz, fun b _ _ => noA b, fun b z => absurd z (noA b), e0.funs, e0.frf⟩,
    rfl, e0.bare, Un.kept hk, ⟨_, x.toInCall.ns, fun i y v h1 h2 h3 => ?_⟩, fun y c h => ⟨_, x.cell y c h⟩, e0.hok.fresh (Nat.le_refl _), fun y c h => ?_, fun p hp => absurd (show p ∈ ([] : List (Addr × Obj)) from hp) (by simp), e0.hok.kept hk, ?_⟩
  · exact name_of_addr x.apart (PySem.mem_of_lookup h1) (PySem.mem_of_lookup h2)
  · have hy : scope.names.lookup y = some .cell ∨ scope.names.lookup y = some .free := hy
    rcases hy with hy | hy
    · exact cell_has hy
    · exact absurd rfl (S.nofree _ (PySem.mem_of_lookup hy))
  · exact Nat.le_of_lt (x.above y c (PySem.mem_of_lookup h))
  · have hi : i < vs.length := by
      unfold start at h2
      by_cases hi : i < vs.length
      · exact hi
      · rw [List.getElem?_append_right (by simpa using hi)] at h2
        rw [List.getElem?_replicate] at h2
        split at h2 <;> cases h2
    have ha : vs[i]? = some v := by
      unfold start at h2
      rw [List.getElem?_append_left (by simpa using hi), List.getElem?_map] at h2
      cases e : vs[i]? with
      | none => rw [e] at h2; cases h2
      | some a => rw [e] at h2; cases h2; rfl
    obtain ⟨u, hu, rv⟩ := r.get ha
    have hp : ps[i]? = some y := by
      rw [← S.pre, List.getElem?_take_of_lt (by omega)]; exact h1
    have ndP : ps.Nodup := by rw [← S.pre]; exact S.nd.sublist (List.take_sublist _ _)
    refine ⟨u, rv, ?_⟩
    rcases S.par y (List.mem_of_getElem? hp) with k | k
    · exact .inl ⟨k, bindL_get ndP hp hu k⟩
    · obtain ⟨c, e⟩ := cell_has (n := s.heap.objs.size + 1) k
      refine .inr ⟨.inl k, c, e, ?_⟩
      have q := x.cell y c e
      rw [bindC_get ndP hp hu (by show scope.names.lookup y ≠ _; rw [k]; decide)] at q
      exact q
  · exact e0.hok.fresh (Nat.le_of_lt (x.above y c (PySem.mem_of_lookup h)))
  · unfold start
    show _ = N.length
    rw [List.length_append, List.length_map, List.length_replicate]
    omega

/-- THE RULE: a def (or a method) of the text, by its body. The body's reading t is chosen for each entry; it is run at the parameters' values -/
theorem fn_of {CX : CXT} {P : Program} {w : World} {K : PySem.W.Frag} {mg : Str → Option Value} {base : Heap} {k : Nat} {f : Addr} {name qual : Str} {params : Arguments} {body : List Stmt} {scope : Scope} {dV kV doc pm cdv ct oc : Value} {an od : Option Addr}
    {osl : Array (Option Value)} {N ps : List Str} {sp : Sp} (lk : K.lookup f = some ⟨oc, od, .func (PySem.W.fnOf name qual params body scope dV kV doc pm an cdv ct), osl⟩) (hcd : PySem.W.codeIn K cdv qual = true) (S : FnScope N ps scope)
    (len : ∀ vs H Q E, sp vs H Q E → vs.length = ps.length)
    (hbody : ∀ (A : Around) (outer : List Env) (s : Shared) (H : Hp) (vs : List V) (Q : VK) (E : XK), Room k (A.deeper (envOfC qual scope s.heap.objs.size f cdv)) → sp vs H Q E →
      ∃ t, PSs (cxOf CX P w K mg base N qual scope f cdv A outer s H E) body t ∧ t { nx := fun _ H' => Q .non H', rt := Q } (start N vs) H) :
    FnOk P w K mg base CX (k + 1) f (PySem.W.fnOf name qual params body scope dV kV doc pm an cdv ct) ps sp := by
  refine ⟨len, fun A outer s H args us vs Q E hr e0 hb r hsp => ?_⟩
  have hl := len _ _ _ _ hsp
  have KX : K.In s.heap := e0.mod.kin.keeps fun b o e => (e0.bs b o e).1
  have lim : s.heap.NoLimit := e0.mod.nolimit.keeps fun b o e => (e0.bs b o e).1
  have hkind : ∀ y ∈ ps.zip us, scope.names.lookup y.1 = some .local ∨ (scope.names.lookup y.1 = some .cell ∧ ((cellsFrom (s.heap.objs.size + 1) scope.names []).lookup y.1).isSome = true) := fun ⟨n, v⟩ hy => by
    rcases S.par n (List.of_mem_zip hy).1 with q | q
    · exact .inl q
    · exact .inr ⟨q, PySem.W.cellsFrom_some _ _ _ (.inl q)⟩
  refine codeAny_call_function hr.depth (KX _ _ lk) rfl S.co S.gen rfl (PySem.W.codeRec_of KX hcd) (hb _ _ _ _ ?_)
  refine wpAny_newFunctionEnv_cells S.kind hkind fun env he s1 x => ?_
  subst he
  refine ⟨lim.keeps x.toInCall.keep, codeAny_func ?_⟩
  obtain ⟨t, ht, hq⟩ := hbody A outer s H vs Q E (hr.deeper _) hsp
  have I : Inv (cxOf CX P w K mg base N qual scope f cdv A outer s H E) [] (start N vs) H s1 := inv_start S hr.hd e0 hl r x
  refine wpAny_mono (ht [] s1 (start N vs) H _ I hq) (fun fl s' hs => ?_) fun e s' hs => hs
  have fin : ∀ {σ' : St} {H' : Hp} {v : V} {u : Value}, Inv (cxOf CX P w K mg base N qual scope f cdv A outer s H E) [] σ' H' s' → RelV v u → Q v H' → CE outer P w H s Q u s' :=
    fun {σ' H' v u} J rv q => ⟨v, H', J.os, J.bare, J.base, J.hok, rv, q⟩
  cases fl with
  | ret u =>
    obtain ⟨v, σ', H', J, rv, q⟩ := hs
    exact fin J rv q
  | next =>
    obtain ⟨σ', H', J, q⟩ := hs
    exact fin (v := V.non) (u := Value.none) J rfl q
  | brk =>
    obtain ⟨_, _, _, q⟩ := hs
    exact False.elim q
  | cont =>
    obtain ⟨_, _, _, q⟩ := hs
    exact False.elim q
end L2

namespace L2
open PySem PySem.Spec PyProof.Rows
section
variable {X : Cx} {x : Str} {p pos : Pos} {e : Expr} {es : List Expr} {t : TA} {id T : String} {r : List V → Hp → VK → Prop}

def tCB (r : List V → Hp → VK → Prop) (t : TA) : TE := fun σ H Q => t σ H fun vs H1 => r vs H1 Q
/-- f(e, ..), f a built-in function -/
theorem pe_callB (hc : CallR X (.builtin id) r) (hg : Gl X x) (hm : X.mg x = none) (hv : bootBuiltins x = some (.builtin id)) (ha : PA X (e :: es) t) (hn : x ≠ "__name__" := by decide) (hdb : (x == ("__debug__" : Str)) = false := by decide)
    (he : starEach (e :: es) X.env = (false, eval e X.env) :: starEach es X.env := by rfl) (hpl : (backTo pos (starEach es X.env)).any (·.1) = false := by rfl) : PE X (.Call (.Name x p) (e :: es) [] pos) (tCB r t) := by
  intro pins s σ H Q I h
  refine wpAny_Call_Name_kw (ld_blt I hg hm hv ?_ hn hdb)
  exact PyProof.Rows.callWith_builtin1 (thn (ha pos pins s σ H _ I h) fun us s1 ⟨vs, H1, I1, r1, q1⟩ => hc pins s1 σ H1 vs us Q I1 r1 q1) he hpl
/-- T(e, ..), T a built-in type -/
theorem pe_callTy (hc : CallR X (.type T) r) (hg : Gl X x) (hm : X.mg x = none) (hv : bootBuiltins x = some (.type T)) (ha : PA X (e :: es) t) (hn : x ≠ "__name__" := by decide) (hdb : (x == ("__debug__" : Str)) = false := by decide)
    (he : starEach (e :: es) X.env = (false, eval e X.env) :: starEach es X.env := by rfl) (hpl : (backTo pos (starEach es X.env)).any (·.1) = false := by rfl) : PE X (.Call (.Name x p) (e :: es) [] pos) (tCB r t) := by
  intro pins s σ H Q I h
  refine wpAny_Call_Name_kw (ld_blt I hg hm hv ?_ hn hdb)
  exact PyProof.Rows.callWith_type1 (thn (ha pos pins s σ H _ I h) fun us s1 ⟨vs, H1, I1, r1, q1⟩ => hc pins s1 σ H1 vs us Q I1 r1 q1) he hpl
/-- T() -/
theorem pe_callTy0 (hc : CallR X (.type T) r) (hg : Gl X x) (hm : X.mg x = none) (hv : bootBuiltins x = some (.type T)) (hn : x ≠ "__name__" := by decide) (hdb : (x == ("__debug__" : Str)) = false := by decide) :
    PE X (.Call (.Name x p) [] [] pos) (tCB r tNil) := by
  intro pins s σ H Q I h
  refine wpAny_Call_Name_kw (ld_blt I hg hm hv ?_ hn hdb)
  exact PyProof.Rows.callWith_type0 (hc pins s σ H [] [] Q I .nil h)
end
end L2

namespace HT
open PySem PyProof.Rows

/-- t < u of tuples of ints -/
def lexLt : List Int → List Int → Bool
  | [], [] => false
  | [], _ :: _ => true
  | _ :: _, [] => false
  | x :: xs, y :: ys => if x = y then lexLt xs ys else decide (x < y)
theorem lexLt_cons (x y : Int) (xs ys : List Int) : lexLt (x :: xs) (y :: ys) = if x = y then lexLt xs ys else decide (x < y) := rfl
theorem lexLt_nil_nil : lexLt [] [] = false := rfl
theorem lexLt_nil_cons (y : Int) (ys : List Int) : lexLt [] (y :: ys) = true := rfl
theorem lexLt_cons_nil (x : Int) (xs : List Int) : lexLt (x :: xs) [] = false := rfl

theorem eqAt_int (A : Around) (s : Shared) (a : Int) (t : Tok) (c : Int) (u : Tok) : ∃ e, SeqAt.EqAt A s (.int a t) (.int c u) e ∧ (e = true ↔ a = c) :=
  ⟨(a == c), SeqAt.EqAt.int_int a t c u, by simp⟩
theorem rcLt_int (A : Around) (s : Shared) (a : Int) (t : Tok) (c : Int) (u : Tok) (prog : Program) (w : World) (E : Value → Shared → Prop) (Q : Value → Shared → Prop) (h : Q (.bool (decide (a < c))) s) :
    wpAny (model prog w) A (richCompare .Lt (.int a t) (.int c u)) Q E s :=
  (PyProof.Rows.lt_int h : wpAny (model prog w) A (compareOp .Lt (.int a t) (.int c u)) Q E s)

section
open PySem.SeqAt
open PySem.AutoSeq1 (wpAny_loadPart')
open PySem.MeetsSeq PySem.MeetsSeq2 PySem.MeetsSeq3

theorem tuple_lt_ints (l b : Addr) (items items2 : Array Value) (n n2 : Nat) (dd dd2 : Option Addr) (sl sl2 : Array (Option Value)) (ns ms : List Int) (hi : IntsAre items.toList ns) (hj : IntsAre items2.toList ms) :
    Meets (Builtin.«tuple.__lt__» ⟨[.ref l, .ref b], []⟩)
      (fun _ R s => s.heap.get? l = some { cls := .type "tuple", dict := dd, data := .seq items n, slots := sl } ∧ s.heap.get? b = some { cls := .type "tuple", dict := dd2, data := .seq items2 n2, slots := sl2 } ∧
        R (.ok (.ret (.bool (lexLt ns ms)))) s) :=
  .of_wp fun prog w A R s h => by
    obtain ⟨hp, g, d, tk, os⟩ := s; obtain ⟨hl, hb, h⟩ := h
    have f2 := AutoSeq1.sub_tuple_tuple
    have z1 : items.size = ns.length := by rw [← hi.length]; simp
    have z2 : items2.size = ms.length := by rw [← hj.length]; simp
    wp_walk using wpAny_loadPart' hl, wpAny_loadPart' hb, wpAny_forIn_list _ (fun rest b s' => b.1 = none ∧ s' = ⟨hp, g, d, tk, os⟩ ∧ ∃ (vs ws : List Value) (ns' ms' : List Int), rest = vs.zip ws ∧
      IntsAre vs ns' ∧ IntsAre ws ms' ∧ ns'.length + items2.size = ms'.length + items.size ∧ R (.ok (.ret (.bool (lexLt ns' ms')))) ⟨hp, g, d, tk, os⟩) _
    case turn =>
      rintro ⟨y, x⟩ rest b s' ⟨hb', rfl, vs, ws, ns', ms', hz, hvi, hwi, hlen, hR⟩
      cases hvi with
      | nil => rw [List.zip_nil_left] at hz; cases hz
      | cons a t hvi' =>
        cases hwi with
        | nil => rw [List.zip_nil_right] at hz; cases hz
        | cons c u hwi' =>
          rw [List.zip_cons_cons] at hz
          injection hz with hyx hrest
          injection hyx with hy hx
          subst hy hx
          rw [lexLt_cons] at hR
          simp only [List.length_cons] at hlen
          obtain ⟨e, he, hiff⟩ := eqAt_int A.in1 ⟨hp, g, d, tk, os⟩ a t c u
          refine wpAny_bind (he prog w _ _ ?_)
          cases e with
          | true =>
            rw [if_pos (hiff.mp rfl)] at hR
            wp_walk
            exact ⟨rfl, rfl, _, _, _, _, hrest, hvi', hwi', by omega, hR⟩
          | false =>
            rw [if_neg (fun q => absurd (hiff.mpr q) Bool.false_ne_true)] at hR
            have hri := rcLt_int A.in1 ⟨hp, g, d, tk, os⟩ a t c u prog w
            wp_walk using hri
            exact ⟨_, rfl, by simpa using hR⟩
    case fin =>
      rintro ⟨b1, b2⟩ s' ⟨hb', rfl, vs, ws, ns', ms', hz, hvi, hwi, hlen, hR⟩
      simp only at hb'
      subst hb'
      have hv : lexLt ns' ms' = decide (items.size < items2.size) := by
        cases hvi with
        | nil =>
          cases hwi with
          | nil =>
            simp only [List.length_nil] at hlen
            rw [lexLt_nil_nil]
            exact (decide_eq_false (by omega)).symm
          | cons c u hw =>
            simp only [List.length_nil, List.length_cons] at hlen
            rw [lexLt_nil_cons]
            exact (decide_eq_true (by omega)).symm
        | cons a t hv =>
          cases hwi with
          | nil =>
            simp only [List.length_nil, List.length_cons] at hlen
            rw [lexLt_cons_nil]
            exact (decide_eq_false (by omega)).symm
          | cons c u hw =>
            rw [List.zip_cons_cons] at hz
            cases hz
      rw [hv] at hR
      wp_walk
      exact ⟨_, rfl, by simpa [Builtin.Tuple.tupleCompareSizes] using hR⟩
    case h =>
      exact ⟨rfl, rfl, items.toList, items2.toList, ns, ms, rfl, hi, hj, by omega, h⟩
end

section
variable {prog : Program} {w : World} {A : Around} {E : Value → Shared → Prop} {s : Shared}

theorem lt_tupInts {l b : Addr} {items items2 : Array Value} {ns ms : List Int} {Q : Value → Shared → Prop} (hl : IsTup s.heap l items) (hb : IsTup s.heap b items2) (hi : IntsAre items.toList ns) (hj : IntsAre items2.toList ms)
    (hu : A.units < cLine) (h : Q (.bool (lexLt ns ms)) s) : wpAny (model prog w) A (compareOp .Lt (.ref l) (.ref b)) Q E s := by
  obtain ⟨⟨cls, dd, data, sl⟩, ho, hc, n, hd⟩ := id hl
  obtain ⟨⟨cls2, dd2, data2, sl2⟩, ho2, hc2, n2, hd2⟩ := id hb
  simp only at hc hd hc2 hd2
  subst hc hd hc2 hd2
  exact richCompare_meets_room (op := .Lt) ⟨_, ho, rfl⟩ ⟨_, ho2, rfl⟩ PySem.F.slot_tuple_lt PySem.F.entry_tuple_lt (PySem.F.args_tuple_lt_2 _ _) (tuple_lt_ints l b items items2 n n2 dd dd2 sl sl2 ns ms hi hj)
    ⟨ho, ho2, show Value.bool (lexLt ns ms) ≠ Value.notImplemented ∧ Q (.bool (lexLt ns ms)) s from ⟨(fun x => nomatch x), h⟩⟩ hu

/-- t + u, t not empty -/
theorem cat_tup {t b : Addr} {vs ws : List Value} {Q : Value → Shared → Prop} (ht : IsTup s.heap t vs.toArray) (hb : IsTup s.heap b ws.toArray) (hv : vs ≠ [])
    (h1 : ws = [] → Q (.ref t) s) (h2 : ws ≠ [] → Q (.ref s.heap.objs.size) { s with heap := s.heap.push { cls := .type "tuple", data := .seq (vs ++ ws).toArray } })
    (hsz : vs.length + ws.length ≤ sizeLine) : wpAny (model prog w) A (binaryOp .Add (.ref t) (.ref b)) Q E s := by
  obtain ⟨⟨cls, dd, data, sl⟩, ho, hc, n, hd⟩ := id ht
  obtain ⟨⟨cls2, dd2, data2, sl2⟩, ho2, hc2, n2, hd2⟩ := id hb
  simp only at hc hd hc2 hd2
  subst hc hd hc2 hd2
  have e : vs.toArray ++ ws.toArray = (vs ++ ws).toArray := by simp
  by_cases hw : ws = []
  · exact concat_meets ⟨_, ho, rfl⟩ ⟨_, ho2, rfl⟩ noFill_tuple_add seq_tuple_add PySem.F.slot_tuple_add PySem.F.entry_tuple_add (PySem.F.args_tuple_add_2 _ _)
      (tuple_addW1 t b vs.toArray ws.toArray n n2 dd dd2 sl sl2 (by simpa using hv) (by simp [hw])) ⟨ho, ho2, h1 hw⟩
  · refine concat_meets ⟨_, ho, rfl⟩ ⟨_, ho2, rfl⟩ noFill_tuple_add seq_tuple_add PySem.F.slot_tuple_add PySem.F.entry_tuple_add (PySem.F.args_tuple_add_2 _ _)
      (tuple_addW2 t b vs.toArray ws.toArray n n2 dd dd2 sl sl2 (by simpa using hv) (by simpa using hw) (by rw [List.size_toArray, List.size_toArray]; exact hsz)) ⟨ho, ho2, ?_⟩
    rw [e]
    exact h2 hw

/-! ### t[a:b], not the whole -/
/-- a slice's bound as a place among n (d where it is left out) -/
def sIx (n d : Nat) : Option Int → Nat
  | none => d
  | some v => if v < 0 then (v + (n : Int)).toNat else min v.toNat n
theorem sIx_none (n d : Nat) : sIx n d none = d := rfl
theorem sIx_nat (n d k : Nat) : sIx n d (some (k : Int)) = min k n := by
  show (if (k : Int) < 0 then ((k : Int) + (n : Int)).toNat else min (k : Int).toNat n) = min k n
  rw [if_neg (by omega), Int.toNat_natCast]
theorem sIx_le (n d : Nat) (hd : d ≤ n) (o : Option Int) : sIx n d o ≤ n := by
  cases o with
  | none => exact hd
  | some v =>
    show (if v < 0 then (v + (n : Int)).toNat else min v.toNat n) ≤ n
    by_cases hv : v < 0
    · rw [if_pos hv]; omega
    · rw [if_neg hv]; exact Nat.min_le_right _ _
theorem clip_eq (v : Int) (n d : Nat) : (if v < 0 then max (v + (n : Int)) 0 else min v (n : Int)) = ((sIx n d (some v) : Nat) : Int) := by
  show (if v < 0 then max (v + (n : Int)) 0 else min v (n : Int)) = (((if v < 0 then (v + (n : Int)).toNat else min v.toNat n) : Nat) : Int)
  by_cases hv : v < 0
  · simp only [if_pos hv]; omega
  · simp only [if_neg hv]; omega
theorem adjust_gen (lo hi : Option Int) (n : Nat) : Builtin.Slice.sliceAdjust lo hi 1 (n : Int) = (((sIx n 0 lo : Nat) : Int), ((sIx n n hi : Nat) : Int)) := by
  have h1 : ¬ ((1 : Int) < 0) := by omega
  unfold Builtin.Slice.sliceAdjust
  simp only [h1, if_false]
  refine Prod.ext ?_ ?_
  · cases lo with
    | none => rfl
    | some v => exact clip_eq v n 0
  · cases hi with
    | none => rfl
    | some v => exact clip_eq v n n
theorem places_gen (i j : Nat) : Builtin.Slice.slicePlaces (i : Int) (j : Int) 1 = j - i := by
  unfold Builtin.Slice.slicePlaces
  have h1 : (1 : Int) > 0 := by omega
  simp only [h1, if_true, Int.ediv_one]
  split <;> omega
theorem slicePart_ {v : Value} {o : Option Int} {Q : Option Int → Shared → Prop} (p : IsPart v o) (h : Q o s) : wpAny (model prog w) A (Builtin.Slice.slicePartIndex v) Q E s := by
  cases p with
  | none => exact slicePart_none h
  | int i t => exact slicePart_int h
theorem sliceApplied_gen {sl : Addr} {vl vu : Value} {lo hi : Option Int} {n : Nat} {Q : Int × Int × Nat → Shared → Prop} (hs : s.heap.IsSliceOf sl vl vu .none) (pl : IsPart vl lo) (pu : IsPart vu hi)
    (h : Q (((sIx n 0 lo : Nat) : Int), 1, sIx n n hi - sIx n 0 lo) s) : wpAny (model prog w) A (Builtin.Slice.sliceApplied (.ref sl) (pure (n : Int))) Q E s := by
  obtain ⟨os, hos, hcs, hds⟩ := id hs
  unfold Builtin.Slice.sliceApplied Builtin.Slice.sliceFields
  refine wpAny_bind (wpAny_bind (wpAny_field hos hds (x := vl) rfl (wpAny_bind (wpAny_field hos hds (x := vu) rfl (wpAny_bind (wpAny_field hos hds (x := .none) rfl (wpAny_pure ?_)))))))
  refine wpAny_bind (slicePart_none ?_)
  show wpAny _ _ (if ((1 : Int) == 0) = true then _ else _) _ _ s
  rw [if_neg (by decide)]
  refine wpAny_bind (slicePart_ pl (wpAny_bind (slicePart_ pu (wpAny_bind (wpAny_pure ?_)))))
  show wpAny _ _ (match Builtin.Slice.sliceAdjust lo hi 1 (n : Int) with | (lo, hi) => pure (lo, (1 : Int), Builtin.Slice.slicePlaces lo hi 1)) _ _ s
  rw [adjust_gen lo hi n]
  show wpAny _ _ (pure (((sIx n 0 lo : Nat) : Int), (1 : Int), Builtin.Slice.slicePlaces ((sIx n 0 lo : Nat) : Int) ((sIx n n hi : Nat) : Int) 1)) _ _ s
  rw [places_gen]
  exact wpAny_pure h
theorem pick_gen (xs : Array Value) (i k : Nat) : ((List.range k).filterMap fun (m : Nat) => xs[((i : Int) + (m : Int) * 1).toNat]?).toArray = ((xs.toList.drop i).take k).toArray := by
  have e : (fun (m : Nat) => xs[((i : Int) + (m : Int) * 1).toNat]?) = fun m => xs[i + m]? := by
    funext m
    have : ((i : Int) + (m : Int) * 1).toNat = i + m := by omega
    rw [this]
  rw [e]
  have := pick_run xs i k
  rw [List.filterMap_map] at this
  have e2 : ((fun x => xs[x]?) ∘ fun x => i + x) = fun m => xs[i + m]? := rfl
  rw [e2] at this
  rw [this]

theorem getItem_tuple_cut {t sl : Addr} {items : Array Value} {vl vu : Value} {lo hi : Option Int} {Q : Value → Shared → Prop} (ht : IsTup s.heap t items) (hs : s.heap.IsSliceOf sl vl vu .none) (pl : IsPart vl lo) (pu : IsPart vu hi)
    (hw : ¬ (sIx items.size 0 lo = 0 ∧ sIx items.size items.size hi = items.size))
    (h : Q (.ref s.heap.objs.size) { s with heap := s.heap.push { cls := .type "tuple", data := .seq ((items.toList.drop (sIx items.size 0 lo)).take (sIx items.size items.size hi - sIx items.size 0 lo)).toArray } })
    (hsz : items.size ≤ sizeLine) : wpAny (model prog w) A (getItem (.ref t) (.ref sl)) Q E s := by
  have htake : sizeOk (.seq ((items.toList.drop (sIx items.size 0 lo)).take (sIx items.size items.size hi - sIx items.size 0 lo)).toArray) := by
    show ((items.toList.drop (sIx items.size 0 lo)).take (sIx items.size items.size hi - sIx items.size 0 lo)).toArray.size ≤ sizeLine
    rw [List.size_toArray, List.length_take, List.length_drop, Array.length_toList]
    omega
  have hj : sIx items.size items.size hi ≤ items.size := sIx_le _ _ (Nat.le_refl _) hi
  obtain ⟨os, hos, hcs, hds⟩ := id hs
  have hTs : s.TypeIs (.ref sl) "slice" := ⟨os, hos, hcs⟩
  unfold getItem
  try with_reducible refine wpAny_holding ?_
  first | refine wpAny_bind (wpAny_pure ?_) | skip
  refine wpAny_bind (wpAny_sequenceKey ht.typeIs (by decide) ?_)
  refine wpAny_bind (wpAny_callSpecial?_slot (name := Str.ofString "__getitem__") ht.typeIs PyProof.Rows.slot_tuple_getitem
    (wpAny_call_entry PyProof.Rows.slot_tuple_getitem ht.typeIs entry_tuple_getitem ?_ (args_tuple_getitem _ _)))
  show wpAny _ _ (Builtin.Tuple.tupleItemsOf (.ref t) >>= _) _ _ s
  refine wpAny_bind (tupleItemsOf_ ht ?_)
  refine wpAny_bind (wpAny_typeOf hTs ?_)
  rw [if_pos (by decide)]
  refine wpAny_bind (sliceApplied_gen hs pl pu ?_)
  have hno : ¬ ((((sIx items.size 0 lo : Nat) : Int) == 0 && (1 : Int) == 1 && (sIx items.size items.size hi - sIx items.size 0 lo) == items.size) = true) := by
    intro q
    rw [Bool.and_eq_true, Bool.and_eq_true] at q
    have q1 : ((sIx items.size 0 lo : Nat) : Int) = 0 := eq_of_beq q.1.1
    have q2 : sIx items.size items.size hi - sIx items.size 0 lo = items.size := eq_of_beq q.2
    exact hw ⟨by omega, by omega⟩
  show wpAny _ _ (if (((sIx items.size 0 lo : Nat) : Int) == 0 && (1 : Int) == 1 && (sIx items.size items.size hi - sIx items.size 0 lo) == items.size) = true then _ else _) _ _ s
  rw [if_neg hno, pick_gen]
  first
    | exact wpAny_bind (m := Builtin.Tuple.tupleExact _) (wpAny_newObj_type (wpAny_pure ⟨_, rfl, wpAny_pure h⟩) htake)
    | exact wpAny_bind (m := Builtin.Tuple.tupleExact _) (wpAny_newObj_type (wpAny_bind (wpAny_pure (wpAny_pure ⟨_, rfl, wpAny_pure h⟩))) htake)
    | exact wpAny_bind (wpAny_bind (m := Builtin.Tuple.tupleExact _) (wpAny_newObj_type (wpAny_pure (wpAny_pure ⟨_, rfl, wpAny_pure h⟩)) htake))
    | exact wpAny_bind (wpAny_bind (m := Builtin.Tuple.tupleExact _) (wpAny_newObj_type (wpAny_pure ⟨_, rfl, wpAny_pure h⟩) htake))
end
end HT

namespace L2
open PySem PySem.Spec PyProof.Rows

/-! ### the parts of a slice -/
abbrev TO := St → Hp → (Option Int → Hp → Prop) → Prop
/-- a slice's part (left out, or an int) -/
def PO (X : Cx) (e : Option Expr) (t : TO) : Prop :=
  ∀ (pins : List (Addr × Obj)) (s : Shared) (σ : St) (H : Hp) (Q : Option Int → Hp → Prop), Inv X pins σ H s → t σ H Q →
    wpAny (model X.prog X.w) X.A (evalPart e X.env) (fun u s' => ∃ o H', Inv X pins σ H' s' ∧ IsPart u o ∧ Q o H') X.xe s
def tNoPart : TO := fun _ H Q => Q none H
def tPart (t : TE) : TO := fun σ H Q => t σ H fun x H1 => ∃ i, x = .int i ∧ Q (some i) H1

theorem intsAre_of {ns : List Int} : ∀ {us : List Value}, Vals (ns.map V.int) us → IntsAre us ns := by
  induction ns with
  | nil => intro us r; rw [List.map_nil] at r; cases r; exact .nil
  | cons n ns ih =>
    intro us r
    rw [List.map_cons] at r
    cases r with
    | cons r1 r2 =>
      obtain ⟨t, e⟩ := r1
      subst e
      exact .cons n t (ih r2)

section
variable {X : Cx} {e : Expr} {te : TE} {lo hi : Option Expr} {tl th : TO} {pos p2 : Pos}

theorem po_none : PO X none tNoPart := by
  intro pins s σ H Q I h
  rw [evalPart_none]
  exact wpAny_pure ⟨none, H, I, .none, h⟩
theorem po_some (h : PE X e te) : PO X (some e) (tPart te) := by
  intro pins s σ H Q I hw
  rw [evalPart_some]
  refine thn (h pins s σ H _ I hw) fun u s1 ⟨x, H1, I1, r1, q1⟩ => ?_
  obtain ⟨i, rfl, q⟩ := q1
  obtain ⟨t, rfl⟩ := r1
  exact ⟨some i, H1, I1, .int i t, q⟩

/-- what a slice of a value is, by values: the slice object stands at sl -/
def SlR (X : Cx) (r : V → Option Int → Option Int → Hp → VK → Prop) : Prop :=
  ∀ (pins : List (Addr × Obj)) (s : Shared) (σ : St) (H : Hp) (x : V) (v vl vu : Value) (lo hi : Option Int) (sl : Addr) (Q : VK), Inv X pins σ H s → RelV x v → s.heap.IsSliceOf sl vl vu .none → IsPart vl lo → IsPart vu hi → r x lo hi H Q →
    ∃ T id, typeLookup (.type T) "__getitem__" = pure (some (.builtin id)) ∧ s.TypeIs v T ∧ wpAny (model X.prog X.w) X.A (getItem v (.ref sl)) (EP X pins σ Q) X.xe s
theorem SlR.or {r r' : V → Option Int → Option Int → Hp → VK → Prop} (h : SlR X r) (h' : SlR X r') : SlR X (fun x lo hi H Q => r x lo hi H Q ∨ r' x lo hi H Q) := by
  intro pins s σ H x v vl vu lo hi sl Q I rx hs pl pu q
  rcases q with q | q
  · exact h pins s σ H x v vl vu lo hi sl Q I rx hs pl pu q
  · exact h' pins s σ H x v vl vu lo hi sl Q I rx hs pl pu q
def tSl (r : V → Option Int → Option Int → Hp → VK → Prop) (te : TE) (tl th : TO) : TE := fun σ H Q => te σ H fun x H1 => tl σ H1 fun l H2 => th σ H2 fun u H3 => r x l u H3 Q
/-- a[lo:hi], any a -/
theorem pe_slice {r : V → Option Int → Option Int → Hp → VK → Prop} (hr : SlR X r) (he : PE X e te) (hl : PO X lo tl) (hu : PO X hi th) : PE X (.Subscript e (.Slice lo hi none p2) pos) (tSl r te tl th) := by
  intro pins s σ H Q I h
  refine Subscript_ (thn (he pins s σ H _ I h) fun v s1 ⟨x, H1, I1, r1, q1⟩ => ?_)
  refine wpAny_Slice (thn (hl pins s1 σ H1 _ I1 q1) fun vl s2 ⟨l, H2, I2, pl, q2⟩ => thn (hu pins s2 σ H2 _ I2 q2) fun vu s3 ⟨u, H3, I3, pu, q3⟩ => ?_)
  rw [evalPart_none]
  refine wpAny_pure ?_
  have I4 : Inv X pins σ H3 { s3 with heap := s3.heap.push { cls := .type "slice", data := .fields #[vl, vu, .none] } } := I3.kept (t' := s3.toks) fun b ob q => Heap.get?_push_of_some _ q
  obtain ⟨T, id, hT, ht, hg⟩ := hr pins { s3 with heap := s3.heap.push { cls := .type "slice", data := .fields #[vl, vu, .none] } } σ H3 x v vl vu l u s3.heap.objs.size Q I4 r1 (Heap.IsSliceOf.new ..) pl pu q3
  show wpAny (model X.prog X.w) X.A (subscriptTail e (.Slice lo hi none p2) v (.ref s3.heap.objs.size)) (EP X pins σ Q) X.xe { s3 with heap := s3.heap.push { cls := .type "slice", data := .fields #[vl, vu, .none] } }
  exact tail_any (ops := [.ref s3.heap.objs.size, v]) ht hT hg (by with_unfolding_all rfl)

/-- the items of xs[lo:hi] -/
def cutV (xs : List V) (lo hi : Option Int) : List V := (xs.drop (HT.sIx xs.length 0 lo)).take (HT.sIx xs.length xs.length hi - HT.sIx xs.length 0 lo)
theorem cutV_length (xs : List V) (lo hi : Option Int) : (cutV xs lo hi).length ≤ xs.length := by
  unfold cutV
  rw [List.length_take, List.length_drop]
  omega
/-- t[lo:hi], not the whole of it (the whole would be t itself) -/
def rSlT (K : PySem.W.Frag) : V → Option Int → Option Int → Hp → VK → Prop := fun x lo hi H Q => ∃ a xs, x = .ref a ∧ SqT K H a xs ∧
  ¬ (HT.sIx xs.length 0 lo = 0 ∧ HT.sIx xs.length xs.length hi = xs.length) ∧ ∀ p, H p = none → Q (.ref p) (upd H p (.tup (cutV xs lo hi)))
theorem sl_tup : SlR X (rSlT X.K) := by
  intro pins s σ H x v vl vu lo hi sl Q I rx hs pl pu h
  obtain ⟨a, xs, rfl, hx, hw, q⟩ := h
  cases rx
  obtain ⟨its, r, ht, hz⟩ := I.tuple hx
  have hlen : its.toArray.size = xs.length := by rw [List.size_toArray]; exact r.length.symm
  refine ⟨"tuple", _, PyProof.Rows.slot_tuple_getitem.lookup, ht.typeIs, ?_⟩
  refine HT.getItem_tuple_cut ht hs pl pu (by rw [hlen]; exact hw) ?_ (by rw [hlen]; exact hz)
  rw [hlen]
  refine ⟨.ref s.heap.objs.size, _, I.laid (t' := s.toks) (o := .tup (cutV xs lo hi)) (fun b ob q => Heap.get?_push_of_some _ q) (Nat.le_refl _) ?_, rfl, q _ (I.hok.fresh (Nat.le_refl _))⟩
  exact ⟨Nat.le_trans (cutV_length xs lo hi) hz, _, (r.drop (HT.sIx xs.length 0 lo)).take (HT.sIx xs.length xs.length hi - HT.sIx xs.length 0 lo), IsTup.new _ _⟩

/-! ### t < u, t + u -/
def rLtT (K : PySem.W.Frag) : R2 := fun x y H Q => ∃ a b ns ms, x = .ref a ∧ y = .ref b ∧ SqT K H a (ns.map V.int) ∧ SqT K H b (ms.map V.int) ∧ Q (.bl (HT.lexLt ns ms)) H
theorem op_ltT (hu : X.A.units < cLine) : OpR X (compareOp .Lt) (rLtT X.K) := by
  intro pins s σ H x y v u Q I rx ry h
  obtain ⟨a, b, ns, ms, rfl, rfl, ha, hb, q⟩ := h
  cases rx
  cases ry
  obtain ⟨its, r1, p1, _⟩ := I.tuple ha
  obtain ⟨its2, r2, p2, _⟩ := I.tuple hb
  have i1 : IntsAre its.toArray.toList ns := intsAre_of r1
  have i2 : IntsAre its2.toArray.toList ms := intsAre_of r2
  exact HT.lt_tupInts p1 p2 i1 i2 hu ⟨.bl (HT.lexLt ns ms), H, I, rfl, q⟩
/-- t + u, t not empty: u empty gives t itself -/
def rCatT (K : PySem.W.Frag) : R2 := fun x y H Q => ∃ a b xs ys, x = .ref a ∧ y = .ref b ∧ SqT K H a xs ∧ SqT K H b ys ∧ xs ≠ [] ∧ xs.length + ys.length ≤ sizeLine ∧
  (ys = [] → Q (.ref a) H) ∧ (ys ≠ [] → ∀ p, H p = none → Q (.ref p) (upd H p (.tup (xs ++ ys))))
theorem Vals.nil_iff {xs : List V} {us : List Value} (r : Vals xs us) : us = [] ↔ xs = [] := by
  cases r with
  | nil => simp
  | cons _ _ => simp
theorem op_catT : OpR X (binaryOp .Add) (rCatT X.K) := by
  intro pins s σ H x y v u Q I rx ry h
  obtain ⟨a, b, xs, ys, rfl, rfl, ha, hb, hx, hz, q1, q2⟩ := h
  cases rx
  cases ry
  obtain ⟨its, r1, p1, _⟩ := I.tuple ha
  obtain ⟨its2, r2, p2, _⟩ := I.tuple hb
  refine HT.cat_tup p1 p2 (fun z => hx (r1.nil_iff.mp z)) (fun z => ⟨.ref a, H, I, rfl, q1 (r2.nil_iff.mp z)⟩) (fun z => ?_) (by rw [← r1.length, ← r2.length]; exact hz)
  refine ⟨.ref s.heap.objs.size, _, I.laid (t' := s.toks) (o := .tup (xs ++ ys)) (fun b ob q => Heap.get?_push_of_some _ q) (Nat.le_refl _) ?_, rfl, q2 (fun w => z (r2.nil_iff.mpr w)) _ (I.hok.fresh (Nat.le_refl _))⟩
  exact ⟨by rw [List.length_append]; exact hz, _, r1.append r2, IsTup.new _ _⟩
/-- tuple(t) -/
theorem call_tupleT : CallR X (.type "tuple") (fun xs H Q => ∃ a ys, xs = [.ref a] ∧ SqT X.K H a ys ∧ Q (.ref a) H) := by
  intro pins s σ H xs us Q I r h
  obtain ⟨a, ys, rfl, ha, q⟩ := h
  obtain ⟨u, rfl, ru⟩ := vals1 r
  cases ru
  obtain ⟨its, _, p1, _⟩ := I.tuple ha
  exact call_tuple_same (items := its.toArray) p1 ⟨.ref a, H, I, rfl, q⟩
end
end L2

namespace L2
open PySem PySem.Spec PyProof.Rows

/-! ### places -/
/-- the place that an index of any sign means -/
def ixN (n : Nat) (i : Int) : Option Nat := if 0 ≤ i then (if i < n then some i.toNat else none) else if -(n : Int) ≤ i then some (i + n).toNat else none
def atI {α : Type} (xs : List α) (i : Int) : Option α := (ixN xs.length i).bind fun j => xs[j]?
theorem ixN_seq {n : Nat} {i : Int} {j : Nat} (h : ixN n i = some j) : seqIndex? i n = some j ∧ j < n ∧ -(n : Int) ≤ i ∧ i < n := by
  unfold ixN at h
  by_cases h0 : 0 ≤ i
  · rw [if_pos h0] at h
    by_cases h1 : i < n
    · rw [if_pos h1] at h
      have e : i.toNat = j := Option.some.inj h
      exact ⟨by rw [seqIndex_of h0 h1, e], by omega, by omega, h1⟩
    · rw [if_neg h1] at h; cases h
  · rw [if_neg h0] at h
    by_cases h1 : -(n : Int) ≤ i
    · rw [if_pos h1] at h
      have e : (i + n).toNat = j := Option.some.inj h
      exact ⟨by rw [seqIndex_neg (by omega) h1, e], by omega, h1, by omega⟩
    · rw [if_neg h1] at h; cases h
theorem atI_get {α : Type} {xs : List α} {i : Int} {v : α} (h : atI xs i = some v) : ∃ j, seqIndex? i xs.length = some j ∧ xs[j]? = some v ∧ j < xs.length ∧ -(xs.length : Int) ≤ i ∧ i < xs.length := by
  unfold atI at h
  cases e : ixN xs.length i with
  | none => rw [e] at h; cases h
  | some j =>
    rw [e] at h
    obtain ⟨h1, h2, h3, h4⟩ := ixN_seq e
    exact ⟨j, h1, h, h2, h3, h4⟩
theorem atI_nat {α : Type} {xs : List α} {j : Nat} {v : α} (h : xs[j]? = some v) : atI xs (j : Int) = some v := by
  have hj : j < xs.length := (List.getElem?_eq_some_iff.mp h).1
  have e : ixN xs.length (j : Int) = some j := by
    unfold ixN
    rw [if_pos (by omega), if_pos (by omega)]; simp
  unfold atI; rw [e]; exact h
theorem atI_last {α : Type} (xs : List α) (v : α) : atI (xs ++ [v]) (-1) = some v := by
  have hl : (xs ++ [v]).length = xs.length + 1 := by simp
  have e : ixN (xs ++ [v]).length (-1) = some xs.length := by
    unfold ixN
    rw [hl, if_neg (by decide), if_pos (by omega)]
    congr 1
    omega
  unfold atI
  rw [e]
  show (xs ++ [v])[xs.length]? = some v
  simp

/-! ### what may be subscripted -/
/-- what stands as an index of a plain subscript -/
def PlainIx (b : Expr) : Prop := ∀ o i, subscripted b false o i = operate [o, i] (getItem o i)
/-- a subscript by values -/
def IxR (X : Cx) (r : R2) : Prop :=
  ∀ (value slice : Expr) (pins : List (Addr × Obj)) (s : Shared) (σ : St) (H : Hp) (x y : V) (v u : Value) (Q : VK), Inv X pins σ H s → RelV x v → RelV y u → r x y H Q →
    subscripted slice false v u = operate [v, u] (getItem v u) → wpAny (model X.prog X.w) X.A (subscriptTail value slice v u) (EP X pins σ Q) X.xe s
/-- a call of a builtin's method by values: the receiver, the arguments -/
def MtR (X : Cx) (id : String) (r : V → List V → Hp → VK → Prop) : Prop :=
  ∀ (pins : List (Addr × Obj)) (s : Shared) (σ : St) (H : Hp) (x : V) (xs : List V) (v : Value) (us : List Value) (Q : VK), Inv X pins σ H s → RelV x v → Vals xs us → r x xs H Q →
    wpAny (model X.prog X.w) X.A (call (.builtin id) (v :: us)) (EP X pins σ Q) X.xe s
section
variable {X : Cx} {a b : Expr} {ta tb : TE} {pos : Pos}
theorem IxR.or {r r' : R2} (h : IxR X r) (h' : IxR X r') : IxR X (fun x y H Q => r x y H Q ∨ r' x y H Q) := by
  intro value slice pins s σ H x y v u Q I rx ry q hs
  rcases q with q | q
  · exact h value slice pins s σ H x y v u Q I rx ry q hs
  · exact h' value slice pins s σ H x y v u Q I rx ry q hs
theorem MtR.or {id : String} {r r' : V → List V → Hp → VK → Prop} (h : MtR X id r) (h' : MtR X id r') : MtR X id (fun x xs H Q => r x xs H Q ∨ r' x xs H Q) := by
  intro pins s σ H x xs v us Q I rx rs q
  rcases q with q | q
  · exact h pins s σ H x xs v us Q I rx rs q
  · exact h' pins s σ H x xs v us Q I rx rs q
/-- a[b] -/
theorem pe_ix {r : R2} (hr : IxR X r) (ha : PE X a ta) (hb : PE X b tb) (hs : PlainIx b) : PE X (.Subscript a b pos) (tOp r ta tb) := by
  intro pins s σ H Q I h
  exact Subscript_ (binT ha hb I h fun v u s2 x y H2 I2 rx ry q => hr a b pins s2 σ H2 x y v u Q I2 rx ry q (hs _ _))

def rIxL (K : PySem.W.Frag) : R2 := fun x y H Q => ∃ p xs i v, x = .ref p ∧ y = .int i ∧ SqL K H p xs ∧ atI xs i = some v ∧ Q v H
def rIxT (K : PySem.W.Frag) : R2 := fun x y H Q => ∃ p xs i v, x = .ref p ∧ y = .int i ∧ SqT K H p xs ∧ atI xs i = some v ∧ Q v H
def rIxS : R2 := fun x y H Q => ∃ z i c, x = .str z ∧ y = .int i ∧ z.length ≤ sizeLine ∧ atI z.cps.toList i = some c ∧ Q (.str ⟨#[c]⟩) H
theorem ix_list : IxR X (rIxL X.K) := by
  intro value slice pins s σ H x y v u Q I rx ry h hs
  obtain ⟨p, xs, i, z, rfl, rfl, hq, he, q⟩ := h
  cases rx
  obtain ⟨t, rfl⟩ := ry
  obtain ⟨its, r, pl, hz⟩ := I.list hq
  obtain ⟨j, h1, h2, h3, h4, h5⟩ := atI_get he
  obtain ⟨w, ew, rw'⟩ := r.get h2
  have hl := r.length
  have hn := line63
  have fin : EP X pins σ Q w s := ⟨z, H, I, rw', q⟩
  by_cases h0 : 0 ≤ i
  · have hj : i.toNat = j := by
      rw [seqIndex_of h0 h5] at h1
      exact Option.some.inj h1
    exact item_listR pl.isList h0 (by omega) (by rw [hj]; simpa using ew) fin hs
  · have hj : (i + (its.toArray.size : Int)).toNat = j := by
      rw [seqIndex_neg (by omega) h4] at h1
      rw [List.size_toArray, ← hl]
      exact Option.some.inj h1
    exact subscriptTail_builtinR (x := w) pl.isList.typeIs slot_list_getitem.lookup
      (wpAny_getItem_list_neg (Q := fun r s' => r = w ∧ EP X pins σ Q r s') pl.isList (by omega) (by rw [List.size_toArray] <;> omega) (by omega) (by rw [hj]; simpa using ew) ⟨rfl, fin⟩) hs
theorem ix_tup : IxR X (rIxT X.K) := by
  intro value slice pins s σ H x y v u Q I rx ry h hs
  obtain ⟨p, xs, i, z, rfl, rfl, hq, he, q⟩ := h
  cases rx
  obtain ⟨t, rfl⟩ := ry
  obtain ⟨its, r, pl, hz⟩ := I.tuple hq
  obtain ⟨j, h1, h2, h3, h4, h5⟩ := atI_get he
  obtain ⟨w, ew, rw'⟩ := r.get h2
  have hl := r.length
  have hn := line63
  have fin : EP X pins σ Q w s := ⟨z, H, I, rw', q⟩
  exact subscriptTail_builtinR (x := w) pl.typeIs slot_tuple_getitem.lookup
    (getItem_tuple (j := j) (Q := fun r s' => r = w ∧ EP X pins σ Q r s') pl (by omega) (by omega) (by rw [List.size_toArray, ← hl]; exact h1) (by simpa using ew) ⟨rfl, fin⟩) hs
theorem ix_str : IxR X rIxS := by
  intro value slice pins s σ H x y v u Q I rx ry h hs
  obtain ⟨z, i, c, rfl, rfl, hz, he, q⟩ := h
  obtain ⟨t, rfl⟩ := rx
  obtain ⟨t', rfl⟩ := ry
  obtain ⟨j, h1, h2, h3, h4, h5⟩ := atI_get he
  have hl : z.cps.toList.length = z.length := by simp [Str.length]
  rw [hl] at h1 h4 h5
  have hn := line63
  exact tail_any (typeIs_str s z t) slot_str_getitem.lookup (getItem_str (c := c) (by
    have e1 : decide (i < -(2 ^ 63 : Int)) = false := decide_eq_false (by omega)
    have e2 : decide (i ≥ 2 ^ 63) = false := decide_eq_false (by omega)
    rw [e1, e2, Bool.or_false]) (by rw [h1]; simpa using h2) ⟨.str ⟨#[c]⟩, H, I.tok _, ⟨_, rfl⟩, q⟩) hs
/-- list, tuple or str -/
def rIx (K : PySem.W.Frag) : R2 := fun x y H Q => rIxL K x y H Q ∨ rIxT K x y H Q ∨ rIxS x y H Q
theorem ix_seq : IxR X (rIx X.K) := ix_list.or (ix_tup.or ix_str)

/-! ### xs[i] = v, any sign -/
/-- the list's object behind a store -/
theorem mapSeq_set (its : List Value) (n j : Nat) (u : Value) : Obj.mapSeq (·.setIfInBounds j u) { cls := .type "list", data := .seq its.toArray n } = { cls := .type "list", data := .seq (its.set j u).toArray n } := by
  simp [Obj.mapSeq]
theorem Inv.lst {pins : List (Addr × Obj)} {σ : St} {H : Hp} {s : Shared} {p : Addr} {xs : List V} (I : Inv X pins σ H s) (h : H p = some (.lst xs)) :
    ∃ (its : List Value) (n : Nat), Vals xs its ∧ s.heap.get? p = some { cls := .type "list", data := .seq its.toArray n } ∧ xs.length ≤ sizeLine := by
  obtain ⟨z, its, n, r, e⟩ := I.hok p _ h
  exact ⟨its, n, r, e, z⟩
/-- the list at p is written by an update of its object -/
theorem Inv.lstUpd {pins : List (Addr × Obj)} {σ : St} {H : Hp} {s : Shared} {p : Addr} {xs ys : List V} {its its' : List Value} {n n' : Nat} {f : Obj → Obj} (I : Inv X pins σ H s) (h : H p = some (.lst xs))
    (ho : s.heap.get? p = some { cls := .type "list", data := .seq its.toArray n }) (hf : f { cls := .type "list", data := .seq its.toArray n } = { cls := .type "list", data := .seq its'.toArray n' }) (r : Vals ys its') (hz : ys.length ≤ sizeLine) (t : Nat) :
    Inv X pins σ (upd H p (.lst ys)) { s with heap := s.heap.update p f, toks := t } := by
  have e : (s.heap.update p f).get? p = some { cls := .type "list", data := .seq its'.toArray n' } := by
    rw [Heap.get?_update_self f ho (by rw [hf] <;> rfl), hf]
  refine I.write (x := p) (e := p) (by rw [h]; trivial) (.inl rfl) (fun b u hb q => (Heap.get?_update_other _ _ (Ne.symm hb)).trans q) ⟨_, e⟩ ?_
  exact ⟨hz, its', n', r, e⟩
def rSetL : V → V → V → Hp → (Hp → Prop) → Prop := fun o i v H Q => ∃ p xs k j, o = .ref p ∧ i = .int k ∧ H p = some (.lst xs) ∧ ixN xs.length k = some j ∧ Q (upd H p (.lst (xs.set j v)))
theorem set_list : PSet X rSetL := by
  intro pins s σ H o i v ov iv u Q I ro ri rv h
  obtain ⟨p, xs, k, j, rfl, rfl, hp, hj, q⟩ := h
  cases ro
  obtain ⟨t, rfl⟩ := ri
  obtain ⟨its, n, r, ho, hz⟩ := I.lst hp
  obtain ⟨h1, h2, h3, h4⟩ := ixN_seq hj
  have hl := r.length
  have hn := line63
  have I' : Inv X pins σ (upd H p (.lst (xs.set j v))) { s with heap := s.heap.update p (Obj.mapSeq (·.setIfInBounds j u)) } :=
    I.lstUpd hp ho (mapSeq_set its n j u) (r.set rv j) (by rw [List.length_set]; exact hz) s.toks
  by_cases h0 : 0 ≤ k
  · have hk : k.toNat = j := by
      rw [seqIndex_of h0 h4] at h1
      exact Option.some.inj h1
    exact PySem.W.ki_setAt ho h0 (by omega) (by rw [List.size_toArray, ← hl]; exact h4) (by rw [hk]; exact ⟨_, I', q⟩)
  · have hk : (k + (its.toArray.size : Int)).toNat = j := by
      rw [seqIndex_neg (by omega) h3] at h1
      rw [List.size_toArray, ← hl]
      exact Option.some.inj h1
    exact PySem.W.ki_setBack ho (by omega) (by rw [List.size_toArray, ← hl]; exact h3) (by omega) (by rw [hk]; exact ⟨_, I', q⟩)

/-! ### slices -/
theorem slice_bounds (lo hi : Option Int) (n : Nat) : (sliceBounds lo hi none n).1 = ((HT.sIx n 0 lo : Nat) : Int) ∧ (sliceBounds lo hi none n).2.1 = ((HT.sIx n n hi : Nat) : Int) ∧ (sliceBounds lo hi none n).2.2 = 1 := by
  refine ⟨?_, ?_, rfl⟩
  · cases lo with
    | none => simp [sliceBounds, HT.sIx]
    | some i =>
      simp only [sliceBounds, HT.sIx, Option.getD_none, show (1 : Int) > 0 by decide, if_true]
      by_cases h : i < 0
      · simp only [h, if_true] <;> omega
      · simp only [h, if_false] <;> omega
  · cases hi with
    | none => simp [sliceBounds, HT.sIx]
    | some i =>
      simp only [sliceBounds, HT.sIx, Option.getD_none, show (1 : Int) > 0 by decide, if_true]
      by_cases h : i < 0
      · simp only [h, if_true] <;> omega
      · simp only [h, if_false] <;> omega
theorem slicePick_cut (its : List Value) (lo hi : Option Int) : slicePick its.toArray lo hi none = ((its.drop (HT.sIx its.length 0 lo)).take (HT.sIx its.length its.length hi - HT.sIx its.length 0 lo)).toArray := by
  obtain ⟨h1, h2, h3⟩ := slice_bounds lo hi its.toArray.size
  unfold slicePick
  rw [h1, h2, h3]
  simp only [sliceRange_one, pick_run, List.size_toArray] <;> rfl
/-- xs[lo:hi] of a list: a new list -/
def rSlL (K : PySem.W.Frag) : V → Option Int → Option Int → Hp → VK → Prop := fun x lo hi H Q => ∃ a xs, x = .ref a ∧ SqL K H a xs ∧ ∀ p, H p = none → Q (.ref p) (upd H p (.lst (cutV xs lo hi)))
theorem sl_list : SlR X (rSlL X.K) := by
  intro pins s σ H x v vl vu lo hi sl Q I rx hs pl pu h
  obtain ⟨a, xs, rfl, hx, q⟩ := h
  cases rx
  obtain ⟨its, r, ht, hz⟩ := I.list hx
  have hlen := r.length
  refine ⟨"list", _, slot_list_getitem.lookup, ht.isList.typeIs, ?_⟩
  refine wpAny_getItem_list_slice ht.isList hs pl pu .none (by simp) ?_ (by rw [List.size_toArray] <;> omega)
  rw [slicePick_cut, ← hlen]
  refine ⟨.ref s.heap.objs.size, _, I.laid (t' := s.toks) (o := .lst (cutV xs lo hi)) (fun b ob q => Heap.get?_push_of_some _ q) (Nat.le_refl _) ?_, rfl, q _ (I.hok.fresh (Nat.le_refl _))⟩
  exact ⟨Nat.le_trans (cutV_length xs lo hi) hz, _, 0, (r.drop (HT.sIx xs.length 0 lo)).take (HT.sIx xs.length xs.length hi - HT.sIx xs.length 0 lo), Heap.get?_push_size _ rfl⟩

/-! ### in, not in: flat items -/
def flatV : V → Bool
  | .non => true
  | .bl _ => true
  | .int _ => true
  | .str _ => true
  | _ => false
/-- == of flat values -/
def eqV : V → V → Bool
  | .non, .non => true
  | .bl a, .bl b => a == b
  | .bl a, .int b => (if a then 1 else 0) == b
  | .int a, .bl b => a == (if b then 1 else 0)
  | .int a, .int b => a == b
  | .str a, .str b => a == b
  | _, _ => false
theorem eqAt_V {A : Around} {s : Shared} {y x : V} {u v : Value} (ry : RelV y u) (rx : RelV x v) (fy : flatV y = true) (fx : flatV x = true) : SeqAt.EqAt A s u v (eqV y x) := by
  cases y with
  | non =>
    cases ry
    cases x with
    | non => cases rx; exact SeqAt.EqAt.same _
    | bl b => cases rx; exact SeqAt.EqAt.none_bool b
    | int b => obtain ⟨t, rfl⟩ := rx; exact SeqAt.EqAt.none_int b t
    | str b => obtain ⟨t, rfl⟩ := rx; exact SeqAt.EqAt.none_str b t
    | _ => exact absurd (show false = true from fx) Bool.false_ne_true
  | bl a =>
    cases ry
    cases x with
    | non => cases rx; exact SeqAt.EqAt.bool_none a
    | bl b => cases rx; exact SeqAt.EqAt.bool_bool a b
    | int b => obtain ⟨t, rfl⟩ := rx; exact SeqAt.EqAt.bool_int a b t
    | str b => obtain ⟨t, rfl⟩ := rx; exact SeqAt.EqAt.bool_str a b t
    | _ => exact absurd (show false = true from fx) Bool.false_ne_true
  | int a =>
    obtain ⟨t', rfl⟩ := ry
    cases x with
    | non => cases rx; exact SeqAt.EqAt.int_none a t'
    | bl b => cases rx; exact SeqAt.EqAt.int_bool a t' b
    | int b => obtain ⟨t, rfl⟩ := rx; exact SeqAt.EqAt.int_int a t' b t
    | str b => obtain ⟨t, rfl⟩ := rx; exact SeqAt.EqAt.int_str a t' b t
    | _ => exact absurd (show false = true from fx) Bool.false_ne_true
  | str a =>
    obtain ⟨t', rfl⟩ := ry
    cases x with
    | non => cases rx; exact SeqAt.EqAt.str_none a t'
    | bl b => cases rx; exact SeqAt.EqAt.str_bool a t' b
    | int b => obtain ⟨t, rfl⟩ := rx; exact SeqAt.EqAt.str_int a t' b t
    | str b => obtain ⟨t, rfl⟩ := rx; exact SeqAt.EqAt.str_str a t' b t
    | _ => exact absurd (show false = true from fx) Bool.false_ne_true
  | _ => exact absurd (show false = true from fy) Bool.false_ne_true
/-- the items' answers, read off the values (a value's own answer does not lean on its token) -/
def eqU (x : V) (u : Value) : Bool := match u with
  | .none => eqV .non x
  | .bool b => eqV (.bl b) x
  | .int i _ => eqV (.int i) x
  | .str z _ => eqV (.str z) x
  | _ => false
theorem eqU_of {x y : V} {u : Value} (r : RelV y u) (f : flatV y = true) : eqU x u = eqV y x := by
  cases y with
  | non => cases r; rfl
  | bl b => cases r; rfl
  | int i => obtain ⟨t, rfl⟩ := r; rfl
  | str z => obtain ⟨t, rfl⟩ := r; rfl
  | _ => exact absurd (show false = true from f) Bool.false_ne_true
theorem any_eqU {x : V} : ∀ {xs : List V} {us : List Value}, Vals xs us → xs.all flatV = true → us.any (eqU x) = xs.any fun y => eqV y x
  | _, _, .nil, _ => rfl
  | y :: xs, u :: us, .cons r t, f => by
    rw [List.all_cons, Bool.and_eq_true] at f
    rw [List.any_cons, List.any_cons, eqU_of r f.1, any_eqU t f.2]
theorem mem_eqAt {A : Around} {s : Shared} {x : V} {v : Value} (rx : RelV x v) (fx : flatV x = true) : ∀ {xs : List V} {us : List Value}, Vals xs us → xs.all flatV = true → ∀ u ∈ us, SeqAt.EqAt A s u v (eqU x u)
  | _, _, .nil, _ => fun u hu => by cases hu
  | y :: xs, u :: us, .cons r t, f => fun u' hu => by
    rw [List.all_cons, Bool.and_eq_true] at f
    rcases List.mem_cons.mp hu with rfl | hu
    · rw [eqU_of r f.1]; exact eqAt_V r rx f.1 fx
    · exact mem_eqAt rx fx t f.2 u' hu
def inV (x : V) (xs : List V) : Bool := xs.any fun y => eqV y x
/-- x in a list or tuple of flat items -/
def rIn (K : PySem.W.Frag) (neg : Bool) : R2 := fun x y H Q => ∃ p xs, y = .ref p ∧ (SqL K H p xs ∨ SqT K H p xs) ∧ flatV x = true ∧ xs.all flatV = true ∧ Q (.bl (if neg then !inV x xs else inV x xs)) H
theorem op_in_seq : OpR X (compareOp .In) (rIn X.K false) := by
  intro pins s σ H x y v u Q I rx ry h
  obtain ⟨p, xs, rfl, hq, fx, fs, q⟩ := h
  cases ry
  rcases hq with hq | hq
  · obtain ⟨its, r, pl, hz⟩ := I.list hq
    refine SeqAt.in_listAt (eqU x) pl.isList (fun w hw => mem_eqAt rx fx r fs w (by simpa using hw)) ⟨.bl _, H, I, rfl, ?_⟩
    rw [show its.toArray.any (eqU x) = its.any (eqU x) by simp, any_eqU r fs]
    exact q
  · obtain ⟨its, r, pl, hz⟩ := I.tuple hq
    refine SeqAt.in_tupleAt (eqU x) pl (fun w hw => mem_eqAt rx fx r fs w (by simpa using hw)) ⟨.bl _, H, I, rfl, ?_⟩
    rw [show its.toArray.any (eqU x) = its.any (eqU x) by simp, any_eqU r fs]
    exact q
theorem op_notIn_seq : OpR X (compareOp .NotIn) (rIn X.K true) := by
  intro pins s σ H x y v u Q I rx ry h
  obtain ⟨p, xs, rfl, hq, fx, fs, q⟩ := h
  cases ry
  rcases hq with hq | hq
  · obtain ⟨its, r, pl, hz⟩ := I.list hq
    refine SeqAt.notIn_listAt (eqU x) pl.isList (fun w hw => mem_eqAt rx fx r fs w (by simpa using hw)) ⟨.bl _, H, I, rfl, ?_⟩
    rw [show its.toArray.any (eqU x) = its.any (eqU x) by simp, any_eqU r fs]
    exact q
  · obtain ⟨its, r, pl, hz⟩ := I.tuple hq
    refine SeqAt.notIn_tupleAt (eqU x) pl (fun w hw => mem_eqAt rx fx r fs w (by simpa using hw)) ⟨.bl _, H, I, rfl, ?_⟩
    rw [show its.toArray.any (eqU x) = its.any (eqU x) by simp, any_eqU r fs]
    exact q
theorem op_notIn_str : OpR X (compareOp .NotIn) (fun x y H Q => ∃ i j, x = .str i ∧ y = .str j ∧ Q (.bl (!(!(Builtin.Str.occurrences j i 0 j.length 1).isEmpty))) H) := by
  intro pins s σ H x y v u Q I rx ry h
  obtain ⟨i, j, rfl, rfl, q⟩ := h
  obtain ⟨t, rfl⟩ := rx
  obtain ⟨t', rfl⟩ := ry
  exact notIn_str ⟨.bl _, H, I, rfl, q⟩

/-! ### len, list(x), tuple(x) of any list or tuple that is read -/
theorem call_len_seq : CallR X (.builtin "len") (fun xs H Q => ∃ p ys, xs = [.ref p] ∧ (SqL X.K H p ys ∨ SqT X.K H p ys) ∧ Q (.int ys.length) H) := by
  intro pins s σ H xs us Q I r h
  obtain ⟨p, ys, rfl, hq, q⟩ := h
  obtain ⟨u, rfl, rx⟩ := vals1 r
  cases rx
  have hn := line63
  rcases hq with hq | hq
  · obtain ⟨its, r', pl, hz⟩ := I.list hq
    have hlen := r'.length
    exact Calls.call_len_list pl.isList (by simp only [List.size_toArray] <;> omega) ⟨.int ys.length, H, I.tok _, ⟨s.toks + 1, by rw [List.size_toArray, hlen]⟩, q⟩
  · obtain ⟨its, r', pl, hz⟩ := I.tuple hq
    have hlen := r'.length
    exact len_tuple pl (by simp only [List.size_toArray] <;> omega) ⟨.int ys.length, H, I.tok _, ⟨s.toks + 1, by rw [List.size_toArray, hlen]⟩, q⟩
theorem call_len_str : CallR X (.builtin "len") (fun xs H Q => ∃ z, xs = [.str z] ∧ z.length ≤ sizeLine ∧ Q (.int z.length) H) := by
  intro pins s σ H xs us Q I r h
  obtain ⟨z, rfl, hz, q⟩ := h
  obtain ⟨u, rfl, t, rfl⟩ := vals1 r
  have hn := line63
  exact len_str (by omega) ⟨.int z.length, H, I.tok _, ⟨_, rfl⟩, q⟩
theorem CallR.or {f : Value} {r r' : List V → Hp → VK → Prop} (h : CallR X f r) (h' : CallR X f r') : CallR X f (fun xs H Q => r xs H Q ∨ r' xs H Q) := by
  intro pins s σ H xs us Q I rs q
  rcases q with q | q
  · exact h pins s σ H xs us Q I rs q
  · exact h' pins s σ H xs us Q I rs q
theorem call_list_of : CallR X (.type "list") (fun xs H Q => ∃ p ys, xs = [.ref p] ∧ (SqL X.K H p ys ∨ SqT X.K H p ys) ∧ ∀ l, H l = none → Q (.ref l) (upd H l (.lst ys))) := by
  intro pins s σ H xs us Q I r h
  obtain ⟨p, ys, rfl, hq, q⟩ := h
  obtain ⟨u, rfl, rx⟩ := vals1 r
  cases rx
  have fin : ∀ (its : List Value), Vals ys its → ys.length ≤ sizeLine → ∀ (h' : Heap) (c' : Nat), (∀ b o', s.heap.get? b = some o' → h'.get? b = some o') →
      h'.get? s.heap.objs.size = some { cls := .type "list", dict := none, data := .seq its.toArray c', slots := #[] } → EP X pins σ Q (.ref s.heap.objs.size) { s with heap := h' } := fun its r' hz h' c' kp e =>
    ⟨.ref s.heap.objs.size, _, I.laid (t' := s.toks) kp (Nat.le_refl _) (show ObjOk X.prog X.w _ h' _ (.lst ys) from ⟨hz, its, c', r', e⟩), rfl, q _ (I.hok.fresh (Nat.le_refl _))⟩
  rcases hq with hq | hq
  · obtain ⟨its, r', pl, hz⟩ := I.list hq
    have hlen := r'.length
    obtain ⟨o, ho, hc, n, hd⟩ := pl.isList
    exact call_list_seq p (.inl rfl) ho hc hd (fun h' c' kp e => fin its r' hz h' c' kp e) (by simp only [List.size_toArray] <;> omega)
  · obtain ⟨its, r', pl, hz⟩ := I.tuple hq
    have hlen := r'.length
    obtain ⟨o, ho, hc, n, hd⟩ := pl
    exact call_list_seq p (.inr rfl) ho hc hd (fun h' c' kp e => fin its r' hz h' c' kp e) (by simp only [List.size_toArray] <;> omega)
theorem call_tuple_of : CallR X (.type "tuple") (fun xs H Q => ∃ p ys, xs = [.ref p] ∧ ((SqL X.K H p ys ∧ ∀ l, H l = none → Q (.ref l) (upd H l (.tup ys))) ∨ (SqT X.K H p ys ∧ Q (.ref p) H))) := by
  intro pins s σ H xs us Q I r h
  obtain ⟨p, ys, rfl, h⟩ := h
  obtain ⟨u, rfl, rx⟩ := vals1 r
  cases rx
  rcases h with ⟨hq, q⟩ | ⟨hq, q⟩
  · obtain ⟨its, r', pl, hz⟩ := I.list hq
    have hlen := r'.length
    refine call_tuple_list pl.isList (fun h' kp => ?_) (by simp only [List.size_toArray] <;> omega)
    have I1 : Inv X pins σ H { s with heap := h' } := I.kept (t' := s.toks) kp
    have I2 : Inv X pins σ (upd H h'.objs.size (.tup ys)) { s with heap := h'.push { cls := .type "tuple", data := .seq its.toArray } } :=
      I1.laid (t' := s.toks) (fun b o e => Heap.get?_push_of_some _ e) (Nat.le_refl _) (show ObjOk X.prog X.w _ _ _ (.tup ys) from ⟨hz, its, r', IsTup.new _ _⟩)
    exact ⟨.ref h'.objs.size, _, I2, rfl, q _ (I1.hok.fresh (Nat.le_refl _))⟩
  · obtain ⟨its, r', pl, hz⟩ := I.tuple hq
    exact call_tuple_same pl ⟨.ref p, H, I, rfl, q⟩

/-! ### the call of a builtin's method: o.m(..) -/
/-- the value is of that builtin type -/
def tyV (K : PySem.W.Frag) (T : String) (x : V) (H : Hp) : Prop := match x with
  | .str _ => T = "str"
  | .int _ => T = "int"
  | .ref p => (T = "list" ∧ ∃ xs, SqL K H p xs) ∨ (T = "tuple" ∧ ∃ o, K.lookup p = some o ∧ o.cls = .type "tuple" ∧ o.dict = none) ∨
      (T = "dict" ∧ ((∃ kvs, H p = some (.dK kvs)) ∨ ∃ kvs, H p = some (.dT kvs))) ∨ (T = "set" ∧ ∃ S n, H p = some (.set S n))
  | _ => False
theorem tyV_is {pins : List (Addr × Obj)} {σ : St} {H : Hp} {s : Shared} {T : String} {x : V} {v : Value} (I : Inv X pins σ H s) (r : RelV x v) (ty : tyV X.K T x H) :
    s.TypeIs v T ∧ ∀ a, v = .ref a → ∃ ob, s.heap.get? a = some ob ∧ ob.dict = none := by
  cases x with
  | str z =>
    obtain ⟨t, rfl⟩ := r
    cases (show T = "str" from ty)
    exact ⟨typeIs_str s z t, fun _ e => nomatch e⟩
  | int i =>
    obtain ⟨t, rfl⟩ := r
    cases (show T = "int" from ty)
    exact ⟨typeIs_int s i t, fun _ e => nomatch e⟩
  | ref p =>
    cases r
    rcases ty with ⟨rfl, xs, hq⟩ | ⟨rfl, o, hk, hc, hd⟩ | ⟨rfl, hk⟩ | ⟨rfl, S, n, hk⟩
    · obtain ⟨its, _, pl, _⟩ := I.list hq
      refine ⟨pl.isList.typeIs, fun a e => ?_⟩
      cases e
      obtain ⟨o, n, e, c, hd, _⟩ := pl
      exact ⟨o, e, hd⟩
    · refine ⟨⟨o, I.kIn p o hk, hc⟩, fun a e => ?_⟩
      cases e
      exact ⟨o, I.kIn _ o hk, hd⟩
    · have z : ∃ o, s.heap.get? p = some o ∧ o.ExactDict := by
        rcases hk with ⟨kvs, hk⟩ | ⟨kvs, hk⟩
        · obtain ⟨_, _, _, _, o, _, _, e, ex, _⟩ := I.hok p _ hk
          exact ⟨o, e, ex⟩
        · obtain ⟨_, _, _, _, o, _, _, e, ex, _⟩ := I.hok p _ hk
          exact ⟨o, e, ex⟩
      obtain ⟨o, e, ex⟩ := z
      refine ⟨⟨o, e, ex.1⟩, fun a e2 => ?_⟩
      cases e2
      exact ⟨o, e, ex.2.1⟩
    · obtain ⟨o, _, _, _, e, ex, _⟩ := I.hok p _ hk
      refine ⟨⟨o, e, ex.1⟩, fun a e2 => ?_⟩
      cases e2
      exact ⟨o, e, ex.2.1⟩
  | _ => exact False.elim ty
def tBM0 (K : PySem.W.Frag) (T : String) (r : V → List V → Hp → VK → Prop) (to : TE) : TE := fun σ H Q => to σ H fun x H1 => tyV K T x H1 ∧ r x [] H1 Q
def tBM (K : PySem.W.Frag) (T : String) (r : V → List V → Hp → VK → Prop) (to : TE) (t : TA) : TE := fun σ H Q => to σ H fun x H1 => tyV K T x H1 ∧ t σ H1 fun xs H2 => r x xs H2 Q
variable {o e : Expr} {es : List Expr} {to : TE} {t : TA} {name : Str} {apos cpos : Pos} {T id : String} {r : V → List V → Hp → VK → Prop}
theorem pe_bm0 (pa : PlainAttrs T) (slot : Slot T name id) (hty : typeOf (.builtin id) = pure (.type "method_descriptor")) (hm : MtR X id r) (ho : PE X o to)
    (hbase : attributeBase o name X.env (eval o X.env) = eval o X.env := by rfl) (hline : (apos.endLine == cpos.line) = true := by rfl) : PE X (.Call (.Attribute o name apos) [] [] cpos) (tBM0 X.K T r to) := by
  intro pins s σ H Q I h
  refine wpAny_Call_method0_late hbase hline (thn (ho pins s σ H _ I h) fun v s1 ⟨x, H1, I1, r1, ty, q1⟩ => ?_)
  obtain ⟨h1, h2⟩ := tyV_is I1 r1 ty
  exact ⟨T, id, pa, slot, hty, h1, h2, Calls.callWith_builtin rfl (PySem.evalArgs_none (hm pins s1 σ H1 x [] v [] Q I1 r1 .nil q1))⟩
theorem pe_bm (pa : PlainAttrs T) (slot : Slot T name id) (hty : typeOf (.builtin id) = pure (.type "method_descriptor")) (hm : MtR X id r) (ho : PE X o to) (ha : PA X (e :: es) t)
    (hbase : attributeBase o name X.env (eval o X.env) = eval o X.env := by rfl)
    (hfew : ((backTo cpos (starEach (e :: es) X.env)).all (fun x => !x.1) && (backToKw cpos (keywordEach [] X.env)).all (fun x => x.1.isSome)
      && decide ((e :: es).length + ([] : List Keyword).length + (if ([] : List Keyword).isEmpty then 0 else 1) < 30)) = true := by rfl)
    (hline : (apos.endLine == cpos.line) = true := by rfl) (hs : starEach (e :: es) X.env = (false, eval e X.env) :: starEach es X.env := by rfl) (hplain : (backTo cpos (starEach es X.env)).any (·.1) = false := by rfl) :
    PE X (.Call (.Attribute o name apos) (e :: es) [] cpos) (tBM X.K T r to t) := by
  intro pins s σ H Q I h
  refine wpAny_Call_method_late hbase hfew hline rfl (thn (ho pins s σ H _ I h) fun v s1 ⟨x, H1, I1, r1, ty, q1⟩ => ?_)
  obtain ⟨h1, h2⟩ := tyV_is I1 r1 ty
  refine ⟨T, id, pa, slot, hty, h1, h2, ?_⟩
  have hA := ha cpos pins s1 σ H1 _ I1 q1
  rw [hs] at hA ⊢
  refine Calls.callWith_builtin (by show (false || (backTo cpos (starEach es X.env)).any (·.1)) = false; rw [hplain] <;> rfl) (Calls.evalArgs_plain ?_)
  exact thn hA fun us s2 ⟨vs, H2, I2, r2, q2⟩ => hm pins s2 σ H2 x vs v us Q I2 r1 r2 q2
/- xs.append(e), list.index on a module's tuple .. are MtR facts of 06m -/
end
end L2

namespace L2
open PySem PySem.Spec PyProof.Rows

def MtM (X : Cx) (id : String) (r : V → List V → Hp → VK → Prop) : Prop :=
  ∀ (pins : List (Addr × Obj)) (s : Shared) (σ : St) (H : Hp) (x : V) (xs : List V) (v : Value) (us : List Value) (Q : VK), Inv X pins σ H s → RelV x v → Vals xs us → r x xs H Q →
    wpAny (model X.prog X.w) X.A (call (.builtin id) (v :: us)) (EP X pins σ Q) X.xe s

/-! ### lists of values -/
theorem Vals.one : ∀ {x : V} {us : List Value}, Vals [x] us → ∃ u, us = [u] ∧ RelV x u
  | _, _, .cons r .nil => ⟨_, rfl, r⟩
theorem Vals.two : ∀ {x y : V} {us : List Value}, Vals [x, y] us → ∃ u v, us = [u, v] ∧ RelV x u ∧ RelV y v
  | _, _, _, .cons r (.cons q .nil) => ⟨_, _, rfl, r, q⟩
theorem Vals.zero : ∀ {us : List Value}, Vals [] us → us = []
  | _, .nil => rfl
theorem Vals.dropLast {xs : List V} {us : List Value} (h : Vals xs us) : Vals xs.dropLast us.dropLast := by
  induction h with
  | nil => exact .nil
  | cons r t ih =>
    cases t with
    | nil => exact .nil
    | cons q t' => exact .cons r ih
theorem Vals.eraseIdx : ∀ {xs : List V} {us : List Value} (i : Nat), Vals xs us → Vals (xs.eraseIdx i) (us.eraseIdx i)
  | _, _, _, .nil => .nil
  | _, _, 0, .cons _ t => t
  | _, _, i + 1, .cons r t => .cons r (Vals.eraseIdx i t)
theorem Vals.reverse {xs : List V} {us : List Value} (h : Vals xs us) : Vals xs.reverse us.reverse := by
  induction h with
  | nil => exact .nil
  | cons r t ih => rw [List.reverse_cons, List.reverse_cons]; exact Vals.append ih (.cons r .nil)
theorem Vals.rep {xs : List V} {us : List Value} (h : Vals xs us) : ∀ k : Nat, Vals (List.replicate k xs).flatten (List.replicate k us).flatten
  | 0 => .nil
  | k + 1 => by
    rw [List.replicate_succ, List.replicate_succ, List.flatten_cons, List.flatten_cons]
    exact Vals.append h (Vals.rep h k)
theorem erase_last {α : Type} (l : List α) : l.eraseIdx (l.length - 1) = l.dropLast := by
  induction l with
  | nil => rfl
  | cons a r ih =>
    cases r with
    | nil => rfl
    | cons b r =>
      have e : (a :: b :: r).length - 1 = ((b :: r).length - 1) + 1 := by
        have h1 : (a :: b :: r).length = r.length + 2 := rfl
        have h2 : (b :: r).length = r.length + 1 := rfl
        omega
      rw [e, List.eraseIdx_cons_succ, ih]
      all_goals rfl
theorem len_erase {α : Type} : ∀ (l : List α) (i : Nat), (l.eraseIdx i).length ≤ l.length
  | [], _ => Nat.le_refl _
  | _ :: _, 0 => Nat.le_succ _
  | _ :: r, i + 1 => Nat.succ_le_succ (len_erase r i)
theorem foldl_rep (its : List Value) : ∀ (k : Nat) (acc : List Value),
    List.foldl (fun x1 x2 => x1 ++ x2) acc.toArray (List.replicate k its.toArray) = (acc ++ (List.replicate k its).flatten).toArray
  | 0, acc => by simp
  | k + 1, acc => by
    have e : acc.toArray ++ its.toArray = (acc ++ its).toArray := by simp
    have e2 : (acc ++ its) ++ (List.replicate k its).flatten = acc ++ (List.replicate (k + 1) its).flatten := by
      rw [List.replicate_succ, List.flatten_cons, List.append_assoc]
    rw [← e2, ← foldl_rep its k (acc ++ its), ← e, List.replicate_succ, List.foldl_cons]

section
variable {X : Cx} {pins : List (Addr × Obj)} {σ : St} {H : Hp} {s : Shared} {l b : Addr} {xs ys zs : List V}

/-! ### the two steps: a tracked list is rewritten, a new list is laid -/
theorem Inv.lset {its its' : List Value} {n : Nat} {f : Array Value → Array Value} {t' : Nat} (I : Inv X pins σ H s) (hH : H l = some (.lst xs))
    (e : s.heap.get? l = some { cls := .type "list", data := .seq its.toArray n }) (hf : f its.toArray = its'.toArray) (hv : Vals ys its') (hz : ys.length ≤ sizeLine) :
    Inv X pins σ (upd H l (.lst ys)) { s with heap := s.heap.update l (Obj.mapSeq f), toks := t' } := by
  have q := PySem.IsL.update e f
  rw [hf] at q
  refine I.write (x := l) (e := l) (by rw [hH]; exact trivial) (.inl rfl) (fun b' u hb hu => (Heap.get?_update_other s.heap (Obj.mapSeq f) (Ne.symm hb)).trans hu) ⟨_, q⟩ ?_
  exact ⟨hz, its', _, hv, q⟩
theorem Inv.lnew {its : List Value} {t' : Nat} (I : Inv X pins σ H s) (hv : Vals ys its) (hz : ys.length ≤ sizeLine) :
    Inv X pins σ (upd H s.heap.objs.size (.lst ys)) { s with heap := s.heap.push { cls := .type "list", data := .seq its.toArray }, toks := t' } :=
  I.laid (fun _ _ q => Heap.get?_push_of_some _ q) (Nat.le_refl _) ⟨hz, its, 0, hv, Heap.get?_push_size _ rfl⟩
theorem Inv.fresh (I : Inv X pins σ H s) : H s.heap.objs.size = none := I.hok.fresh (Nat.le_refl _)
theorem Inv.lstM (I : Inv X pins σ H s) (hH : H l = some (.lst xs)) : xs.length ≤ sizeLine ∧ ∃ (its : List Value) (n : Nat), Vals xs its ∧ xs.length = its.length ∧ s.heap.get? l = some { cls := .type "list", data := .seq its.toArray n } := by
  obtain ⟨z, its, n, r, e⟩ := I.hok l _ hH
  exact ⟨z, its, n, r, r.length, e⟩

theorem notLongL {n : Nat} (h : n ≤ sizeLine) : Builtin.List.listTooLong n = false := by
  unfold Builtin.List.listTooLong
  exact decide_eq_false (by omega)
end

section
variable {X : Cx}

/-! ### methods -/
def rAppend : V → List V → Hp → VK → Prop := fun x vs H Q => ∃ l xs y, x = .ref l ∧ vs = [y] ∧ H l = some (.lst xs) ∧ xs.length < sizeLine ∧ Q .non (upd H l (.lst (xs ++ [y])))
theorem mt_append : MtM X "list.append" rAppend := by
  intro pins s σ H x vs v us Q I rx rv h
  obtain ⟨l, xs, y, rfl, rfl, hH, hz, q⟩ := h
  cases rx
  obtain ⟨u, rfl, ru⟩ := rv.one
  obtain ⟨z, its, n, r, hl, e⟩ := I.lstM hH
  refine call_meets F.slot_list_append ⟨_, e, rfl⟩ F.entry_list_append (F.args_list_append_2 _ _) (PySem.list_append l its.toArray n u (by rw [List.size_toArray]; omega)) ⟨e, ?_⟩
  refine ⟨.non, _, I.lset (its' := its ++ [u]) hH e (by simp) (r.append (.cons ru .nil)) ?_, rfl, q⟩
  rw [List.length_append, List.length_singleton]
  omega

def rExtend : V → List V → Hp → VK → Prop := fun x vs H Q => ∃ l b xs zs, x = .ref l ∧ vs = [.ref b] ∧ H l = some (.lst xs) ∧ H b = some (.lst zs) ∧ xs.length + zs.length ≤ sizeLine ∧ Q .non (upd H l (.lst (xs ++ zs)))
theorem mt_extend : MtM X "list.extend" rExtend := by
  intro pins s σ H x vs v us Q I rx rv h
  obtain ⟨l, b, xs, zs, rfl, rfl, hH, hB, hz, q⟩ := h
  cases rx
  obtain ⟨u, rfl, ru⟩ := rv.one
  cases ru
  obtain ⟨z, its, n, r, hl, e⟩ := I.lstM hH
  obtain ⟨z2, its2, n2, r2, hl2, e2⟩ := I.lstM hB
  have hsz : its.toArray.size + its2.toArray.size ≤ sizeLine := by rw [List.size_toArray, List.size_toArray]; omega
  have hlong : ¬ (!its.toArray.isEmpty && Builtin.List.listTooLong (its.toArray.size + its2.toArray.size)) = true := by
    rw [notLongL hsz, Bool.and_false]
    exact Bool.false_ne_true
  refine call_meets F.slot_list_extend ⟨_, e, rfl⟩ F.entry_list_extend (F.args_list_extend_2 _ _)
    (AutoSeq1.list_extend_list_list_0 l its.toArray n b its2.toArray n2 hlong (by rw [List.size_toArray]; omega) (by omega)) ⟨e, e2, ?_⟩
  refine ⟨.non, _, I.lset (its' := its ++ its2) hH e (by simp) (r.append r2) ?_, rfl, q⟩
  rw [List.length_append]
  omega

def rPop : V → List V → Hp → VK → Prop := fun x vs H Q => ∃ l xs y, x = .ref l ∧ vs = [] ∧ H l = some (.lst xs) ∧ xs[xs.length - 1]? = some y ∧ Q y (upd H l (.lst xs.dropLast))
theorem mt_pop : MtM X "list.pop" rPop := by
  intro pins s σ H x vs v us Q I rx rv h
  obtain ⟨l, xs, y, rfl, rfl, hH, hy, q⟩ := h
  cases rx
  have hus := rv.zero
  subst hus
  obtain ⟨z, its, n, r, hl, e⟩ := I.lstM hH
  obtain ⟨u, hu, ru⟩ := r.get hy
  have hy' : its.toArray[its.toArray.size - 1]? = some u := by
    show its.toArray[its.length - 1]? = some u
    rw [← Array.getElem?_toList, ← hl]
    exact hu
  refine call_meets F.slot_list_pop ⟨_, e, rfl⟩ F.entry_list_pop (F.args_list_pop_1 _) (MeetsSeq.list_pop_last l its.toArray n u hy' (by rw [List.size_toArray]; omega)) ⟨e, ?_⟩
  refine ⟨y, _, I.lset (its' := its.dropLast) hH e ?_ r.dropLast ?_, ru, q⟩
  · show its.toArray.eraseIdxIfInBounds (its.toArray.size - 1) = its.dropLast.toArray
    rw [List.size_toArray, List.eraseIdxIfInBounds_toArray, erase_last]
  · rw [List.length_dropLast]
    omega

def rPopAt : V → List V → Hp → VK → Prop := fun x vs H Q => ∃ l xs i k y, x = .ref l ∧ vs = [.int i] ∧ H l = some (.lst xs) ∧ -(2 ^ 63) ≤ i ∧ i < 2 ^ 63 ∧ seqIndex? i xs.length = some k ∧ xs[k]? = some y ∧ Q y (upd H l (.lst (xs.eraseIdx k)))
theorem mt_popAt : MtM X "list.pop" rPopAt := by
  intro pins s σ H x vs v us Q I rx rv h
  obtain ⟨l, xs, i, k, y, rfl, rfl, hH, h1, h2, hk, hy, q⟩ := h
  cases rx
  obtain ⟨u, rfl, ru⟩ := rv.one
  obtain ⟨t, rfl⟩ := ru
  obtain ⟨z, its, n, r, hl, e⟩ := I.lstM hH
  obtain ⟨w, hw, rw'⟩ := r.get hy
  refine call_meets F.slot_list_pop ⟨_, e, rfl⟩ F.entry_list_pop (F.args_list_pop_2 _ _)
    (MeetsSeq.list_pop_at l its.toArray n i t k w (fitsIndex_both h1 h2) (by rw [List.size_toArray, ← hl]; exact hk) (by rw [← Array.getElem?_toList]; exact hw) (by rw [List.size_toArray]; omega)) ⟨e, ?_⟩
  refine ⟨y, _, I.lset (its' := its.eraseIdx k) hH e ?_ (r.eraseIdx k) ?_, rw', q⟩
  · show its.toArray.eraseIdxIfInBounds k = (its.eraseIdx k).toArray
    rw [List.eraseIdxIfInBounds_toArray]
  · have := len_erase xs k
    omega

def rReverse : V → List V → Hp → VK → Prop := fun x vs H Q => ∃ l xs, x = .ref l ∧ vs = [] ∧ H l = some (.lst xs) ∧ Q .non (upd H l (.lst xs.reverse))
theorem mt_reverse : MtM X "list.reverse" rReverse := by
  intro pins s σ H x vs v us Q I rx rv h
  obtain ⟨l, xs, rfl, rfl, hH, q⟩ := h
  cases rx
  have hus := rv.zero
  subst hus
  obtain ⟨z, its, n, r, hl, e⟩ := I.lstM hH
  refine call_meets F.slot_list_reverse ⟨_, e, rfl⟩ F.entry_list_reverse (F.args_list_reverse_1 _) (AutoSeq1.list_reverse_list_0 l its.toArray n (by rw [List.size_toArray]; omega)) ⟨e, ?_⟩
  refine ⟨.non, _, I.lset (its' := its.reverse) hH e (by simp) r.reverse ?_, rfl, q⟩
  rw [List.length_reverse]
  omega

def rClear : V → List V → Hp → VK → Prop := fun x vs H Q => ∃ l xs, x = .ref l ∧ vs = [] ∧ H l = some (.lst xs) ∧ Q .non (upd H l (.lst []))
theorem mt_clear : MtM X "list.clear" rClear := by
  intro pins s σ H x vs v us Q I rx rv h
  obtain ⟨l, xs, rfl, rfl, hH, q⟩ := h
  cases rx
  have hus := rv.zero
  subst hus
  obtain ⟨z, its, n, r, hl, e⟩ := I.lstM hH
  refine call_meets F.slot_list_clear ⟨_, e, rfl⟩ F.entry_list_clear (F.args_list_clear_1 _) (AutoSeq1.list_clear_list_0 l its.toArray n (by rw [List.size_toArray]; omega)) ⟨e, ?_⟩
  exact ⟨.non, _, I.lset (its' := []) (ys := []) hH e rfl .nil (Nat.zero_le _), rfl, q⟩

/-! ### list + list, list += list, list * int -/
def rCat : R2 := fun x y H Q => ∃ l b xs zs, x = .ref l ∧ y = .ref b ∧ H l = some (.lst xs) ∧ H b = some (.lst zs) ∧ xs.length + zs.length ≤ sizeLine ∧ ∀ p, H p = none → Q (.ref p) (upd H p (.lst (xs ++ zs)))
theorem op_cat : OpR X (binaryOp .Add) rCat := by
  intro pins s σ H x y v u Q I rx ry h
  obtain ⟨l, b, xs, zs, rfl, rfl, hH, hB, hz, q⟩ := h
  cases rx
  cases ry
  obtain ⟨z, its, n, r, hl, e⟩ := I.lstM hH
  obtain ⟨z2, its2, n2, r2, hl2, e2⟩ := I.lstM hB
  refine PySem.P.add_list e e2 ?_ (by rw [List.size_toArray, List.size_toArray]; omega)
  have ea : its.toArray ++ its2.toArray = (its ++ its2).toArray := by simp
  rw [ea]
  exact ⟨.ref _, _, I.lnew (t' := s.toks) (r.append r2) (by rw [List.length_append]; omega), rfl, q _ I.fresh⟩
/-- a list times an int (a negative one is nothing) -/
def rRep : R2 := fun x y H Q => ∃ l k xs, x = .ref l ∧ y = .int k ∧ H l = some (.lst xs) ∧ -(2 ^ 63) ≤ k ∧ k < 2 ^ 63 ∧ xs.length * k.toNat ≤ sizeLine ∧
  ∀ p, H p = none → Q (.ref p) (upd H p (.lst (List.replicate k.toNat xs).flatten))
theorem len_rep {α : Type} (xs : List α) (k : Nat) : (List.replicate k xs).flatten.length = k * xs.length := by
  induction k with
  | zero => simp
  | succ k ih => rw [List.replicate_succ, List.flatten_cons, List.length_append, ih, Nat.succ_mul, Nat.add_comm]
theorem op_rep : OpR X (binaryOp .Mult) rRep := by
  intro pins s σ H x y v u Q I rx ry h
  obtain ⟨l, k, xs, rfl, rfl, hH, h1, h2, hz, q⟩ := h
  cases rx
  obtain ⟨t, rfl⟩ := ry
  obtain ⟨z, its, n, r, hl, e⟩ := I.lstM hH
  have hlen : its.toArray.size * k.toNat ≤ sizeLine := by rw [List.size_toArray, ← hl]; exact hz
  have hcap : ¬ its.toArray.size * k.toNat > (2 ^ 63 - 1) / 8 := by
    have : (sizeLine : Nat) ≤ (2 ^ 63 - 1) / 8 := by decide
    omega
  have hfit : ¬ (!Builtin.List.listFitsIndex k) = true := by
    rw [fitsIndex_both h1 h2]
    exact Bool.false_ne_true
  have hlong : ¬ Builtin.List.listTooLong (its.toArray.size * k.toNat) = true := by
    rw [notLongL hlen]
    exact Bool.false_ne_true
  have hnew : List.foldl (fun x1 x2 => x1 ++ x2) #[] (List.replicate (if its.toArray.isEmpty = true then 0 else k.toNat) its.toArray) = (List.replicate k.toNat its).flatten.toArray := by
    have f0 : ∀ m : Nat, List.foldl (fun x1 x2 => x1 ++ x2) #[] (List.replicate m its.toArray) = (List.replicate m its).flatten.toArray := fun m => by
      have := foldl_rep its m []
      rw [List.nil_append] at this
      exact this
    rw [f0]
    cases its with
    | nil => simp
    | cons a r' => rw [if_neg (by simp)]
  refine wpAny_binaryOp_repeat_ref (T := "list") (U := "int") (by decide) ⟨_, e, rfl⟩ (fun s' => typeIs_int s' k t) noFill_list_mul F.fills_int_mul F.slot_int_rmul repeat_list F.slot_int_index.lookup
    (call_meets F.slot_int_rmul (typeIs_int s k t) F.entry_int_rmul (F.args_int_rmul_2 _ _) (int___rmul___int_list k t l its.toArray n)
      ⟨e, rfl, ⟨_, e, rfl⟩, call_meets F.slot_list_mul ⟨_, e, rfl⟩ F.entry_list_mul (F.args_list_mul_2 _ _) (AutoListH.list___mul___list_int_3 l its.toArray n k t hfit hcap hlong) ⟨e, ?_⟩⟩)
  rw [hnew]
  exact ⟨.ref _, _, I.lnew (t' := s.toks) (r.rep k.toNat) (by rw [len_rep, Nat.mul_comm]; exact hz), rfl, q _ I.fresh⟩

/-! ### del xs[i] -/
theorem del_list {pins : List (Addr × Obj)} {s : Shared} {σ : St} {H : Hp} {l : Addr} {xs : List V} {i : Int} {t : Tok} {k : Nat} {Q : Unit → Shared → Prop} (I : Inv X pins σ H s) (hH : H l = some (.lst xs))
    (h1 : -(2 ^ 63) ≤ i) (h2 : i < 2 ^ 63) (hk : seqIndex? i xs.length = some k) (h : ∀ s', Inv X pins σ (upd H l (.lst (xs.eraseIdx k))) s' → Q () s') :
    wpAny (model X.prog X.w) X.A (delItem (.ref l) (.int i t)) Q X.xe s := by
  obtain ⟨z, its, n, r, hl, e⟩ := I.lstM hH
  refine PySem.P.delItem_list (k := k) e (fitsIndex_both h1 h2) (by rw [List.size_toArray, ← hl]; exact hk) (h _ ?_) (by rw [List.size_toArray]; omega)
  refine I.lset (its' := its.eraseIdx k) (t' := s.toks) hH e ?_ (r.eraseIdx k) ?_
  · show its.toArray.eraseIdxIfInBounds k = (its.eraseIdx k).toArray
    rw [List.eraseIdxIfInBounds_toArray]
  · have := len_erase xs k
    omega
end

/-! ### xs[a:b] = ys -/
section
variable {prog : Program} {w : World} {A : Around} {E : Value → Shared → Prop} {s : Shared}
theorem splice_eq (its its2 : List Value) (a c : Nat) : its.toArray.extract 0 a ++ its2.toArray ++ its.toArray.extract c its.toArray.size = (its.take a ++ its2 ++ its.drop c).toArray := by
  apply Array.toList_inj.mp
  first
    | (simp
       exact List.take_of_length_le (by simp))
    | simp [List.take_of_length_le]
    | simp
theorem bounds_run {a c n : Nat} (hac : a ≤ c) (hc : c ≤ n) : sliceBounds (some (a : Int)) (some (c : Int)) none n = ((a : Int), (c : Int), 1) := by
  simp only [sliceBounds, Option.getD_none]
  have h1 : ¬ ((a : Int) < 0) := by omega
  have h2 : ¬ ((c : Int) < 0) := by omega
  simp only [h1, h2, if_false, show (1 : Int) > 0 by decide, if_true]
  congr 1
  · omega
  · congr 1; omega
set_option maxRecDepth 100000 in
/-- list.__setitem__ with a slice of step one and another list -/
theorem setItem_slice {l b sl : Addr} {items new : Array Value} {n n2 : Nat} {vl vu : Value} {a c : Nat} {Q : Unit → Shared → Prop}
    (e : s.heap.get? l = some { cls := .type "list", data := .seq items n }) (e2 : s.heap.get? b = some { cls := .type "list", data := .seq new n2 }) (hne : l ≠ b)
    (hs : s.heap.IsSliceOf sl vl vu .none) (pl : IsPart vl (some (a : Int))) (pu : IsPart vu (some (c : Int))) (hac : a ≤ c) (hc : c ≤ items.size)
    (hsz : items.size + new.size ≤ sizeLine) (h : Q () { s with heap := s.heap.update l (Obj.mapSeq fun xs => xs.extract 0 a ++ new ++ xs.extract c xs.size) }) :
    wpAny (model prog w) A (setItem (.ref l) (.ref sl) (.ref b)) Q E s := by
  have hl : s.heap.IsList l items := PySem.IsL.isList e
  have hb : s.heap.IsList b new := PySem.IsL.isList e2
  obtain ⟨os, hos, hcs, hds⟩ := id hs
  have hTs : s.TypeIs (.ref sl) "slice" := ⟨os, hos, hcs⟩
  have hstep : ¬ ((rawPart none == rawInt 0) = true) := Bool.false_ne_true
  have hsame : Builtin.List.listSameRef (.ref l) (.ref b) = false := by
    unfold Builtin.List.listSameRef
    exact beq_eq_false_iff_ne.mpr hne
  have hmax : (max (a : Int) (c : Int)).toNat = c := by omega
  have hz' : ((fun xs : Array Value => xs.extract 0 a ++ new ++ xs.extract c xs.size) items).size ≤ sizeLine + 1 := by
    simp only [Array.size_append, Array.size_extract]
    omega
  unfold setItem
  try with_reducible refine wpAny_holding ?_
  first | refine wpAny_bind (wpAny_pure ?_) | skip
  refine wpAny_bind (wpAny_sequenceKey hl.typeIs (by decide) ?_)
  refine wpAny_bind (wpAny_callSpecial?_slot (name := Str.ofString "__setitem__") hl.typeIs slot_list_setitem
    (wpAny_call_entry slot_list_setitem hl.typeIs entry_list_setitem ?_ (args_list_setitem _ _ _)))
  show wpAny _ _ (Builtin.List.listSubscript? (.ref sl) >>= _) _ _ s
  refine wpAny_bind ?_
  unfold Builtin.List.listSubscript?
  refine wpAny_bind (wpAny_specialOf hTs slice_no_index ?_)
  simp only [Option.isNone_none, if_true]
  refine wpAny_pure ?_
  show wpAny _ _ (typeOf (.ref sl) >>= _) _ _ s
  refine wpAny_bind (wpAny_typeOf hTs ?_)
  first
    | rw [if_neg (by decide)]
    | refine PySem.W.KFB.if_not (by decide) ?_
  rw [listSliceParts_eq]
  refine wpAny_bind (wpAny_bind (wpAny_field hos hds (x := .none) rfl (wpAny_bind (wpAny_listPart .none ?_))))
  rw [if_neg hstep]
  refine wpAny_bind (wpAny_field hos hds (x := vl) rfl (wpAny_bind (wpAny_listPart pl ?_)))
  refine wpAny_bind (wpAny_field hos hds (x := vu) rfl (wpAny_bind (wpAny_listPart pu (wpAny_pure ?_))))
  first
    | simp only [hsame, Bool.false_eq_true, if_false]
    | refine PySem.W.KFB.if_not hsame ?_
    | (dsimp only
       rw [if_neg (by rw [hsame]; exact Bool.false_ne_true)])
  refine wpAny_bind (m := Builtin.List.listAllItems (.ref b) "must assign iterable to extended slice") ?_
  unfold Builtin.List.listAllItems
  refine wpAny_bind (wpAny_typeOf hb.typeIs ?_)
  first
    | refine PySem.W.KFB.if_so (by decide) ?_
    | rw [if_pos (by decide)]
    | simp only [beq_self_eq_true, Bool.true_or, if_true]
  unfold Builtin.List.listItems
  refine wpAny_bind (wpAny_seqItems e2 rfl (wpAny_pure ?_))
  refine wpAny_bind (wpAny_bind (wpAny_seqItems e rfl (wpAny_pure ?_)))
  refine wpAny_bind (wpAny_of_eq ((sliceIndices_raw (some (a : Int)) (some (c : Int)) none items.size (by simp)).trans (congrArg (pure : Int × Int × Int → Sem (Int × Int × Int)) (bounds_run hac hc))) ?_)
  show wpAny _ _ (if ((1 : Int) == 1) = true then _ else _) _ _ s
  rw [if_pos (by decide)]
  refine wpAny_bind (wpAny_rule ?_)
  first
    | simp only [notLongL hsz, Bool.false_eq_true, if_false]
    | refine PySem.W.KFB.if_not (notLongL hsz) ?_
  first | refine wpAny_bind (wpAny_pure ?_) | skip
  show wpAny _ _ (updateSeq l (fun xs => xs.extract 0 ((a : Int)).toNat ++ new ++ xs.extract (max (a : Int) (c : Int)).toNat xs.size) >>= _) _ _ s
  rw [hmax, Int.toNat_natCast]
  refine wpAny_bind (wpAny_updateSeq (hz := Nat.le_trans (Nat.le_add_right _ _) hsz) (_hz' := hz') e rfl ?_)
  refine wpAny_bind (wpAny_letGo ?_)
  first
    | exact wpAny_bind (wpAny_pure (wpAny_pure ⟨.none, rfl, wpAny_pure h⟩))
    | exact wpAny_pure ⟨.none, rfl, wpAny_pure h⟩
end

section
variable {X : Cx}
/-- xs[a:c] = ys of another list, at the value level: sl is the slice object that was just made -/
theorem set_slice {pins : List (Addr × Obj)} {s : Shared} {σ : St} {H : Hp} {l b sl : Addr} {xs ys : List V} {a c : Int} {vl vu : Value} {Q : Unit → Shared → Prop} (I : Inv X pins σ H s)
    (hH : H l = some (.lst xs)) (hB : H b = some (.lst ys)) (hne : l ≠ b) (hs : s.heap.IsSliceOf sl vl vu .none) (ra : RelV (.int a) vl) (rc : RelV (.int c) vu) (h0 : 0 ≤ a) (hac : a ≤ c) (hc : c ≤ xs.length)
    (hz : xs.length + ys.length ≤ sizeLine) (h : ∀ s', Inv X pins σ (upd H l (.lst (xs.take a.toNat ++ ys ++ xs.drop c.toNat))) s' → Q () s') :
    wpAny (model X.prog X.w) X.A (setItem (.ref l) (.ref sl) (.ref b)) Q X.xe s := by
  obtain ⟨ta, rfl⟩ := ra
  obtain ⟨tc, rfl⟩ := rc
  obtain ⟨z, its, n, r, hl, e⟩ := I.lstM hH
  obtain ⟨z2, its2, n2, r2, hl2, e2⟩ := I.lstM hB
  obtain ⟨a', rfl⟩ := Int.eq_ofNat_of_zero_le h0
  obtain ⟨c', rfl⟩ := Int.eq_ofNat_of_zero_le (Int.le_trans h0 hac)
  simp only [Int.toNat_natCast] at h
  refine setItem_slice (a := a') (c := c') e e2 hne hs (.int _ _) (.int _ _) (by omega) (by rw [List.size_toArray]; omega) (by rw [List.size_toArray, List.size_toArray]; omega) (h _ ?_)
  refine I.lset (its' := its.take a' ++ its2 ++ its.drop c') (t' := s.toks) hH e ?_ (Vals.append (Vals.append (r.take _) r2) (r.drop _)) ?_
  · exact splice_eq its its2 a' c'
  · rw [List.length_append, List.length_append, List.length_take, List.length_drop]
    omega
end
end L2

namespace Att
open PySem PySem.W PySem.Calls PyProof.Rows

/-! ### the script -/
theorem ints_of_wellAll {P : Params} {h : Heap} : ∀ (ns : List Int) (vs : List Value), WellAll P h vs (ns.map WData.int) → IntsAre vs ns := by
  intro ns
  induction ns with
  | nil =>
    intro vs w
    rw [List.map_nil] at w
    cases w
    exact .nil
  | cons n ns ih =>
    intro vs w
    rw [List.map_cons] at w
    cases w with
    | cons a b =>
      cases a
      exact .cons _ _ (ih _ b)

theorem script_of {l : OpenLaw} {n : Nat} (hn : l.most = some n) {P : Params} {h : Heap} {args : List WData} {vals : List Value}
    (hpre : l.row.toRowW.claim.pre args = true) (hwl : WellAll P h vals args) :
    ∃ a vs ns, vals = [Value.ref a] ∧ args = [WData.list (ns.map WData.int)] ∧ h.get? a = some { cls := .type "list", data := .seq vs.toArray } ∧ IntsAre vs ns ∧ ns.length ≤ n := by
  have hsh : WShape.hasAll [] args [.list .int] = true := (pre_splitW hpre).1
  have hc : l.pre.holds [] { args := args } = true := (pre_splitW hpre).2
  obtain ⟨d, r, rfl, h1, h2⟩ := hasAllW_cons hsh
  obtain rfl := hasAllW_nil h2
  obtain ⟨xs, rfl, h3⟩ := hasW_list h1
  obtain ⟨ns, rfl⟩ := items_int h3
  have hlen : ns.length ≤ n := by
    unfold OpenLaw.pre at hc
    have h4 : (WTm.not (.lt (.lit (.int (n : Int))) (.len (.arg 0)))).holds [] { args := [.list (ns.map .int)] } = true := by
      have h4 := (holds_andW hc).1
      rw [hn] at h4
      exact h4
    have h5 := condW_of h4 (w_not (w_lt w_lit (w_len_list (w_arg rfl))))
    rw [List.length_map] at h5
    refine Nat.le_of_not_lt fun q => ?_
    have q' : (n : Int) < ((ns.length : Nat) : Int) := by omega
    first
      | (rw [decide_eq_true q'] at h5; exact absurd h5 (by decide))
      | (simp at h5; omega)
  cases hwl with
  | cons w1 w2 =>
    cases w2
    cases w1 with
    | list ho hall => exact ⟨_, _, ns, rfl, rfl, ho, ints_of_wellAll ns _ hall, hlen⟩

theorem post_true (l : OpenLaw) (args : List WData) : l.row.toRowW.claim.post args (.bool true) args = true :=
  postW_of (r := l.row.toRowW) (X := (true == true))
    (show WShape.has [] (.bool true) .bool = true by first | rfl | decide | simp [WShape.has, WShape.arms, WShape.armsAll])
    (show (WTm.eq .res (.lit (.bool true))).value [] { args := args, res := some (.bool true), after := args } = some (.bool (true == true)) from w_eq_bool (w_res rfl) w_lit) rfl

/-! ### the attachment: holds_open's last premise (the goal 'hc' behind k_head) from a wpAny of the law's body -/
theorem attach {l : OpenLaw} {n : Nat} {q : Program} {loose : List Str} {XP : (Str → Option Value) → Heap → Prop} {YP : World → Heap → Prop} {d : DefRec} {x : Str}
    (hn : l.most = some n) (hdf : d.params.defaults = [])
    (hbind : ∀ pm cd doc v : Value, bindArgs (docDef d.name d.params d.body d.scope pm cd doc) ⟨[v], []⟩ = pure [(x, v)])
    (hx : d.scope.names.lookup x = some .local ∨ d.scope.names.lookup x = some .cell)
    (hk : d.scope.kind = .function) (hco : d.scope.isCoroutine = false) (hgen : d.scope.isGenerator = false)
    (body : ∀ (w : World) (s₀ s₁ s : Shared) (mg mb : Str → Option Value) (fa : Addr) (o : Obj) (pm cd doc : Value) (a : Addr) (vs : List Value) (ns : List Int),
      Ground q loose [] XP w s₀ mg mb s₁.heap → YP w s₁.heap →
      s₁.heap.get? fa = some o → o.data = .func (docDef d.name d.params d.body d.scope pm cd doc) → s₁.heap.CodeRec cd d.name → mg d.name = some (.ref fa) →
      s₁.heap.get? a = some { cls := .type "list", data := .seq vs.toArray } → IntsAre vs ns → ns.length ≤ n →
      s.gens = #[] → s.os = s₁.os →
      Fr s₁.heap s₁.heap.objs.size s.heap (bindL (envOfC d.name d.scope s₁.heap.objs.size fa cd).kindOf [(x, .ref a)] fun _ => none) →
      Cl s₁.heap.objs.size (cellsFrom (s₁.heap.objs.size + 1) d.scope.names []) s.heap (bindC (envOfC d.name d.scope s₁.heap.objs.size fa cd).kindOf [(x, .ref a)] fun _ => none) →
      wpAny (model l.prog w) (callerA.deeper (envOfC d.name d.scope s₁.heap.objs.size fa cd)) (execs d.body (envOfC d.name d.scope s₁.heap.objs.size fa cd))
        (fun f s' => f = .ret (.bool true) ∧ OldK s₁.heap s'.heap ∧ s'.os = s₁.os ∧ AllBare s'.gens) (fun _ _ => False) s) :
    WalkO q loose XP YP l.row.toRowW d [] (fun f vs => PySem.call f vs) := by
  intro w s₀ s₁ mg mb G Y fa o pm cd doc dV kV ho hd hcd hD hmg hg args vals as hpre hlay hrd hwl hlo
  obtain rfl : dV = .none := Dflts.none hD hdf
  obtain rfl : kV = .none := Dflts.noKw hD
  obtain ⟨a, vs, ns, rfl, rfl, hobj, hints, hlen⟩ := script_of hn hpre hwl
  refine enter_call ?_
  refine call_cells_ret (o := o) (by rw [depth_caller]; decide) ho (fd_plain hd) G.T.nolimit hcd (hbind pm cd doc (.ref a)) (fun y hy => ?_) (fun h₁ tk F X => ?_) hco hgen hk
  · obtain rfl : y = (x, Value.ref a) := List.mem_singleton.mp hy
    rcases hx with e | e
    · exact .inl e
    · exact .inr ⟨e, cellsFrom_some _ _ _ (.inl e)⟩
  · refine wpAny_mono (body w s₀ s₁ { s₁ with heap := h₁, toks := tk } mg mb fa o pm cd doc a vs ns G Y ho (fd_plain hd) hcd hmg hobj hints hlen hg rfl F X) (fun f s' hq => ?_) (fun _ _ hq => hq)
    obtain ⟨rfl, h2, h3, h4⟩ := hq
    exact ⟨.inl ⟨.bool true, .bool true, [], rfl, fun _ => rfl, .bool true, post_true l _, fun _ => ⟨List.Pairwise.nil, fun _ hm => (nomatch hm)⟩⟩, h2, h3, h4⟩

/-- the same from a codeAny of the CALL (for a layer whose function contracts speak of calls) -/
theorem attach_call {l : OpenLaw} {n : Nat} {q : Program} {loose : List Str} {XP : (Str → Option Value) → Heap → Prop} {YP : World → Heap → Prop} {d : DefRec}
    (hn : l.most = some n) (hdf : d.params.defaults = [])
    (call : ∀ (w : World) (s₀ s₁ : Shared) (mg mb : Str → Option Value) (fa : Addr) (o : Obj) (pm cd doc : Value) (a : Addr) (vs : List Value) (ns : List Int),
      Ground q loose [] XP w s₀ mg mb s₁.heap → YP w s₁.heap →
      s₁.heap.get? fa = some o → o.data = .func (docDef d.name d.params d.body d.scope pm cd doc) → s₁.heap.CodeRec cd d.name → mg d.name = some (.ref fa) →
      s₁.heap.get? a = some { cls := .type "list", data := .seq vs.toArray } → IntsAre vs ns → ns.length ≤ n → s₁.gens = #[] →
      codeAny (model l.prog w) callerA (.call (.ref fa) ⟨[.ref a], []⟩) (fun r s' => r = .ok (.ret (.bool true)) ∧ OldK s₁.heap s'.heap ∧ s'.os = s₁.os ∧ AllBare s'.gens) s₁) :
    WalkO q loose XP YP l.row.toRowW d [] (fun f vs => PySem.call f vs) := by
  intro w s₀ s₁ mg mb G Y fa o pm cd doc dV kV ho hd hcd hD hmg hg args vals as hpre hlay hrd hwl hlo
  obtain rfl : dV = .none := Dflts.none hD hdf
  obtain rfl : kV = .none := Dflts.noKw hD
  obtain ⟨a, vs, ns, rfl, rfl, hobj, hints, hlen⟩ := script_of hn hpre hwl
  refine enter_call (codeAny_mono (call w s₀ s₁ mg mb fa o pm cd doc a vs ns G Y ho (fd_plain hd) hcd hmg hobj hints hlen hg) fun r s' hq => ?_)
  obtain ⟨rfl, h2, h3, h4⟩ := hq
  exact ⟨.inl ⟨.bool true, .bool true, [], rfl, fun _ => rfl, .bool true, post_true l _, fun _ => ⟨List.Pairwise.nil, fun _ hm => (nomatch hm)⟩⟩, h2, h3, h4⟩

/-- the same where the top left finished generators (o_head chose holds_openN): nothing may have changed at all and no generator may be left -/
theorem attachN {l : OpenLaw} {n : Nat} {q : Program} {loose : List Str} {XP : (Str → Option Value) → Heap → Prop} {YP : World → Heap → Prop} {d : DefRec} {x : Str}
    (hn : l.most = some n) (hdf : d.params.defaults = [])
    (hbind : ∀ pm cd doc v : Value, bindArgs (docDef d.name d.params d.body d.scope pm cd doc) ⟨[v], []⟩ = pure [(x, v)])
    (hx : d.scope.names.lookup x = some .local ∨ d.scope.names.lookup x = some .cell)
    (hk : d.scope.kind = .function) (hco : d.scope.isCoroutine = false) (hgen : d.scope.isGenerator = false)
    (body : ∀ (w : World) (s₀ s₁ s : Shared) (mg mb : Str → Option Value) (fa : Addr) (o : Obj) (pm cd doc : Value) (a : Addr) (vs : List Value) (ns : List Int),
      Ground q loose [] XP w s₀ mg mb s₁.heap → YP w s₁.heap →
      s₁.heap.get? fa = some o → o.data = .func (docDef d.name d.params d.body d.scope pm cd doc) → s₁.heap.CodeRec cd d.name → mg d.name = some (.ref fa) →
      s₁.heap.get? a = some { cls := .type "list", data := .seq vs.toArray } → IntsAre vs ns → ns.length ≤ n →
      s.gens = #[] → s.os = s₁.os →
      Fr s₁.heap s₁.heap.objs.size s.heap (bindL (envOfC d.name d.scope s₁.heap.objs.size fa cd).kindOf [(x, .ref a)] fun _ => none) →
      Cl s₁.heap.objs.size (cellsFrom (s₁.heap.objs.size + 1) d.scope.names []) s.heap (bindC (envOfC d.name d.scope s₁.heap.objs.size fa cd).kindOf [(x, .ref a)] fun _ => none) →
      wpAny (model l.prog w) (callerA.deeper (envOfC d.name d.scope s₁.heap.objs.size fa cd)) (execs d.body (envOfC d.name d.scope s₁.heap.objs.size fa cd))
        (fun f s' => f = .ret (.bool true) ∧ (∀ b o, s₁.heap.get? b = some o → s'.heap.get? b = some o) ∧ s'.os = s₁.os ∧ s'.gens = #[]) (fun _ _ => False) s) :
    WalkN q loose XP YP l.row.toRowW d [] (fun f vs => PySem.call f vs) := by
  intro w s₀ s₁ mg mb G Y fa o pm cd doc dV kV ho hd hcd hD hmg hg args vals as hpre hlay hrd hwl hlo
  obtain rfl : dV = .none := Dflts.none hD hdf
  obtain rfl : kV = .none := Dflts.noKw hD
  obtain ⟨a, vs, ns, rfl, rfl, hobj, hints, hlen⟩ := script_of hn hpre hwl
  refine enter_callW ?_
  refine call_cells_ret (o := o) (by rw [depth_caller]; decide) ho (fd_plain hd) G.T.nolimit hcd (hbind pm cd doc (.ref a)) (fun y hy => ?_) (fun h₁ tk F X => ?_) hco hgen hk
  · obtain rfl : y = (x, Value.ref a) := List.mem_singleton.mp hy
    rcases hx with e | e
    · exact .inl e
    · exact .inr ⟨e, cellsFrom_some _ _ _ (.inl e)⟩
  · refine wpAny_mono (body w s₀ s₁ { s₁ with heap := h₁, toks := tk } mg mb fa o pm cd doc a vs ns G Y ho (fd_plain hd) hcd hmg hobj hints hlen hg rfl F X) (fun f s' hq => ?_) (fun _ _ hq => hq)
    obtain ⟨rfl, h2, h3, h4⟩ := hq
    exact ⟨.inl ⟨.bool true, .bool true, [], rfl, fun _ => rfl, .bool true, post_true l _, fun _ => ⟨List.Pairwise.nil, fun _ hm => (nomatch hm)⟩⟩, h2, h3, h4⟩

/-! ### rules over ANY heap (no ledger) from facts about the written part K: the library's own take a ledger (News) for what they write -/
section
variable {prog : Program} {w : World} {A : Around} {E : Value → Shared → Prop} {s : Shared} {K : Frag}

/-- a def of the module, or a method (qual 'C.m'), entered: the frame is the next address; cells behind it -/
theorem call_fn {R : Result → Shared → Prop} {name qual : Str} {params : Arguments} {body : List Stmt} {scope : Scope} {dV kV doc pm cdv ct oc : Value} {an od : Option Addr} {osl : Array (Option Value)} {f : Addr} {args : Args} {binds : List (Str × Value)}
    (X : K.In s.heap) (hlim : s.heap.NoLimit) (ho : K.lookup f = some ⟨oc, od, .func (fnOf name qual params body scope dV kV doc pm an cdv ct), osl⟩) (hcd : codeIn K cdv qual = true) (hroom : A.depth < recursionLimit)
    (hbind : BindsTo s (fnOf name qual params body scope dV kV doc pm an cdv ct) args binds)
    (hkind : (binds.all fun y => scope.names.lookup y.1 == some .local || scope.names.lookup y.1 == some .cell) = true)
    (h : ∀ s₁, InCallC s s.heap.objs.size (bindL (envOfC qual scope s.heap.objs.size f cdv).kindOf binds fun _ => none) (cellsFrom (s.heap.objs.size + 1) scope.names [])
        (bindC (envOfC qual scope s.heap.objs.size f cdv).kindOf binds fun _ => none) s₁ →
      wpAny (model prog w) (A.deeper (envOfC qual scope s.heap.objs.size f cdv)) (execs body (envOfC qual scope s.heap.objs.size f cdv))
        (fun fl s' => R (.ok (.ret (match fl with | .ret v => v | _ => .none))) s')
        (fun e s' => wpAny (model prog w) (A.deeper (envOfC qual scope s.heap.objs.size f cdv)) (leaving (envOfC qual scope s.heap.objs.size f cdv) e) (fun _ s'' => R (.error e) s'') (fun e' s'' => R (.error e') s'') s') s₁)
    (hco : scope.isCoroutine = false) (hgen : scope.isGenerator = false) (hk : scope.kind = .function) : codeAny (model prog w) A (.call (.ref f) args) R s := by
  refine codeAny_call_function hroom (X _ _ ho) rfl hco hgen rfl (codeRec_of X hcd) (hbind _ _ _ _ ?_)
  refine wpAny_newFunctionEnv_cells hk (kindsX hkind _) fun env he s₁ x => ?_
  subst he
  exact ⟨hlim.keeps x.toInCall.keep, codeAny_func (h s₁ x)⟩

/-- C(..): dict at size, instance at size + 1, then __init__ -/
theorem make_obj {R : Result → Shared → Prop} {C fI : Addr} {rest : List Value} {kw : List (Str × Value)}
    (X : K.In s.heap) (hm : makesIn K C = true) (hi : findIn K (.ref C) "__init__" = some (some (.ref fI))) (hf : isFn K (.ref fI) = true)
    (h : codeAny (model prog w) (A.under (.builtin "type.__call__" ⟨.ref C :: rest, kw⟩)) (.call (.ref fI) ⟨.ref (s.heap.objs.size + 1) :: rest, kw⟩) (InitBack (s.heap.objs.size + 1) R)
      { s with heap := (s.heap.push emptyDict).push (instObj C s.heap.objs.size) }) : codeAny (model prog w) A (.call (.ref C) ⟨rest, kw⟩) R s := by
  obtain ⟨hh, g, d, t, os⟩ := s
  exact make_core (makes_of X hm) (looks_findIn X hi) (fun self => bind_fn X self (beq_iff_eq.mp hf)) (.inl rfl) h

/-- x.name where the instance's dict holds the name and the class does not -/
theorem get_field {x C : Addr} {ox : Obj} {es : List DictEntry} {n : Nat} {name : Str} {expr : Bool} {v : Value} {Q : Value → Shared → Prop}
    (X : K.In s.heap) (I : PySem.W.InstAt s.heap x ox C (some (dictOf es n))) (hg : plainGet K C name = true) (hh : hasDictIn K C = true) (ha : findIn K (.ref C) name = some none)
    (hl : getL name es = some (some v)) (hv : handedIn v = true) (h : Q v { s with toks := s.toks + 1 }) : wpAny (model prog w) A (getAttr (.ref x) name expr) Q E s :=
  get_value X I (plainGet_of hg).1 (findObj_own hh ha rfl hl) hv h

/-- x.m(..): the method found in the class -/
theorem get_method {x C f : Addr} {ox : Obj} {es : List DictEntry} {n : Nat} {name : Str} {pl : Sem Bool} {Q : Value × List Value → Shared → Prop}
    (X : K.In s.heap) (I : PySem.W.InstAt s.heap x ox C (some (dictOf es n))) (hg : plainGet K C name = true) (hf : findIn K (.ref C) name = some (some (.ref f))) (ht : isFn K (.ref f) = true)
    (hl : getL name es = some none) (h : Q (.ref f, [.ref x]) s) : wpAny (model prog w) A (getMethod (.ref x) name pl) Q E s :=
  method_fn X I (plainGet_of hg).1 (plainGet_of hg).2 hf (beq_iff_eq.mp ht) (by show (lookIn name (dictOf es n)).map _ = _; rw [lookIn_dict, hl]; rfl) h

/-! the whole heap as the ledger: makes every rule that writes through a ledger a rule over any heap -/
def noObjs (h : Heap) : Heap := { h with objs := #[] }
theorem noObjs_get (h : Heap) (b : Addr) : (noObjs h).get? b = none := by
  cases e : (noObjs h).get? b with
  | none => rfl
  | some o => exact absurd (Heap.lt_size e) (Nat.not_lt_zero _)
def ledger (h : Heap) (L d : Addr) : List (Addr × Obj) := (List.range h.objs.size).filterMap fun a => if a = L ∨ a = d then none else (h.get? a).map fun o => (a, o)
theorem mem_ledger {h : Heap} {L d a : Addr} {o : Obj} : (a, o) ∈ ledger h L d ↔ a ≠ L ∧ a ≠ d ∧ h.get? a = some o := by
  unfold ledger
  rw [List.mem_filterMap]
  constructor
  · rintro ⟨b, _, e⟩
    split at e
    · cases e
    · rename_i hb
      obtain ⟨o', ho, e'⟩ := Option.map_eq_some_iff.mp e
      cases e'
      exact ⟨fun q => hb (.inl q), fun q => hb (.inr q), ho⟩
  · rintro ⟨n1, n2, ho⟩
    refine ⟨a, List.mem_range.mpr (Heap.lt_size ho), ?_⟩
    rw [if_neg (show ¬ (a = L ∨ a = d) from fun q => q.elim n1 n2), ho] <;> rfl
theorem news_ledger {h : Heap} {L d : Addr} {od : Obj} (hne : d ≠ L) (ho : h.get? d = some od) : News (noObjs h) L h ([] ++ (d, od) :: ledger h L d) := by
  rintro ⟨a, o⟩ hp
  rcases List.mem_cons.mp hp with e | hp
  · cases e
    exact ⟨ho, hne, noObjs_get _ _⟩
  · obtain ⟨n1, n2, e⟩ := mem_ledger.mp hp
    exact ⟨e, n1, noObjs_get _ _⟩
theorem fr_all {h : Heap} {L : Addr} {m : Str → Option Value} (n : h.Ns L m) : Fr (noObjs h) L h m :=
  ⟨n, fun b o e => (by rw [noObjs_get] at e; cases e), Nat.zero_le _⟩
/-- Upd of the head entry (for append_K, setItem_K ..) -/
theorem upd_ledger {h : Heap} {L d : Addr} {o o' : Obj} : Upd d o o' ((d, o) :: ledger h L d) ((d, o') :: ledger h L d) :=
  .head fun ⟨_, _⟩ hp => (mem_ledger.mp hp).2.1

/-- x.name = v over any heap: L is any namespace of the heap (the frame's, say): its map stays, its object is not told; all else but the dict stays -/
theorem set_field {x C dx L : Addr} {ox : Obj} {m : Str → Option Value} {es es' : List DictEntry} {n n' : Nat} {name : Str} {v : Value} {Q : Unit → Shared → Prop}
    (X : K.In s.heap) (I : PySem.W.InstAt s.heap x ox C (some (dictOf es n))) (hd : ox.dict = some dx) (hL : s.heap.Ns L m) (hne : dx ≠ L)
    (hs : findIn K (.ref C) "__setattr__" = some (some (.builtin "object.__setattr__"))) (hp : plainOver K C = true) (ht : takerIn K C name = some none) (hh : hasDictIn K C = true) (hl : (getL name es).isSome = true)
    (e : (putL name (PyData.keyHash w.params name) (.str name (s.toks + 1)) v es, putN name es n) = (es', n')) (hz : es'.length ≤ 1000)
    (h : ∀ h' : Heap, h'.Ns L m → h'.get? dx = some (dictOf es' n') → (∀ b o, b ≠ dx → b ≠ L → s.heap.get? b = some o → h'.get? b = some o) → Q () { s with heap := h', toks := s.toks + 2 }) :
    wpAny (model prog w) A (setAttr (.ref x) name v) Q E s := by
  obtain ⟨e1, e2⟩ := Prod.mk.inj e
  have hdx : s.heap.get? dx = some (dictOf es n) := by
    have := I.dict
    rw [hd] at this
    exact this
  refine set_plain X I hs (osa_dict (s := { s with toks := s.toks + 1 }) (h₀ := noObjs s.heap) (L := L) (m := m) (od := dictOf es n) (od' := dictOf es' n') (es := es') (n := n') (pre := []) (post := ledger s.heap L dx)
    (fr_all hL) (news_ledger hne hdx) X I hd hp ht hh hl (fun _ q => nomatch q) (fun ⟨_, _⟩ q => (mem_ledger.mp q).2.1) (by rw [putName_dict, e1, e2]) rfl hz fun h' F' N' => ?_)
  exact h h' F'.ns (N'.get (List.Mem.head _)) fun b o n1 n2 ho => N'.get (List.Mem.tail _ (mem_ledger.mpr ⟨n2, n1, ho⟩))
end
end Att

namespace L2
open PySem PySem.Spec PyProof.Rows

theorem vals_ints : ∀ {vs : List Value} {ns : List Int}, IntsAre vs ns → Vals (ns.map V.int) vs
  | _, _, .nil => .nil
  | _, _, .cons n t h => .cons ⟨t, rfl⟩ (vals_ints h)

/-- nothing is tracked but the script, known to the object (or it is an object of the module) -/
def Only (H : Hp) : Prop := ∀ b, H b = none ∨ ∃ o xs, H b = some (.frz o (.lst xs))

/-- THE HEAD: the law's promise, at the heap behind the top. F, the promise of the law's def, may use that base is part of the heap (so K.In base, base.Ns mainGlobals mg stand in Mod) -/
theorem law_call {P : Program} {w : World} {K : PySem.W.Frag} {mg mb : Str → Option Value} {CX : CXT} {k : Nat} {fa a : Addr} {fd : FuncData} {x : Str} {sp : Sp} {s₁ : Shared} {vs : List Value} {ns : List Int}
    (KX : K.In s₁.heap) (hns : s₁.heap.Ns mainGlobals mg) (hb : s₁.heap.Ns builtinsNs mb) (hbb : ∀ x : Str, x ≠ "__name__" → mb x = bootBuiltins x) (hlim : s₁.heap.NoLimit) (hg : s₁.gens = #[])
    (ha : s₁.heap.get? a = some { cls := .type "list", data := .seq vs.toArray }) (hi : IntsAre vs ns) (hl : ns.length ≤ sizeLine) (hr : Room k callerA)
    (F : ∀ base : Heap, K.In base → base.Ns mainGlobals mg → FnOk P w K mg base CX k fa fd [x] sp) (hbind : ∀ (s : Shared) (u : Value), BindsTo s fd ⟨[u], []⟩ [(x, u)])
    (hsp : ∀ H : Hp, Only H → SqL K H a (ns.map V.int) → sp [.ref a] H (fun v _ => v = .bl true) fun _ _ _ => False)
    (hCX : ∀ H e s', CX [] H s₁ (fun _ _ _ => False) e s' → False) :
    codeAny (model P w) callerA (.call (.ref fa) ⟨[.ref a], []⟩) (fun r s' => r = .ok (.ret (.bool true)) ∧ OldK s₁.heap s'.heap ∧ s'.os = s₁.os ∧ AllBare s'.gens) s₁ := by
  have rv := vals_ints hi
  have lenV := hi.length
  -- from an abstract heap in which nothing but the script may be tracked
  have core : ∀ H : Hp, Only H → SqL K H a (ns.map V.int) → HOk P w H s₁.heap → (∀ b, H b ≠ none → b = a) → (H a ≠ none → K.lookup a = none) →
      codeAny (model P w) callerA (.call (.ref fa) ⟨[.ref a], []⟩) (fun r s' => r = .ok (.ret (.bool true)) ∧ OldK s₁.heap s'.heap ∧ s'.os = s₁.os ∧ AllBare s'.gens) s₁ := by
    intro H hO hS hok hA hK
    have base_of : ∀ {b : Addr} {o : Obj}, s₁.heap.get? b = some o → H b = none → (hidT s₁.heap H).get? b = some o := fun e n => hidT_get e n
    have noA : ∀ {b : Addr} {o : Obj} {es : Array DictEntry} {ep : Nat}, s₁.heap.get? b = some o → o.data = .dict es ep → H b = none := fun {b o es ep} e d => by
      cases q : H b with
      | none => rfl
      | some u =>
        have e' : b = a := hA b (by rw [q]; simp)
        subst e'
        rw [ha] at e; cases e
        have d' : Data.seq vs.toArray _ = Data.dict es ep := d
        cases d'
    have nsK : ∀ {b : Addr} {m : Str → Option Value}, s₁.heap.Ns b m → (hidT s₁.heap H).Ns b m := fun {b m} ⟨o, es, ep, e, d, r⟩ => ⟨o, es, ep, base_of e (noA e d), d, r⟩
    have hKb : K.In (hidT s₁.heap H) := fun b o e => base_of (KX b o e) (by
      cases q : H b with
      | none => rfl
      | some u =>
        have e' : b = a := hA b (by rw [q]; simp)
        subst e'
        rw [hK (by rw [q]; simp)] at e; cases e)
    have hM : Mod K mg (hidT s₁.heap H) := ⟨hKb, nsK hns, ⟨mb, nsK hb, hbb⟩, let ⟨mc, h1, h2⟩ := hlim; ⟨mc, nsK h1, h2⟩⟩
    have e0 : Env0 P w K mg (hidT s₁.heap H) callerA [] s₁ H := ⟨rfl, hM, fun b o e => of_hidT e, Nat.le_of_eq (hidT_size _ _), trivial, fun b hb => absurd (show b ∈ ([] : List Addr) from hb) (by simp), hok, .of_eq hg⟩
    refine codeAny_mono ((F _ hKb (nsK hns)).run callerA [] s₁ H ⟨[.ref a], []⟩ [.ref a] [.ref a] _ _ hr e0 (hbind s₁ (.ref a)) (.cons rfl .nil) (hsp H hO hS)) fun r s' h => ?_
    cases r with
    | error e => exact (hCX H e s' h).elim
    | ok fl =>
      cases fl with
      | next => exact False.elim h
      | brk => exact False.elim h
      | cont => exact False.elim h
      | ret u =>
        obtain ⟨v, H', os, bare, un, hok', r', q⟩ := h
        have q' : v = .bl true := q
        subst q'
        obtain rfl : u = Value.bool true := r'
        refine ⟨rfl, OldK.of_keep fun b o e => ?_, os, bare⟩
        cases q : H b with
        | none => exact un.keep b o e q (by intro z; exact absurd (show b ∈ ([] : List Addr) from z) (by simp)) (by simp)
        | some u =>
          rcases hO b with z | ⟨ob, xs, z⟩
          · rw [q] at z; cases z
          · have z2 := un.frzs b ob _ z
            obtain ⟨e1, _⟩ := hok b _ z
            obtain ⟨e2, _⟩ := hok' b _ z2
            rw [e] at e1; cases e1
            exact e2
  cases hk : K.lookup a with
  | some o =>
    -- the script is one of the module's own objects
    have e := KX a o hk
    rw [ha] at e
    cases e
    refine core (fun _ => none) (fun _ => .inl rfl) (.inr ⟨_, vs.toArray, _, hk, rfl, rfl, rfl, by rw [List.size_toArray, lenV]; exact hl, by simpa using rv⟩) (fun b u z => by have z' : (none : Option HO) = some u := z; cases z') (fun b z => absurd rfl z) fun z => absurd rfl z
  | none =>
    refine core (fun b => if b = a then some (.frz { cls := .type "list", data := .seq vs.toArray } (.lst (ns.map V.int))) else none) (fun b => ?_) (.inl (.inr ⟨{ cls := .type "list", data := .seq vs.toArray }, if_pos rfl⟩)) (fun b u z => ?_) (fun b z => ?_) fun _ => hk
    · by_cases hb : b = a
      · exact .inr ⟨_, _, if_pos hb⟩
      · exact .inl (if_neg hb)
    · by_cases hb : b = a
      · have z' := (if_pos hb).symm.trans z
        cases z'
        subst hb
        exact ⟨ha, by rw [List.length_map]; exact hl, vs, _, rv, ha⟩
      · have z' := (if_neg hb).symm.trans z
        cases z'
    · by_cases hb : b = a
      · exact hb
      · exact absurd (if_neg hb) z
end L2

namespace L2
open PySem PySem.Spec PyProof.Rows

abbrev KOf {K : PySem.W.Frag} {h : Heap} (_ : K.In h) : PySem.W.Frag := K

/-- the goal that k_head leaves (case hc), from the law's promise. F gives the function object fd (K's own) once, then the promise over every base -/
theorem walk_of {l : PySem.W.OpenLaw} {n k : Nat} {q : Program} {loose : List Str} {XP : (Str → Option Value) → Heap → Prop} {YP : World → Heap → Prop} {d : DefRec} {K : Params → PySem.W.Frag} {CX : World → CXT} {sp : World → Sp} {x : Str}
    (hn : l.most = some n) (hn2 : n ≤ sizeLine) (hdf : d.params.defaults = []) (hr : Room k callerA)
    (hY : ∀ (w : World) (h : Heap), YP w h → (K w.params).In h)
    (F : ∀ (w : World) (mg : Str → Option Value) (fa : Addr) (h : Heap), (K w.params).In h → h.Ns mainGlobals mg → mg d.name = some (.ref fa) →
      ∃ fd : FuncData, (∀ (s : Shared) (u : Value), BindsTo s fd ⟨[u], []⟩ [(x, u)]) ∧
        ∀ base : Heap, (K w.params).In base → base.Ns mainGlobals mg → FnOk l.prog w (K w.params) mg base (CX w) k fa fd [x] (sp w))
    (hsp : ∀ (w : World) (H : Hp) (a : Addr) (ns : List Int), ns.length ≤ n → Only H → SqL (K w.params) H a (ns.map V.int) → sp w [.ref a] H (fun v _ => v = .bl true) fun _ _ _ => False)
    (hCX : ∀ (w : World) (H : Hp) (s : Shared) (e : Value) (s' : Shared), CX w [] H s (fun _ _ _ => False) e s' → False) :
    PySem.W.WalkO q loose XP YP l.row.toRowW d [] (fun f vs => PySem.call f vs) := by
  refine Att.attach_call hn hdf fun w s₀ s₁ mg mb fa o pm cd doc a vs ns G Y ho hd hcd hmg hobj hints hlen hg => ?_
  have KX := hY w _ Y
  obtain ⟨fd, hb, hF⟩ := F w mg fa _ KX G.T.g hmg
  exact law_call KX G.T.g G.T.b G.T.builtins G.T.nolimit hg hobj hints (Nat.le_trans hlen hn2) hr hF hb (fun H hO hS => hsp w H a ns hlen hO hS) fun H e s' => hCX w H s₁ e s'
/-- the same where the promise hangs on the written part alone: (sp := My.sp_law), no hole under a binder -/
theorem walk_ofK {l : PySem.W.OpenLaw} {n k : Nat} {q : Program} {loose : List Str} {XP : (Str → Option Value) → Heap → Prop} {YP : World → Heap → Prop} {d : DefRec} {K : Params → PySem.W.Frag} {CX : CXT} {sp : PySem.W.Frag → Sp} {x : Str}
    (hn : l.most = some n) (hn2 : n ≤ sizeLine) (hdf : d.params.defaults = []) (hr : Room k callerA)
    (hY : ∀ (w : World) (h : Heap), YP w h → (K w.params).In h)
    (F : ∀ (w : World) (mg : Str → Option Value) (fa : Addr) (h : Heap), (K w.params).In h → h.Ns mainGlobals mg → mg d.name = some (.ref fa) →
      ∃ fd : FuncData, (∀ (s : Shared) (u : Value), BindsTo s fd ⟨[u], []⟩ [(x, u)]) ∧
        ∀ base : Heap, (K w.params).In base → base.Ns mainGlobals mg → FnOk l.prog w (K w.params) mg base CX k fa fd [x] (sp (K w.params)))
    (hsp : ∀ (K : PySem.W.Frag) (H : Hp) (a : Addr) (ns : List Int), ns.length ≤ n → Only H → SqL K H a (ns.map V.int) → sp K [.ref a] H (fun v _ => v = .bl true) fun _ _ _ => False)
    (hCX : ∀ (H : Hp) (s : Shared) (e : Value) (s' : Shared), CX [] H s (fun _ _ _ => False) e s' → False) :
    PySem.W.WalkO q loose XP YP l.row.toRowW d [] (fun f vs => PySem.call f vs) :=
  walk_of (K := K) (CX := fun _ => CX) (sp := fun w => sp (K w.params)) hn hn2 hdf hr hY F (fun w H a ns h1 h2 h3 => hsp (K w.params) H a ns h1 h2 h3) fun _ H s e s' => hCX H s e s'
end L2

/- THE LAST THEOREM (shape; LID, My.* are yours):
   My.Adr: a structure of the addresses that your layer names (classes, functions); My.Txt K t: a structure (Prop) of the equations over K;
   My.txt_mk : {K} {implicit addresses ..} (e1 : nsIn K mainGlobals "law" = some (some (.ref f))) (e2 : K.lookup f = some ⟨oc, od, .func (fnOf "law" "law" params body scope dV kV doc pm an cdv ct), sl⟩) (e3 : codeIn K cdv "law" = true) .. : ∃ t, My.Txt K t

set_option maxRecDepth 100000 in
set_option maxHeartbeats 0 in
theorem PySem.Challenge.cw_LID_holds : PySem.Challenge.rw_LID.Holds := by
  w_on; o_law; k_head; (case hw => w_witness2)
  k_fill
  refine L2.walk_of (l := PySem.Challenge.rw_LID) (n := 63) (k := 40) (x := "script") (CX := fun w => ..) (sp := fun _ => My.sp_law) rfl (by decide) rfl ⟨rfl, by decide, by decide⟩ (fun w h Y => PySem.W.kIn_of Y) ?F ?S ?C
  case F =>
    intro w mg fa h KX G hmg
    have T : ∃ t, My.Txt (L2.KOf KX) t := by
      dsimp only [L2.KOf]                          -- K must stand as «<heap const> w.params» for k_is
      refine' My.txt_mk ?e1 ?e2 ?e3 ..
      (case e1 => PySem.W.k_is)                    -- in the order: a name -> its address -> its object -> its parts
      (case e2 => PySem.W.k_is)
      ..
    obtain ⟨t, T⟩ := T
    have e0 := hmg.symm.trans (PySem.W.mg_of KX G T.law)
    cases e0                                       -- fa is the law's own address
    exact ⟨_, fun s u => .of_eq rfl, fun base kb nb => My.law_fn T kb nb⟩     -- if «.of_eq rfl» comes too early: refine' ⟨_, ?b, fun base kb nb => My.law_fn T kb nb⟩; exact fun s u => .of_eq rfl
  case S => exact fun w H a ns hl hO hS => ..
  case C => exact ..
(the tactic k_is has no namespace: write k_is) -/

/-! SHORT WORDS over the layer: a def of the text, its body, what a loop and a test want. -/
namespace L2
open PySem PySem.Spec PyProof.Rows

/-! ### the text by places -/
/-- the j-th statement of a class's body -/
def inClass (s : Stmt) (j : Nat) : Stmt := match s with
  | .ClassDef _ _ _ body _ _ _ _ _ _ _ => body.getD j (.Pass ⟨0, 0, 0, 0⟩)
  | _ => .Pass ⟨0, 0, 0, 0⟩
def defArgs (s : Stmt) : Arguments := match s with
  | .FunctionDef _ a _ _ _ _ _ _ _ _ => a
  | _ => { posonlyargs := [], args := [], vararg := none, kwonlyargs := [], kw_defaults := [], kwarg := none, defaults := [] }
def defBody (s : Stmt) : List Stmt := match s with
  | .FunctionDef _ _ b _ _ _ _ _ _ _ => b
  | _ => []
def defScope (s : Stmt) : Scope := match s with
  | .FunctionDef _ _ _ _ _ _ sc _ _ _ => sc
  | _ => { kind := .function, names := [], isGenerator := false, isCoroutine := false }

/-! ### no exception leaves a def -/
abbrev CX0 : CXT := fun _ _ _ _ _ _ => False
abbrev E0 : XK := fun _ _ _ => False
theorem pass0 {X : Cx} : Passes CX0 X E0 := fun _ _ _ _ _ _ _ h => h.elim

/-! ### a def (or method) of the text as it stands behind the top -/
structure Fun (K : PySem.W.Frag) (x qual : Str) (st : Stmt) (f : Addr) (fd : FuncData) : Prop where
  ex : ∃ (oc : Value) (od : Option Addr) (kV doc pm : Value) (an : Option Addr) (cdv ct : Value) (osl : Array (Option Value)),
    fd = PySem.W.fnOf x qual (defArgs st) (defBody st) (defScope st) .none kV doc pm an cdv ct ∧ K.lookup f = some ⟨oc, od, .func fd, osl⟩ ∧ PySem.W.codeIn K cdv qual = true
  kp : PySem.W.keepIn K (.ref f) = true
section
variable {P : Program} {w : World} {K : PySem.W.Frag} {mg : Str → Option Value} {base : Heap}
/-- THE RULE for a def: its body as a term of rules, and the reading of that term -/
theorem Fun.ok {x qual : Str} {st : Stmt} {f : Addr} {fd : FuncData} {N ps : List Str} {k : Nat} {sp : Sp} (F : Fun K x qual st f fd) (S : FnScope N ps (defScope st)) (len : ∀ vs H Q E, sp vs H Q E → vs.length = ps.length)
    (hbody : ∀ (cdv : Value) (A : Around) (outer : List Env) (s : Shared) (H : Hp) (vs : List V) (Q : VK) (E : XK), Room k (A.deeper (envOfC qual (defScope st) s.heap.objs.size f cdv)) → sp vs H Q E →
      ∃ t, PSs (cxOf CX0 P w K mg base N qual (defScope st) f cdv A outer s H E).nox (defBody st) t ∧ t { nx := fun _ H' => Q .non H', rt := Q } (start N vs) H) : FnOk P w K mg base CX0 (k + 1) f fd ps sp := by
  obtain ⟨oc, od, kV, doc, pm, an, cdv, ct, osl, rfl, lk, hcd⟩ := F.ex
  refine fn_of lk hcd S len fun A outer s H vs Q E hr hsp => ?_
  obtain ⟨t, h, q⟩ := hbody cdv A outer s H vs Q E hr hsp
  exact ⟨t, h.nox, q⟩
/-- how its arguments bind (no defaults): h is «fun _ _ _ _ _ _ us hl => match us, hl with | [_, _], _ => rfl», one _ a parameter -/
theorem Fun.binds {x qual : Str} {st : Stmt} {f : Addr} {fd : FuncData} {ps : List Str} (F : Fun K x qual st f fd)
    (h : ∀ (kV doc pm : Value) (an : Option Addr) (cdv ct : Value) (us : List Value), us.length = ps.length → bindArgs (PySem.W.fnOf x qual (defArgs st) (defBody st) (defScope st) .none kV doc pm an cdv ct) ⟨us, []⟩ = pure (ps.zip us)) : Binds K fd ps [] := by
  obtain ⟨oc, od, kV, doc, pm, an, cdv, ct, osl, rfl, lk, hcd⟩ := F.ex
  exact .all (h kV doc pm an cdv ct)
theorem fun_mk {x qual : Str} {st : Stmt} {f : Addr} {oc : Value} {od an : Option Addr} {osl : Array (Option Value)} {kV doc pm cdv ct : Value} (l : K.lookup f = some ⟨oc, od, .func (PySem.W.fnOf x qual (defArgs st) (defBody st) (defScope st) .none kV doc pm an cdv ct), osl⟩)
    (c : PySem.W.codeIn K cdv qual = true) (k : PySem.W.keepIn K (.ref f) = true) : Fun K x qual st f (PySem.W.fnOf x qual (defArgs st) (defBody st) (defScope st) .none kV doc pm an cdv ct) := ⟨⟨oc, od, kV, doc, pm, an, cdv, ct, osl, rfl, l, c⟩, k⟩
end
theorem hu_of {A : Around} {k : Nat} (hr : Room k A) : A.units + 1 < cLine := Nat.lt_of_le_of_lt (Nat.add_le_add_left (by decide : 1 ≤ 64) _) hr.units
theorem small1000 {n : Nat} (h : n ≤ 1000) : n < sizeLine := Nat.lt_of_le_of_lt h (by decide)

/-! ### expressions in short: the name that stands in the i-th slot -/
section
variable {X : Cx}
theorem pv (i : Nat) {x : Str} {pos : Pos} (hN : X.N[i]? = some x := by rfl) (hv : Vis X.env.scope x := by first | exact Or.inl rfl | exact Or.inr (Or.inl rfl) | exact Or.inr (Or.inr rfl)) (hd : (x == ("__debug__" : Str)) = false := by decide)
    (hcd : (x == ("__classdict__" : Str)) = false := by decide) : PE X (.Name x pos) (tVar i) := pe_var hN hv hd hcd
end

/-! ### tests -/
theorem iteF {A B : Prop} (h : B) : if false = true then A else B := by
  rw [if_neg Bool.false_ne_true]
  exact h
theorem iteT {A B : Prop} (h : A) : if true = true then A else B := by
  rw [if_pos rfl]
  exact h
theorem ite2 {c A B : Prop} [Decidable c] (h1 : c → A) (h2 : ¬ c → B) : if c then A else B := by
  by_cases h : c
  · rw [if_pos h]
    exact h1 h
  · rw [if_neg h]
    exact h2 h
theorem iteNS {c A B : Prop} [Decidable c] (hc : c) (h : B) : if (!decide c) = true then A else B := by
  rw [decide_eq_true hc]
  exact iteF h

/-! ### heaps -/
/-- all that was tracked is as it was -/
def Same (H H' : Hp) : Prop := ∀ b o, H b = some o → H' b = some o
theorem Same.refl (H : Hp) : Same H H := fun _ _ h => h
theorem Same.trans {H H1 H2 : Hp} (a : Same H H1) (b : Same H1 H2) : Same H H2 := fun c o h => b c o (a c o h)
theorem Same.free {H H' : Hp} (e : Same H H') {l : Addr} (h : H' l = Option.none) : H l = Option.none := by
  cases q : H l with
  | none => rfl
  | some o =>
    rw [e l o q] at h
    cases h
theorem Same.seq {K : PySem.W.Frag} {H H' : Hp} {a : Addr} {xs : List V} (e : Same H H') (h : SqL K H a xs) : SqL K H' a xs := by
  rcases h with (h | ⟨o, h⟩) | h
  · exact .inl (.inl (e _ _ h))
  · exact .inl (.inr ⟨o, e _ _ h⟩)
  · exact .inr h

end L2

set_option Elab.async false
set_option linter.all false
set_option maxRecDepth 100000
set_option maxHeartbeats 4000000
/-! Own rules over the layer: great numbers, isinstance -/
namespace Gz
open PySem PySem.Spec PyProof.Rows L2
/-! ### great numbers -/
def Bd (n : Nat) (x : Int) : Prop := x.natAbs < 2 ^ n
theorem Bd.of {n : Nat} {x : Int} (h1 : -((2 ^ n : Nat) : Int) < x) (h2 : x < ((2 ^ n : Nat) : Int)) : Bd n x := by
  unfold Bd; omega
theorem Bd.up {n m : Nat} {x : Int} (h : Bd n x) (hm : n ≤ m) : Bd m x := Nat.lt_of_lt_of_le h (Nat.pow_le_pow_right (by decide) hm)
theorem Bd.bits {n : Nat} {x : Int} (h : Bd n x) : Builtin.Int.intBits x ≤ n := by
  unfold Builtin.Int.intBits
  by_cases e : x = 0
  · subst e; simp
  · have e0 : ¬ ((x == 0) = true) := by simpa using e
    rw [if_neg e0]
    have hn : x.natAbs ≠ 0 := by omega
    have := (Nat.log2_lt hn).mpr h
    omega
theorem Bd.mul {n m : Nat} {x y : Int} (h : Bd n x) (h' : Bd m y) : Bd (n + m) (x * y) := by
  unfold Bd at *
  rw [Int.natAbs_mul, Nat.pow_add]
  by_cases e : y.natAbs = 0
  · rw [e, Nat.mul_zero]
    exact Nat.mul_pos (Nat.two_pow_pos _) (Nat.two_pow_pos _)
  · exact Nat.lt_of_lt_of_le ((Nat.mul_lt_mul_right (by omega)).mpr h) (Nat.mul_le_mul_left _ (Nat.le_of_lt h'))
theorem Bd.add {n m k : Nat} {x y : Int} (h : Bd n x) (h' : Bd m y) (h1 : n < k) (h2 : m < k) : Bd k (x + y) := by
  have a := Bd.up h (m := k - 1) (by omega)
  have b := Bd.up h' (m := k - 1) (by omega)
  unfold Bd at *
  have e : 2 ^ k = 2 ^ (k - 1) + 2 ^ (k - 1) := by
    obtain ⟨j, rfl⟩ : ∃ j, k = j + 1 := ⟨k - 1, by omega⟩
    rw [Nat.pow_succ]; simp; omega
  omega
theorem Bd.neg {n : Nat} {x : Int} (h : Bd n x) : Bd n (-x) := by unfold Bd at *; omega
theorem Bd.sub {n m k : Nat} {x y : Int} (h : Bd n x) (h' : Bd m y) (h1 : n < k) (h2 : m < k) : Bd k (x - y) := by
  rw [Int.sub_eq_add_neg]; exact h.add h'.neg h1 h2
theorem Bd.log {n : Nat} {x : Int} (h : Bd n x) (hn : n ≤ 9000) (h0 : 0 < n) : x.natAbs.log2 < 9000 := by
  by_cases e : x.natAbs = 0
  · rw [e]; decide
  · have := (Nat.log2_lt e).mpr h
    omega
/-- what may be multiplied -/
def MulB (i j : Int) : Prop := Bd 4000 i ∧ Bd 4000 j
theorem MulB.ok {i j : Int} (h : MulB i j) : IntMulOk i j :=
  IntMulOk.of_bits (Nat.le_trans h.1.bits (by decide)) (Nat.le_trans h.2.bits (by decide))
section
variable {X : Cx}
theorem op_mulB : OpR X (binaryOp .Mult) (rI MulB fun i j => .int (i * j)) := opI fun _ _ _ _ _ _ _ hc q => mul_int q hc.ok
theorem op_fdivB : OpR X (binaryOp .FloorDiv) (rI (fun _ j => 0 < j ∧ Bd 4000 j) fun i j => .int (i / j)) := opI fun i j _ _ _ _ _ hc q => by
  have h1 : (0 : Int) < j := hc.1
  exact floordiv_int (by omega) (by rw [Int.fdiv_eq_ediv_of_nonneg i (by omega)]; exact q) (.inl (PyProof.noPylong_of_log2 (hc.2.log (by decide) (by decide))))
theorem op_fdivS : OpR X (binaryOp .FloorDiv) (rI (fun _ j => j ≠ 0 ∧ Bd 4000 j) fun i j => .int (i.fdiv j)) := opI fun i j _ _ _ _ _ hc q => by
  exact floordiv_int hc.1 q (.inl (PyProof.noPylong_of_log2 (hc.2.log (by decide) (by decide))))
/-! ### isinstance -/
def clsVal : V → Value
  | .ref a => .ref a
  | .ty n => .type n
  | _ => .none
theorem call_isi : CallR X (.builtin "isinstance") (fun xs H Q => ∃ x c t b, xs = [x, c] ∧ TyOf X.K H x t ∧ clsVal c ≠ .none ∧ PySem.W.kitOne X.K t (clsVal c) = some b ∧ Q (.bl b) H) := by
  intro pins s σ H xs us Q I r h
  obtain ⟨x, c, t, b, rfl, ty, hc, e, q⟩ := h
  obtain ⟨u, v, rfl, rx, rc⟩ := vals2 r
  have ev : v = clsVal c := by
    cases c with
    | ref a => exact rc
    | ty n => exact rc
    | non => exact absurd rfl hc
    | bl _ => exact absurd rfl hc
    | int _ => exact absurd rfl hc
    | str _ => exact absurd rfl hc
    | byt _ => exact absurd rfl hc
    | flt _ => exact absurd rfl hc
  subst ev
  exact isinst_ok I rx ty e fun tk => ⟨.bl b, H, I.tok tk, rfl, q⟩
end
theorem kit_same {K : PySem.W.Frag} {t : Value} : PySem.W.kitOne K t t = some true := by
  unfold PySem.W.kitOne
  rw [if_pos (by simp)]
theorem kit_ty {K : PySem.W.Frag} {a c : String} {b : Bool} (h : PySem.W.kitMeta c = true) (h2 : (PySem.fastBuiltinMro a).map (·.contains (.type c)) = some b) (h3 : (a == c) = false) : PySem.W.kitOne K (.type a) (.type c) = some b := by
  unfold PySem.W.kitOne
  have e : ¬ ((Value.type a == Value.type c) = true) := by
    simp only [beq_iff_eq, Value.type.injEq]
    simpa using h3
  rw [if_neg e]
  show (if PySem.W.kitMeta c = true then PySem.W.subIn K (.type a) (.type c) else none) = some b
  rw [if_pos h]
  exact h2
theorem kit_int_bool {K : PySem.W.Frag} : PySem.W.kitOne K (.type "int") (.type "bool") = some false := kit_ty (by decide +kernel) (by decide +kernel) (by decide)
theorem kit_bool_int {K : PySem.W.Frag} : PySem.W.kitOne K (.type "bool") (.type "int") = some true := kit_ty (by decide +kernel) (by decide +kernel) (by decide)
theorem kit_none_int {K : PySem.W.Frag} : PySem.W.kitOne K (.type "NoneType") (.type "int") = some false := kit_ty (by decide +kernel) (by decide +kernel) (by decide)
theorem kit_none_tuple {K : PySem.W.Frag} : PySem.W.kitOne K (.type "NoneType") (.type "tuple") = some false := kit_ty (by decide +kernel) (by decide +kernel) (by decide)
theorem b_len : bootBuiltins "len" = some (.builtin "len") := by decide +kernel
theorem b_abs : bootBuiltins "abs" = some (.builtin "abs") := by decide +kernel
theorem b_min : bootBuiltins "min" = some (.builtin "min") := by decide +kernel
theorem b_max : bootBuiltins "max" = some (.builtin "max") := by decide +kernel
theorem b_isinstance : bootBuiltins "isinstance" = some (.builtin "isinstance") := by decide +kernel
theorem b_sorted : bootBuiltins "sorted" = some (.builtin "sorted") := by decide +kernel
theorem b_any : bootBuiltins "any" = some (.builtin "any") := by decide +kernel
theorem b_all : bootBuiltins "all" = some (.builtin "all") := by decide +kernel
theorem b_sum : bootBuiltins "sum" = some (.builtin "sum") := by decide +kernel
theorem b_int : bootBuiltins "int" = some (.type "int") := by decide +kernel
theorem b_bool : bootBuiltins "bool" = some (.type "bool") := by decide +kernel
theorem b_str : bootBuiltins "str" = some (.type "str") := by decide +kernel
theorem b_list : bootBuiltins "list" = some (.type "list") := by decide +kernel
theorem b_tuple : bootBuiltins "tuple" = some (.type "tuple") := by decide +kernel
theorem b_dict : bootBuiltins "dict" = some (.type "dict") := by decide +kernel
theorem b_range : bootBuiltins "range" = some (.type "range") := by decide +kernel
theorem b_enumerate : bootBuiltins "enumerate" = some (.type "enumerate") := by decide +kernel
theorem b_zip : bootBuiltins "zip" = some (.type "zip") := by decide +kernel
theorem b_reversed : bootBuiltins "reversed" = some (.type "reversed") := by decide +kernel

/-- isinstance of what stands without the heap -/
def isiS : V → V → Option Bool
  | .int _, .ty n => if n = "int" then some true else if n = "bool" then some false else none
  | .bl _, .ty n => if n = "int" then some true else if n = "bool" then some true else none
  | .non, .ty n => if n = "int" then some false else if n = "tuple" then some false else none
  | _, _ => none
def rIsi (K : PySem.W.Frag) (x c : V) (H : Hp) (Q : VK) : Prop := match isiS x c with
  | some b => Q (.bl b) H
  | none => ∃ t b, TyOf K H x t ∧ clsVal c ≠ .none ∧ PySem.W.kitOne K t (clsVal c) = some b ∧ Q (.bl b) H
section
variable {X : Cx}
theorem call_isiA : CallR X (.builtin "isinstance") (fun xs H Q => ∃ x c, xs = [x, c] ∧ rIsi X.K x c H Q) := by
  intro pins s σ H xs us Q I r h
  obtain ⟨x, c, rfl, h⟩ := h
  refine call_isi pins s σ H _ us Q I r ?_
  cases e : isiS x c with
  | none =>
    unfold rIsi at h
    rw [e] at h
    obtain ⟨t, b, h1, h2, h3, h4⟩ := h
    exact ⟨x, c, t, b, rfl, h1, h2, h3, h4⟩
  | some b =>
    unfold rIsi at h
    rw [e] at h
    unfold isiS at e
    split at e
    · rename_i i n
      split at e
      · rename_i z; subst z; cases e
        exact ⟨_, _, _, _, rfl, TyOf.int i, (fun z => nomatch z), kit_same, h⟩
      · split at e
        · rename_i z; subst z; cases e
          exact ⟨_, _, _, _, rfl, TyOf.int i, (fun z => nomatch z), kit_int_bool, h⟩
        · cases e
    · rename_i i n
      split at e
      · rename_i z; subst z; cases e
        exact ⟨_, _, _, _, rfl, TyOf.bl i, (fun z => nomatch z), kit_bool_int, h⟩
      · split at e
        · rename_i z; subst z; cases e
          exact ⟨_, _, _, _, rfl, TyOf.bl i, (fun z => nomatch z), kit_same, h⟩
        · cases e
    · rename_i n
      split at e
      · rename_i z; subst z; cases e
        exact ⟨_, _, _, _, rfl, TyOf.non, (fun z => nomatch z), kit_none_int, h⟩
      · split at e
        · rename_i z; subst z; cases e
          exact ⟨_, _, _, _, rfl, TyOf.non, (fun z => nomatch z), kit_none_tuple, h⟩
        · cases e
    · cases e
end
section
variable {K : PySem.W.Frag} {H : Hp} {Q : VK} {i : Int} {b : Bool} {p : Addr} {xs : List V}
theorem isi_ii : rIsi K (.int i) (.ty "int") H Q = Q (.bl true) H := rfl
theorem isi_ib : rIsi K (.int i) (.ty "bool") H Q = Q (.bl false) H := rfl
theorem isi_bi : rIsi K (.bl b) (.ty "int") H Q = Q (.bl true) H := rfl
theorem isi_bb : rIsi K (.bl b) (.ty "bool") H Q = Q (.bl true) H := rfl
theorem isi_ni : rIsi K .non (.ty "int") H Q = Q (.bl false) H := rfl
theorem isi_nt : rIsi K .non (.ty "tuple") H Q = Q (.bl false) H := rfl
theorem isi_tup (h : H p = some (.tup xs)) (q : Q (.bl true) H) : rIsi K (.ref p) (.ty "tuple") H Q := ⟨_, _, TyOf.tup h, (fun z => nomatch z), kit_same, q⟩
theorem isi_lst (h : H p = some (.lst xs)) (q : Q (.bl true) H) : rIsi K (.ref p) (.ty "list") H Q := ⟨_, _, TyOf.lst h, (fun z => nomatch z), kit_same, q⟩
end
theorem b_ValueError : bootBuiltins "ValueError" = some (.type "ValueError") := by decide +kernel
end Gz

set_option Elab.async false
set_option linter.all false
set_option maxRecDepth 100000
set_option maxHeartbeats 4000000
/-! How an exception lies behind a call -/
namespace Gz
open PySem PySem.Spec PyProof.Rows L2
/-- an exception flies: its class, the heap behind it; B: all that stays while it flies -/
def CXX (P : Program) (w : World) : CXT := fun outer H s E e s' =>
  ∃ (x : Addr) (cls a0 : Value) (H' : Hp) (B : Heap), e = .ref x ∧ s'.os = s.os ∧ AllBare s'.gens ∧ Un (frs outer) [] H H' s.heap s'.heap ∧
    (∀ b o, s.heap.get? b = some o → H b = none → b ∉ frs outer → B.get? b = some o) ∧ (∀ b o, s.heap.get? b = some o → b ∉ frs outer → ∃ o', B.get? b = some o') ∧ HOk P w H' B ∧ H' x = none ∧ s.heap.get? x = none ∧
    Heap.FlyingW B outer x cls a0 s'.heap ∧ E cls none H'
theorem passE0 {P : Program} {w : World} {X : Cx} : Passes (CXX P w) X E0 := fun _ _ _ _ _ _ _ ⟨_, _, _, _, _, _, _, _, _, _, _, _, _, _, _, h⟩ => h.elim
theorem noCXX {P : Program} {w : World} {outer : List Env} {H : Hp} {s s' : Shared} {e : Value} (h : CXX P w outer H s (fun _ _ _ => False) e s') : False := by
  obtain ⟨_, _, _, _, _, _, _, _, _, _, _, _, _, _, _, h⟩ := h
  exact h
section
variable {P : Program} {w : World} {K : PySem.W.Frag} {mg : Str → Option Value} {base : Heap}
/-- a def from which no exception leaves -/
theorem okN {x qual : Str} {st : Stmt} {f : Addr} {fd : FuncData} {N ps : List Str} {k : Nat} {sp : Sp} (F : Fun K x qual st f fd) (S : FnScope N ps (defScope st)) (len : ∀ vs H Q E, sp vs H Q E → vs.length = ps.length)
    (hbody : ∀ (cdv : Value) (A : Around) (outer : List Env) (s : Shared) (H : Hp) (vs : List V) (Q : VK) (E : XK), Room k (A.deeper (envOfC qual (defScope st) s.heap.objs.size f cdv)) → sp vs H Q E →
      ∃ t, PSs (cxOf (CXX P w) P w K mg base N qual (defScope st) f cdv A outer s H E).nox (defBody st) t ∧ t { nx := fun _ H' => Q .non H', rt := Q } (start N vs) H) : FnOk P w K mg base (CXX P w) (k + 1) f fd ps sp := by
  obtain ⟨oc, od, kV, doc, pm, an, cdv, ct, osl, rfl, lk, hcd⟩ := F.ex
  refine fn_of lk hcd S len fun A outer s H vs Q E hr hsp => ?_
  obtain ⟨t, h, q⟩ := hbody cdv A outer s H vs Q E hr hsp
  exact ⟨t, h.nox, q⟩
end
/-! ### small words for readings -/
theorem scal_ii (a b : Int) : scal (.int a) (.int b) = true := rfl
theorem scal_bb (a b : Bool) : scal (.bl a) (.bl b) = true := rfl
theorem scal_in (a : Int) : scal (.int a) .non = true := rfl
theorem scal_ni (a : Int) : scal .non (.int a) = true := rfl
theorem scal_nn : scal .non .non = true := rfl
theorem ite_tt {A B : Prop} : (if true = true then A else B) = A := if_pos rfl
theorem ite_ff {A B : Prop} : (if false = true then A else B) = B := if_neg Bool.false_ne_true
end Gz
namespace Gz
open PySem PySem.Spec PyProof.Rows L2
theorem cxK {CX : CXT} {P : Program} {w : World} {K : PySem.W.Frag} {mg : Str → Option Value} {base : Heap} {N : List Str} {qual : Str} {scope : Scope} {f : Addr} {cd : Value} {A : Around} {outer : List Env} {s : Shared} {H : Hp} {E : XK} :
    (cxOf CX P w K mg base N qual scope f cd A outer s H E).K = K := rfl
theorem cxN {CX : CXT} {P : Program} {w : World} {K : PySem.W.Frag} {mg : Str → Option Value} {base : Heap} {N : List Str} {qual : Str} {scope : Scope} {f : Addr} {cd : Value} {A : Around} {outer : List Env} {s : Shared} {H : Hp} {E : XK} :
    (cxOf CX P w K mg base N qual scope f cd A outer s H E).N = N := rfl
section
variable {K : PySem.W.Frag} {H H' : Hp} {a p : Addr} {xs ys : List V} {i : Int} {v : V} {Q : VK}
theorem same_tup (e : Same H H') (h : SqT K H a xs) : SqT K H' a xs := by
  rcases h with (h | ⟨o, h⟩) | h
  · exact .inl (.inl (e _ _ h))
  · exact .inl (.inr ⟨o, e _ _ h⟩)
  · exact .inr h
theorem same_upd {o : HO} (h : H p = none) : Same H (upd H p o) := fun b u e => by rw [upd_ne (ne_of_none e h)]; exact e
theorem ixT (h : SqT K H p xs) (e : atI xs i = some v) (q : Q v H) : rIx K (.ref p) (.int i) H Q := .inr (.inl ⟨p, xs, i, v, rfl, rfl, h, e, q⟩)
theorem ixL (h : SqL K H p xs) (e : atI xs i = some v) (q : Q v H) : rIx K (.ref p) (.int i) H Q := .inl ⟨p, xs, i, v, rfl, rfl, h, e, q⟩
theorem lenL (h : SqL K H p xs) : LenV K (.ref p) H xs.length := .inl ⟨xs, h, rfl⟩
theorem lenT (h : SqT K H p xs) : LenV K (.ref p) H xs.length := .inr ⟨xs, h, rfl⟩
end
/-- the class that isinstance(x, int) and the like ask of a value without the heap -/
def isWhole : V → Bool
  | .int _ => true
  | _ => false
end Gz
namespace Gz
open PySem PySem.Spec PyProof.Rows L2
/-! ### loops, opened as far as their invariant -/
/-- a loop over what J yields: it runs on from here -/
def FJ (J : It) (g : TG) (tb : TS) (D : Ends) (σ : L2.St) (H : Hp) : Prop := ∃ W : Nat → Nat → L2.St → Hp → Prop, (∃ m, W 0 m σ H) ∧ ∀ i m σ H, W i m σ H →
      (J.stop i H ∧ D.nx σ H) ∨ (J.go i H ∧ ∃ N : L2.St → Hp → Prop, (∀ σ' H', N σ' H' → ∃ m', m' < m ∧ W (i + 1) m' σ' H') ∧ ∀ x H', J.yld i H x H' → g x σ H' fun σ2 H2 => tb { D with nx := N, ct := N, bk := D.nx } σ2 H2)
section
variable {K : PySem.W.Frag} {g : TG} {tb : TS} {D : Ends} {σ : L2.St} {H : Hp} {a : Addr} {xs : List V} {lo : Int} {n : Nat}
theorem for_rng1 {ta : TA} : tFor (iRng1 ta) g tb D σ H = ta σ H (fun vs H1 => ∃ j : Int, vs = [.int j] ∧ -(2 ^ 62) ≤ j ∧ j < 2 ^ 62 ∧ FJ (Itr 0 j.toNat) g tb D σ H1) := rfl
theorem for_lst {tl : TE} : tFor (iList K tl) g tb D σ H = tl σ H (fun x H1 => ∃ a, x = .ref a ∧ (∃ xs, SqL K H1 a xs) ∧ FJ (Itl K a) g tb D σ H1) := rfl
theorem for_tpl {tl : TE} : tFor (iTup K tl) g tb D σ H = tl σ H (fun x H1 => ∃ a, x = .ref a ∧ (∃ xs, SqT K H1 a xs) ∧ FJ (Itt K a) g tb D σ H1) := rfl
theorem by_range (Pv : Nat → L2.St → Hp → Prop) (h0 : Pv 0 σ H)
    (hs : ∀ i σ H, i < n → Pv i σ H → g (.int (lo + i)) σ H fun σ2 H2 => tb { D with nx := Pv (i + 1), ct := Pv (i + 1), bk := D.nx } σ2 H2) (hd : ∀ σ H, Pv n σ H → D.nx σ H) : FJ (Itr lo n) g tb D σ H := for_range Pv h0 hs hd
theorem by_list (Pv : Nat → L2.St → Hp → Prop) (h0 : Pv 0 σ H) (hl : ∀ i σ H, i ≤ xs.length → Pv i σ H → SqL K H a xs)
    (hs : ∀ i x σ H, xs[i]? = some x → Pv i σ H → g x σ H fun σ2 H2 => tb { D with nx := Pv (i + 1), ct := Pv (i + 1), bk := D.nx } σ2 H2) (hd : ∀ σ H, Pv xs.length σ H → D.nx σ H) : FJ (Itl K a) g tb D σ H := for_list Pv h0 hl hs hd
theorem by_tup (Pv : Nat → L2.St → Hp → Prop) (h0 : Pv 0 σ H) (hl : ∀ i σ H, i ≤ xs.length → Pv i σ H → SqT K H a xs)
    (hs : ∀ i x σ H, xs[i]? = some x → Pv i σ H → g x σ H fun σ2 H2 => tb { D with nx := Pv (i + 1), ct := Pv (i + 1), bk := D.nx } σ2 H2) (hd : ∀ σ H, Pv xs.length σ H → D.nx σ H) : FJ (Itt K a) g tb D σ H := for_tup Pv h0 hl hs hd
end
theorem line2 : (2 : Nat) ≤ sizeLine := by decide
theorem bd200 {x : Int} (h : x.natAbs < 2 ^ 200) : Bd 4000 x := Bd.up (n := 200) h (by decide)
theorem mul200 {x y : Int} (h : x.natAbs < 2 ^ 200) (h' : y.natAbs < 2 ^ 200) : MulB x y := ⟨bd200 h, bd200 h'⟩
end Gz
namespace Gz
open PySem PySem.Spec PyProof.Rows L2
section
variable {X : Cx}
theorem op_isS : OpR X (compareOp .Is) (fun x y H Q => ∃ a b, x = .bl a ∧ y = .bl b ∧ Q (.bl (a == b)) H) := by
  intro pins s σ H x y v u Q I rx ry h
  obtain ⟨a, b, rfl, rfl, q⟩ := h
  cases rx; cases ry
  exact is_bool ⟨.bl _, H, I, rfl, q⟩
theorem op_isnotS : OpR X (compareOp .IsNot) (fun x y H Q => ∃ a b, x = .bl a ∧ y = .bl b ∧ Q (.bl (a != b)) H) := by
  intro pins s σ H x y v u Q I rx ry h
  obtain ⟨a, b, rfl, rfl, q⟩ := h
  cases rx; cases ry
  exact isnot_bool ⟨.bl _, H, I, rfl, q⟩
end
section
variable {K : PySem.W.Frag} {H H1 : Hp} {l p : Addr} {xs ys : List V} {o : HO}
theorem same_put (hl : H l = none) (s : Same H H1) : Same H (upd H1 l o) := fun b u e => by
  rw [upd_ne (ne_of_none e hl)]; exact s b u e
theorem tup_put (h : SqT K H1 p xs) (hl : H1 l = some (.lst ys)) : SqT K (upd H1 l o) p xs := by
  rcases h with (h | ⟨z, h⟩) | h
  · exact .inl (.inl (by rw [upd_ne (ne_of h hl (fun e => nomatch e))]; exact h))
  · exact .inl (.inr ⟨z, by rw [upd_ne (ne_of h hl (fun e => nomatch e))]; exact h⟩)
  · exact .inr h
/-- v is a pair of the two numbers -/
def IsP (K : PySem.W.Frag) (H : Hp) (v : V) (a b : Int) : Prop := ∃ p, v = .ref p ∧ SqT K H p [.int a, .int b]
theorem IsP.same {v : V} {a b : Int} (h : IsP K H v a b) (s : Same H H1) : IsP K H1 v a b := by
  obtain ⟨p, e, h⟩ := h
  exact ⟨p, e, same_tup s h⟩
theorem IsP.put {v : V} {a b : Int} (h : IsP K H1 v a b) (hl : H1 l = some (.lst ys)) : IsP K (upd H1 l o) v a b := by
  obtain ⟨p, e, h⟩ := h
  exact ⟨p, e, tup_put h hl⟩
end
end Gz

set_option Elab.async false
set_option linter.all false
set_option maxRecDepth 100000
set_option maxHeartbeats 4000000
/-! isinstance of an exception of an own class -/
namespace Gz
open PySem PySem.W PySem.Spec PySem.Calls PyProof.Rows Builtin Builtin.ObjectAttr Builtin.Getset_descriptor
section
variable {prog : Program} {w : World} {A : Around} {E : Value → Shared → Prop} {s : Shared} {K : Frag} {x C : Addr} {oe : Obj} {R : Result → Shared → Prop}
theorem class_getX {tp : Value} (X : K.In s.heap) (he : s.heap.get? x = some oe) (hc : oe.cls = .ref C) (hm : mroIn K C (.type "object") = some true)
    (h : R (.ok (.ret (.ref C))) s) : codeAny (model prog w) A (.call (.builtin "getset_descriptor.__get__") ⟨[.builtin "object.__class__", .ref x, tp], []⟩) R s := by
  obtain ⟨hh, g, dr, t, os⟩ := s
  have L0 : Looks (model prog w) hh (typeOf (.ref x)) (.ref C) := hc ▸ (Looks.ld he).andThen .now
  have L1 := looks_mroIn (M := model prog w) X hm
  refine codeAny_call_builtin KF.slot_gs.plain KF.entry_gs (KF.slot_gs.check _ _ _ _ _ _ _ _ KF.type_class (KF.args_gs _ _ _) ?_)
  unfold Builtin.«getset_descriptor.__get__» descrGet
  rw [dga_obj]
  refine wpAny_bind (wpAny_pure ?_)
  unfold descrGetter descrCheckInstance descrNameAndClass isInstance
  simp only [KF.owner_class]
  repeat lk
  refine ⟨Code.quiet_builtin _ (by decide +kernel), codeAny_builtin KF.entry_class ?_⟩
  unfold Builtin.«object.__class__» shownTypeOf
  repeat lk
  exact h
theorem entryX {tk : Tok} {Q : Fin → Shared → Prop} (X : K.In s.heap) (he : s.heap.get? x = some oe) (hc : oe.cls = .ref C) (hm : mroIn K C (.type "object") = some true)
    (g3 : findIn K (.ref C) "__class__" = some (some (.builtin "object.__class__"))) (h : Q (.done (.ret (.ref C))) s) :
    wpAny (model prog w) A (Builtin.«object.__getattribute__» ⟨[.ref x, .str "__class__" tk], []⟩) Q E s := by
  obtain ⟨hh, g, dr, t, os⟩ := s
  have L0 : Looks (model prog w) hh (typeOf (.ref x)) (.ref C) := hc ▸ (Looks.ld he).andThen .now
  have L1 := looks_findIn (M := model prog w) X g3
  have f5 := KF.type_class
  have f6 := F.slot_gs_get.lookup
  have f7 := F.slot_gs_set.lookup
  repeat (any_goals (first | assumption | (with_reducible refine L0.at ?_) | (with_reducible refine L1.at ?_) | wp_step))
  refine class_getX X he hc hm ?_
  repeat (any_goals (first | assumption | wp_step))
theorem checkX {nameV : Value} {Q : Unit → Shared → Prop} (X : K.In s.heap) (he : s.heap.get? x = some oe) (hc : oe.cls = .ref C) (hb : mroIn K C (.type "BaseException") = some true) (h : Q () s) :
    wpAny (model prog w) A (checkBuiltinCall "BaseException.__getattribute__" ⟨[.ref x, nameV], []⟩) Q E s := by
  obtain ⟨hh, g, dr, t, os⟩ := s
  have hk : builtinKind "BaseException.__getattribute__" = some .slot := by decide +kernel
  have hsplit : splitId "BaseException.__getattribute__" = some ("BaseException", "__getattribute__") := by decide +kernel
  have ha := F.args_bexc_ga (.ref x) nameV
  have L0 : Looks (model prog w) hh (typeOf (.ref x)) (.ref C) := hc ▸ (Looks.ld he).andThen .now
  have L1 := looks_mroIn (M := model prog w) X hb
  simp only [checkBuiltinCall, hk, hsplit]
  refine wpAny_bind ?_
  unfold isInstance
  repeat (first | (with_reducible refine L0.at ?_) | (with_reducible refine L1.at ?_) | wp_step)
  exact h
theorem exc_class {Q : Option Value → Shared → Prop} (X : K.In s.heap) (he : s.heap.get? x = some oe) (hc : oe.cls = .ref C) (hm : mroIn K C (.type "object") = some true) (hb : mroIn K C (.type "BaseException") = some true)
    (g1 : findIn K (.ref C) "__getattribute__" = some (some (.builtin "BaseException.__getattribute__"))) (g2 : findIn K (.ref C) "__getattr__" = some none)
    (g3 : findIn K (.ref C) "__class__" = some (some (.builtin "object.__class__"))) (h : Q (some (.ref C)) { s with toks := s.toks + 1 }) :
    wpAny (model prog w) A (getAttr? (.ref x) "__class__") Q E s := by
  obtain ⟨hh, g, dr, t, os⟩ := s
  have L0 : Looks (model prog w) hh (typeOf (.ref x)) (.ref C) := hc ▸ (Looks.ld he).andThen .now
  have L1 := looks_findIn (M := model prog w) X g1
  have L2 := looks_findIn (M := model prog w) X g2
  have f3 := F.excAttr_ValueError.ga.bind (.ref x)
  have hx2 : (Value.builtin "BaseException.__getattribute__" == Value.builtin "object.__getattribute__") = false := by decide +kernel
  have hx1 : (onTheHeap (Value.ref C) && Value.builtin "BaseException.__getattribute__" == Value.builtin "object.__getattribute__") = false := by rw [hx2]; rfl
  unfold getAttr? getAttrBy?
  repeat (any_goals (first | assumption | (with_reducible refine L0.at ?_) | (with_reducible refine L1.at ?_) | (with_reducible refine L2.at ?_) | wp_step))
  refine codeAny_call_builtin F.excAttr_ValueError.ga.plain F.entry_bexc_ga (checkX X he hc hb (entryX X he hc hm g3 ?_))
  repeat (any_goals (first | assumption | wp_step))
end
/-- the class at C is an error class of the text's own, under ValueError -/
structure XC (K : Frag) (C : Addr) : Prop where
  ex : excIn K C [.type "ValueError", .type "Exception", .type "BaseException", .type "object"] "ValueError.__new__" = true
  mo : mroIn K C (.type "object") = some true
  mb : mroIn K C (.type "BaseException") = some true
  ga : findIn K (.ref C) "__getattribute__" = some (some (.builtin "BaseException.__getattribute__"))
  gr : findIn K (.ref C) "__getattr__" = some none
  gc : findIn K (.ref C) "__class__" = some (some (.builtin "object.__class__"))
theorem XC.cls {K : Frag} {C : Addr} (x : XC K C) : ∃ c d cd sl, K.lookup C = some ⟨c, d, .cls cd, sl⟩ := by
  have q := x.ex
  unfold excIn at q
  split at q
  · rename_i dd cd sl ho
    exact ⟨_, _, _, _, ho⟩
  · cases q
theorem kitx_exc {K : Frag} {x C : Addr} (c : XC K C) : KitX K (.ref x) (.ref C) (fun h => ∃ oe : Obj, h.get? x = some oe ∧ oe.cls = .ref C) where
  ty := fun _ _ _ ⟨oe, he, hc⟩ => hc ▸ (Looks.ld he).andThen .now
  it := fun _ _ X _ => by
    obtain ⟨a, b, cd, sl, ho⟩ := c.cls
    intro A' Q' E' s' k q
    unfold isType loadHead
    exact wpAny_bind (wpAny_loadPart (k _ _ (X _ _ ho)) (wpAny_pure q))
  ne := fun h tp dd its n sl X htp => by
    obtain ⟨a, b, cd, sl, ho⟩ := c.cls
    refine Bool.eq_false_iff.mpr fun q => ?_
    have e : C = tp := Value.ref.inj (beq_iff_eq.mp q)
    subst e
    have z := (X _ _ ho).symm.trans htp
    cases z
  ca := fun X ⟨oe, he, hc⟩ k => exc_class X he hc c.mo c.mb c.ga c.gr c.gc k
theorem exc_obj {K : Frag} {h : Heap} {C : Addr} (X : K.In h) (c : XC K C) :
    ∃ bm N nm q bs hdct sn sub ab col dd k0 k1 k2 k3 k5 mN, h.get? C = some (excClassObj nm q C N bs bm hdct sn sub ab col dd k0 k1 k2 k3 k5 "ValueError.__new__") ∧ h.Ns N mN ∧ mN "__init__" = none ∧
      OwnTail h [.type "ValueError", .type "Exception", .type "BaseException", .type "object"] bm := by
  have q := c.ex
  unfold excIn at q
  split at q
  · rename_i dd cd sl ho
    split at q
    · rename_i C' bm k0 k1 k2 k3 n k5 hm hs
      simp only [Bool.and_eq_true, beq_iff_eq, Bool.not_eq_true'] at q
      obtain ⟨⟨⟨⟨⟨rfl, rfl⟩, hdel⟩, ht⟩, hok⟩, hni⟩ := q
      obtain ⟨nm, bs, mro, ns, qn, hd, sn, sub, ab, col, del⟩ := cd
      dsimp only at hm hdel hok hni
      subst hm hdel
      have hsl : sl = #[k0, k1, k2, k3, some (.builtin "ValueError.__new__"), k5] := by
        obtain ⟨l⟩ := sl
        simp only at hs
        rw [hs]
      subst hsl
      exact ⟨bm, ns, nm, qn, bs, hd, sn, sub, ab, col, dd, k0, k1, k2, k3, k5, _, X _ _ ho, .of_isNs (isNs_of_in X hok), nsMap_none_of_in X hok hni, tail_of_in X ht⟩
    · cases q
  · cases q
end Gz
namespace Gz
open PySem PySem.Spec PyProof.Rows L2
/-- an exception of the class at C, as an object of the abstract heap -/
def excO (a C : Addr) : HO := .ext fun h => ∃ oe : Obj, h.get? a = some oe ∧ oe.cls = .ref C
theorem excO_ok {P : Program} {w : World} {H : Hp} {h : Heap} {a C : Addr} {oe : Obj} (he : h.get? a = some oe) (hc : oe.cls = .ref C) : ObjOk P w H h a (excO a C) :=
  ⟨⟨oe, he, hc⟩, ⟨oe, he⟩, fun h1 h2 ⟨o, e, c⟩ k => ⟨o, k o e, c⟩⟩
section
variable {X : Cx}
def rIsiX (K : PySem.W.Frag) (a : Addr) (c : V) (H : Hp) (Q : VK) : Prop := ∃ C b, H a = some (excO a C) ∧ XC K C ∧ clsVal c ≠ .none ∧ PySem.W.kitOne K (.ref C) (clsVal c) = some b ∧ Q (.bl b) H
theorem call_isiX {K : PySem.W.Frag} (hK : X.K = K) : CallR X (.builtin "isinstance") (fun xs H Q => ∃ a c, xs = [.ref a, c] ∧ rIsiX K a c H Q) := by
  subst hK
  intro pins s σ H xs us Q I r h
  obtain ⟨a, c, rfl, C, b, ha, xc, hc, e, q⟩ := h
  obtain ⟨u, v, rfl, rx, rc⟩ := vals2 r
  have ev : v = clsVal c := by
    cases c with
    | ref a => exact rc
    | ty n => exact rc
    | non => exact absurd rfl hc
    | bl _ => exact absurd rfl hc
    | int _ => exact absurd rfl hc
    | str _ => exact absurd rfl hc
    | byt _ => exact absurd rfl hc
    | flt _ => exact absurd rfl hc
  subst ev
  cases (show u = Value.ref a from rx)
  obtain ⟨hp, _, _⟩ := (show ObjOk X.prog X.w H s.heap a (excO a C) from I.hok a _ ha)
  exact PySem.W.kia_one (kitx_exc xc) I.kIn hp e (fun z => nomatch z) fun tk => ⟨.bl b, H, I.tok tk, rfl, q⟩
end
theorem isiX {K : PySem.W.Frag} {a C : Addr} {c : V} {H : Hp} {Q : VK} {b : Bool} (h : H a = some (excO a C)) (xc : XC K C) (hc : clsVal c ≠ .none) (e : PySem.W.kitOne K (.ref C) (clsVal c) = some b) (q : Q (.bl b) H) : rIsiX K a c H Q := ⟨C, b, h, xc, hc, e, q⟩
end Gz

set_option Elab.async false
set_option linter.all false
set_option maxRecDepth 100000
set_option maxHeartbeats 4000000
/-! raise, the way up, and except -/
namespace Gz
open PySem PySem.Spec PyProof.Rows L2
theorem ObjOk.some {P : Program} {w : World} {H : Hp} {h : Heap} {a : Addr} {o : HO} (x : ObjOk P w H h a o) : ∃ ob, h.get? a = some ob := by
  cases o with
  | lst xs => obtain ⟨_, _, _, _, e⟩ := x; exact ⟨_, e⟩
  | tup xs => obtain ⟨_, _, _, o, e, _⟩ := x; exact ⟨_, e⟩
  | dK kvs => obtain ⟨_, _, _, _, o, _, _, e, _⟩ := x; exact ⟨_, e⟩
  | dT kvs => obtain ⟨_, _, _, _, o, _, _, e, _⟩ := x; exact ⟨_, e⟩
  | set S n => obtain ⟨o, _, _, _, e, _⟩ := x; exact ⟨_, e⟩
  | ins C dx fs => obtain ⟨_, _, _, e, _⟩ := x; exact ⟨_, e⟩
  | own y => exact x
  | xd fs => obtain ⟨_, ⟨_, _, _, e, _⟩, _⟩ := x; exact ⟨_, e⟩
  | rng lo hi => obtain ⟨_, _, _, e⟩ := x; exact ⟨_, e⟩
  | frz ob u => obtain ⟨e, _⟩ := x; exact ⟨_, e⟩
  | tbl ps => exact ⟨_, x⟩
  | met f y => exact ⟨_, x⟩
  | ext φ => exact x.2.1
/-! ### raise -/
def RaiseTo (X : Cx) (E : XK) : Prop := ∀ (pins : List (Addr × Obj)) (σ : L2.St) (H : Hp) (s : Shared) (e C : Addr) (vs : List Value) (h' : Heap), Inv X pins σ H s → Heap.MadeExcOf s.heap h' e (.ref C) vs → E (.ref C) none H → X.xe (.ref e) { s with heap := h' }
def tRaise (C : Addr) (E : XK) (ta : TA) : TS := fun D σ H => ta σ H fun vs H1 => vs.length ≤ sizeLine ∧ E (.ref C) none H1
section
variable {X : Cx}
theorem ps_raise {x : Str} {np cpos pos : Pos} {e₀ : Expr} {rest : List Expr} {ta : TA} {C : Addr} {E : XK} (hx : RaiseTo X E) (hg : Gl X x) (hm : X.mg x = some (.ref C)) (xc : XC X.K C) (hc : X.calm = true) (ha : PA X (e₀ :: rest) ta)
    (hd : (x == ("__debug__" : Str)) = false := by decide) (he : starEach (e₀ :: rest) X.env = (false, eval e₀ X.env) :: starEach rest X.env := by rfl)
    (hpl : (backTo cpos (starEach rest X.env)).any (·.1) = false := by rfl) :
    PS X (.Raise (some (.Call (.Name x np) (e₀ :: rest) [] cpos)) none pos) (tRaise C E ta) := by
  intro pins s σ H D I h
  obtain ⟨tl, N, nm, q, bs, hdct, sn, sub, ab, col, dd, k0, k1, k2, k3, k5, mN, hC, hN, hni, T⟩ := exc_obj I.ok.mod.kin xc
  refine wpAny_Raise_call_subU (C := C) (nm := nm) (q := q) (N := N) (bs := bs) (bm := tl) (hdct := hdct) (sn := sn) (sub := sub) (ab := ab) (col := col) (dd := dd) (k0 := k0) (k1 := k1) (k2 := k2) (k3 := k3) (k5 := k5)
    PySem.F.excBase_ValueError (by decide +kernel) PySem.F.excBase_ValueError (mN := mN) (T.hasType PySem.F.excBase_ValueError.hasBase) (I.ok.hd hc) (by rw [he]; show (false || (backTo cpos (starEach rest X.env)).any (·.1)) = false; rw [hpl]; rfl) hni (ld_glob I hg hm ⟨rfl, ?_⟩ hd)
  have ha' := ha cpos pins s σ H _ I h
  rw [he] at ha' ⊢
  refine Calls.evalArgs_plain (wpAny_mono ha' (fun us s₂ h₂ => ?_) fun _ _ y => y)
  obtain ⟨vs, H1, I1, r, hl, hE⟩ := h₂
  exact ⟨rfl, by rw [← r.length]; exact hl, I1.bk _ _ hC, hN.keeps I1.bk, T.keeps I1.bk, fun h' e hm => hx pins σ H1 s₂ e C us h' I1 hm hE⟩
end
section
variable {P : Program} {w : World} {K : PySem.W.Frag} {mg : Str → Option Value} {base : Heap} {N : List Str} {qual : Str} {scope : Scope} {f : Addr} {cd : Value} {A : Around} {outer : List Env} {s : Shared} {H : Hp} {E : XK}
theorem frs_mem {env : Env} {b L : Addr} (hf : env.frame = some L) (h : b ∈ frs (env :: outer)) : b = L ∨ b ∈ frs outer := by
  unfold frs at h
  rw [List.filterMap_cons, hf] at h
  exact List.mem_cons.mp h
theorem raise_up : RaiseTo (cxOf (CXX P w) P w K mg base N qual scope f cd A outer s H E) E := by
  intro pins σ H1 s1 e C vs h1 I hx hE
  have hfr : (cxOf (CXX P w) P w K mg base N qual scope f cd A outer s H E).A.frames = some (envOfC qual scope s.heap.objs.size f cd :: outer) := I.ok.frames
  have hF : s1.heap.FunFrames base (envOfC qual scope s.heap.objs.size f cd :: outer) := I.stack
  have hin : ∀ env ∈ (envOfC qual scope s.heap.objs.size f cd :: outer), ∀ b, env.frame = some b → b ∈ frs (envOfC qual scope s.heap.objs.size f cd :: outer) := fun env he b hb => List.mem_filterMap.mpr ⟨env, he, hb⟩
  have fr0 : ∀ b ∈ frs (envOfC qual scope s.heap.objs.size f cd :: outer), H1 b = none := I.stkFree
  have neL : ∀ b o, s.heap.get? b = some o → b ≠ s.heap.objs.size := fun b o e => Nat.ne_of_lt (Heap.lt_size e)
  have nofr : ∀ b o, s.heap.get? b = some o → b ∉ frs outer → b ∉ frs (envOfC qual scope s.heap.objs.size f cd :: outer) := fun b o e hb z => by
    rcases frs_mem rfl z with z | z
    · exact neL b o e z
    · exact hb z
  have ub : Un (frs outer) [] H H1 s.heap s1.heap := I.base
  refine wpAny_leaves_madeW (base := PySem.W.hideAll s1.heap (frs (envOfC qual scope s.heap.objs.size f cd :: outer))) hfr rfl (fun b o q => PySem.W.of_hideAll _ q) (PySem.W.funFrames_hide hF hin) hx fun h' t fl tup bt up => ?_
  have stays := fl.1
  have inB : ∀ b o, s1.heap.get? b = some o → b ∉ frs (envOfC qual scope s.heap.objs.size f cd :: outer) → (PySem.W.hideAll s1.heap (frs (envOfC qual scope s.heap.objs.size f cd :: outer))).get? b = some o := fun b o q hb => PySem.W.hideAll_get _ q hb
  have frUp : ∀ b ∈ frs (envOfC qual scope s.heap.objs.size f cd :: outer), ∀ o, s1.heap.get? b = some o → ∃ sl, h'.get? b = some { o with slots := sl } := fun b hb o q => by
    obtain ⟨_, o', ho', hnf⟩ := hF.mem hb
    rw [q] at ho'; cases ho'
    exact up b o (hx.keeps b o q) hnf
  refine ⟨e, .ref C, .ref t, H1, _, rfl, I.os, I.bare, ⟨fun b o q n hb hx' => ?_, fun b o q n hb hx' => ?_, ub.free, fun b o q hx' => ?_, ub.tups, ub.frzs, ub.tbls⟩, fun b o q n hb => ?_, fun b o q hb => ?_, fun a o q => ?_, ?_, ?_, fl, hE⟩
  · exact stays b o (inB b o (ub.keep b o q n hb hx') (nofr b o q hb))
  · obtain ⟨sl, e1⟩ := ub.slot b o q n hb hx'
    obtain ⟨sl', e2⟩ := frUp b (by unfold frs; rw [List.filterMap_cons]; exact List.mem_cons_of_mem _ hb) _ e1
    exact ⟨sl', e2⟩
  · obtain ⟨o', e1⟩ := ub.there b o q hx'
    by_cases hb : b ∈ frs (envOfC qual scope s.heap.objs.size f cd :: outer)
    · obtain ⟨sl, e2⟩ := frUp b hb o' e1
      exact ⟨_, e2⟩
    · exact ⟨o', stays b o' (inB b o' e1 hb)⟩
  · exact inB b o (ub.keep b o q n hb (by simp)) (nofr b o q hb)
  · obtain ⟨o', e1⟩ := ub.there b o q (by simp)
    exact ⟨o', inB b o' e1 (nofr b o q hb)⟩
  · refine (I.hok a o q).stay (fun b u hb z => inB b u z fun hm => ?_) (fun _ z => z) fun _ _ z => z
    have := fr0 b hm
    rcases hb with hb | hb
    · rw [hb, q] at this; cases this
    · rw [hb] at this; cases this
  · cases q : H1 e with
    | none => rfl
    | some u =>
      obtain ⟨ob, z⟩ := ObjOk.some (I.hok e u q)
      rw [hx.new] at z; cases z
  · cases q : s.heap.get? e with
    | none => rfl
    | some u =>
      obtain ⟨o', z⟩ := ub.there e u q (by simp)
      rw [hx.new] at z; cases z
theorem pass_up : Passes (CXX P w) (cxOf (CXX P w) P w K mg base N qual scope f cd A outer s H E) E := by
  intro pins σ H1 s1 ev s2 I cx
  obtain ⟨x, cls, a0, H', B, rfl, os, bare, un, kb, tb, hok, hx, hn, fl, hE⟩ := cx
  have hfr : (cxOf (CXX P w) P w K mg base N qual scope f cd A outer s H E).A.frames = some (envOfC qual scope s.heap.objs.size f cd :: outer) := I.ok.frames
  have hF : s1.heap.FunFrames base (envOfC qual scope s.heap.objs.size f cd :: outer) := I.stack
  have neL : ∀ b o, s.heap.get? b = some o → b ≠ s.heap.objs.size := fun b o e => Nat.ne_of_lt (Heap.lt_size e)
  have nofr : ∀ b o, s.heap.get? b = some o → b ∉ frs outer → b ∉ frs (envOfC qual scope s.heap.objs.size f cd :: outer) := fun b o e hb z => by
    rcases frs_mem rfl z with z | z
    · exact neL b o e z
    · exact hb z
  have infr : ∀ b, b ∈ frs outer → b ∈ frs (envOfC qual scope s.heap.objs.size f cd :: outer) := fun b hb => by
    unfold frs; rw [List.filterMap_cons]; exact List.mem_cons_of_mem _ hb
  have ub : Un (frs outer) [] H H1 s.heap s1.heap := I.base
  have un' : Un (frs (envOfC qual scope s.heap.objs.size f cd :: outer)) [] H1 H' s1.heap s2.heap := un
  have kb' : ∀ b o, s1.heap.get? b = some o → H1 b = none → b ∉ frs (envOfC qual scope s.heap.objs.size f cd :: outer) → B.get? b = some o := kb
  have tb' : ∀ b o, s1.heap.get? b = some o → b ∉ frs (envOfC qual scope s.heap.objs.size f cd :: outer) → ∃ o', B.get? b = some o' := tb
  have frfree : ∀ b ∈ frs (envOfC qual scope s.heap.objs.size f cd :: outer), H1 b = none := I.stkFree
  refine wpAny_leaves_onW hfr rfl fl fun h' fl' up => ?_
  have stays := fl'.1
  have frUp : ∀ b ∈ frs (envOfC qual scope s.heap.objs.size f cd :: outer), ∀ o, s1.heap.get? b = some o → ∃ sl, h'.get? b = some { o with slots := sl } := fun b hb o q => by
    obtain ⟨_, o', ho', hnf⟩ := hF.mem hb
    rw [q] at ho'; cases ho'
    obtain ⟨sl, e1⟩ := un'.slot b o q (frfree b hb) hb (by simp)
    obtain ⟨sl', e2⟩ := up b _ e1 hnf
    exact ⟨sl', e2⟩
  refine ⟨x, cls, a0, H', B, rfl, os.trans I.os, bare, ⟨fun b o q n hb hx' => ?_, fun b o q n hb hx' => ?_, fun b o q n hx' => ?_, fun b o q hx' => ?_, fun b xs q => un.tups _ _ (ub.tups _ _ q), fun b o u q => un.frzs _ _ _ (ub.frzs _ _ _ q), fun b ps q => ?_⟩, fun b o q n hb => ?_, fun b o q hb => ?_, hok, hx, ?_, fl', hE⟩
  · exact stays b o (kb' b o (ub.keep b o q n hb hx') (ub.free b o q n hx') (nofr b o q hb))
  · obtain ⟨sl, e1⟩ := ub.slot b o q n hb hx'
    obtain ⟨sl', e2⟩ := frUp b (infr b hb) _ e1
    exact ⟨sl', e2⟩
  · obtain ⟨o', e1⟩ := ub.there b o q hx'
    exact un'.free b o' e1 (ub.free b o q n hx') (by simp)
  · obtain ⟨o', e1⟩ := ub.there b o q hx'
    by_cases hb : b ∈ frs (envOfC qual scope s.heap.objs.size f cd :: outer)
    · obtain ⟨sl, e2⟩ := frUp b hb o' e1
      exact ⟨_, e2⟩
    · obtain ⟨o2, e2⟩ := tb' b o' e1 hb
      exact ⟨o2, stays b o2 e2⟩
  · obtain ⟨m1, e1⟩ := ub.tbls b ps q
    obtain ⟨m2, e2⟩ := un.tbls b _ e1
    exact ⟨m1 ++ m2, by rw [e2, Array.append_assoc]⟩
  · exact kb' b o (ub.keep b o q n hb (by simp)) (ub.free b o q n (by simp)) (nofr b o q hb)
  · obtain ⟨o', e1⟩ := ub.there b o q (by simp)
    exact tb' b o' e1 (nofr b o q hb)
  · cases q : s.heap.get? x with
    | none => rfl
    | some u =>
      obtain ⟨o', z⟩ := ub.there x u q (by simp)
      rw [hn] at z; cases z
/-- a def from which an exception may leave -/
theorem okX {x qual : Str} {st : Stmt} {f : Addr} {fd : FuncData} {N ps : List Str} {k : Nat} {sp : Sp} (F : Fun K x qual st f fd) (S : FnScope N ps (defScope st)) (len : ∀ vs H Q E, sp vs H Q E → vs.length = ps.length)
    (hbody : ∀ (cdv : Value) (A : Around) (outer : List Env) (s : Shared) (H : Hp) (vs : List V) (Q : VK) (E : XK), Room k (A.deeper (envOfC qual (defScope st) s.heap.objs.size f cdv)) → sp vs H Q E →
      ∃ t, PSs (cxOf (CXX P w) P w K mg base N qual (defScope st) f cdv A outer s H E) (defBody st) t ∧ t { nx := fun _ H' => Q .non H', rt := Q } (start N vs) H) : FnOk P w K mg base (CXX P w) (k + 1) f fd ps sp := by
  obtain ⟨oc, od, kV, doc, pm, an, cdv, ct, osl, rfl, lk, hcd⟩ := F.ex
  refine fn_of lk hcd S len fun A outer s H vs Q E hr hsp => ?_
  exact hbody cdv A outer s H vs Q E hr hsp
end
end Gz
namespace Gz
open PySem PySem.Spec PyProof.Rows L2
/-! ### except -/
/-- the same code, another wish about exceptions, other pins -/
abbrev Xp (X : Cx) (F : Value → Shared → Prop) (pn : List (Addr × Obj)) : Cx := { X with xe := F, pn := pn }
/-- within an except suite: no exception leaves it -/
abbrev Xh (X : Cx) (A' : Around) (pn : List (Addr × Obj)) : Cx := { X with A := A', calm := false, xe := fun _ _ => False, pn := pn }
def tTry (K : PySem.W.Frag) (m i : Nat) (G : Addr) (tb th : TS) (E' : XK) : TS := fun D σ H => tb D σ H ∧ ∀ cls H', E' cls none H' → ∃ C, cls = .ref C ∧ PySem.W.exmOne K (.ref C) (.ref G) = some true ∧
  ∀ a, H' a = none → th { nx := fun σ' H2 => D.nx (σ'.set i none) H2, rt := D.rt, bk := fun σ' H2 => D.bk (σ'.set i none) H2, ct := fun σ' H2 => D.ct (σ'.set i none) H2 } ((List.replicate m none).set i (some (.ref a))) (upd H' a (excO a C))
section
variable {X : Cx} {F : Value → Shared → Prop} {pins pn : List (Addr × Obj)} {σ : L2.St} {H : Hp} {s : Shared} {A' : Around}
theorem okP (ok : X.Ok) : (Xp X F pn).Ok := ⟨ok.mod, ok.kind, ok.glob, ok.blt, ok.above, ok.inj, ok.has, ok.cab, ok.hd, ok.frames, ok.stk, ok.exf, ok.bs, ok.bsz, ok.noex, ok.exfs, ok.funs, ok.frf⟩
theorem okP' (ok : (Xp X F pn).Ok) : X.Ok := ⟨ok.mod, ok.kind, ok.glob, ok.blt, ok.above, ok.inj, ok.has, ok.cab, ok.hd, ok.frames, ok.stk, ok.exf, ok.bs, ok.bsz, ok.noex, ok.exfs, ok.funs, ok.frf⟩
theorem okH (ok : X.Ok) (hA : A'.frames = X.A.frames) : (Xh X A' pn).Ok := ⟨ok.mod, ok.kind, ok.glob, ok.blt, ok.above, ok.inj, ok.has, ok.cab, (fun z => nomatch z), hA.trans ok.frames, ok.stk, ok.exf, ok.bs, ok.bsz, ok.noex, ok.exfs, ok.funs, ok.frf⟩
theorem invP (I : Inv X pins σ H s) : Inv (Xp X F (X.pn ++ pins)) [] σ H s := ⟨okP I.ok, I.os, I.bare, I.base, I.loc, I.cell, I.free, I.freeC, fun p hp => I.pin p (by simpa using hp), I.hok, I.len⟩
theorem invP' (I : Inv (Xp X F (X.pn ++ pins)) [] σ H s) : Inv X pins σ H s := ⟨okP' I.ok, I.os, I.bare, I.base, I.loc, I.cell, I.free, I.freeC, fun p hp => I.pin p (by simpa using hp), I.hok, I.len⟩
theorem invH {pins' : List (Addr × Obj)} (I : Inv (Xp X F pn) pins' σ H s) (hA : A'.frames = X.A.frames) : Inv (Xh X A' pn) [] σ H s :=
  ⟨okH (okP' I.ok) hA, I.os, I.bare, I.base, I.loc, I.cell, I.free, I.freeC, fun p hp => I.pin p (by simp at hp; exact List.mem_append_left _ hp), I.hok, I.len⟩
theorem SP.unP {D : Ends} {f : Flow} {s' : Shared} (h : SP (Xp X F (X.pn ++ pins)) [] D f s') : SP X pins D f s' := by
  cases f with
  | next => obtain ⟨σ', H', I, q⟩ := h; exact ⟨σ', H', invP' I, q⟩
  | brk => obtain ⟨σ', H', I, q⟩ := h; exact ⟨σ', H', invP' I, q⟩
  | cont => obtain ⟨σ', H', I, q⟩ := h; exact ⟨σ', H', invP' I, q⟩
  | ret u => obtain ⟨v, σ', H', I, r, q⟩ := h; exact ⟨v, σ', H', invP' I, r, q⟩
/-- the name of the exception goes behind the suite -/
theorem nameGoes {M : Model} {A : Around} {E : Value → Shared → Prop} {n : Str} {i : Nat} {hpos : Pos} {Q : Unit → Shared → Prop} (okX : X.Ok) (I : Inv (Xh X A' (X.pn ++ pins)) [] σ H s) (hN : X.N.Nodup) (hi : X.N[i]? = some n) (hl : X.env.scope.names.lookup n = some .local)
    (h : ∀ s', Inv X pins (σ.set i none) H s' → Q () s') : wpAny M A (do bindName X.env n .none; unbindBehindTheSuite X.env n hpos) Q E s := by
  obtain ⟨m, hn, hlk⟩ := id I.loc
  have hcls : (X.env.scope.kind == .class || (X.env.scope.kind == .module && X.env.locals != X.env.globals)) = false := by rw [I.ok.kind]; rfl
  have cne : ∀ x c, X.env.cells.lookup x = some c → c ≠ X.env.locals := I.cne
  have fre : H X.env.locals = none := I.free
  obtain ⟨oL, _, _, hoL, _⟩ := id hn
  refine wpAny_nameGoes_keeps hl hn hcls fun h' v hn' hs => ?_
  have tracked : HOk X.prog X.w H h' := fun b ob e => by
    refine (I.hok b ob e).stay (fun c w' hc q => (hs.2 c ?_).trans q) (fun _ q => q) fun _ _ q => q
    rintro rfl
    rcases hc with hc | hc
    · rw [← hc, fre] at e; cases e
    · rw [fre] at hc; cases hc
  have hab : X.s₀.heap.objs.size ≤ X.env.locals := okX.above
  refine h _ ⟨okX, I.os, I.bare, ⟨fun b o e nn hb hx => ?_, fun b o e nn hb hx => ?_, I.base.free, fun b o e hx => ?_, I.base.tups, I.base.frzs, I.base.tbls⟩, ⟨_, hn', fun j y v' e1 e2 e3 => ?_⟩, fun y c e => ?_, I.free, I.freeC, fun p hp => ?_, tracked, by simpa using I.len⟩
  · exact (hs.2 b (Nat.ne_of_lt (Nat.lt_of_lt_of_le (Heap.lt_size e) hab))).trans (I.base.keep b o e nn hb hx)
  · obtain ⟨sl, e1⟩ := I.base.slot b o e nn hb hx
    exact ⟨sl, (hs.2 b (Nat.ne_of_lt (Nat.lt_of_lt_of_le (Heap.lt_size e) hab))).trans e1⟩
  · obtain ⟨o', e1⟩ := I.base.there b o e hx
    exact ⟨o', (hs.2 b (Nat.ne_of_lt (Nat.lt_of_lt_of_le (Heap.lt_size e) hab))).trans e1⟩
  · have hji : j ≠ i := by
      rintro rfl
      by_cases hlt : j < σ.length
      · rw [List.getElem?_set_self hlt] at e2; cases e2
      · rw [List.getElem?_eq_none (by rw [List.length_set]; omega)] at e2; cases e2
    rw [List.getElem?_set_ne (Ne.symm hji)] at e2
    obtain ⟨u', r', q⟩ := hlk j y v' e1 e2 e3
    refine ⟨u', r', ?_⟩
    rcases q with ⟨k, e⟩ | ⟨k, c, e, z⟩
    · refine .inl ⟨k, ?_⟩
      have : y ≠ n := fun e => hji (nodup_ix hN e1 (e ▸ hi))
      simp [this, e]
    · exact .inr ⟨k, c, e, z.sameBut hs (cne y c e)⟩
  · obtain ⟨w', z⟩ := I.cell y c e
    exact ⟨w', z.sameBut hs (cne y c e)⟩
  · obtain ⟨e, nn, ne, nf, d⟩ := I.pin p (by simpa using hp)
    exact ⟨(hs.2 p.1 ne).trans e, nn, ne, nf, d⟩
theorem ps_try {body suite : List Stmt} {b₀ : Stmt} {x n : Str} {np hpos pos : Pos} {tb th : TS} {G : Addr} (E' : XK) (i : Nat) (hst : X.stack = X.env :: X.outer) (hfm : X.env.frame = some X.env.locals) (hg : Gl X x) (hm : X.mg x = some (.ref G))
    (hN : X.N.Nodup) (hi : X.N[i]? = some n) (hl : X.env.scope.names.lookup n = some .local)
    (hb : ∀ F pn, Passes (CXX X.prog X.w) (Xp X F pn) E' → PSs (Xp X F pn) body tb) (hh : ∀ A' pn, PSs (Xh X A' pn) (b₀ :: suite) th) (hd : (x == ("__debug__" : Str)) = false := by decide)
    (hf : X.fn n = true ∨ X.env.scope.names.lookup n = some .local := by first | exact .inl rfl | exact .inr rfl | assumption) :
    PS X (.Try body [.ExceptHandler (some (.Name x np)) (some n) (b₀ :: suite) hpos] [] [] pos) (tTry X.K X.N.length i G tb th E') := by
  intro pins s σ H D I h
  obtain ⟨h1, h2⟩ := h
  refine wpAny_Try_except ?_
  refine wpAny_mono (hb (fun e s₁ => wpAny (model X.prog X.w) X.A (noteFrame e X.env) (fun _ s₂ => wpAny (model X.prog X.w) X.A (setFlight e none) (fun _ s₃ => wpAny (model X.prog X.w) X.A (handleBy e X.env [.ExceptHandler (some (.Name x np)) (some n) (b₀ :: suite) hpos]) (SP X pins D) X.xe s₃) X.xe s₂) X.xe s₁) (X.pn ++ pins) ?_ [] s σ H D (invP I) h1) (fun f s1 q => ?_) fun e s1 q => q
  · intro pins' σ' H1 s1 ev s2 I1 cx
    obtain ⟨xx, cls, a0, H', B, rfl, os, bare, un, kb, tb', hok, hx, hn, fl, hE⟩ := cx
    obtain ⟨C, rfl, hmt, hth⟩ := h2 cls H' hE
    have okX := I.ok
    have hfr : X.A.frames = some (X.env :: X.outer) := by rw [← hst]; exact okX.frames
    have fl' : Heap.FlyingW B (X.env :: X.outer) xx (.ref C) a0 s2.heap := by
      have z : Heap.FlyingW B X.stack xx (.ref C) a0 s2.heap := fl
      rw [hst] at z
      exact z
    have hF : s1.heap.FunFrames X.base X.stack := I1.stack
    have frfree : ∀ b ∈ frs X.stack, H1 b = none := I1.stkFree
    -- the state at any heap behind, without and with the exception
    have un5 : ∀ h : Heap, B.StaysIn h → s2.heap.UpToSlots h → Un (frs X.stack) [] H1 H' s1.heap h := fun h stays up => by
      have frUp : ∀ b ∈ frs X.stack, ∀ o, s1.heap.get? b = some o → ∃ sl, h.get? b = some { o with slots := sl } := fun b hb o q => by
        obtain ⟨_, o', ho', hnf⟩ := hF.mem hb
        rw [q] at ho'; cases ho'
        obtain ⟨sl, e1⟩ := un.slot b o q (frfree b hb) hb (by simp)
        obtain ⟨sl', e2⟩ := up b _ e1 hnf
        exact ⟨sl', e2⟩
      refine ⟨fun b o q nn hb hx' => stays b o (kb b o q nn hb), fun b o q nn hb hx' => frUp b hb o q, un.free, fun b o q hx' => ?_, un.tups, un.frzs, un.tbls⟩
      by_cases hb : b ∈ frs X.stack
      · obtain ⟨sl, e2⟩ := frUp b hb o q
        exact ⟨_, e2⟩
      · obtain ⟨o2, e2⟩ := tb' b o q hb
        exact ⟨o2, stays b o2 e2⟩
    refine wpAny_looks_onW hfr hfm fl' fun h₄ hheld₄ hsm₄ => ?_
    refine wpAny_landsW hheld₄ fun h₅ hfl₅ hsm₅ => ?_
    have up5 : s2.heap.UpToSlots h₅ := hsm₄.trans hsm₅
    have I5 : Inv (Xh X (X.A.mark (some (.ref xx))) (X.pn ++ pins)) [] σ' H' { s2 with heap := h₅ } := by
      refine invH (I1.call' (s' := { s2 with heap := h₅ }) (ch := []) os (un5 h₅ hfl₅.1 up5) (hok.kept fun b u q => hfl₅.1 b u q) bare (fun b z => absurd z (by simp))) ?_
      first | rfl | simp
    refine wpAny_handleBy_cons (codeAny_handlers_test ?_) (by intro q; cases q)
    refine ld_glob (X := Xh X (X.A.mark (some (.ref xx))) (X.pn ++ pins)) I5 hg hm ?_ hd
    obtain ⟨ob, hob, hobc⟩ := hfl₅.there
    have LT : PySem.W.Looks (model X.prog X.w) h₅ (typeOf (.ref xx)) (.ref C) := hobc ▸ (PySem.W.Looks.ld hob).andThen .now
    refine (PySem.W.exm_one (M := model X.prog X.w) (h := h₅) I5.kIn LT hmt).here ?_
    refine codeAny_handlers_suite_as ?_
    refine lands_againW hfl₅ fun h₆ fl₆ up₆ => ?_
    have up6 : s2.heap.UpToSlots h₆ := up5.trans up₆
    obtain ⟨oe, hoe, hoec⟩ := fl₆.there
    have u6 := un5 h₆ fl₆.1 up6
    have nex : ∀ b o, s1.heap.get? b = some o → b ≠ xx := fun b o q z => by rw [z, hn] at q; cases q
    have net : ∀ b o, H' b = some o → b ≠ xx := fun b o q z => by rw [z, hx] at q; cases q
    have un6 : Un (frs X.stack) [] H1 (upd H' xx (excO xx C)) s1.heap h₆ := by
      refine ⟨u6.keep, u6.slot, fun b o q nn hx' => ?_, u6.there, fun b xs q => ?_, fun b o u q => ?_, fun b ps q => ?_⟩
      · rw [upd_ne (nex b o q)]; exact u6.free b o q nn hx'
      · have := u6.tups b xs q
        rw [upd_ne (net b _ this)]; exact this
      · have := u6.frzs b o u q
        rw [upd_ne (net b _ this)]; exact this
      · obtain ⟨more, z⟩ := u6.tbls b ps q
        exact ⟨more, by rw [upd_ne (net b _ z)]; exact z⟩
    have hok6 : HOk X.prog X.w (upd H' xx (excO xx C)) h₆ := fun b u q => by
      by_cases hb' : b = xx
      · subst hb'; rw [upd_same] at q; cases q
        exact excO_ok hoe hoec
      · rw [upd_ne hb'] at q
        exact (hok b u q).stay (fun c v _ z => fl₆.1 c v z) (fun c z => by rw [upd_ne (net c _ z)]; exact z) fun c xs z => by rw [upd_ne (net c _ z)]; exact z
    have I6 : Inv (Xh X (X.A.mark (some (.ref xx))) (X.pn ++ pins)) [] σ' (upd H' xx (excO xx C)) { s2 with heap := h₆ } := by
      refine invH (I1.call' (s' := { s2 with heap := h₆ }) (ch := []) os un6 hok6 bare (fun b z => absurd z (by simp))) ?_
      first | rfl | simp
    have I7 : Inv (Xh X (X.A.mark (some (.ref xx))) (X.pn ++ pins)) [] (List.replicate X.N.length none) (upd H' xx (excO xx C)) { s2 with heap := h₆ } :=
      I6.weak (by rw [List.length_replicate, I6.len]) fun j v z => by
        rw [List.getElem?_replicate] at z
        split at z <;> cases z
    refine store_ok (X := Xh X (X.A.mark (some (.ref xx))) (X.pn ++ pins)) (v := .ref xx) I7 hN hi (.inl hl) rfl (fun s8 I8 => ?_) hf
    refine wpAny_mono (hh (X.A.mark (some (.ref xx))) (X.pn ++ pins) [] s8 _ _ _ I8 (hth xx hx)) (fun fl s9 q => ?_) fun _ _ z => z.elim
    cases fl with
    | next =>
      obtain ⟨σ9, H9, I9, q⟩ := q
      exact nameGoes okX I9 hN hi hl fun s' J => ⟨_, _, J, q⟩
    | brk =>
      obtain ⟨σ9, H9, I9, q⟩ := q
      exact nameGoes okX I9 hN hi hl fun s' J => ⟨_, _, J, q⟩
    | cont =>
      obtain ⟨σ9, H9, I9, q⟩ := q
      exact nameGoes okX I9 hN hi hl fun s' J => ⟨_, _, J, q⟩
    | ret u =>
      obtain ⟨v, σ9, H9, I9, r, q⟩ := q
      exact nameGoes okX I9 hN hi hl fun s' J => ⟨v, _, _, J, r, q⟩
  · have q' := SP.unP q
    cases f with
    | next =>
      obtain ⟨σ', H', I', q'⟩ := q'
      exact wpAny_execs_nil ⟨σ', H', I', q'⟩
    | brk => exact q'
    | cont => exact q'
    | ret u => exact q'
end
theorem exm_of {K : PySem.W.Frag} {C G : Addr} {cd : ClassData} {b : Bool} (h1 : PySem.W.clsIn K G = some cd) (h2 : PySem.W.typeIn K (.ref G) = some (.type "type")) (h3 : PySem.W.subIn K (.ref C) (.ref G) = some b) (h4 : PySem.W.subIn K (.ref G) (.type "BaseException") = some true) :
    PySem.W.exmOne K (.ref C) (.ref G) = some b := by
  unfold PySem.W.exmOne
  rw [if_pos (by rw [h4]; rfl)]
  show (if ((PySem.W.clsIn K G).isSome && PySem.W.typeIn K (.ref G) == some (.type "type")) = true then PySem.W.subIn K (.ref C) (.ref G) else none) = some b
  rw [if_pos (by rw [h1, h2]; rfl)]
  exact h3
end Gz

set_option linter.all false
namespace Gz
/-! ### the numbers of the law's cells -/
def cellD (ns : List Int) (k : Int) : Int := ns.getD k.toNat 0
def num (c : Int) : Int := if c % 3 = 0 then c / 3 % 13 - 6 else c / 3 % 1000000000000000000000000000000 * 3315501701285949699224633478459810372516696558535471 % 200000000000000000000000000000000000000000000000001 - 100000000000000000000000000000000000000000000000000
theorem num_in (c : Int) : -100000000000000000000000000000000000000000000000000 ≤ num c ∧ num c ≤ 100000000000000000000000000000000000000000000000000 := by
  unfold num
  split
  · omega
  · generalize c / 3 % 1000000000000000000000000000000 * 3315501701285949699224633478459810372516696558535471 = x
    omega
def iabs (x : Int) : Int := if x < 0 then -x else x
theorem iabs_nn (x : Int) : 0 ≤ iabs x := by unfold iabs; split <;> omega
theorem iabs_eq (x : Int) : iabs x = (x.natAbs : Int) := by unfold iabs; split <;> omega
/-- the greatest divisor, as both loops reckon it -/
def gcdI (a b : Int) : Int := ((Nat.gcd a.natAbs b.natAbs : Nat) : Int)
theorem gcd_step {a b : Int} (ha : 0 ≤ a) (hb : 0 < b) : gcdI b (a % b) = gcdI a b := by
  unfold gcdI
  have e : (a % b).natAbs = a.natAbs % b.natAbs := by
    rw [Int.natAbs_emod_of_nonneg ha]
  rw [e, Nat.gcd_comm b.natAbs, ← Nat.gcd_rec, Nat.gcd_comm]
theorem gcd_zero {a : Int} (ha : 0 ≤ a) : gcdI a 0 = a := by
  unfold gcdI
  rw [Int.natAbs_zero, Nat.gcd_zero_right]
  omega
theorem gcd_abs (a b : Int) : gcdI (iabs a) (iabs b) = gcdI a b := by
  unfold gcdI
  rw [iabs_eq, iabs_eq, Int.natAbs_natCast, Int.natAbs_natCast]
theorem gcd_pos {a b : Int} (h : a ≠ 0 ∨ b ≠ 0) : 0 < gcdI a b := by
  unfold gcdI
  have : 0 < Nat.gcd a.natAbs b.natAbs := by
    rcases h with h | h
    · exact Nat.gcd_pos_of_pos_left _ (by omega)
    · exact Nat.gcd_pos_of_pos_right _ (by omega)
  omega
theorem gcd_le_right {a b : Int} (h : 0 < b) : gcdI a b ≤ b := by
  unfold gcdI
  have := Nat.gcd_le_right a.natAbs (n := b.natAbs) (by omega)
  omega
theorem gcd_dvd_left (a b : Int) : gcdI a b ∣ a := by
  unfold gcdI
  exact Int.ofNat_dvd_left.mpr (Nat.gcd_dvd_left _ _)
theorem gcd_dvd_right (a b : Int) : gcdI a b ∣ b := by
  unfold gcdI
  exact Int.ofNat_dvd_left.mpr (Nat.gcd_dvd_right _ _)
theorem gcd_nn (a b : Int) : 0 ≤ gcdI a b := by unfold gcdI; omega
def bot (c : Int) : Int := if c % 2 = 0 then 1 + c / 2 % 4 else 1 + iabs (num (c / 2))
theorem bot_in (c : Int) : 1 ≤ bot c ∧ bot c ≤ 100000000000000000000000000000000000000000000000001 := by
  unfold bot
  split
  · omega
  · have := num_in (c / 2)
    unfold iabs
    split <;> omega
theorem div_in {x y : Int} (hy : 0 < y) : -(x.natAbs : Int) ≤ x / y ∧ x / y ≤ (x.natAbs : Int) := by
  have := Int.natAbs_ediv_le_natAbs x y
  omega
theorem floor_in (t : Int) {b : Int} (hb : 0 < b) : t / b * b ≤ t ∧ t < (t / b + 1) * b := by
  have h1 := Int.emod_add_mul_ediv t b
  have h2 := Int.emod_nonneg t (show b ≠ 0 by omega)
  have h3 := Int.emod_lt_of_pos t hb
  rw [Int.add_mul, Int.mul_comm (t / b) b]
  omega
theorem raise_in (t : Int) {b : Int} (hb : 0 < b) : t ≤ -(-t / b) * b ∧ (-(-t / b) - 1) * b < t := by
  have h1 := Int.emod_add_mul_ediv (-t) b
  have h2 := Int.emod_nonneg (-t) (show b ≠ 0 by omega)
  have h3 := Int.emod_lt_of_pos (-t) hb
  rw [Int.sub_mul, Int.neg_mul, Int.mul_comm (-t / b) b]
  omega
/-! ### a ratio in lowest terms -/
def sg (t b : Int) : Int := if b < 0 then -gcdI t b else gcdI t b
def rt (t b : Int) : Int := t.fdiv (sg t b)
def rb (t b : Int) : Int := b.fdiv (sg t b)
theorem rat_parts {t b : Int} (hb : b ≠ 0) : ∃ g x y : Int, 0 < g ∧ g = gcdI t b ∧ t = g * x ∧ b = g * y ∧ gcdI x y = 1 := by
  have hg := gcd_pos (a := t) (b := b) (.inr hb)
  obtain ⟨x, hx⟩ := gcd_dvd_left t b
  obtain ⟨y, hy⟩ := gcd_dvd_right t b
  refine ⟨gcdI t b, x, y, hg, rfl, hx, hy, ?_⟩
  have e : Nat.gcd t.natAbs b.natAbs = (gcdI t b).natAbs * Nat.gcd x.natAbs y.natAbs := by
    have h1 : t.natAbs = (gcdI t b).natAbs * x.natAbs := by rw [← Int.natAbs_mul, ← hx]
    have h2 : b.natAbs = (gcdI t b).natAbs * y.natAbs := by rw [← Int.natAbs_mul, ← hy]
    rw [← Nat.gcd_mul_left, ← h1, ← h2]
  have e2 : (gcdI t b).natAbs = Nat.gcd t.natAbs b.natAbs := by unfold gcdI; omega
  rw [e2] at e
  have hp : 0 < Nat.gcd t.natAbs b.natAbs := Nat.gcd_pos_of_pos_right _ (by omega)
  have e3 : Nat.gcd x.natAbs y.natAbs = 1 := by
    have : Nat.gcd t.natAbs b.natAbs * 1 = Nat.gcd t.natAbs b.natAbs * Nat.gcd x.natAbs y.natAbs := by rw [Nat.mul_one]; exact e
    exact (Nat.eq_of_mul_eq_mul_left hp this).symm
  unfold gcdI
  rw [e3]
  rfl
theorem rat_val {t b : Int} (hb : b ≠ 0) : ∃ g x y : Int, 0 < g ∧ t = g * x ∧ b = g * y ∧ gcdI x y = 1 ∧ sg t b ≠ 0 ∧ (sg t b).natAbs = g.natAbs ∧ ((0 < y ∧ rt t b = x ∧ rb t b = y) ∨ (y < 0 ∧ rt t b = -x ∧ rb t b = -y)) := by
  obtain ⟨g, x, y, hg, e, ht, hb', h1⟩ := rat_parts (t := t) hb
  refine ⟨g, x, y, hg, ht, hb', h1, ?_, ?_, ?_⟩
  · unfold sg; rw [← e]; split <;> omega
  · unfold sg; rw [← e]; split <;> omega
  · by_cases hy : y < 0
    · right
      have hlt : b < 0 := by rw [hb']; exact Int.mul_neg_of_pos_of_neg hg hy
      have es : sg t b = -g := by unfold sg; rw [if_pos hlt, ← e]
      refine ⟨hy, ?_, ?_⟩
      · unfold rt
        rw [es, ht, show g * x = (-g) * (-x) by rw [Int.neg_mul_neg]]
        exact Int.mul_fdiv_cancel_left _ (by omega)
      · unfold rb
        rw [es, hb', show g * y = (-g) * (-y) by rw [Int.neg_mul_neg]]
        exact Int.mul_fdiv_cancel_left _ (by omega)
    · left
      have hy0 : y ≠ 0 := by rintro rfl; rw [Int.mul_zero] at hb'; exact hb hb'
      have hgt : ¬ b < 0 := by
        have : 0 < g * y := Int.mul_pos hg (by omega)
        omega
      have es : sg t b = g := by unfold sg; rw [if_neg hgt, ← e]
      refine ⟨by omega, ?_, ?_⟩
      · unfold rt
        rw [es, ht]
        exact Int.mul_fdiv_cancel_left _ (by omega)
      · unfold rb
        rw [es, hb']
        exact Int.mul_fdiv_cancel_left _ (by omega)
theorem natAbs_le_mul {g x : Int} (hg : 0 < g) : x.natAbs ≤ (g * x).natAbs := by
  rw [Int.natAbs_mul]
  exact Nat.le_mul_of_pos_left _ (by omega)
theorem gcdI_neg (x y : Int) : gcdI (-x) (-y) = gcdI x y := by unfold gcdI; rw [Int.natAbs_neg, Int.natAbs_neg]
theorem rat_ok {t b : Int} (hb : b ≠ 0) : 1 ≤ rb t b ∧ rt t b * b = t * rb t b ∧ gcdI (rt t b) (rb t b) = 1 ∧ (rt t b).natAbs ≤ t.natAbs ∧ (rb t b).natAbs ≤ b.natAbs ∧ sg t b ≠ 0 ∧ (sg t b).natAbs ≤ b.natAbs := by
  obtain ⟨g, x, y, hg, ht, hb', h1, s0, s1, h | h⟩ := rat_val (t := t) hb
  · obtain ⟨hy, e1, e2⟩ := h
    rw [e1, e2, s1]
    have n1 := natAbs_le_mul (x := x) hg
    have n2 := natAbs_le_mul (x := y) hg
    have n3 := natAbs_le_mul (x := g) hy
    rw [Int.mul_comm] at n3
    rw [← ht] at n1
    rw [← hb'] at n2 n3
    refine ⟨by omega, ?_, h1, n1, n2, s0, n3⟩
    rw [hb', ht, Int.mul_assoc, Int.mul_left_comm]
  · obtain ⟨hy, e1, e2⟩ := h
    rw [e1, e2, s1]
    have n1 := natAbs_le_mul (x := x) hg
    have n2 := natAbs_le_mul (x := y) hg
    have n3 : g.natAbs ≤ (g * y).natAbs := by
      rw [Int.natAbs_mul]; exact Nat.le_mul_of_pos_right _ (by omega)
    rw [← ht] at n1
    rw [← hb'] at n2 n3
    refine ⟨by omega, ?_, by rw [gcdI_neg]; exact h1, by omega, by omega, s0, n3⟩
    rw [hb', ht, Int.neg_mul, Int.mul_neg, Int.mul_assoc, Int.mul_left_comm]
theorem em30 (x : Int) : (x % 1000000000000000000000000000000).natAbs < 2 ^ 200 := by
  have h1 := Int.emod_nonneg x (show (1000000000000000000000000000000 : Int) ≠ 0 by decide)
  have h2 := Int.emod_lt_of_pos x (show (0 : Int) < 1000000000000000000000000000000 by decide)
  omega
end Gz

set_option Elab.async false
set_option linter.all false
set_option maxRecDepth 100000
set_option maxHeartbeats 4000000
/-! The order that sorting by questions comes to -/
namespace Gz
open PySem PySem.W PyProof.Rows
def kasP {α : Type} (lt : Nat → Nat → Bool) (n : Nat) : KasT α → (α → Prop) → Prop
  | .ret a, P => P a
  | .ask i j k, P => i < n ∧ j < n ∧ kasP lt n (k (lt i j)) P
section
variable {lt : Nat → Nat → Bool} {n : Nat}
theorem kasP_bind {α β : Type} {f : α → KasT β} {P : β → Prop} : ∀ (t : KasT α), kasP lt n t (fun a => kasP lt n (f a) P) → kasP lt n (t.bind f) P
  | .ret _, h => h
  | .ask _ _ k, h => ⟨h.1, h.2.1, kasP_bind (k _) h.2.2⟩
theorem kasP_mono {α : Type} {P P' : α → Prop} (h : ∀ a, P a → P' a) : ∀ (t : KasT α), kasP lt n t P → kasP lt n t P'
  | .ret _, q => h _ q
  | .ask _ _ k, q => ⟨q.1, q.2.1, kasP_mono h (k _) q.2.2⟩
theorem kasP_wp {α : Type} {cmp : Nat → Nat → (Bool → Shared → Prop) → Shared → Prop} {Ok : Shared → Prop} (hc : ∀ i j C s, i < n → j < n → Ok s → (∀ s', Ok s' → C (lt i j) s') → cmp i j C s) {P : α → Prop} {Q : α → Shared → Prop} (hQ : ∀ a s, Ok s → P a → Q a s) :
    ∀ (t : KasT α) (s : Shared), Ok s → kasP lt n t P → t.kasWp cmp Q s
  | .ret a, s, o, h => hQ a s o h
  | .ask i j k, s, o, h => hc i j _ s h.1 h.2.1 o fun s' o' => kasP_wp hc hQ (k (lt i j)) s' o' h.2.2
structure Ord (lt : Nat → Nat → Bool) : Prop where
  asym : ∀ {a b}, lt a b = true → lt b a = false
  tr : ∀ {a b c}, lt b a = false → lt c b = false → lt c a = false
theorem Ord.rfl' (O : Ord lt) (a : Nat) : lt a a = false := by
  cases h : lt a a with
  | false => rfl
  | true => rw [O.asym h] at h; cases h
def Srt (lt : Nat → Nat → Bool) (p : Array Nat) (k : Nat) : Prop := ∀ i j, i ≤ j → j < k → lt (p.getD j 0) (p.getD i 0) = false
def Dsc (lt : Nat → Nat → Bool) (p : Array Nat) (k : Nat) : Prop := ∀ i j, i ≤ j → j < k → lt (p.getD i 0) (p.getD j 0) = false
def Prm (n : Nat) (p : Array Nat) : Prop := p.toList.Perm (List.range n)
theorem Prm.size {p : Array Nat} (h : Prm n p) : p.size = n := by
  have := h.length_eq
  simpa using this
theorem Prm.below {p : Array Nat} (h : Prm n p) {i : Nat} (hi : i < n) : p.getD i 0 < n := by
  have hs := h.size
  have hi' : i < p.size := by omega
  have e : p.getD i 0 = p[i] := by simp [Array.getD, hi']
  rw [e]
  have m : p[i] ∈ p.toList := by simp
  simpa using h.mem_iff.mp m
theorem Prm.of {p q : Array Nat} (h : Prm n p) (hq : q.Perm p) : Prm n q := (Array.perm_iff_toList_perm.mp hq).trans h
theorem Srt.one (O : Ord lt) {p : Array Nat} : Srt lt p 1 := fun i j hij hj => by
  have : i = j := by omega
  subst this; exact O.rfl' _
theorem Dsc.one (O : Ord lt) {p : Array Nat} : Dsc lt p 1 := fun i j hij hj => by
  have : i = j := by omega
  subst this; exact O.rfl' _
theorem Srt.succ (O : Ord lt) {p : Array Nat} {k : Nat} (h : Srt lt p k) (hk : 1 ≤ k) (hn : lt (p.getD k 0) (p.getD (k - 1) 0) = false) : Srt lt p (k + 1) := fun i j hij hj => by
  by_cases e : j = k
  · subst e
    by_cases ei : i = j
    · subst ei; exact O.rfl' _
    · exact O.tr (h i (j - 1) (by omega) (by omega)) hn
  · exact h i j hij (by omega)
theorem Dsc.succ (O : Ord lt) {p : Array Nat} {k : Nat} (h : Dsc lt p k) (hk : 1 ≤ k) (hn : lt (p.getD (k - 1) 0) (p.getD k 0) = false) : Dsc lt p (k + 1) := fun i j hij hj => by
  by_cases e : j = k
  · subst e
    by_cases ei : i = j
    · subst ei; exact O.rfl' _
    · exact O.tr hn (h i (j - 1) (by omega) (by omega))
  · exact h i j hij (by omega)
theorem rev_get {p : Array Nat} {i j : Nat} (hj : j ≤ p.size) (k : Nat) : (kas_rev p i j).getD k 0 = if i ≤ k ∧ k < j then p.getD (i + j - 1 - k) 0 else p.getD k 0 := by
  simp only [Array.getD_eq_getD_getElem?]
  unfold kas_rev
  rw [getElem?_mirror_all hj]
  split <;> rfl
theorem bub_get {p : Array Nat} {k l : Nat} (hk : k < p.size) (hl : l ≤ k) (i : Nat) : (bubble p k (k - l)).getD i 0 = if i = l then p.getD k 0 else if l < i ∧ i ≤ k then p.getD (i - 1) 0 else p.getD i 0 := by
  simp only [Array.getD_eq_getD_getElem?]
  rw [getElem?_bubble hk _ (by omega)]
  have e : k - (k - l) = l := by omega
  rw [e]
  split
  · rfl
  · split <;> rfl
theorem asc_ok (O : Ord lt) {p : Array Nat} (hp : Prm n p) {P : Nat → Prop} : ∀ (f a : Nat), 1 ≤ a → a + f ≤ n → Srt lt p a → (∀ m, a ≤ m → m ≤ a + f → Srt lt p m → P m) → kasP lt n (kas_asc p f a) P
  | 0, a, h1, h2, hs, q => q a (Nat.le_refl _) (by omega) hs
  | f + 1, a, h1, h2, hs, q => by
    refine ⟨hp.below (by omega), hp.below (by omega), ?_⟩
    cases c : lt (p.getD a 0) (p.getD (a - 1) 0) with
    | true =>
      simp only [↓reduceIte]
      exact q a (Nat.le_refl _) (by omega) hs
    | false =>
      simp only [Bool.false_eq_true, ↓reduceIte]
      exact asc_ok O hp f (a + 1) (by omega) (by omega) (hs.succ O h1 c) fun m m1 m2 => q m (by omega) (by omega)
theorem Dsc.rev {p : Array Nat} {k i : Nat} (h : Dsc lt p k) (hk : k ≤ p.size) (hi : i ≤ k) (he : ∀ j, i ≤ j → j < k → lt (p.getD (k - 1) 0) (p.getD j 0) = false) (O : Ord lt) : Dsc lt (kas_rev p i k) k := fun a b hab hb => by
  rw [rev_get hk, rev_get hk]
  have eqv : ∀ x y, i ≤ x → x < k → i ≤ y → y < k → lt (p.getD x 0) (p.getD y 0) = false := fun x y x1 x2 y1 y2 => O.tr (he y y1 y2) (h x (k - 1) (by omega) (by omega))
  split
  · split
    · exact eqv _ _ (by omega) (by omega) (by omega) (by omega)
    · exfalso; omega
  · split
    · exact h _ _ (by omega) (by omega)
    · exact h _ _ hab hb
theorem desc_ok (O : Ord lt) {P : Array Nat × Nat × Nat → Prop} : ∀ (f : Nat) (p : Array Nat) (k q : Nat), Prm n p → 1 ≤ k → k + f ≤ n → q + 1 ≤ k → Dsc lt p k → (∀ j, k - (q + 1) ≤ j → j < k → lt (p.getD (k - 1) 0) (p.getD j 0) = false) →
    (∀ p' k' q', Prm n p' → k ≤ k' → k' ≤ k + f → q' + 1 ≤ k' → Dsc lt p' k' → (∀ j, k' - (q' + 1) ≤ j → j < k' → lt (p'.getD (k' - 1) 0) (p'.getD j 0) = false) → P (p', k', q')) → kasP lt n (kas_desc f p k q) P
  | 0, p, k, q, hp, h1, h2, h3, hd, he, fin => fin p k q hp (Nat.le_refl _) (by omega) h3 hd he
  | f + 1, p, k, q, hp, h1, h2, h3, hd, he, fin => by
    have hs := hp.size
    have one : ∀ (p' : Array Nat), ∀ j, (k + 1) - (0 + 1) ≤ j → j < k + 1 → lt (p'.getD (k + 1 - 1) 0) (p'.getD j 0) = false := fun p' j j1 j2 => by
      have : j = k := by omega
      subst this; exact O.rfl' _
    refine ⟨hp.below (by omega), hp.below (by omega), ?_⟩
    cases c : lt (p.getD k 0) (p.getD (k - 1) 0) with
    | true =>
      simp only [↓reduceIte]
      have c' := O.asym c
      by_cases hq : q > 0
      · rw [if_pos hq]
        have hp' : Prm n (kas_rev p (k - (q + 1)) k) := hp.of (mirror_perm _ _ _ _)
        have hd' : Dsc lt (kas_rev p (k - (q + 1)) k) k := hd.rev (by omega) (by omega) he O
        refine desc_ok O f _ (k + 1) 0 hp' (by omega) (by omega) (by omega) (hd'.succ O h1 ?_) (one _) fun p2 k2 q2 a1 a2 a3 a4 a5 a6 => fin p2 k2 q2 a1 (by omega) (by omega) a4 a5 a6
        rw [rev_get (by omega), rev_get (by omega), if_pos (by omega), if_neg (by omega)]
        have e1 : k - (q + 1) + k - 1 - (k - 1) = k - (q + 1) := by omega
        rw [e1]
        exact O.tr c' (hd _ (k - 1) (by omega) (by omega))
      · rw [if_neg hq]
        exact desc_ok O f p (k + 1) 0 hp (by omega) (by omega) (by omega) (hd.succ O h1 c') (one _) fun p2 k2 q2 a1 a2 a3 a4 a5 a6 => fin p2 k2 q2 a1 (by omega) (by omega) a4 a5 a6
    | false =>
      simp only [Bool.false_eq_true, ↓reduceIte]
      refine ⟨hp.below (by omega), hp.below (by omega), ?_⟩
      cases d : lt (p.getD (k - 1) 0) (p.getD k 0) with
      | true =>
        simp only [↓reduceIte]
        exact fin p k q hp (Nat.le_refl _) (by omega) h3 hd he
      | false =>
        simp only [Bool.false_eq_true, ↓reduceIte]
        refine desc_ok O f p (k + 1) (q + 1) hp (by omega) (by omega) (by omega) (hd.succ O h1 d) (fun j j1 j2 => ?_) fun p2 k2 q2 a1 a2 a3 a4 a5 a6 => fin p2 k2 q2 a1 (by omega) (by omega) a4 a5 a6
        have ek : k + 1 - 1 = k := by omega
        rw [ek]
        by_cases ej : j = k
        · subst ej; exact O.rfl' _
        · exact O.tr (he j (by omega) (by omega)) c
theorem Dsc.whole {p : Array Nat} {k : Nat} (h : Dsc lt p k) (hk : k ≤ p.size) : Srt lt (kas_rev p 0 k) k := fun a b hab hb => by
  rw [rev_get hk, rev_get hk, if_pos (by omega), if_pos (by omega)]
  exact h _ _ (by omega) (by omega)
theorem tail_ok (O : Ord lt) {P : Nat × Array Nat → Prop} {p : Array Nat} {k : Nat} (hp : Prm n p) (h1 : 1 ≤ k) (h2 : k ≤ n) (hd : Dsc lt p k) (fin : ∀ m p', Prm n p' → 1 ≤ m → m ≤ n → Srt lt p' m → P (m, p')) : kasP lt n (kas_tail3 k n p) P := by
  have hp' : Prm n (kas_rev p 0 k) := hp.of (mirror_perm _ _ _ _)
  have hs := hp.size
  unfold kas_tail3
  refine kasP_bind _ (asc_ok O hp' (n - k) k h1 (by omega) (hd.whole (by omega)) fun m m1 m2 ms => ?_)
  exact fin m _ hp' (by omega) (by omega) ms
theorem descPart_ok (O : Ord lt) {P : Nat × Array Nat → Prop} {p : Array Nat} {k : Nat} (hp : Prm n p) (h1 : 1 ≤ k) (h2 : k + 1 ≤ n) (hd : Dsc lt p (k + 1)) (fin : ∀ m p', Prm n p' → 1 ≤ m → m ≤ n → Srt lt p' m → P (m, p')) : kasP lt n (kas_descPart k n p) P := by
  unfold kas_descPart
  refine kasP_bind _ (desc_ok O (n - (k + 1)) p (k + 1) 0 hp (by omega) (by omega) (by omega) hd (fun j j1 j2 => ?_) fun p2 k2 q2 a1 a2 a3 a4 a5 a6 => ?_)
  · have : j = k := by omega
    subst this; exact O.rfl' _
  · have hs := a1.size
    dsimp only
    by_cases hq : q2 > 0
    · rw [if_pos hq]
      exact tail_ok O (a1.of (mirror_perm _ _ _ _)) (by omega) (by omega) (a5.rev (by omega) (by omega) a6 O) fin
    · rw [if_neg hq]
      exact tail_ok O a1 (by omega) (by omega) a5 fin
theorem count_ok (O : Ord lt) {P : Nat × Array Nat → Prop} {p : Array Nat} (hp : Prm n p) (hn : 1 ≤ n) (fin : ∀ m p', Prm n p' → 1 ≤ m → m ≤ n → Srt lt p' m → P (m, p')) : kasP lt n (kas_count n p) P := by
  have hs := hp.size
  unfold kas_count
  have key : kasP lt n (kas_asc p (n - 1) 1) (fun m => 1 ≤ m ∧ m ≤ n ∧ Srt lt p m ∧ (m < n → lt (p.getD m 0) (p.getD (m - 1) 0) = true)) := by
    have gen : ∀ (f a : Nat), 1 ≤ a → a + f = n → Srt lt p a → kasP lt n (kas_asc p f a) (fun m => 1 ≤ m ∧ m ≤ n ∧ Srt lt p m ∧ (m < n → lt (p.getD m 0) (p.getD (m - 1) 0) = true)) := by
      intro f
      induction f with
      | zero => intro a h1 h2 hs; exact ⟨h1, by omega, hs, fun z => absurd z (by omega)⟩
      | succ f ih =>
        intro a h1 h2 hs
        refine ⟨hp.below (by omega), hp.below (by omega), ?_⟩
        cases c : lt (p.getD a 0) (p.getD (a - 1) 0) with
        | true =>
          simp only [↓reduceIte]
          exact ⟨h1, by omega, hs, fun _ => c⟩
        | false =>
          simp only [Bool.false_eq_true, ↓reduceIte]
          exact ih (a + 1) (by omega) (by omega) (hs.succ O h1 c)
    exact gen (n - 1) 1 (Nat.le_refl _) (by omega) (Srt.one O)
  refine kasP_bind _ (kasP_mono (fun m hm => ?_) _ key)
  obtain ⟨m1, m2, ms, mc⟩ := hm
  by_cases e : (m == n) = true
  · rw [if_pos e]
    exact fin m p hp m1 m2 ms
  · rw [if_neg e]
    have hmn : m < n := by
      have : m ≠ n := by simpa using e
      omega
    have mc := mc hmn
    by_cases h2 : m > 1
    · rw [if_pos h2]
      refine ⟨hp.below (by omega), hp.below (by omega), ?_⟩
      cases c : lt (p.getD 0 0) (p.getD (m - 1) 0) with
      | true =>
        simp only [↓reduceIte]
        exact fin m p hp m1 m2 ms
      | false =>
        simp only [Bool.false_eq_true, ↓reduceIte]
        have eqv : ∀ x y, x < m → y < m → lt (p.getD x 0) (p.getD y 0) = false := fun x y hx hy =>
          O.tr (ms y (m - 1) (by omega) (by omega)) (O.tr c (ms 0 x (by omega) hx))
        have hp' : Prm n (kas_rev p 0 m) := hp.of (mirror_perm _ _ _ _)
        refine descPart_ok O hp' m1 (by omega) (fun i j hij hj => ?_) fin
        rw [rev_get (by omega), rev_get (by omega)]
        by_cases ej : j = m
        · subst ej
          rw [if_neg (show ¬ (0 ≤ j ∧ j < j) by omega)]
          split
          · exact O.tr (O.asym mc) (eqv _ _ (by omega) (by omega))
          · have : i = j := by omega
            subst this; exact O.rfl' _
        · rw [if_pos (by omega), if_pos (by omega)]
          exact eqv _ _ (by omega) (by omega)
    · rw [if_neg h2]
      have e1 : m = 1 := by omega
      subst e1
      exact descPart_ok O hp (Nat.le_refl _) (by omega) ((Dsc.one O).succ O (Nat.le_refl _) (O.asym mc)) fin
theorem place_ok {p : Array Nat} {k : Nat} {P : Nat → Prop} (O : Ord lt) (hp : Prm n p) (hk : k < n) (hs : Srt lt p k) (fin : ∀ m, m ≤ k → (∀ i, i < m → lt (p.getD k 0) (p.getD i 0) = false) → (∀ i, m ≤ i → i < k → lt (p.getD i 0) (p.getD k 0) = false) → P m) :
    ∀ (f l r : Nat), r - l ≤ f → l ≤ r → r ≤ k → (∀ i, i < l → lt (p.getD k 0) (p.getD i 0) = false) → (∀ i, r ≤ i → i < k → lt (p.getD i 0) (p.getD k 0) = false) → kasP lt n (kas_place p k f l r) P
  | 0, l, r, h1, h2, h3, a, b => by
    have : l = r := by omega
    subst this
    exact fin l h3 a b
  | f + 1, l, r, h1, h2, h3, a, b => by
    unfold kas_place
    by_cases hlr : l ≥ r
    · rw [if_pos hlr]
      have : l = r := by omega
      subst this
      exact fin l h3 a b
    · rw [if_neg hlr]
      refine ⟨hp.below hk, hp.below (by omega), ?_⟩
      cases c : lt (p.getD k 0) (p.getD ((l + r) / 2) 0) with
      | true =>
        simp only [↓reduceIte]
        refine place_ok O hp hk hs fin f l ((l + r) / 2) (by omega) (by omega) (by omega) a fun i i1 i2 => ?_
        exact O.tr (O.asym c) (hs _ _ i1 i2)
      | false =>
        simp only [Bool.false_eq_true, ↓reduceIte]
        refine place_ok O hp hk hs fin f ((l + r) / 2 + 1) r (by omega) (by omega) h3 (fun i i1 => ?_) b
        exact O.tr (hs i ((l + r) / 2) (by omega) (by omega)) c
theorem bin_ok (O : Ord lt) {P : Array Nat → Prop} (fin : ∀ p, Prm n p → Srt lt p n → P p) : ∀ (f : Nat) (p : Array Nat) (k : Nat), k + f = n → Prm n p → Srt lt p k → kasP lt n (kas_bin f p k) P
  | 0, p, k, h, hp, hs => fin p hp (by rw [← h]; exact hs)
  | f + 1, p, k, h, hp, hs => by
    have sz := hp.size
    unfold kas_bin
    refine kasP_bind _ (place_ok O hp (by omega) hs (fun m m1 ma mb => ?_) k 0 k (by omega) (by omega) (Nat.le_refl _) (fun _ z => absurd z (by omega)) fun _ z1 z2 => absurd z2 (by omega))
    refine bin_ok O fin f _ (k + 1) (by omega) (hp.of (bubble_perm _ _ _)) fun i j hij hj => ?_
    rw [bub_get (by omega) m1, bub_get (by omega) m1]
    by_cases ei : i = m
    · rw [if_pos ei]
      by_cases ej : j = m
      · rw [if_pos ej]; exact O.rfl' _
      · rw [if_neg ej, if_pos (by omega)]
        exact mb _ (by omega) (by omega)
    · rw [if_neg ei]
      by_cases ej : j = m
      · rw [if_pos ej, if_neg (by omega)]
        exact ma _ (by omega)
      · rw [if_neg ej]
        split
        · split
          · exact hs _ _ (by omega) (by omega)
          · exact hs _ _ (by omega) (by omega)
        · split
          · exfalso; omega
          · exact hs _ _ (by omega) (by omega)
theorem sort_ok (O : Ord lt) (hn : 1 ≤ n) : kasP lt n (kas_sort n) (fun p => Prm n p ∧ Srt lt p n) := by
  unfold kas_sort
  have h0 : Prm n (List.toArray (List.range n)) := by unfold Prm; simp
  refine kasP_bind _ (count_ok O h0 hn fun m p hp m1 m2 ms => ?_)
  dsimp only
  by_cases h : m < n
  · rw [if_pos h]
    have e : max m 1 = m := by omega
    rw [e]
    exact bin_ok O (fun p hp hs => ⟨hp, hs⟩) (n - m) p m (by omega) hp ms
  · rw [if_neg h]
    have e : m = n := by omega
    subst e
    exact ⟨hp, ms⟩
/-- what the questions come to -/
def kasV {α : Type} (lt : Nat → Nat → Bool) : KasT α → α
  | .ret a => a
  | .ask i j k => kasV lt (k (lt i j))
theorem kasP_V {α : Type} {P : α → Prop} : ∀ (t : KasT α), kasP lt n t P → P (kasV lt t)
  | .ret _, h => h
  | .ask i j k, h => kasP_V (k (lt i j)) h.2.2
theorem kasP_is {α : Type} {P : α → Prop} : ∀ (t : KasT α), kasP lt n t P → kasP lt n t (fun a => a = kasV lt t)
  | .ret _, _ => rfl
  | .ask i j k, h => ⟨h.1, h.2.1, kasP_is (k (lt i j)) h.2.2⟩
/-- the places in their order -/
def sortIx (lt : Nat → Nat → Bool) (n : Nat) : Array Nat := if n < 2 then List.toArray (List.range n) else kasV lt (kas_sort n)
theorem sortIx_ok (O : Ord lt) : Prm n (sortIx lt n) ∧ Srt lt (sortIx lt n) n := by
  unfold sortIx
  split
  · rename_i h
    refine ⟨by unfold Prm; simp, fun i j hij hj => ?_⟩
    have : i = j := by omega
    subst this; exact O.rfl' _
  · rename_i h
    exact kasP_V _ (sort_ok O (by omega))
end
end Gz

set_option Elab.async false
set_option linter.all false
set_option maxRecDepth 100000
set_option maxHeartbeats 4000000
/-! max and min of a list of ints, with a default or without -/
namespace Gz
open PySem PySem.Spec PyProof.Rows L2
local macro_rules | `(tactic| walk_at "om") => `(tactic| ((try simp only [PySem.Addr] at *); omega))
theorem call_tree_kw {prog : Program} {w : World} {A : Around} {E : Value → Shared → Prop} {s : Shared} {id : String} {b : Builtin} {args : List Value} {kw : List (Str × Value)} {Q : Value → Shared → Prop} (hk : builtinKind id = none) (hp : plainId id = true)
    (hb : entryFor table id = some b) (ha : argsOk id ⟨args, kw⟩)
    (hc : wpAny (model prog w) A.in1 (b ⟨args, kw⟩) (fun fin s' => match fin with
      | .done f => (match (Except.ok f : Result) with | .ok (.ret v) => Q v s' | .ok _ => False | .error e => E e s')
      | .again c' => c'.quiet = true ∧ codeAny (model prog w) A c' (fun r s' => match r with | .ok (.ret v) => Q v s' | .ok _ => False | .error e => E e s') s') E s) :
    wpAny (model prog w) A (call (.builtin id) args kw) Q E s := by
  refine wpAny_call (codeAny_call_builtin hp hb ?_)
  simp only [checkBuiltinCall, hk]
  cases hsig : Manifest.signature? id with
  | none => exact wpAny_pure hc
  | some sig =>
    have ha' : Bind.checkArgs id sig ⟨args, kw⟩ = pure () := by simpa only [argsOk, hsig] using ha
    simp only [ha']
    exact wpAny_pure hc
/-- the loop of max, whatever its default -/
theorem loop_max {prog : Program} {w : World} {A : Around} {R : Result → Shared → Prop} {I S : Addr} {fp wr : List Addr} {n : Nat} {P : Nat → Value → Prop} {St : Nat → Heap → Prop} {bt : Nat → Nat → Bool} {kw : List (Str × Value)}
    (W : Walks prog w A.in1 I fp wr n P St) (hcmp : CmpOf prog w A.in1 .Gt P bt) (hS : S ∉ fp) : ∀ (k j : Nat) (s : Shared) (vb : Value) (c : Nat), k + (j + 1) = n → St (j + 1) s.heap → P (argBest bt j) vb →
      s.heap.get? S = some { cls := .type "list", dict := none, data := .seq #[vb, vb] c, slots := #[] } →
      (∀ v h' tk, P (argBest bt (n - 1)) v → (∀ b o, b ∉ wr → b ≠ S → s.heap.get? b = some o → h'.get? b = some o) → R (.ok (.ret v)) { s with heap := h', toks := tk }) →
      codeAny (model prog w) A (.builtin "max.loop" ⟨[.ref I, .none, .ref S], kw⟩) R s := by
  have nS : S ∉ wr := fun z => hS (W.sub _ z)
  have nm : (toString "max" ++ toString ".loop" : String) = "max.loop" := by decide
  intro k
  induction k with
  | zero =>
    intro j s vb c e st pb oS fin
    have e' : j + 1 = n := by walk_at "om"
    refine codeAny_builtin PySem.F.entry_max_loop ?_
    rw [Around.under_plainId PySem.F.plain_max_loop _]
    show wpAny _ A.in1 (seqItems? (.ref S) >>= _) _ _ s
    refine wpAny_bind (wpAny_seqItems oS rfl ?_)
    show wpAny _ A.in1 (tryCatch (pyNext (.ref I)) _ >>= _) _ _ s
    refine wpAny_bind (wpAny_tryCatch (W.done s _ _ (e' ▸ st) fun h1 tk kp => ?_))
    have oS1 := kp S _ nS oS
    show wpAny _ A.in1 (updateSeq S (fun _ => #[]) >>= _) _ _ _
    refine wpAny_bind ?_
    refine wpAny_updateSeq oS1 rfl (wpAny_bind (wpAny_letGo (wpAny_pure ?_)))
    exact fin vb _ tk (by rw [← e']; exact pb) fun b o hw hb q => (Heap.get?_update_other _ _ (Ne.symm hb)).trans (kp b o hw q)
  | succ k ih =>
    intro j s vb c e st pb oS fin
    have lt : j + 1 < n := by walk_at "om"
    refine codeAny_builtin PySem.F.entry_max_loop ?_
    rw [Around.under_plainId PySem.F.plain_max_loop _]
    show wpAny _ A.in1 (seqItems? (.ref S) >>= _) _ _ s
    refine wpAny_bind (wpAny_seqItems oS rfl ?_)
    show wpAny _ A.in1 (tryCatch (pyNext (.ref I)) _ >>= _) _ _ s
    refine wpAny_bind (wpAny_tryCatch (W.item (j + 1) s _ _ lt st fun v h1 tk pv st1 kp => ?_))
    have oS1 := kp S _ nS oS
    show wpAny _ A.in1 (tryCatch (holding [v, v] (richCompare .Gt v vb >>= _)) _ >>= _) _ _ _
    refine wpAny_bind (wpAny_tryCatch (wpAny_holding (wpAny_bind (hcmp (j + 1) (argBest bt j) v vb _ _ _ pv pb ?_))))
    refine wpAny_bind (wpAny_holding (wpAny_truthy_bool ?_))
    refine wpAny_bind (wpAny_letGo (wpAny_pure ?_))
    cases hb : bt (j + 1) (argBest bt j) with
    | true =>
      simp only [if_true]
      refine wpAny_bind ?_
      refine wpAny_updateSeq oS1 rfl (wpAny_bind (wpAny_letGo ?_))
      rw [nm]
      refine wpAny_pure ⟨plainId_quiet PySem.F.plain_max_loop _, ih (j + 1) _ v _ (by walk_at "om") (W.frame _ _ _ st1 fun b hf o q => ?_) (by simp only [argBest, hb, if_true]; exact pv) (Heap.get?_update_self _ oS1 rfl) fun v2 h2 tk2 p2 k2 => ?_⟩
      · exact (Heap.get?_update_other _ _ (fun z : S = b => hS (by rw [z]; exact hf))).trans q
      · exact fin v2 h2 tk2 p2 fun b o hw hbS q => k2 b o hw hbS ((Heap.get?_update_other _ _ (Ne.symm hbS)).trans (kp b o hw q))
    | false =>
      simp only [Bool.false_eq_true, if_false]
      refine wpAny_bind (wpAny_letGo ?_)
      rw [nm]
      refine wpAny_pure ⟨plainId_quiet PySem.F.plain_max_loop _, ih (j + 1) _ vb c (by walk_at "om") st1 (by simp only [argBest, hb, Bool.false_eq_true, if_false]; exact pb) oS1 fun v2 h2 tk2 p2 k2 => ?_⟩
      exact fin v2 h2 tk2 p2 fun b o hw hbS q => k2 b o hw hbS (kp b o hw q)
theorem args_max_d (a d : Value) : argsOk "max" ⟨[a], [("default", d)]⟩ := by unfold argsOk; kernel_rfl
/-- max(xs, default=d) of a list of ints -/
theorem max_dflt {prog : Program} {w : World} {A : Around} {E : Value → Shared → Prop} {s : Shared} {l : Addr} {xs : Array (Int × Tok)} {d : Value} {Q : Value → Shared → Prop} (hh : A.handled = none) (hl : s.heap.IsList l (intItems xs))
    (h0 : xs.size = 0 → ∀ h' tk, (∀ b o, s.heap.get? b = some o → h'.get? b = some o) → Q d { s with heap := h', toks := tk })
    (h1 : 0 < xs.size → ∀ v h' tk, (intItems xs)[argBest (fun i j => decide (numAt xs i > numAt xs j)) (xs.size - 1)]? = some v → (∀ b o, s.heap.get? b = some o → h'.get? b = some o) → Q v { s with heap := h', toks := tk }) :
    wpAny (model prog w) A (call (.builtin "max") [.ref l] [("default", d)]) Q E s := by
  have nm : (toString "max" ++ toString ".loop" : String) = "max.loop" := by decide
  refine call_tree_kw PySem.F.kind_max PySem.F.plain_max PySem.F.entry_max (args_max_d _ _) ?_
  show wpAny _ A.in1 (Builtin.Builtins.bindParams "max" ["key", "default"] 0 ⟨[], [("default", d)]⟩ >>= _) _ _ s
  refine wpAny_bind (wpAny_of_eq (show Builtin.Builtins.bindParams "max" ["key", "default"] 0 ⟨[], [("default", d)]⟩ = pure [none, some d] from rfl) ?_)
  refine wpAny_bind (wpAny_pure ?_)
  refine wpAny_bind (iter_intList hl fun s2 e2 st hfp hlI => ?_)
  subst e2
  refine wpAny_bind (wpAny_newObj_type ?_)
  have W := Walks.list (prog := prog) (w := w) (A := A.in1) hh s.heap.objs.size l hlI (intItems xs)
  generalize eP : (s.heap.push { cls := .type "list_iterator", data := .fields #[.ref l, .int 0 0] }) = P2 at st hfp ⊢
  have hSf : P2.objs.size ∉ [s.heap.objs.size, l] := fun z => Nat.lt_irrefl _ (hfp _ z)
  have up : ∀ b o, s.heap.get? b = some o → b ≠ P2.objs.size ∧ b ∉ [s.heap.objs.size] ∧ (P2.push { cls := .type "list", dict := none, data := .seq ([] : List Value).toArray }).get? b = some o := fun b o q => by
    have lt := Heap.lt_size q
    have q2 : P2.get? b = some o := by rw [← eP]; exact Heap.get?_push_of_some _ q
    refine ⟨Nat.ne_of_lt (Heap.lt_size q2), fun z => ?_, Heap.get?_push_of_some _ q2⟩
    have : b = s.heap.objs.size := by simpa using z
    walk_at "om"
  rw [nm]
  refine wpAny_pure ⟨plainId_quiet PySem.F.plain_max_loop _, ?_⟩
  have oS : (P2.push { cls := .type "list", dict := none, data := .seq ([] : List Value).toArray }).get? P2.objs.size = some { cls := .type "list", dict := none, data := .seq #[] 0, slots := #[] } := Heap.get?_push_size _ rfl
  have st' := W.frame 0 P2 (P2.push { cls := .type "list", dict := none, data := .seq ([] : List Value).toArray }) st fun b _ o q => Heap.get?_push_of_some _ q
  have nS : P2.objs.size ∉ [s.heap.objs.size] := fun z => hSf (by simp at z; simp [z])
  by_cases hz : xs.size = 0
  · have st0 : (P2.push { cls := .type "list", dict := none, data := .seq ([] : List Value).toArray }).IsListIter s.heap.objs.size l (intItems xs).size ∧ (P2.push { cls := .type "list", dict := none, data := .seq ([] : List Value).toArray }).IsList l (intItems xs) := by
      have : (intItems xs).size = 0 := by simpa [intItems] using hz
      rw [this]; exact st'
    refine codeAny_builtin PySem.F.entry_max_loop ?_
    rw [Around.under_plainId PySem.F.plain_max_loop _]
    show wpAny _ A.in1 (seqItems? (.ref P2.objs.size) >>= _) _ _ _
    refine wpAny_bind (wpAny_seqItems oS rfl ?_)
    show wpAny _ A.in1 (tryCatch (pyNext (.ref s.heap.objs.size)) _ >>= _) _ _ _
    refine wpAny_bind (wpAny_tryCatch (W.done _ _ _ st0 fun h2 tk kp => ?_))
    refine wpAny_bind (wpAny_rule (wpAny_pure ?_))
    exact h0 hz h2 tk fun b o q => kp b o (up b o q).2.1 (up b o q).2.2
  · have hp : 0 < xs.size := by walk_at "om"
    have hn : 0 < (intItems xs).size := by simpa [intItems] using hp
    refine codeAny_builtin PySem.F.entry_max_loop ?_
    rw [Around.under_plainId PySem.F.plain_max_loop _]
    show wpAny _ A.in1 (seqItems? (.ref P2.objs.size) >>= _) _ _ _
    refine wpAny_bind (wpAny_seqItems oS rfl ?_)
    show wpAny _ A.in1 (tryCatch (pyNext (.ref s.heap.objs.size)) _ >>= _) _ _ _
    refine wpAny_bind (wpAny_tryCatch (W.item 0 _ _ _ hn st' fun v h2 tk pv st1 kp => ?_))
    have oS1 := kp _ _ nS oS
    show wpAny _ A.in1 (updateSeq P2.objs.size (fun _ => #[v, v]) >>= _) _ _ _
    refine wpAny_bind ?_
    refine wpAny_updateSeq oS1 rfl ?_
    rw [nm]
    refine wpAny_pure ⟨plainId_quiet PySem.F.plain_max_loop _, loop_max W (CmpOf.ints_gt (numAt xs) (fun _ _ => intItems_at)) hSf ((intItems xs).size - 1) 0 _ v _ (by walk_at "om") (W.frame _ _ _ st1 fun b hf o q => ?_) pv (Heap.get?_update_self _ oS1 rfl) fun v2 h3 tk3 p3 k3 => ?_⟩
    · exact (Heap.get?_update_other _ _ (fun z : P2.objs.size = b => hSf (by rw [z]; exact hf))).trans q
    · refine h1 hp v2 h3 tk3 (by simpa [intItems] using p3) fun b o q => ?_
      exact k3 b o (up b o q).2.1 (up b o q).1 ((Heap.get?_update_other _ _ (Ne.symm (up b o q).1)).trans (kp b o (up b o q).2.1 (up b o q).2.2))
/-- the loop of min, whatever its default -/
theorem loop_min {prog : Program} {w : World} {A : Around} {R : Result → Shared → Prop} {I S : Addr} {fp wr : List Addr} {n : Nat} {P : Nat → Value → Prop} {St : Nat → Heap → Prop} {bt : Nat → Nat → Bool} {kw : List (Str × Value)}
    (W : Walks prog w A.in1 I fp wr n P St) (hcmp : CmpOf prog w A.in1 .Lt P bt) (hS : S ∉ fp) : ∀ (k j : Nat) (s : Shared) (vb : Value) (c : Nat), k + (j + 1) = n → St (j + 1) s.heap → P (argBest bt j) vb →
      s.heap.get? S = some { cls := .type "list", dict := none, data := .seq #[vb, vb] c, slots := #[] } →
      (∀ v h' tk, P (argBest bt (n - 1)) v → (∀ b o, b ∉ wr → b ≠ S → s.heap.get? b = some o → h'.get? b = some o) → R (.ok (.ret v)) { s with heap := h', toks := tk }) →
      codeAny (model prog w) A (.builtin "min.loop" ⟨[.ref I, .none, .ref S], kw⟩) R s := by
  have nS : S ∉ wr := fun z => hS (W.sub _ z)
  have nm : (toString "min" ++ toString ".loop" : String) = "min.loop" := by decide
  intro k
  induction k with
  | zero =>
    intro j s vb c e st pb oS fin
    have e' : j + 1 = n := by walk_at "om"
    refine codeAny_builtin PySem.F.entry_min_loop ?_
    rw [Around.under_plainId PySem.F.plain_min_loop _]
    show wpAny _ A.in1 (seqItems? (.ref S) >>= _) _ _ s
    refine wpAny_bind (wpAny_seqItems oS rfl ?_)
    show wpAny _ A.in1 (tryCatch (pyNext (.ref I)) _ >>= _) _ _ s
    refine wpAny_bind (wpAny_tryCatch (W.done s _ _ (e' ▸ st) fun h1 tk kp => ?_))
    have oS1 := kp S _ nS oS
    show wpAny _ A.in1 (updateSeq S (fun _ => #[]) >>= _) _ _ _
    refine wpAny_bind ?_
    refine wpAny_updateSeq oS1 rfl (wpAny_bind (wpAny_letGo (wpAny_pure ?_)))
    exact fin vb _ tk (by rw [← e']; exact pb) fun b o hw hb q => (Heap.get?_update_other _ _ (Ne.symm hb)).trans (kp b o hw q)
  | succ k ih =>
    intro j s vb c e st pb oS fin
    have lt : j + 1 < n := by walk_at "om"
    refine codeAny_builtin PySem.F.entry_min_loop ?_
    rw [Around.under_plainId PySem.F.plain_min_loop _]
    show wpAny _ A.in1 (seqItems? (.ref S) >>= _) _ _ s
    refine wpAny_bind (wpAny_seqItems oS rfl ?_)
    show wpAny _ A.in1 (tryCatch (pyNext (.ref I)) _ >>= _) _ _ s
    refine wpAny_bind (wpAny_tryCatch (W.item (j + 1) s _ _ lt st fun v h1 tk pv st1 kp => ?_))
    have oS1 := kp S _ nS oS
    show wpAny _ A.in1 (tryCatch (holding [v, v] (richCompare .Lt v vb >>= _)) _ >>= _) _ _ _
    refine wpAny_bind (wpAny_tryCatch (wpAny_holding (wpAny_bind (hcmp (j + 1) (argBest bt j) v vb _ _ _ pv pb ?_))))
    refine wpAny_bind (wpAny_holding (wpAny_truthy_bool ?_))
    refine wpAny_bind (wpAny_letGo (wpAny_pure ?_))
    cases hb : bt (j + 1) (argBest bt j) with
    | true =>
      simp only [if_true]
      refine wpAny_bind ?_
      refine wpAny_updateSeq oS1 rfl (wpAny_bind (wpAny_letGo ?_))
      rw [nm]
      refine wpAny_pure ⟨plainId_quiet PySem.F.plain_min_loop _, ih (j + 1) _ v _ (by walk_at "om") (W.frame _ _ _ st1 fun b hf o q => ?_) (by simp only [argBest, hb, if_true]; exact pv) (Heap.get?_update_self _ oS1 rfl) fun v2 h2 tk2 p2 k2 => ?_⟩
      · exact (Heap.get?_update_other _ _ (fun z : S = b => hS (by rw [z]; exact hf))).trans q
      · exact fin v2 h2 tk2 p2 fun b o hw hbS q => k2 b o hw hbS ((Heap.get?_update_other _ _ (Ne.symm hbS)).trans (kp b o hw q))
    | false =>
      simp only [Bool.false_eq_true, if_false]
      refine wpAny_bind (wpAny_letGo ?_)
      rw [nm]
      refine wpAny_pure ⟨plainId_quiet PySem.F.plain_min_loop _, ih (j + 1) _ vb c (by walk_at "om") st1 (by simp only [argBest, hb, Bool.false_eq_true, if_false]; exact pb) oS1 fun v2 h2 tk2 p2 k2 => ?_⟩
      exact fin v2 h2 tk2 p2 fun b o hw hbS q => k2 b o hw hbS (kp b o hw q)
theorem args_min_d (a d : Value) : argsOk "min" ⟨[a], [("default", d)]⟩ := by unfold argsOk; kernel_rfl
/-- min(xs, default=d) of a list of ints -/
theorem min_dflt {prog : Program} {w : World} {A : Around} {E : Value → Shared → Prop} {s : Shared} {l : Addr} {xs : Array (Int × Tok)} {d : Value} {Q : Value → Shared → Prop} (hh : A.handled = none) (hl : s.heap.IsList l (intItems xs))
    (h0 : xs.size = 0 → ∀ h' tk, (∀ b o, s.heap.get? b = some o → h'.get? b = some o) → Q d { s with heap := h', toks := tk })
    (h1 : 0 < xs.size → ∀ v h' tk, (intItems xs)[argBest (fun i j => decide (numAt xs i < numAt xs j)) (xs.size - 1)]? = some v → (∀ b o, s.heap.get? b = some o → h'.get? b = some o) → Q v { s with heap := h', toks := tk }) :
    wpAny (model prog w) A (call (.builtin "min") [.ref l] [("default", d)]) Q E s := by
  have nm : (toString "min" ++ toString ".loop" : String) = "min.loop" := by decide
  refine call_tree_kw PySem.F.kind_min PySem.F.plain_min PySem.F.entry_min (args_min_d _ _) ?_
  show wpAny _ A.in1 (Builtin.Builtins.bindParams "min" ["key", "default"] 0 ⟨[], [("default", d)]⟩ >>= _) _ _ s
  refine wpAny_bind (wpAny_of_eq (show Builtin.Builtins.bindParams "min" ["key", "default"] 0 ⟨[], [("default", d)]⟩ = pure [none, some d] from rfl) ?_)
  refine wpAny_bind (wpAny_pure ?_)
  refine wpAny_bind (iter_intList hl fun s2 e2 st hfp hlI => ?_)
  subst e2
  refine wpAny_bind (wpAny_newObj_type ?_)
  have W := Walks.list (prog := prog) (w := w) (A := A.in1) hh s.heap.objs.size l hlI (intItems xs)
  generalize eP : (s.heap.push { cls := .type "list_iterator", data := .fields #[.ref l, .int 0 0] }) = P2 at st hfp ⊢
  have hSf : P2.objs.size ∉ [s.heap.objs.size, l] := fun z => Nat.lt_irrefl _ (hfp _ z)
  have up : ∀ b o, s.heap.get? b = some o → b ≠ P2.objs.size ∧ b ∉ [s.heap.objs.size] ∧ (P2.push { cls := .type "list", dict := none, data := .seq ([] : List Value).toArray }).get? b = some o := fun b o q => by
    have lt := Heap.lt_size q
    have q2 : P2.get? b = some o := by rw [← eP]; exact Heap.get?_push_of_some _ q
    refine ⟨Nat.ne_of_lt (Heap.lt_size q2), fun z => ?_, Heap.get?_push_of_some _ q2⟩
    have : b = s.heap.objs.size := by simpa using z
    walk_at "om"
  rw [nm]
  refine wpAny_pure ⟨plainId_quiet PySem.F.plain_min_loop _, ?_⟩
  have oS : (P2.push { cls := .type "list", dict := none, data := .seq ([] : List Value).toArray }).get? P2.objs.size = some { cls := .type "list", dict := none, data := .seq #[] 0, slots := #[] } := Heap.get?_push_size _ rfl
  have st' := W.frame 0 P2 (P2.push { cls := .type "list", dict := none, data := .seq ([] : List Value).toArray }) st fun b _ o q => Heap.get?_push_of_some _ q
  have nS : P2.objs.size ∉ [s.heap.objs.size] := fun z => hSf (by simp at z; simp [z])
  by_cases hz : xs.size = 0
  · have st0 : (P2.push { cls := .type "list", dict := none, data := .seq ([] : List Value).toArray }).IsListIter s.heap.objs.size l (intItems xs).size ∧ (P2.push { cls := .type "list", dict := none, data := .seq ([] : List Value).toArray }).IsList l (intItems xs) := by
      have : (intItems xs).size = 0 := by simpa [intItems] using hz
      rw [this]; exact st'
    refine codeAny_builtin PySem.F.entry_min_loop ?_
    rw [Around.under_plainId PySem.F.plain_min_loop _]
    show wpAny _ A.in1 (seqItems? (.ref P2.objs.size) >>= _) _ _ _
    refine wpAny_bind (wpAny_seqItems oS rfl ?_)
    show wpAny _ A.in1 (tryCatch (pyNext (.ref s.heap.objs.size)) _ >>= _) _ _ _
    refine wpAny_bind (wpAny_tryCatch (W.done _ _ _ st0 fun h2 tk kp => ?_))
    refine wpAny_bind (wpAny_rule (wpAny_pure ?_))
    exact h0 hz h2 tk fun b o q => kp b o (up b o q).2.1 (up b o q).2.2
  · have hp : 0 < xs.size := by walk_at "om"
    have hn : 0 < (intItems xs).size := by simpa [intItems] using hp
    refine codeAny_builtin PySem.F.entry_min_loop ?_
    rw [Around.under_plainId PySem.F.plain_min_loop _]
    show wpAny _ A.in1 (seqItems? (.ref P2.objs.size) >>= _) _ _ _
    refine wpAny_bind (wpAny_seqItems oS rfl ?_)
    show wpAny _ A.in1 (tryCatch (pyNext (.ref s.heap.objs.size)) _ >>= _) _ _ _
    refine wpAny_bind (wpAny_tryCatch (W.item 0 _ _ _ hn st' fun v h2 tk pv st1 kp => ?_))
    have oS1 := kp _ _ nS oS
    show wpAny _ A.in1 (updateSeq P2.objs.size (fun _ => #[v, v]) >>= _) _ _ _
    refine wpAny_bind ?_
    refine wpAny_updateSeq oS1 rfl ?_
    rw [nm]
    refine wpAny_pure ⟨plainId_quiet PySem.F.plain_min_loop _, loop_min W (CmpOf.ints_lt (numAt xs) (fun _ _ => intItems_at)) hSf ((intItems xs).size - 1) 0 _ v _ (by walk_at "om") (W.frame _ _ _ st1 fun b hf o q => ?_) pv (Heap.get?_update_self _ oS1 rfl) fun v2 h3 tk3 p3 k3 => ?_⟩
    · exact (Heap.get?_update_other _ _ (fun z : P2.objs.size = b => hSf (by rw [z]; exact hf))).trans q
    · refine h1 hp v2 h3 tk3 (by simpa [intItems] using p3) fun b o q => ?_
      exact k3 b o (up b o q).2.1 (up b o q).1 ((Heap.get?_update_other _ _ (Ne.symm (up b o q).1)).trans (kp b o (up b o q).2.1 (up b o q).2.2))
/-! ### the numbers -/
def maxL : List Int → Int
  | [] => 0
  | x :: r => r.foldl (fun b y => if y > b then y else b) x
def minL : List Int → Int
  | [] => 0
  | x :: r => r.foldl (fun b y => if y < b then y else b) x
theorem maxF_le : ∀ (r : List Int) (b : Int), b ≤ r.foldl (fun b y => if y > b then y else b) b ∧ (∀ y ∈ r, y ≤ r.foldl (fun b y => if y > b then y else b) b) ∧ (r.foldl (fun b y => if y > b then y else b) b = b ∨ r.foldl (fun b y => if y > b then y else b) b ∈ r)
  | [], b => ⟨Int.le_refl _, fun _ z => (nomatch z), .inl rfl⟩
  | x :: r, b => by
    simp only [List.foldl_cons]
    obtain ⟨h1, h2, h3⟩ := maxF_le r (if x > b then x else b)
    refine ⟨?_, fun y hy => ?_, ?_⟩
    · refine Int.le_trans ?_ h1; split <;> omega
    · rcases List.mem_cons.mp hy with rfl | hy
      · refine Int.le_trans ?_ h1; split <;> omega
      · exact h2 y hy
    · rcases h3 with h3 | h3
      · rw [h3]; split
        · right; simp
        · left; rfl
      · right; exact List.mem_cons_of_mem _ h3
theorem minF_le : ∀ (r : List Int) (b : Int), r.foldl (fun b y => if y < b then y else b) b ≤ b ∧ (∀ y ∈ r, r.foldl (fun b y => if y < b then y else b) b ≤ y) ∧ (r.foldl (fun b y => if y < b then y else b) b = b ∨ r.foldl (fun b y => if y < b then y else b) b ∈ r)
  | [], b => ⟨Int.le_refl _, fun _ z => (nomatch z), .inl rfl⟩
  | x :: r, b => by
    simp only [List.foldl_cons]
    obtain ⟨h1, h2, h3⟩ := minF_le r (if x < b then x else b)
    refine ⟨?_, fun y hy => ?_, ?_⟩
    · refine Int.le_trans h1 ?_; split <;> omega
    · rcases List.mem_cons.mp hy with rfl | hy
      · refine Int.le_trans h1 ?_; split <;> omega
      · exact h2 y hy
    · rcases h3 with h3 | h3
      · rw [h3]; split
        · right; simp
        · left; rfl
      · right; exact List.mem_cons_of_mem _ h3
theorem maxL_mem {ns : List Int} (h : ns ≠ []) : maxL ns ∈ ns ∧ ∀ y ∈ ns, y ≤ maxL ns := by
  cases ns with
  | nil => exact absurd rfl h
  | cons x r =>
    obtain ⟨h1, h2, h3⟩ := maxF_le r x
    refine ⟨?_, fun y hy => ?_⟩
    · rcases h3 with h3 | h3
      · show r.foldl _ x ∈ _
        rw [h3]; exact .head _
      · exact .tail _ h3
    · rcases List.mem_cons.mp hy with rfl | hy
      · exact h1
      · exact h2 y hy
theorem minL_mem {ns : List Int} (h : ns ≠ []) : minL ns ∈ ns ∧ ∀ y ∈ ns, minL ns ≤ y := by
  cases ns with
  | nil => exact absurd rfl h
  | cons x r =>
    obtain ⟨h1, h2, h3⟩ := minF_le r x
    refine ⟨?_, fun y hy => ?_⟩
    · rcases h3 with h3 | h3
      · show r.foldl _ x ∈ _
        rw [h3]; exact .head _
      · exact .tail _ h3
    · rcases List.mem_cons.mp hy with rfl | hy
      · exact h1
      · exact h2 y hy
/-- the ints of a list, as items -/
theorem ints_items : ∀ {ns : List Int} {its : List Value}, Vals (ns.map V.int) its → ∃ xs : Array (Int × Tok), its.toArray = intItems xs ∧ xs.toList.map (·.1) = ns
  | [], _, .nil => ⟨#[], by simp [intItems], rfl⟩
  | n :: ns, _, .cons (l₂ := its) r t => by
    obtain ⟨xs, e1, e2⟩ := ints_items (ns := ns) t
    obtain ⟨tk, rfl⟩ := r
    refine ⟨((n, tk) :: xs.toList).toArray, ?_, ?_⟩
    · have : its = xs.toList.map (fun p => Value.int p.1 p.2) := by
        have := congrArg Array.toList e1
        simpa [intItems] using this
      simp [intItems, this]
    · simp [e2]
theorem numAt_get {xs : Array (Int × Tok)} {ns : List Int} (e : xs.toList.map (·.1) = ns) {i : Nat} (hi : i < xs.size) : numAt xs i ∈ ns ∧ numAt xs i = ns.getD i 0 := by
  subst e
  unfold numAt
  rw [Array.getElem?_eq_getElem hi]
  refine ⟨List.mem_map.mpr ⟨xs[i], by simp, rfl⟩, ?_⟩
  simp [hi]
theorem mem_numAt {xs : Array (Int × Tok)} {ns : List Int} (e : xs.toList.map (·.1) = ns) {y : Int} (hy : y ∈ ns) : ∃ i, i < xs.size ∧ numAt xs i = y := by
  subst e
  obtain ⟨p, hp, rfl⟩ := List.mem_map.mp hy
  obtain ⟨i, hi, e⟩ := List.mem_iff_getElem.mp hp
  refine ⟨i, by simpa using hi, ?_⟩
  unfold numAt
  have hi' : i < xs.size := by simpa using hi
  rw [Array.getElem?_eq_getElem hi']
  have : xs[i] = p := by simpa using e
  rw [this]; rfl
theorem best_max {xs : Array (Int × Tok)} {ns : List Int} (e : xs.toList.map (·.1) = ns) (h : 0 < xs.size) : numAt xs (argBest (fun i j => decide (numAt xs i > numAt xs j)) (xs.size - 1)) = maxL ns := by
  obtain ⟨h1, h2⟩ := argBest_gt (numAt xs) (xs.size - 1)
  have hne : ns ≠ [] := by
    intro z; subst z
    have q := congrArg List.length e
    rw [List.length_map, Array.length_toList, List.length_nil] at q
    omega
  obtain ⟨m1, m2⟩ := maxL_mem hne
  refine Int.le_antisymm (m2 _ (numAt_get e (by omega)).1) ?_
  obtain ⟨i, hi, ei⟩ := mem_numAt e m1
  rw [← ei]; exact h2 i (by omega)
theorem best_min {xs : Array (Int × Tok)} {ns : List Int} (e : xs.toList.map (·.1) = ns) (h : 0 < xs.size) : numAt xs (argBest (fun i j => decide (numAt xs i < numAt xs j)) (xs.size - 1)) = minL ns := by
  obtain ⟨h1, h2⟩ := argBest_lt (numAt xs) (xs.size - 1)
  have hne : ns ≠ [] := by
    intro z; subst z
    have q := congrArg List.length e
    rw [List.length_map, Array.length_toList, List.length_nil] at q
    omega
  obtain ⟨m1, m2⟩ := minL_mem hne
  refine Int.le_antisymm ?_ (m2 _ (numAt_get e (by omega)).1)
  obtain ⟨i, hi, ei⟩ := mem_numAt e m1
  rw [← ei]; exact h2 i (by omega)
/-! ### the rules -/
def oneV (R : V → Hp → Prop) : List V → Hp → Prop
  | [x], H => R x H
  | _, _ => False
theorem oneV_ex {R : V → Hp → Prop} : ∀ {vs : List V} {H : Hp}, oneV R vs H → ∃ x, vs = [x] ∧ R x H
  | [x], _, h => ⟨x, rfl, h⟩
section
variable {X : Cx} {e d : Expr} {te td : TE} {p pos kp : Pos}
def mmV (f : List Int → Int) : List Int → V → V
  | [], y => y
  | n :: ns, _ => .int (f (n :: ns))
theorem mmV_ne {f : List Int → Int} {ns : List Int} {y : V} (h : ns ≠ []) : mmV f ns y = .int (f ns) := by
  cases ns with
  | nil => exact absurd rfl h
  | cons _ _ => rfl
def tMM (K : PySem.W.Frag) (f : List Int → Int) (te td : TE) : TE := fun σ H Q => te σ H fun x H1 => td σ H1 fun y H2 => ∃ a ns, x = .ref a ∧ SqL K H2 a (ns.map V.int) ∧ Q (mmV f ns y) H2
theorem pe_maxD (hc : X.calm = true) (hg : Gl X "max") (hm : X.mg "max" = none) (he : PE X e te) (hd : PE X d td)
    (hs : starEach [e] X.env = (false, eval e X.env) :: starEach [] X.env := by rfl) (hq : backTo pos (starEach [e] X.env) = (false, eval e X.env) :: backTo pos (starEach [] X.env) := by rfl) :
    PE X (.Call (.Name "max" p) [e] [⟨some "default", d, kp⟩] pos) (tMM X.K maxL te td) := by
  intro pins s σ H Q I h
  refine wpAny_Call_Name_kw (ld_blt I hg hm b_max ?_ (by decide))
  refine callWith_kw (thn ((pa_cons he pa_nil hs) pos pins s σ H (oneV fun x H1 => td σ H1 fun y H2 => ∃ (a : Addr) (ns : List Int), x = .ref a ∧ SqL X.K H2 a (ns.map V.int) ∧ Q (mmV maxL ns y) H2) I h) fun us s1 ⟨vs, H1, I1, r, q⟩ => ?_) hq (by rw [hs]; rfl)
  · obtain ⟨x, rfl, q⟩ := oneV_ex q
    obtain ⟨u, rfl, ru⟩ := vals1 r
    refine kws_cons (thn (hd pins s1 σ H1 _ I1 q) fun w s2 ⟨y, H2, I2, ry, a, ns, ex, hS, q1⟩ => kws_nil ?_)
    subst ex
    cases ru
    obtain ⟨its, rv, hp, _⟩ := I2.list hS
    obtain ⟨xs, e1, e2⟩ := ints_items rv
    obtain ⟨o, n, ho, hcl, _, hdt⟩ := hp
    have hl : s2.heap.IsList a (intItems xs) := ⟨o, ho, hcl, n, by rw [hdt, e1]⟩
    have len : xs.size = ns.length := by rw [← e2, List.length_map]; simp
    show wpAny _ X.A (call (.builtin "max") [.ref a] [("default", w)]) _ _ s2
    refine max_dflt (I2.ok.hd hc) hl (fun hz h' tk hk => ⟨y, H2, I2.kept hk, ry, ?_⟩) fun hp v h' tk hv hk => ⟨.int (maxL ns), H2, I2.kept hk, ?_, ?_⟩
    · have z : ns = [] := List.length_eq_zero_iff.mp (by walk_at "om")
      rw [z] at q1
      exact q1
    · obtain ⟨t, rfl⟩ := intItems_at hv
      exact ⟨t, by rw [best_max e2 hp]⟩
    · rw [mmV_ne (fun z => by subst z; rw [List.length_nil] at len; omega)] at q1
      exact q1
/-- max(xs) of a list of ints, not empty -/
theorem call_maxL (hc : X.calm = true) : CallR X (.builtin "max") (fun xs H Q => ∃ a ns, xs = [.ref a] ∧ SqL X.K H a (ns.map V.int) ∧ ns ≠ [] ∧ Q (.int (maxL ns)) H) := by
  intro pins s σ H xs us Q I r h
  obtain ⟨a, ns, rfl, hS, hne, q⟩ := h
  obtain ⟨u, rfl, ru⟩ := vals1 r
  cases ru
  obtain ⟨its, rv, hp, _⟩ := I.list hS
  obtain ⟨xs, e1, e2⟩ := ints_items rv
  obtain ⟨o, n, ho, hcl, _, hdt⟩ := hp
  have hl : s.heap.IsList a (intItems xs) := ⟨o, ho, hcl, n, by rw [hdt, e1]⟩
  have len : xs.size = ns.length := by rw [← e2, List.length_map]; simp
  have hpos : 0 < xs.size := by rw [len]; exact List.length_pos_iff.mpr hne
  refine max_intList (I.ok.hd hc) hl hpos fun v h' tk hv hk => ⟨.int (maxL ns), H, I.kept hk, ?_, q⟩
  obtain ⟨t, rfl⟩ := intItems_at hv
  exact ⟨t, by rw [best_max e2 hpos]⟩
theorem pe_minD (hc : X.calm = true) (hg : Gl X "min") (hm : X.mg "min" = none) (he : PE X e te) (hd : PE X d td)
    (hs : starEach [e] X.env = (false, eval e X.env) :: starEach [] X.env := by rfl) (hq : backTo pos (starEach [e] X.env) = (false, eval e X.env) :: backTo pos (starEach [] X.env) := by rfl) :
    PE X (.Call (.Name "min" p) [e] [⟨some "default", d, kp⟩] pos) (tMM X.K minL te td) := by
  intro pins s σ H Q I h
  refine wpAny_Call_Name_kw (ld_blt I hg hm b_min ?_ (by decide))
  refine callWith_kw (thn ((pa_cons he pa_nil hs) pos pins s σ H (oneV fun x H1 => td σ H1 fun y H2 => ∃ (a : Addr) (ns : List Int), x = .ref a ∧ SqL X.K H2 a (ns.map V.int) ∧ Q (mmV minL ns y) H2) I h) fun us s1 ⟨vs, H1, I1, r, q⟩ => ?_) hq (by rw [hs]; rfl)
  · obtain ⟨x, rfl, q⟩ := oneV_ex q
    obtain ⟨u, rfl, ru⟩ := vals1 r
    refine kws_cons (thn (hd pins s1 σ H1 _ I1 q) fun w s2 ⟨y, H2, I2, ry, a, ns, ex, hS, q1⟩ => kws_nil ?_)
    subst ex
    cases ru
    obtain ⟨its, rv, hp, _⟩ := I2.list hS
    obtain ⟨xs, e1, e2⟩ := ints_items rv
    obtain ⟨o, n, ho, hcl, _, hdt⟩ := hp
    have hl : s2.heap.IsList a (intItems xs) := ⟨o, ho, hcl, n, by rw [hdt, e1]⟩
    have len : xs.size = ns.length := by rw [← e2, List.length_map]; simp
    show wpAny _ X.A (call (.builtin "min") [.ref a] [("default", w)]) _ _ s2
    refine min_dflt (I2.ok.hd hc) hl (fun hz h' tk hk => ⟨y, H2, I2.kept hk, ry, ?_⟩) fun hp v h' tk hv hk => ⟨.int (minL ns), H2, I2.kept hk, ?_, ?_⟩
    · have z : ns = [] := List.length_eq_zero_iff.mp (by walk_at "om")
      rw [z] at q1
      exact q1
    · obtain ⟨t, rfl⟩ := intItems_at hv
      exact ⟨t, by rw [best_min e2 hp]⟩
    · rw [mmV_ne (fun z => by subst z; rw [List.length_nil] at len; omega)] at q1
      exact q1
/-- min(xs) of a list of ints, not empty -/
theorem call_minL (hc : X.calm = true) : CallR X (.builtin "min") (fun xs H Q => ∃ a ns, xs = [.ref a] ∧ SqL X.K H a (ns.map V.int) ∧ ns ≠ [] ∧ Q (.int (minL ns)) H) := by
  intro pins s σ H xs us Q I r h
  obtain ⟨a, ns, rfl, hS, hne, q⟩ := h
  obtain ⟨u, rfl, ru⟩ := vals1 r
  cases ru
  obtain ⟨its, rv, hp, _⟩ := I.list hS
  obtain ⟨xs, e1, e2⟩ := ints_items rv
  obtain ⟨o, n, ho, hcl, _, hdt⟩ := hp
  have hl : s.heap.IsList a (intItems xs) := ⟨o, ho, hcl, n, by rw [hdt, e1]⟩
  have len : xs.size = ns.length := by rw [← e2, List.length_map]; simp
  have hpos : 0 < xs.size := by rw [len]; exact List.length_pos_iff.mpr hne
  refine min_intList (I.ok.hd hc) hl hpos fun v h' tk hv hk => ⟨.int (minL ns), H, I.kept hk, ?_, q⟩
  obtain ⟨t, rfl⟩ := intItems_at hv
  exact ⟨t, by rw [best_min e2 hpos]⟩
end
end Gz

set_option Elab.async false
set_option linter.all false
set_option maxRecDepth 100000
set_option maxHeartbeats 4000000
/-! sorted: by a key of the text's own, keys tuples of ints -/
namespace Gz
open PySem PySem.Spec PyProof.Rows L2
local macro_rules | `(tactic| walk_at "om") => `(tactic| ((try simp only [PySem.Addr] at *); omega))
theorem Inv.track {X : Cx} {pins : List (Addr × Obj)} {σ : L2.St} {H : Hp} {s : Shared} {l : Addr} {ys : List V} {its : List Value} {n : Nat} (I : Inv X pins σ H s) (f : FpOk X pins H l) (hnew : X.s₀.heap.objs.size ≤ l)
    (e : s.heap.get? l = some { cls := .type "list", data := .seq its.toArray n }) (r : Vals ys its) (hz : ys.length ≤ sizeLine) : Inv X pins σ (upd H l (.lst ys)) s := by
  obtain ⟨c0, c1, c2, c3, c4, c5⟩ := f
  have neH : ∀ b u, H b = some u → b ≠ l := fun b u q z => by rw [z, c0] at q; cases q
  have ne0 : ∀ b o, X.s₀.heap.get? b = some o → b ≠ l := fun b o q => Nat.ne_of_lt (Nat.lt_of_lt_of_le (Heap.lt_size q) hnew)
  refine ⟨I.ok, I.os, I.bare, ⟨I.base.keep, I.base.slot, fun b o q n hx => ?_, I.base.there, fun b xs q => ?_, fun b o u q => ?_, fun b ps q => ?_⟩, I.loc, I.cell, ?_, fun x c q => ?_, fun p hp => ?_, fun a o q => ?_, I.len⟩
  · rw [upd_ne (ne0 b o q)]; exact I.base.free b o q n hx
  · have z := I.base.tups b xs q; rw [upd_ne (neH b _ z)]; exact z
  · have z := I.base.frzs b o u q; rw [upd_ne (neH b _ z)]; exact z
  · obtain ⟨more, z⟩ := I.base.tbls b ps q
    exact ⟨more, by rw [upd_ne (neH b _ z)]; exact z⟩
  · rw [upd_ne (Ne.symm c1)]; exact I.free
  · rw [upd_ne (c4 x c q)]; exact I.freeC x c q
  · obtain ⟨a1, a2, a3⟩ := I.pin p hp
    exact ⟨a1, by rw [upd_ne (c5 p hp)]; exact a2, a3⟩
  · by_cases ha : a = l
    · subst ha
      rw [upd_same] at q; cases q
      exact ⟨hz, its, n, r, e⟩
    · rw [upd_ne ha] at q
      exact (I.hok a o q).stay (fun _ _ _ z => z) (fun b z => by rw [upd_ne (neH b _ z)]; exact z) fun b xs z => by rw [upd_ne (neH b _ z)]; exact z
/-! ### tuples of ints compared -/
theorem lex_asym : ∀ {a b : List Int}, HT.lexLt a b = true → HT.lexLt b a = false
  | [], [], h => by cases h
  | [], _ :: _, _ => rfl
  | _ :: _, [], h => by cases h
  | x :: a, y :: b, h => by
    rw [HT.lexLt_cons] at h ⊢
    by_cases e : x = y
    · subst e
      rw [if_pos rfl] at h ⊢
      exact lex_asym h
    · rw [if_neg e] at h
      rw [if_neg (Ne.symm e)]
      have : x < y := by simpa using h
      simpa using (by walk_at "om" : ¬ y < x)
theorem lex_tr : ∀ {a b c : List Int}, HT.lexLt b a = false → HT.lexLt c b = false → HT.lexLt c a = false
  | [], [], [], _, _ => rfl
  | [], [], _ :: _, _, _ => rfl
  | [], _ :: _, [], _, h => by cases h
  | [], _ :: _, _ :: _, _, _ => rfl
  | _ :: _, [], _, h, _ => by cases h
  | _ :: _, _ :: _, [], _, h => by cases h
  | x :: a, y :: b, z :: c, h1, h2 => by
    rw [HT.lexLt_cons] at h1 h2 ⊢
    by_cases e1 : y = x
    · subst e1
      rw [if_pos rfl] at h1
      by_cases e2 : z = y
      · subst e2
        rw [if_pos rfl] at h2 ⊢
        exact lex_tr h1 h2
      · rw [if_neg e2] at h2 ⊢
        exact h2
    · rw [if_neg e1] at h1
      have h1' : ¬ y < x := by simpa using h1
      by_cases e2 : z = y
      · subst e2
        rw [if_neg e1]; exact h1
      · rw [if_neg e2] at h2
        have h2' : ¬ z < y := by simpa using h2
        rw [if_neg (by walk_at "om")]
        simpa using (by walk_at "om" : ¬ z < x)
section
variable {prog : Program} {w : World} {A : Around} {E : Value → Shared → Prop} {s : Shared}
theorem eqb_int {a b : Int} {t u : Tok} {Q : Bool → Shared → Prop} (h : Q (a == b) s) : wpAny (model prog w) A (eqBool (.int a t) (.int b u)) Q E s := SeqAt.EqAt.int_int a t b u prog w E Q h
theorem lex_run {b fin : Bool} {Q : Bool → Shared → Prop} : ∀ {ns ms : List Int} {us ws : List Value} {i : Nat}, IntsAre us ns → IntsAre ws ms → fin = decide (ns.length < ms.length) → Q (HT.lexLt ns ms) s → PySem.W.KatLex prog w A b fin Q (us.zip ws) i s := by
  intro ns
  induction ns with
  | nil =>
    intro ms us ws i r q e h
    cases r
    cases q with
    | nil => subst e; exact h
    | cons => subst e; exact h
  | cons n ns ih =>
    intro ms us ws i r q e h
    cases r with
    | cons _ t r =>
      cases q with
      | nil => subst e; exact h
      | cons m t' q =>
        rw [List.zip_cons_cons]
        refine PySem.W.kat_cons (eqb_int (PySem.W.kat_go (fun hh => PySem.W.kat_yes ?_) fun hh => PySem.W.kat_no ?_))
        · have e1 : n = m := by simpa using hh
          subst e1
          rw [HT.lexLt_cons, if_pos rfl] at h
          exact ih r q (by subst e; simp) h
        · have e1 : n ≠ m := by simpa using hh
          rw [HT.lexLt_cons, if_neg e1] at h
          cases (b && i == 0) with
          | true => exact oneLt_int h
          | false => exact PySem.W.kat_one _ _ (lt_int h)
end
def keyGo (sp : Sp) : List V → List V → Hp → (List V → Hp → Prop) → Prop
  | [], ks, H, Q => Q ks H
  | x :: r, ks, H, Q => sp [x] H (fun k H1 => keyGo sp r (ks ++ [k]) H1 Q) E0
/-- the keys are tuples of these ints -/
def KeyT (K : PySem.W.Frag) (H : Hp) : List V → List (List Int) → Prop
  | [], [] => True
  | k :: ks, n :: ns => (∃ p, k = .ref p ∧ SqT K H p (n.map V.int) ∧ n ≠ []) ∧ KeyT K H ks ns
  | _, _ => False
theorem KeyT.len {K : PySem.W.Frag} {H : Hp} : ∀ {ks : List V} {ns : List (List Int)}, KeyT K H ks ns → ks.length = ns.length
  | [], [], _ => rfl
  | _ :: _, _ :: _, h => by simp [KeyT.len h.2]
  | [], _ :: _, h => h.elim
  | _ :: _, [], h => h.elim
theorem KeyT.same {K : PySem.W.Frag} {H H1 : Hp} (e : Same H H1) : ∀ {ks : List V} {ns : List (List Int)}, KeyT K H ks ns → KeyT K H1 ks ns
  | [], [], _ => trivial
  | _ :: _, _ :: _, h => by
    obtain ⟨⟨p, a, b, c⟩, d⟩ := h
    exact ⟨⟨p, a, same_tup e b, c⟩, KeyT.same e d⟩
  | [], _ :: _, h => h.elim
  | _ :: _, [], h => h.elim
theorem KeyT.snoc {K : PySem.W.Frag} {H : Hp} {p : Addr} {n : List Int} (hp : SqT K H p (n.map V.int)) (hn : n ≠ []) : ∀ {ks : List V} {ns : List (List Int)}, KeyT K H ks ns → KeyT K H (ks ++ [.ref p]) (ns ++ [n])
  | [], [], _ => ⟨⟨p, rfl, hp, hn⟩, trivial⟩
  | _ :: _, _ :: _, h => ⟨h.1, KeyT.snoc hp hn h.2⟩
  | [], _ :: _, h => h.elim
  | _ :: _, [], h => h.elim
theorem KeyT.get {K : PySem.W.Frag} {H : Hp} : ∀ {ks : List V} {ns : List (List Int)} {i : Nat} {k : V}, KeyT K H ks ns → ks[i]? = some k → ∃ p, k = .ref p ∧ SqT K H p ((ns.getD i []).map V.int)
  | [], [], _, _, _, e => by simp at e
  | k :: _, n :: _, 0, _, h, e => by
    simp at e; subst e
    obtain ⟨⟨p, a, b, _⟩, _⟩ := h
    exact ⟨p, a, b⟩
  | _ :: _, _ :: _, i + 1, _, h, e => by
    have := KeyT.get (i := i) h.2 (by simpa using e)
    simpa using this
  | [], _ :: _, _, _, h, _ => h.elim
  | _ :: _, [], _, _, h, _ => h.elim
section
variable {X : Cx} {pins : List (Addr × Obj)} {σ : L2.St} {H : Hp} {s : Shared}
theorem KeyT.tups (I : Inv X pins σ H s) : ∀ {ks : List V} {ns : List (List Int)} {us : List Value}, KeyT X.K H ks ns → Vals ks us → ∃ fs, PySem.W.KatTups s.heap us fs ∧ fs.length = us.length ∧ ∀ v ∈ fs, ∃ i t, v = .int i t
  | [], [], _, _, .nil => ⟨[], trivial, rfl, fun _ z => (nomatch z)⟩
  | k :: ks, n :: ns, _, h, .cons r rs => by
    obtain ⟨⟨p, rfl, hp, hn⟩, h⟩ := h
    cases r
    obtain ⟨fs, a, b, c⟩ := KeyT.tups I h rs
    obtain ⟨its, rv, ⟨o, ho, hc, m, hd⟩, _⟩ := I.tuple hp
    cases n with
    | nil => exact absurd rfl hn
    | cons z zs =>
      cases rv with
      | cons r1 r2 =>
        obtain ⟨t, rfl⟩ := r1
        refine ⟨.int z t :: fs, PySem.W.KatTups.cons ho hc hd (by simp) a, by simp [b], fun v hv => ?_⟩
        rcases List.mem_cons.mp hv with rfl | hv
        · exact ⟨_, _, rfl⟩
        · exact c v hv
  | [], _ :: _, _, h, _ => h.elim
  | _ :: _, [], _, h, _ => h.elim
def ltK (kis : List (List Int)) (i j : Nat) : Bool := HT.lexLt (kis.getD i []) (kis.getD j [])
theorem ltK_ord (kis : List (List Int)) : Ord (ltK kis) := ⟨fun h => lex_asym h, fun h1 h2 => lex_tr h1 h2⟩
/-- a list in the order of its keys -/
def sortL {α : Type} (kis : List (List Int)) (d : α) (as : List α) : List α := (sortIx (ltK kis) as.length).toList.map fun i => as.getD i d
theorem sortL_perm {α : Type} {kis : List (List Int)} {d : α} {as : List α} : (sortL kis d as).Perm as := by
  have h := (sortIx_ok (n := as.length) (ltK_ord kis)).1
  have q := h.map (fun i => as.getD i d)
  have self : (List.range as.length).map (fun i => as.getD i d) = as := by
    apply List.ext_getElem
    · simp
    · intro i h1 h2
      simp [List.getD_eq_getElem?_getD, h2]
  rw [self] at q
  exact q
theorem sortL_length {α : Type} {kis : List (List Int)} {d : α} {as : List α} : (sortL kis d as).length = as.length := sortL_perm.length_eq
theorem sortL_sorted {α : Type} {kis : List (List Int)} {d : α} {as : List α} {f : α → List Int} (hk : kis = as.map f) : (sortL kis d as).Pairwise (fun a b => HT.lexLt (f b) (f a) = false) := by
  obtain ⟨hp, hs⟩ := sortIx_ok (n := as.length) (ltK_ord kis)
  have sz := hp.size
  unfold sortL
  rw [List.pairwise_map]
  refine List.pairwise_iff_getElem.mpr fun i j hi hj hij => ?_
  have hi' : i < (sortIx (ltK kis) as.length).size := by simpa using hi
  have hj' : j < (sortIx (ltK kis) as.length).size := by simpa using hj
  have q := hs i j (by omega) (by omega)
  have e1 : (sortIx (ltK kis) as.length).getD i 0 = (sortIx (ltK kis) as.length)[i] := by simp [Array.getD, hi']
  have e2 : (sortIx (ltK kis) as.length).getD j 0 = (sortIx (ltK kis) as.length)[j] := by simp [Array.getD, hj']
  have l1 := Prm.below hp (i := i) (by omega)
  have l2 := Prm.below hp (i := j) (by omega)
  rw [e1, e2] at q
  rw [e1] at l1
  rw [e2] at l2
  have q2 : HT.lexLt (kis.getD (sortIx (ltK kis) as.length)[j] []) (kis.getD (sortIx (ltK kis) as.length)[i] []) = false := q
  have g : ∀ k, k < as.length → kis.getD k [] = f (as.getD k d) := fun k hk' => by
    subst hk
    simp [List.getD_eq_getElem?_getD, hk']
  simp only [Array.getElem_toList]
  rw [g _ l1, g _ l2] at q2
  exact q2
theorem sortL_map {α β : Type} {kis : List (List Int)} {d : α} {f : α → β} {as : List α} : sortL kis (f d) (as.map f) = (sortL kis d as).map f := by
  unfold sortL
  rw [List.map_map, List.length_map]
  refine List.map_congr_left fun i hi => ?_
  simp [List.getD_eq_getElem?_getD]
theorem sortL_vals {xs : List V} {vs : List Value} {kis : List (List Int)} (r : Vals xs vs) : Vals (sortL kis .non xs) ((sortIx (ltK kis) xs.length).toList.map fun i => vs.getD i Value.none) := by
  have hp := (sortIx_ok (n := xs.length) (ltK_ord kis)).1
  have gen : ∀ l : List Nat, (∀ i ∈ l, i < xs.length) → Vals (l.map fun i => xs.getD i .non) (l.map fun i => vs.getD i Value.none) := by
    intro l
    induction l with
    | nil => intro _; exact .nil
    | cons i l ih =>
      intro h
      have hi := h i (.head _)
      refine .cons ?_ (ih fun j hj => h j (.tail _ hj))
      have e : xs[i]? = some xs[i] := List.getElem?_eq_getElem hi
      obtain ⟨u, eu, ru⟩ := r.get e
      show RelV (xs.getD i .non) (vs.getD i Value.none)
      rw [List.getD_eq_getElem?_getD, List.getD_eq_getElem?_getD, eu, e]
      exact ru
  exact gen _ fun i hi => by simpa using hp.mem_iff.mp hi
end
section
variable {X : Cx} {pins : List (Addr × Obj)} {σ : L2.St} {H : Hp} {s : Shared} {CX : CXT} {k : Nat} {fa a : Addr} {fd : FuncData} {y : Str} {sp : Sp} {xs : List V} {Q : VK}
/-- the keys are reckoned, one after the other; they lie at kS -/
theorem keys_loop {A' : Around} {E : Value → Shared → Prop} {kS : Addr} {body : Value → PUnit → Sem (ForInStep PUnit)} {Qk : List V → Hp → Prop} {pl : List (Addr × Obj)}
    (F : FnOk X.prog X.w X.K X.mg X.base CX k fa fd [y] sp) (hCX : ∀ outer H s e s', ¬ CX outer H s E0 e s') (hr : Room k A') (hA : A'.frames = X.A.frames) (hb : Binds X.K fd [y] [])
    (k1 : kS ≠ X.env.locals) (k2 : kS ∉ X.fs) (k3 : kS ∈ X.ex ∨ X.s₀.heap.objs.size ≤ kS) (k4 : ∀ x c, X.env.cells.lookup x = some c → c ≠ kS) (k5 : ∀ p ∈ X.pn ++ pl, p.1 ≠ kS)
    (hbody : ∀ (u : Value) (s : Shared) (kvs : List Value) (c : Nat) (C : Value → Shared → Prop), kvs.length < 64 → wpAny (model X.prog X.w) A' (call (.ref fa) [u]) (fun v s' => s'.heap.get? kS = some { cls := .type "list", data := .seq kvs.toArray c } ∧ C v { s' with heap := s'.heap.update kS (Obj.mapSeq (·.push v)) }) (fun _ _ => False) s →
      wpAny (model X.prog X.w) A' (body u ⟨⟩) (fun r s' => r = .yield ⟨⟩ ∧ ∃ v, C v s') E s) :
    ∀ (r ks : List V) (rvs kvs : List Value) (c : Nat) (H : Hp) (s : Shared), ks.length + r.length < 64 → Inv X (pl ++ [(kS, { cls := .type "list", data := .seq kvs.toArray c })]) σ H s → Vals ks kvs → Vals r rvs → keyGo sp r ks H Qk →
      wpAny (model X.prog X.w) A' (forIn rvs PUnit.unit body) (fun _ s' => ∃ ks' kvs' H' c', Inv X (pl ++ [(kS, { cls := .type "list", data := .seq (kvs' : List Value).toArray c' })]) σ H' s' ∧ Vals ks' kvs' ∧ ks'.length = ks.length + r.length ∧ Qk ks' H') E s
  | [], ks, _, kvs, c, H, s, hl, I, rk, .nil, h => by
    rw [List.forIn_nil]
    exact wpAny_pure ⟨ks, kvs, H, c, I, rk, by simp, h⟩
  | x :: r, ks, _, kvs, c, H, s, hl, I, rk, .cons (b := u) rx rr, h => by
    rw [List.length_cons] at hl
    rw [List.forIn_cons]
    have hkv := rk.length
    have h' : sp [x] H (fun k H1 => keyGo sp r (ks ++ [k]) H1 Qk) E0 := h
    have e0 : Env0 X.prog X.w X.K X.mg X.base A' X.stack s H := ⟨hA.trans I.env0.frames, I.env0.mod, I.env0.bs, I.env0.bsz, I.env0.funs, I.env0.frf, I.env0.hok, I.env0.bare⟩
    refine wpAny_bind (wpAny_mono (hbody u s kvs c (fun v s' => ∃ z H' c', Inv X (pl ++ [(kS, { cls := .type "list", data := .seq (kvs ++ [v]).toArray c' })]) σ H' s' ∧ RelV z v ∧ keyGo sp r (ks ++ [z]) H' Qk) (by walk_at "om") ?_) (fun q s' hq => ?_) fun _ _ z => z)
    · refine wpAny_call (codeAny_mono (F.run A' X.stack s H ⟨[u], []⟩ [u] [x] _ E0 hr e0 (hb s [u] I.kIn rfl) (.cons rx .nil) h') fun res s' hq => ?_)
      cases res with
      | error e => exact absurd hq (hCX _ _ _ _ _)
      | ok fl =>
        cases fl with
        | ret v =>
          obtain ⟨z, H', I', rz, qz⟩ := I.after hq
          have pk := I'.pin (kS, { cls := .type "list", data := .seq kvs.toArray c }) (List.mem_append_right _ (List.mem_append_right _ (List.mem_singleton.mpr rfl)))
          obtain ⟨c2, o2⟩ : ∃ c2, (s'.heap.update kS (Obj.mapSeq (·.push v))).get? kS = some { cls := .type "list", data := .seq (kvs ++ [v]).toArray c2 } := ⟨_, by rw [← List.push_toArray]; exact PySem.IsL.update pk.1 (fun a => a.push v)⟩
          have I2 : Inv X pl σ H' { s' with heap := s'.heap.update kS (Obj.mapSeq (·.push v)) } := I'.unpinned.turned (it := kS) (fun b o hb e => (Heap.get?_update_other _ _ (Ne.symm hb)).trans e) pk.2.1 k1 k3 k4 k5
          refine ⟨pk.1, z, H', c2, I2.pins_of fun p hp => ?_, rz, qz⟩
          rcases List.mem_append.mp hp with hp | hp
          · exact I2.pin p (List.mem_append_right _ hp)
          · have : p = _ := List.mem_singleton.mp hp
            subst this
            exact ⟨o2, pk.2.1, k1, k2, fun v z => nomatch z⟩
        | next => exact hq.elim
        | brk => exact hq.elim
        | cont => exact hq.elim
    · obtain ⟨rfl, v, z, H', c', I2, rz, qz⟩ := hq
      show wpAny _ _ (forIn _ PUnit.unit body) _ _ s'
      refine wpAny_mono (keys_loop F hCX hr hA hb k1 k2 k3 k4 k5 hbody r (ks ++ [z]) _ (kvs ++ [v]) c' H' s' (by rw [List.length_append, List.length_singleton]; walk_at "om") I2 (rk.append (.cons rz .nil)) rr qz) (fun _ s3 ⟨ks', kvs', H3, c3, I3, r3, l3, q3⟩ => ⟨ks', kvs', H3, c3, I3, r3, ?_, q3⟩) fun _ _ z => z
      rw [l3, List.length_append, List.length_singleton, List.length_cons]; walk_at "om"
theorem sortedK_ok (I : Inv X pins σ H s) (hS : SqL X.K H a xs) (h64 : xs.length < 64) (F : FnOk X.prog X.w X.K X.mg X.base CX k fa fd [y] sp) (hCX : ∀ outer H s e s', ¬ CX outer H s E0 e s') (hr : Room (k + 2) X.A) (hb : Binds X.K fd [y] [])
    (h : keyGo sp xs [] H fun ks H2 => ∃ kis, KeyT X.K H2 ks kis ∧ ∀ l, H2 l = none → Q (.ref l) (upd H2 l (.lst (sortL kis .non xs)))) :
    wpAny (model X.prog X.w) X.A (call (.builtin "sorted") [.ref a] [(Str.ofString "key", .ref fa)]) (EP X pins σ Q) X.xe s := by
  obtain ⟨its, rv, ⟨o, n, ho, hcl, hdc, hdt⟩, hlen⟩ := I.list hS
  have hl : s.heap.IsList a its.toArray := ⟨o, ho, hcl, n, hdt⟩
  have len : its.length = xs.length := rv.length.symm
  refine call_function_entry_kw kind_sorted plain_sorted entry_sorted (ksk_s1 _ _) ?_
  unfold Builtin.«sorted»
  refine wpAny_bind (m := checkCount "sorted" 1 1 _) (wpAny_pure ?_)
  refine wpAny_bind (collect_list hl ?_ (by rw [sizeLine_eq]; walk_at "om"))
  refine wpAny_bind (wpAny_newList ?_ (by rw [sizeLine_eq]; walk_at "om"))
  have sz0 : ((s.heap.push (seqObj "list" #[] 0)).update s.heap.objs.size (Obj.mapSeq (· ++ its.toArray))).objs.size = s.heap.objs.size + 1 := by rw [Heap.size_update, Heap.size_push]
  have keep0 : ∀ b o, s.heap.get? b = some o → ((s.heap.push (seqObj "list" #[] 0)).update s.heap.objs.size (Obj.mapSeq (· ++ its.toArray))).get? b = some o := fun b o e => by
    have := Heap.lt_size e
    exact (Heap.get?_update_other _ _ (by walk_at "om")).trans (Heap.get?_push_of_some _ e)
  generalize ((s.heap.push (seqObj "list" #[] 0)).update s.heap.objs.size (Obj.mapSeq (· ++ its.toArray))) = h0 at sz0 keep0 ⊢
  have oL : (h0.push (seqObj "list" its.toArray 0)).get? h0.objs.size = some (seqObj "list" its.toArray 0) := Heap.get?_push_size _ rfl
  have keep1 : ∀ b o, s.heap.get? b = some o → b ≠ h0.objs.size ∧ (h0.push (seqObj "list" its.toArray 0)).get? b = some o := fun b o e => by
    have := Heap.lt_size e
    exact ⟨by walk_at "om", Heap.get?_push_of_some _ (keep0 b o e)⟩
  have sz1 : (h0.push (seqObj "list" its.toArray 0)).objs.size = s.heap.objs.size + 2 := by rw [Heap.size_push, sz0]
  have hle : s.heap.objs.size ≤ h0.objs.size := by walk_at "om"
  show wpAny _ X.A.in1 (holding [.ref h0.objs.size] (call (.builtin "list.sort") [.ref h0.objs.size] [(Str.ofString "key", .ref fa)]) >>= _) _ _ { s with heap := h0.push (seqObj "list" its.toArray 0) }
  generalize h0.push (seqObj "list" its.toArray 0) = h1 at oL keep1 sz1 ⊢
  generalize h0.objs.size = l at oL keep1 sz1 hle ⊢
  refine wpAny_bind (wpAny_holding (wpAny_call_entry_kw slot_list_sort ⟨_, oL, rfl⟩ entry_list_sort ?body (ksk_l1 _ _)))
  case body =>
    show wpAny (model X.prog X.w) X.A.in1.in1 (Builtin.«list.sort» ⟨[.ref l], [(Str.ofString "key", .ref fa)]⟩) _ _ _
    rw [ksk_t1]
    unfold ksk_tree
    refine wpAny_bind (listItems_at oL rfl ?_)
    refine wpAny_bind (listUpdate_at oL rfl ?_ (by rw [List.size_toArray, sizeLine_eq]; walk_at "om") (Nat.zero_le _))
    obtain ⟨e1, oL1⟩ : ∃ e1, (h1.update l (Obj.mapSeq fun _ => (#[] : Array Value))).get? l = some (seqObj "list" #[] e1) := ⟨_, get?_update_seq oL fun _ => #[]⟩
    refine wpAny_bind (seqEpoch_at oL1 rfl ?_)
    have keep2 : ∀ b o, s.heap.get? b = some o → b ≠ l ∧ (h1.update l (Obj.mapSeq fun _ => (#[] : Array Value))).get? b = some o := fun b o e => ⟨(keep1 b o e).1, (Heap.get?_update_other _ _ (Ne.symm (keep1 b o e).1)).trans (keep1 b o e).2⟩
    have sz2 : (h1.update l (Obj.mapSeq fun _ => (#[] : Array Value))).objs.size = s.heap.objs.size + 2 := by rw [Heap.size_update, sz1]
    show wpAny _ _ _ _ _ { s with heap := h1.update l (Obj.mapSeq fun _ => (#[] : Array Value)) }
    generalize h1.update l (Obj.mapSeq fun _ => (#[] : Array Value)) = h2 at oL1 keep2 sz2 ⊢
    refine wpAny_bind (wpAny_newTuple ?_ (by show its.length ≤ _; rw [sizeLine_eq]; walk_at "om"))
    refine wpAny_bind (wpAny_newList ?_ (Nat.zero_le _))
    refine wpAny_holding ?_
    show wpAny _ _ (ksk_rest l (.ref fa) false its.toArray e1 (.ref (h2.push (seqObj "tuple" its.toArray 0)).objs.size)) _ _ { s with heap := (h2.push (seqObj "tuple" its.toArray 0)).push (seqObj "list" #[] 0) }
    have keep4 : ∀ b o, h2.get? b = some o → ((h2.push (seqObj "tuple" its.toArray 0)).push (seqObj "list" #[] 0)).get? b = some o := fun b o e => Heap.get?_push_of_some _ (Heap.get?_push_of_some _ e)
    have oK : ((h2.push (seqObj "tuple" its.toArray 0)).push (seqObj "list" #[] 0)).get? (h2.push (seqObj "tuple" its.toArray 0)).objs.size = some (seqObj "list" #[] 0) := Heap.get?_push_size _ rfl
    have szK : (h2.push (seqObj "tuple" its.toArray 0)).objs.size = s.heap.objs.size + 3 := by rw [Heap.size_push, sz2]
    generalize (h2.push (seqObj "tuple" its.toArray 0)).push (seqObj "list" #[] 0) = h4 at keep4 oK ⊢
    generalize (h2.push (seqObj "tuple" its.toArray 0)).objs.size = kS at szK oK ⊢
    have lL : l < s.heap.objs.size + 2 := by rw [← sz2]; exact Heap.lt_size oL1
    have I4 : Inv X pins σ H { s with heap := h4 } := I.kept (t' := s.toks) fun b o e => keep4 b o (keep2 b o e).2
    have fl := I.fpOk (H' := H) hle (I.hok.fresh hle)
    have fk := I.fpOk (b := kS) (H' := H) (by walk_at "om") (I.hok.fresh (by walk_at "om"))
    have nlk : l ≠ kS := by walk_at "om"
    have s0l : X.s₀.heap.objs.size ≤ l := Nat.le_trans I.sz hle
    have I5 : Inv X ((pins ++ [(l, seqObj "list" #[] e1)]) ++ [(kS, { cls := .type "list", data := .seq ([] : List Value).toArray 0 })]) σ H { s with heap := h4 } := I4.pins_of fun p hp => by
      rcases List.mem_append.mp hp with hp | hp
      · rcases List.mem_append.mp hp with hp | hp
        · exact I4.pin p (List.mem_append_right _ hp)
        · have : p = _ := List.mem_singleton.mp hp
          subst this
          exact ⟨keep4 _ _ oL1, fl.1, fl.2.1, fl.2.2.1, fun v z => nomatch z⟩
      · have : p = _ := List.mem_singleton.mp hp
        subst this
        exact ⟨oK, fk.1, fk.2.1, fk.2.2.1, fun v z => nomatch z⟩
    unfold ksk_rest
    refine wpAny_bind (wpAny_rule ?_)
    rw [← Array.forIn_toList]
    refine wpAny_bind (wpAny_mono (keys_loop (A' := X.A.in1.in1) (kS := kS) (pl := pins ++ [(l, seqObj "list" #[] e1)]) F hCX (hr.in1.in1) rfl hb fk.2.1 fk.2.2.1 fk.2.2.2.1 fk.2.2.2.2.1 (fun p hp => ?_) (fun u s' kvs c C hz hx => ?_) xs [] its [] 0 H _ (by simpa using h64) I5 .nil rv h) (fun _ s6 h6 => ?_) fun _ _ z => z)
    · rw [← List.append_assoc] at hp
      rcases List.mem_append.mp hp with hp | hp
      · exact fk.2.2.2.2.2 p hp
      · have : p = _ := List.mem_singleton.mp hp
        subst this
        exact nlk
    · refine wpAny_bind (wpAny_attempt (wpAny_mono hx (fun v s2 hv => ?_) fun _ _ z => z.elim))
      dsimp only
      refine wpAny_bind (listUpdate_at hv.1 rfl ?_ (by rw [List.size_toArray, sizeLine_eq]; walk_at "om") (Nat.le_trans (Nat.le_of_eq (Array.size_push ..)) (by rw [List.size_toArray, sizeLine_eq]; walk_at "om")))
      exact wpAny_pure ⟨rfl, v, hv.2⟩
    · obtain ⟨ks, kvs, H6, c6, I6, r6, l6, kis, hK, q6⟩ := h6
      have lk : kvs.length = its.length := by rw [← r6.length, l6]; simp [len]
      have lkk : kis.length = xs.length := by rw [← hK.len, l6]; simp
      have pk := I6.pin (kS, { cls := .type "list", data := .seq kvs.toArray c6 }) (List.mem_append_right _ (List.mem_append_right _ (List.mem_singleton.mpr rfl)))
      have pl := I6.pin (l, seqObj "list" #[] e1) (List.mem_append_right _ (List.mem_append_left _ (List.mem_append_right _ (List.mem_singleton.mpr rfl))))
      refine wpAny_bind (listItems_at pk.1 rfl ?_)
      -- the end, for any order
      have tail : ∀ (st : SortSt) (out : List Value), (arrOf st).map (·.2) = List.toArray out → failedOf st = none → Vals (sortL kis .non xs) out →
          wpAny (model X.prog X.w) X.A.in1.in1 (ksk_tail l false e1 (.ref kS) st) (fun fin s' => ∃ v, fin = .done (.ret v) ∧ EP X pins σ Q (.ref l) s') (fun e s' => X.xe e s') s6 := fun st out e0 ef hv => by
        have lo : out.length = xs.length := by rw [← hv.length, sortL_length]
        unfold ksk_tail
        dsimp only
        rw [e0]
        refine wpAny_bind (listUpdate_at pk.1 rfl ?_ (by rw [List.size_toArray, sizeLine_eq]; walk_at "om") (Nat.zero_le _))
        refine wpAny_bind (wpAny_letGo ?_)
        have oL7 : (s6.heap.update kS (Obj.mapSeq fun _ => (#[] : Array Value))).get? l = some (seqObj "list" #[] e1) := (Heap.get?_update_other _ _ (Ne.symm nlk)).trans pl.1
        refine wpAny_bind (seqEpoch_at oL7 rfl ?_)
        refine wpAny_bind (listUpdate_at oL7 rfl ?_ (Nat.zero_le _) (by show (List.toArray out).size ≤ _; rw [List.size_toArray, sizeLine_eq]; walk_at "om"))
        rw [ef]
        simp only [bne_self_eq_false, Bool.false_eq_true, if_false]
        refine wpAny_pure ⟨_, rfl, .ref l, upd H6 l (.lst (sortL kis .non xs)), ?_, rfl, q6 l pl.2.1⟩
        have I7 : Inv X pins σ H6 { s6 with heap := s6.heap.update kS (Obj.mapSeq fun _ => (#[] : Array Value)) } := (I6.unpinned.unpinned).turned (it := kS) (fun b o hb e => (Heap.get?_update_other _ _ (Ne.symm hb)).trans e) pk.2.1 fk.2.1 fk.2.2.2.1 fk.2.2.2.2.1 fk.2.2.2.2.2
        have I8 : Inv X pins σ H6 { s6 with heap := (s6.heap.update kS (Obj.mapSeq fun _ => (#[] : Array Value))).update l (Obj.mapSeq fun _ => List.toArray out) } := L2.Inv.turned (s := { s6 with heap := s6.heap.update kS (Obj.mapSeq fun _ => (#[] : Array Value)) }) (t' := s6.toks) (it := l) I7 (fun b o hb e => (Heap.get?_update_other _ _ (Ne.symm hb)).trans e) pl.2.1 fl.2.1 fl.2.2.2.1 fl.2.2.2.2.1 fl.2.2.2.2.2
        obtain ⟨c9, oL9⟩ : ∃ c9, ((s6.heap.update kS (Obj.mapSeq fun _ => (#[] : Array Value))).update l (Obj.mapSeq fun _ => List.toArray out)).get? l = some (seqObj "list" (List.toArray out) c9) := ⟨_, get?_update_seq oL7 fun _ => List.toArray out⟩
        exact Inv.track I8 ⟨pl.2.1, fl.2⟩ s0l oL9 hv (by rw [sortL_length]; exact hlen)
      unfold ksk_end
      dsimp only
      have fin : ∀ (st : SortSt) (out : List Value), (arrOf st).map (·.2) = List.toArray out → failedOf st = none → Vals (sortL kis .non xs) out →
          wpAny (model X.prog X.w) X.A.in1.in1 (ksk_tail l false e1 (.ref kS) st) (fun fin s' => ∃ v, fin = PySem.Fin.done (Flow.ret v) ∧ wpAny (model X.prog X.w) X.A.in1 (ret (.ref l)) (fun fin s' => ∃ v, fin = PySem.Fin.done (Flow.ret v) ∧ EP X pins σ Q v s') X.xe s') X.xe s6 := fun st out e0 ef hv =>
        thn (tail st out e0 ef hv) fun fin s' ⟨v, e, q⟩ => ⟨v, e, wpAny_pure ⟨_, rfl, q⟩⟩
      have sv := sortL_vals (kis := kis) rv
      by_cases h2 : its.toArray.size < 2
      · rw [if_neg (by decide), if_pos h2, if_pos h2]
        refine wpAny_bind (wpAny_pure ?_)
        rw [StateT.run_pure]
        refine wpAny_bind (wpAny_pure ?_)
        dsimp only
        have hl2 : xs.length < 2 := by rw [List.size_toArray] at h2; walk_at "om"
        refine fin _ _ ?_ rfl sv
        show (if false = true then (kvs.toArray.zip its.toArray).reverse else kvs.toArray.zip its.toArray).map (·.2) = _
        rw [if_neg (by decide)]
        unfold sortIx
        rw [if_pos hl2]
        apply Array.toList_inj.mp
        have self : (List.range xs.length).map (fun i => its.getD i Value.none) = its := by
          rw [← len]
          apply List.ext_getElem
          · simp
          · intro i h1 h2
            simp [List.getD_eq_getElem?_getD, h2]
        simp [List.map_snd_zip, lk]
        simpa [List.getD_eq_getElem?_getD] using self.symm
      · rw [if_neg (by decide), if_neg h2, if_neg h2, if_neg (by decide)]
        have h2' : 2 ≤ its.length := by rw [List.size_toArray] at h2; walk_at "om"
        obtain ⟨fs, ht, lf, hi⟩ := KeyT.tups I6 hK r6
        have eT : (Value.type "int" != Value.type "tuple") = true := by decide
        refine wpAny_bind (PySem.W.kat_kind (T := .type "int") ht (by walk_at "om") (fun v hv => ?_) (by decide) ?_)
        · obtain ⟨i, t, rfl⟩ := hi v hv
          exact PySem.W.Looks.now
        rw [eT]
        have ask : (PySem.W.kas_sort its.length).kasWp (PySem.W.kas_ask X.prog X.w X.A.in1.in1 (tuples' true) kvs) (fun p s' => s' = s6 ∧ p = sortIx (ltK kis) xs.length) s6 := by
          rw [len]
          have pv := kasP_is _ (sort_ok (n := xs.length) (ltK_ord kis) (by walk_at "om"))
          refine kasP_wp (lt := ltK kis) (n := xs.length) (Ok := fun s' => s' = s6) (fun i j C s' hi hj e q => ?_) (fun p s' e q => ⟨e, ?_⟩) _ s6 rfl pv
          · subst e
            have g : ∀ i, i < xs.length → ∃ p o its' m, kvs.getD i Value.none = .ref p ∧ s'.heap.get? p = some o ∧ o.data = .seq (its' : List Value).toArray m ∧ IntsAre its' (kis.getD i []) := fun i hi => by
              have hk : i < ks.length := by rw [l6]; simpa using hi
              obtain ⟨p, ep, hp⟩ := hK.get (List.getElem?_eq_getElem hk)
              obtain ⟨u, eu, ru⟩ := r6.get (List.getElem?_eq_getElem hk)
              rw [ep] at ru
              cases ru
              obtain ⟨its', rv', ⟨o, ho, _, m, hd⟩, _⟩ := I6.tuple hp
              exact ⟨p, o, its', m, by rw [List.getD_eq_getElem?_getD, eu]; rfl, ho, hd, intsAre_of rv'⟩
            obtain ⟨p1, o1, i1, m1, a1, b1, c1, d1⟩ := g i hi
            obtain ⟨p2, o2, i2, m2, a2, b2, c2, d2⟩ := g j hj
            show wpAny _ _ (keyLt' (tuples' true) (kvs.getD i Value.none) (kvs.getD j Value.none)) C _ s'
            rw [a1, a2]
            have z1 := d1.length
            have z2 := d2.length
            exact PySem.W.kat_lt b1 c1 b2 c2 (by simpa using lex_run (b := true) (i := 0) d1 d2 (by simp [z1, z2]) (q s' rfl))
          · rw [q]; unfold sortIx; rw [if_neg (by walk_at "om")]
        refine wpAny_bind (wpAny_mono (PySem.W.kat_run (κ := tuples' true) (ks := kvs) (vs := its) (Q := fun st s' => s' = s6 ∧ arrOf st = (sortIx (ltK kis) xs.length).map (PySem.W.kas_item (kvs.toArray.zip its.toArray)) ∧ failedOf st = none)
          lk h2' (by walk_at "om") (fun p st s' b1 b2 b3 b4 => ⟨b4.1, by rw [b2, b4.2], b3⟩) ask) ?_ fun _ _ z => z)
        rintro ⟨⟨⟩, st⟩ s' ⟨rfl, har, hf⟩
        exact fin st _ (PySem.W.kat_snds lk har) hf sv
/-- sorted(e, key=f) -/
def rSortK (K : PySem.W.Frag) (sp : Sp) (x : V) (H1 : Hp) (Q : VK) : Prop := ∃ (a : Addr) (xs : List V), x = .ref a ∧ SqL K H1 a xs ∧ xs.length < 64 ∧ keyGo sp xs [] H1 fun ks H2 => ∃ kis, KeyT K H2 ks kis ∧ ∀ l, H2 l = none → Q (.ref l) (upd H2 l (.lst (sortL kis .non xs)))
def tSortK (K : PySem.W.Frag) (sp : Sp) (te : TE) : TE := fun σ H Q => te σ H fun x H1 => rSortK K sp x H1 Q
theorem pe_sortedK {e : Expr} {te : TE} {f : Str} {p pf pos kp : Pos} (F : FnOk X.prog X.w X.K X.mg X.base CX k fa fd [y] sp) (hCX : ∀ outer H s e s', ¬ CX outer H s E0 e s') (hr : Room (k + 2) X.A) (hb : Binds X.K fd [y] []) (hgf : Gl X f) (hmf : X.mg f = some (.ref fa))
    (hg : Gl X "sorted") (hm : X.mg "sorted" = none) (he : PE X e te) (hdf : (f == ("__debug__" : Str)) = false := by decide)
    (hs : starEach [e] X.env = (false, eval e X.env) :: starEach [] X.env := by rfl) (hq : backTo pos (starEach [e] X.env) = (false, eval e X.env) :: backTo pos (starEach [] X.env) := by rfl) :
    PE X (.Call (.Name "sorted" p) [e] [⟨some "key", .Name f pf, kp⟩] pos) (tSortK X.K sp te) := by
  intro pins s σ H Q I h
  refine wpAny_Call_Name_kw (ld_blt I hg hm b_sorted ?_ (by decide))
  refine callWith_kw (thn ((pa_cons he pa_nil hs) pos pins s σ H (oneV fun x H1 => rSortK X.K sp x H1 Q) I h) fun us s1 ⟨vs, H1, I1, r, q⟩ => ?_) hq (by rw [hs]; rfl)
  obtain ⟨x, rfl, a, xs, rfl, hS, h64, q⟩ := oneV_ex q
  obtain ⟨u, rfl, ru⟩ := vals1 r
  cases ru
  refine kws_cons (ld_glob I1 hgf hmf (kws_nil ?_) hdf)
  exact sortedK_ok I1 hS h64 F hCX hr hb q
end
end Gz

set_option Elab.async false
set_option linter.all false
set_option maxRecDepth 100000
set_option maxHeartbeats 4000000
/-! List comprehensions: the block of its own, what it reads from around -/
namespace Gz
open PySem PySem.Spec PyProof.Rows L2
local macro_rules | `(tactic| walk_at "om") => `(tactic| ((try simp only [PySem.Addr] at *); omega))
/-- the names from around that the block reads: their slots there, their cells -/
inductive FrOk (X : Cx) (scope : Scope) (cl : List (Str × Addr)) : List Nat → List Str → Prop where
  | nil : FrOk X scope cl [] []
  | cons {j : Nat} {y : Str} {c : Addr} {js : List Nat} {ys : List Str} (hN : X.N[j]? = some y) (hk : X.env.kindOf y = some .cell) (h1 : cl.lookup y = some c) (h2 : X.env.cells.lookup y = some c) (h : FrOk X scope cl js ys) : FrOk X scope cl (j :: js) (y :: ys)
inductive ClOk (X : Cx) : List (Str × Addr) → Prop where
  | nil : ClOk X []
  | cons {n : Str} {a : Addr} {r : List (Str × Addr)} (h : X.env.cells.lookup n = some a) (t : ClOk X r) : ClOk X ((n, a) :: r)
theorem ClOk.get {X : Cx} : ∀ {cl : List (Str × Addr)}, ClOk X cl → ∀ y c, cl.lookup y = some c → X.env.cells.lookup y = some c
  | _, .nil, y, c, e => by simp at e
  | _, .cons (n := n) h t, y, c, e => by
    rw [List.lookup_cons] at e
    by_cases hy : (y == n) = true
    · rw [hy] at e
      have e1 : y = n := by simpa using hy
      cases e
      rw [e1]; exact h
    · rw [Bool.eq_false_iff.mpr hy] at e
      exact t.get y c e
theorem FrOk.get {X : Cx} {scope : Scope} {cl : List (Str × Addr)} {σ : L2.St} : ∀ {js : List Nat} {ys : List Str}, FrOk X scope cl js ys → ∀ (i : Nat) (y : Str) (v : V), ys[i]? = some y → (js.map fun j => (σ[j]?).join)[i]? = some (some v) →
    ∃ (j : Nat) (c : Addr), X.N[j]? = some y ∧ σ[j]? = some (some v) ∧ X.env.kindOf y = some .cell ∧ cl.lookup y = some c ∧ X.env.cells.lookup y = some c
  | _, _, .nil, i, y, v, e, _ => by simp at e
  | _, _, .cons (j := j) hN hk h1 h2 h, 0, y, v, e, q => by
    simp at e q
    subst e
    refine ⟨j, _, hN, ?_, hk, h1, h2⟩
    cases z : σ[j]? with
    | none => rw [z] at q; simp at q
    | some o => rw [z] at q; simp at q; rw [q]
  | _, _, .cons hN hk h1 h2 h, i + 1, y, v, e, q => by
    simp only [List.getElem?_cons_succ, List.map_cons] at e q
    exact h.get i y v e q
theorem FrOk.len {X : Cx} {scope : Scope} {cl : List (Str × Addr)} : ∀ {js : List Nat} {ys : List Str}, FrOk X scope cl js ys → js.length = ys.length
  | _, _, .nil => rfl
  | _, _, .cons _ _ _ _ h => by simp [h.len]
/-- the context of the block -/
def cxB (X : Cx) (N' : List Str) (scope : Scope) (cl : List (Str × Addr)) (C : Addr) (s2 : Shared) (H2 : Hp) (ex : List Addr) (pn : List (Addr × Obj)) : Cx :=
  { X with N := N', s₀ := s2, H₀ := H2, env := compEnvC scope cl C X.env, outer := X.stack, ex := ex, fn := fun _ => false, pn := pn, xe := fun _ _ => False }
structure CompOk (X : Cx) (x : Str) (scope : Scope) (cl : List (Str × Addr)) (fr : List Nat) (ys : List Str) : Prop where
  clos : closureFor scope X.env = pure cl
  nocell : (scope.names.all fun p => p.2 != .cell) = true
  kind : scope.kind = .function
  names : (scope.names.all fun p => p.2 != .local || scope.names.lookup p.1 == some .local) = true
  own : scope.names.lookup x = some .local
  kinds : ((relabel scope X.env).names.all fun p => (p.2 != .cell && p.2 != .free) || (cl.lookup p.1).isSome) = true
  cls : ClOk X cl
  frs : FrOk X scope cl fr ys
  nd : (x :: ys).Nodup
  kfr : (ys.all fun y => (relabel scope X.env).names.lookup y == some .cell) = true
/-- the tests of the block -/
def PTs (X : Cx) (ifs : List Expr) (t : TT) : Prop :=
  ∀ (pins : List (Addr × Obj)) (s : Shared) (σ : L2.St) (H : Hp) (Q : Bool → Hp → Prop), Inv X pins σ H s → t σ H Q →
    wpAny (model X.prog X.w) X.A (forIn ifs true fun c r => if r = true then do let ok ← isTrue c X.env (eval c X.env); pure (ForInStep.yield ok) else pure (ForInStep.yield r)) (TP X pins σ Q) X.xe s
def tAll : TT := fun _ H Q => Q true H
theorem pts_nil {X : Cx} : PTs X [] tAll := fun _ _ _ H _ I h => wpAny_tests_nil ⟨H, I, h⟩
theorem pts_one {X : Cx} {c : Expr} {t : TT} (hc : PT X c t) : PTs X [c] t := fun pins s σ H Q I h => wpAny_tests_one (hc pins s σ H Q I h)
/-- the block's reading: W by the turn, a measure, the items so far -/
def tBlk (J : It) (ρ : L2.St) (tt : TT) (te : TE) (H : Hp) (Q : VK) : Prop := ∃ W : Nat → Nat → List V → Hp → Prop, (∃ m, W 0 m [] H) ∧ ∀ i m ys H, W i m ys H →
  (J.stop i H ∧ ys.length ≤ sizeLine ∧ ∀ l, H l = none → Q (.ref l) (upd H l (.lst ys))) ∨ (J.go i H ∧ ys.length < sizeLine ∧ ∃ N : List V → Hp → Prop, (∀ zs H', N zs H' → ∃ m', m' < m ∧ W (i + 1) m' zs H') ∧
    ∀ x H', J.yld i H x H' → tt (some x :: ρ) H' fun b H1 => if b = true then te (some x :: ρ) H1 fun y H2 => N (ys ++ [y]) H2 else N ys H1)
def tComp (wi : TI) (fr : List Nat) (tt : TT) (te : TE) : TE := fun σ H Q => wi σ H fun J H1 => tBlk J (fr.map fun j => (σ[j]?).join) tt te H1 Q
section
variable {X : Cx} {pins : List (Addr × Obj)} {σ : L2.St} {H2 : Hp} {s2 : Shared} {x : Str} {px pos : Pos} {elt iter : Expr} {ifs : List Expr} {scope : Scope} {cl : List (Str × Addr)} {fr : List Nat} {ys : List Str} {tt : TT} {te : TE}
theorem look_in {l : List (Str × NameKind)} {p : Str × NameKind → Bool} (h : l.all p = true) {y : Str} {k : NameKind} (e : l.lookup y = some k) : p (y, k) = true := by
  exact List.all_eq_true.mp h _ (PySem.mem_of_lookup e)
theorem cxB_ok {C : Addr} {ex : List Addr} {pn : List (Addr × Obj)} (S : CompOk X x scope cl fr ys) (I2 : Inv X pins σ H2 s2) (f2 : ∀ b ∈ ex, FpOk X pins H2 b) (hC : s2.heap.objs.size ≤ C) (hex : ∀ b ∈ ex, b < s2.heap.objs.size) : (cxB X (x :: ys) scope cl C s2 H2 ex pn).Ok := by
  refine ⟨I2.ok.mod, S.kind, I2.ok.glob, I2.ok.blt, hC, fun a b c h1 h2 => ?_, fun y hy => ?_, fun _ _ z => (nomatch z), I2.ok.hd, I2.ok.frames, .inl rfl, fun b hb => ⟨?_, fun y c e z => ?_⟩, I2.bs, Nat.le_trans I2.ok.bsz I2.sz, fun b o e hb => ?_, fun b hb z => ?_, I2.stack, I2.stkFree⟩
  · exact I2.ok.inj a b c (S.cls.get a c h1) (S.cls.get b c h2)
  · have hy' : (relabel scope X.env).names.lookup y = some .cell ∨ (relabel scope X.env).names.lookup y = some .free := hy
    have q : (cl.lookup y).isSome = true := by
      rcases hy' with e | e
      · simpa using look_in S.kinds e
      · simpa using look_in S.kinds e
    exact Option.isSome_iff_exists.mp q
  · exact Nat.ne_of_lt (Nat.lt_of_lt_of_le (hex b hb) hC)
  · exact (f2 b hb).2.2.2.2.1 y c (S.cls.get y c e) z
  · obtain ⟨_, _, _, d, _, _⟩ := f2 b hb
    rcases d with d | d
    · exact I2.ok.noex b o e d
    · exact absurd (Nat.lt_of_lt_of_le (Heap.lt_size e) (Nat.le_trans I2.ok.bsz d)) (Nat.lt_irrefl _)
  · obtain ⟨_, d1, d2, _⟩ := f2 b hb
    rcases List.mem_cons.mp (I2.stkSub b z) with q | q
    · exact d1 q
    · exact d2 q

theorem comp_block {J : It} {fp : List Addr} {it : Addr} {tn : Nat → Heap → Prop} {E : Value → Shared → Prop} {Q : VK} {RR : Value → Addr → Result → Shared → Prop}
    (S : CompOk X x scope cl fr ys) (hc : X.calm = true)
    (hb : ∀ (C : Addr) (s : Shared) (H : Hp) (ex : List Addr) (pn : List (Addr × Obj)), PTs (cxB X (x :: ys) scope cl C s H ex pn) ifs tt ∧ PE (cxB X (x :: ys) scope cl C s H ex pn) elt te)
    (I2 : Inv X pins σ H2 s2) (T : Turn X.prog X.w X.K (.Name x px) J fp it tn) (st2 : tn 0 s2.heap) (f2 : ∀ b ∈ fp, FpOk X pins H2 b)
    (h : tBlk J (fr.map fun j => (σ[j]?).join) tt te H2 Q)
    (hRR : ∀ D C s' H', Inv X pins σ H' s' → (∃ m, s'.heap.Ns C m) → FpOk X pins H' C → Q (.ref D) H' → RR (.ref D) C (.ok .next) s') :
    wpAny (model X.prog X.w) X.A (newList []) (fun acc s3 => wpAny (model X.prog X.w) X.A (newFunctionEnv scope X.env.globals cl [] X.env.qual none .none (some X.env)) (fun cenv s4 =>
      codeAny (model X.prog X.w) X.A (.compStart (.ListComp elt [⟨.Name x px, iter, ifs, 0⟩] scope pos) 0 (.ref it) acc { cenv with scope := relabel scope X.env }) (RR acc cenv.locals) s4) E s3) E s2 := by
  obtain ⟨W, ⟨m0, w0⟩, turn⟩ := h
  refine wpAny_newObj_type (wpAny_newFunctionEnv (fun y hy => by simpa using List.all_eq_true.mp S.nocell y hy) (fun y hy => absurd hy (by simp)) (fun h1 hns hsb => ?_) S.kind)
  dsimp only at hns hsb ⊢
  generalize eP : s2.heap.push { cls := .type "list", dict := none, data := .seq ([] : List Value).toArray } = P2 at hns hsb ⊢
  have sz : P2.objs.size = s2.heap.objs.size + 1 := by rw [← eP, Heap.size_push]
  have hDC : s2.heap.objs.size ≠ P2.objs.size := by walk_at "om"
  have keep : ∀ b o, s2.heap.get? b = some o → h1.get? b = some o := fun b o e => by
    have lt := Heap.lt_size e
    exact hsb.extBut b o (by walk_at "om") (Heap.get?_push_of_some _ (eP ▸ Heap.get?_push_of_some _ e))
  have hD : h1.get? s2.heap.objs.size = some { cls := .type "list", data := .seq ([] : List Value).toArray 0 } :=
    hsb.extBut _ _ hDC (Heap.get?_push_of_some _ (eP ▸ Heap.get?_push_size _ rfl))
  have hfp : ∀ b ∈ fp, b < s2.heap.objs.size := fun b hb => by
    obtain ⟨o, e, _⟩ := T.obj 0 _ st2 b hb
    exact Heap.lt_size e
  have noStk : ∀ b, s2.heap.objs.size ≤ b → b ∉ frs X.stack := fun b hle z => by
    rcases List.mem_cons.mp (I2.stkSub b z) with q | q
    · have := I2.lt; walk_at "om"
    · exact I2.nofs hle q
  generalize eC : P2.objs.size = C at hns hsb hDC ⊢
  generalize eD : s2.heap.objs.size = D at hDC hD hfp noStk
  have hCle : s2.heap.objs.size ≤ C := by walk_at "om"
  have hDle : s2.heap.objs.size ≤ D := by walk_at "om"
  have ok' : (cxB X (x :: ys) scope cl C s2 H2 fp (X.pn ++ pins)).Ok := cxB_ok S I2 f2 hCle (fun b hb => by have := hfp b hb; walk_at "om")
  have pinsOk : ∀ p ∈ X.pn ++ pins, p.1 ≠ C ∧ p.1 ≠ D ∧ p.1 ∉ frs X.stack ∧ ∀ b ∈ fp, p.1 ≠ b := fun p hp => by
    obtain ⟨e, n, nL, nf, _⟩ := I2.pin p hp
    have lt := Heap.lt_size e
    refine ⟨by walk_at "om", by walk_at "om", fun z => ?_, fun b hb => (f2 b hb).2.2.2.2.2 p hp⟩
    rcases List.mem_cons.mp (I2.stkSub _ z) with q | q
    · exact nL q
    · exact nf q
  have I4 : Inv (cxB X (x :: ys) scope cl C s2 H2 fp (X.pn ++ pins)) [] (none :: fr.map fun j => (σ[j]?).join) H2 { s2 with heap := h1, toks := s2.toks + ([] : List (Str × Value)).length } := by
    refine ⟨ok', rfl, I2.bare, Un.kept keep, ⟨_, hns, fun i y v e1 e2 e3 => ?_⟩, fun y c e => ?_, I2.hok.fresh hCle, fun y c e => I2.freeC y c (S.cls.get y c e), fun p hp => ?_, I2.hok.kept keep, ?_⟩
    · cases i with
      | zero => simp at e2
      | succ i =>
        simp only [List.getElem?_cons_succ] at e1 e2
        have e1' : ys[i]? = some y := e1
        obtain ⟨j, c, hN, hσ, hk, hc1, hc2⟩ := S.frs.get i y v e1' e2
        obtain ⟨m, hm, hl⟩ := I2.loc
        obtain ⟨u, ru, lu⟩ := hl j y v hN hσ (.inr (.inl hk))
        refine ⟨u, ru, .inr ⟨.inl ?_, c, hc1, ?_⟩⟩
        · have z := List.all_eq_true.mp S.kfr y (List.mem_of_getElem? e1')
          exact (by simpa using z : (relabel scope X.env).names.lookup y = some .cell)
        · rcases lu with ⟨z, _⟩ | ⟨_, c', e', q'⟩
          · rw [hk] at z; cases z
          · rw [hc2] at e'; cases e'
            obtain ⟨o, ho, hd⟩ := q'
            exact ⟨o, keep _ _ ho, hd⟩
    · obtain ⟨v, o, ho, hd⟩ := I2.cell y c (S.cls.get y c e)
      exact ⟨v, o, keep _ _ ho, hd⟩
    · have hp' : p ∈ X.pn ++ pins := by
        have : p ∈ (X.pn ++ pins) ++ [] := hp
        simpa using this
      obtain ⟨e, n, _, _, d⟩ := I2.pin p hp'
      obtain ⟨p1, _, p3, _⟩ := pinsOk p hp'
      exact ⟨keep _ _ e, n, p1, p3, d⟩
    · show (none :: fr.map fun j => (σ[j]?).join).length = (x :: ys).length
      simp [S.frs.len]
  have st4 : tn 0 h1 := T.keep 0 _ _ st2 fun b _ o e => keep b o e
  have fpB : ∀ (H' : Hp) (o : Obj), (∀ b ∈ fp, H' b = none) → ∀ b ∈ fp, FpOk (cxB X (x :: ys) scope cl C s2 H2 fp (X.pn ++ pins)) [(D, o)] H' b := fun H' o hn b hb => by
    obtain ⟨_, d1, d2, d3, d4, d5⟩ := f2 b hb
    have lt := hfp b hb
    refine ⟨hn b hb, ?_, fun z => ?_, .inl hb, fun y c e => d4 y c (S.cls.get y c e), fun p hp => ?_⟩
    · show b ≠ C
      walk_at "om"
    · rcases List.mem_cons.mp (I2.stkSub b z) with q | q
      · exact d1 q
      · exact d2 q
    · have hp' : p ∈ (X.pn ++ pins) ++ [(D, o)] := hp
      rcases List.mem_append.mp hp' with z | z
      · exact d5 p z
      · have : p = (D, o) := by simpa using z
        subst this
        show D ≠ b
        walk_at "om"
  have loop : ∀ s' : Shared, s' = { s2 with heap := h1, toks := s2.toks + ([] : List (Str × Value)).length } →
      codeAny (model X.prog X.w) X.A (.compLoop (.ListComp elt [⟨.Name x px, iter, ifs, 0⟩] scope pos) 0 (.ref it) (.ref D) (compEnvC scope cl C X.env)) (RR (.ref D) C) s' := by
    rintro s' rfl
    refine codeAny_compLoop_tests (fun n s' => ∃ i zs H' o its nn, Inv (cxB X (x :: ys) scope cl C s2 H2 fp (X.pn ++ pins)) [] (o :: fr.map fun j => (σ[j]?).join) H' s' ∧ tn i s'.heap ∧ (∀ b ∈ fp, H' b = none) ∧ H' D = none ∧
      s'.heap.get? D = some { cls := .type "list", data := .seq (its : List Value).toArray nn } ∧ Vals zs its ∧ W i n zs H') ?_ m0 ⟨0, [], H2, none, [], 0, I4, st4, fun b hb => (f2 b hb).1, I2.hok.fresh hDle, hD, .nil, w0⟩
    rintro n s3 ⟨i, zs, H3, o3, its, nn, I3, st3, fr3, hD3, oD3, r3, w3⟩
    have I3' : Inv (cxB X (x :: ys) scope cl C s2 H2 fp (X.pn ++ pins)) [(D, { cls := .type "list", data := .seq its.toArray nn })] (o3 :: fr.map fun j => (σ[j]?).join) H3 s3 := I3.pins_of fun p hp => by
      have : p = (D, { cls := .type "list", data := .seq its.toArray nn }) := by simpa using hp
      subst this
      exact ⟨oD3, hD3, hDC, noStk D (Nat.le_refl _), fun v z => nomatch z⟩
    rcases turn i n zs H3 w3 with ⟨stop, hlen, q⟩ | ⟨go, hlen, N, hNN, step⟩
    · refine wpAny_mono (T.done (cxB X (x :: ys) scope cl C s2 H2 fp (X.pn ++ pins)) rfl rfl rfl hc i _ s3 _ H3 (fun _ _ => False) I3' (fpB H3 _ fr3) st3 stop) (fun r s4 ⟨hr, J4⟩ => ?_) fun _ _ z => z.elim
      subst hr
      have un := J4.base
      have neD : ∀ b o, s2.heap.get? b = some o → b ≠ D := fun b o e => by have := Heap.lt_size e; walk_at "om"
      have neH : ∀ b u, H3 b = some u → b ≠ D := fun b u e z => by rw [z, hD3] at e; cases e
      refine hRR D C s4 (upd H3 D (.lst zs)) ?_ ?_ ?_ (q D hD3)
      · refine I2.call' (ch := fp) J4.os ⟨un.keep, un.slot, fun b o e nn hx => ?_, un.there, fun b xs e => ?_, fun b o u e => ?_, fun b ps e => ?_⟩ (fun a o e => ?_) J4.bare fun b hb => ?_
        · rw [upd_ne (neD b o e)]; exact un.free b o e nn hx
        · have := un.tups b xs e; rw [upd_ne (neH b _ this)]; exact this
        · have := un.frzs b o u e; rw [upd_ne (neH b _ this)]; exact this
        · obtain ⟨more, this⟩ := un.tbls b ps e
          exact ⟨more, by rw [upd_ne (neH b _ this)]; exact this⟩
        · by_cases ha : a = D
          · subst ha
            rw [upd_same] at e; cases e
            exact ⟨hlen, its, nn, r3, (J4.pin (a, _) (List.mem_append_right _ (List.mem_singleton.mpr rfl))).1⟩
          · rw [upd_ne ha] at e
            exact (J4.hok a o e).stay (fun _ _ _ z => z) (fun b z => by rw [upd_ne (neH b _ z)]; exact z) fun b xs z => by rw [upd_ne (neH b _ z)]; exact z
        · obtain ⟨_, d1, d2, d3, d4, d5⟩ := f2 b hb
          exact ⟨d3, d1, d4, d5⟩
      · obtain ⟨m, hm, _⟩ := J4.loc
        exact ⟨m, hm⟩
      · exact I2.fpOk hCle (by rw [upd_ne (Ne.symm hDC)]; exact J4.free)
    · refine wpAny_mono (T.item (cxB X (x :: ys) scope cl C s2 H2 fp (X.pn ++ pins)) rfl rfl rfl hc i _ s3 _ H3 (fun _ _ => False) I3' (fpB H3 _ fr3) st3 go) (fun r s4 ⟨u, hr, h4⟩ => ?_) fun _ _ z => z.elim
      subst hr
      have go' : wpAny (model X.prog X.w) X.A (letOwnedTupleGo (.Name x px) (.ref it) u >>= fun _ => assign (.Name x px) (compEnvC scope cl C X.env) u) (fun _ s5 =>
          wpAny (model X.prog X.w) X.A (forIn ifs true fun c r => if r = true then do let ok ← isTrue c (compEnvC scope cl C X.env) (eval c (compEnvC scope cl C X.env)); pure (ForInStep.yield ok) else pure (ForInStep.yield r)) (fun ok s6 =>
            if ok = true then wpAny (model X.prog X.w) X.A (eval elt (compEnvC scope cl C X.env)) (fun y s7 =>
              wpAny (model X.prog X.w) X.A (call (.builtin "list.append") [.ref D, y]) (fun _ s8 => ∃ m, m < n ∧ ∃ i zs H' o its nn, Inv (cxB X (x :: ys) scope cl C s2 H2 fp (X.pn ++ pins)) [] (o :: fr.map fun j => (σ[j]?).join) H' s8 ∧ tn i s8.heap ∧ (∀ b ∈ fp, H' b = none) ∧ H' D = none ∧
                s8.heap.get? D = some { cls := .type "list", data := .seq (its : List Value).toArray nn } ∧ Vals zs its ∧ W i m zs H') (fun _ _ => False) s7) (fun _ _ => False) s6
            else ∃ m, m < n ∧ ∃ i zs H' o its nn, Inv (cxB X (x :: ys) scope cl C s2 H2 fp (X.pn ++ pins)) [] (o :: fr.map fun j => (σ[j]?).join) H' s6 ∧ tn i s6.heap ∧ (∀ b ∈ fp, H' b = none) ∧ H' D = none ∧
                s6.heap.get? D = some { cls := .type "list", data := .seq (its : List Value).toArray nn } ∧ Vals zs its ∧ W i m zs H') (fun _ _ => False) s5) (fun _ _ => False) s4 := by
        refine wpAny_bind (thn h4 fun _ s5 ⟨y5, H5, I5, r5, yl, st5, fr5⟩ => ?_)
        have I5' := I5.pinned (fpB H5 _ fr5) (T.obj _ _ st5)
        refine thn (pg_name (X := cxB X (x :: ys) scope cl C s2 H2 fp (X.pn ++ pins)) (i := 0) S.nd rfl (.inl (lookup_relabel_local S.own)) (.inr (lookup_relabel_local S.own)) _ s5 _ H5 y5 u (fun σ' H' => σ' = (some y5 :: fr.map fun j => (σ[j]?).join) ∧ H' = H5) I5' r5 ⟨rfl, rfl⟩) fun _ s6 ⟨σ6, H6, I6, e6, e6'⟩ => ?_
        subst e6 e6'
        have after : ∀ (s7 : Shared) (H7 : Hp), Inv (cxB X (x :: ys) scope cl C s2 H2 fp (X.pn ++ pins)) ([(D, { cls := .type "list", data := .seq its.toArray nn })] ++ pinsAt fp s5.heap) (some y5 :: fr.map fun j => (σ[j]?).join) H7 s7 →
            Inv (cxB X (x :: ys) scope cl C s2 H2 fp (X.pn ++ pins)) [] (some y5 :: fr.map fun j => (σ[j]?).join) H7 s7 ∧ tn (i + 1) s7.heap ∧ (∀ b ∈ fp, H7 b = none) ∧ H7 D = none ∧ s7.heap.get? D = some { cls := .type "list", data := .seq its.toArray nn } := fun s7 H7 I7 => by
          have pD := I7.pin (D, { cls := .type "list", data := .seq its.toArray nn }) (List.mem_append_right _ (List.mem_append_left _ (List.mem_singleton.mpr rfl)))
          refine ⟨I7.pins_of fun p hp => absurd hp (by simp), T.keep _ _ _ st5 fun b hb o e => (I7.pin (b, o) (List.mem_append_right _ (List.mem_append_right _ (mem_pinsAt hb e)))).1, fun b hb => ?_, pD.2.1, pD.1⟩
          obtain ⟨o, e, _⟩ := T.obj _ _ st5 b hb
          exact (I7.pin (b, o) (List.mem_append_right _ (List.mem_append_right _ (mem_pinsAt hb e)))).2.1
        refine thn ((hb C s2 H2 fp (X.pn ++ pins)).1 _ s6 _ H6 _ I6 (step y5 H6 yl)) fun ok s7 ⟨H7, I7, q7⟩ => ?_
        dsimp only at q7
        by_cases hok : ok = true
        · rw [if_pos hok] at q7 ⊢
          refine thn ((hb C s2 H2 fp (X.pn ++ pins)).2 _ s7 _ H7 _ I7 q7) fun yv s8 ⟨y8, H8, I8, r8, n8⟩ => ?_
          obtain ⟨m', hm', w8⟩ := hNN _ _ n8
          obtain ⟨J8, st8, fr8, hD8, oD8⟩ := after s8 H8 I8
          have hl := r3.length
          refine call_meets F.slot_list_append ⟨_, oD8, rfl⟩ F.entry_list_append (F.args_list_append_2 _ _) (PySem.list_append D its.toArray nn yv (by rw [List.size_toArray]; walk_at "om")) ⟨oD8, ?_⟩
          have oD9 := PySem.IsL.update oD8 (fun a => a.push yv)
          rw [List.push_toArray] at oD9
          refine ⟨m', hm', i + 1, zs ++ [y8], H8, some y5, its ++ [yv], _, J8.turned (it := D) (fun b o hb' e => (Heap.get?_update_other _ _ (Ne.symm hb')).trans e) hD8 hDC (.inr hDle) (fun y c e z => ?_) (fun p hp => ?_), T.keep _ _ _ st8 fun b hb' o e => ?_, fr8, hD8, oD9, r3.append (.cons r8 .nil), w8⟩
          · obtain ⟨v, o, ho, _⟩ := I2.cell y c (S.cls.get y c e)
            have := Heap.lt_size ho
            walk_at "om"
          · have hp' : p ∈ X.pn ++ pins := by
              have : p ∈ (X.pn ++ pins) ++ [] := hp
              simpa using this
            exact (pinsOk p hp').2.1
          · have := hfp b hb'
            exact (Heap.get?_update_other _ _ (by walk_at "om")).trans e
        · rw [if_neg hok] at q7 ⊢
          obtain ⟨m', hm', w7⟩ := hNN _ _ q7
          obtain ⟨J7, st7, fr7, hD7, oD7⟩ := after s7 H7 I7
          exact ⟨m', hm', i + 1, zs, H7, some y5, its, nn, J7, st7, fr7, hD7, oD7, r3, w7⟩
      have e0 : (letOwnedTupleGo (.Name x px) (.ref it) u >>= fun _ => assign (.Name x px) (compEnvC scope cl C X.env) u) = assign (.Name x px) (compEnvC scope cl C X.env) u := rfl
      rw [e0] at go'
      refine wpAny_mono go' (fun _ s5 h5 => wpAny_mono h5 (fun ok s6 h6 => ?_) fun _ _ z => z.elim) fun _ _ z => z.elim
      by_cases hok : ok = true
      · rw [if_pos hok] at h6 ⊢
        exact wpAny_mono h6 (fun y s7 h7 => wpAny_mono h7 (fun _ _ z => z) fun _ _ z => z.elim) fun _ _ z => z.elim
      · rw [if_neg hok] at h6 ⊢
        exact h6
  exact codeAny_compStart_list (loop _ rfl) (T.self X.A 0 _ _ _ st4 (loop _ rfl))
/-- [elt for x in iter if c] -/
theorem pe_comp {wi : TI} (S : CompOk X x scope cl fr ys) (hc : X.calm = true) (hi : PI X (.Name x px) iter wi)
    (hb : ∀ (C : Addr) (s : Shared) (H : Hp) (ex : List Addr) (pn : List (Addr × Obj)), PTs (cxB X (x :: ys) scope cl C s H ex pn) ifs tt ∧ PE (cxB X (x :: ys) scope cl C s H ex pn) elt te)
    (hs : ∀ z, foldedSetIterable iter X.env z = pure z := by intro _; rfl) : PE X (.ListComp elt [⟨.Name x px, iter, ifs, 0⟩] scope pos) (tComp wi fr tt te) := by
  intro pins s σ H Q I h
  rw [eval_ListComp]
  refine wpAny_comprehension_free (use := none) rfl hs S.clos S.kind (fun y hy hl => ?_) (thn (hi pins s σ H _ I h) fun xv s1 h1 => thn h1 fun itv s2 h2 => ?_)
  · have z := List.all_eq_true.mp S.names y hy
    rw [hl] at z
    simpa using z
  · obtain ⟨it, fp, tn, J, H2, rfl, I2, T, st2, f2, hB⟩ := h2
    refine comp_block (RR := fun acc C => compPost (model X.prog X.w) X.A X.xe none (EP X pins σ Q) acc C) S hc hb I2 T st2 f2 hB fun D C s' H' J' hn fC q => ?_
    obtain ⟨m, hm⟩ := hn
    obtain ⟨c0, c1, c2, c3, c4, c5⟩ := fC
    exact ⟨m, hm, fun h' sb => ⟨.ref D, H', J'.turned (it := C) (fun b o hb e => sb.extBut b o hb e) c0 c1 c3 c4 c5, rfl, q⟩⟩
/-- y = [elt for x in iter if c] at a plain local name -/
def tSetC (i : Nat) (te : TE) : TS := fun D σ H => te σ H fun v H1 => D.nx (σ.set i (some v)) H1
theorem ps_setComp {wi : TI} {y : Str} {py spos : Pos} {i : Nat} (S : CompOk X x scope cl fr ys) (hc : X.calm = true) (hN : X.N.Nodup) (hy : X.N[i]? = some y) (hl : X.env.scope.names.lookup y = some .local) (hi : PI X (.Name x px) iter wi)
    (hb : ∀ (C : Addr) (s : Shared) (H : Hp) (ex : List Addr) (pn : List (Addr × Obj)), PTs (cxB X (x :: ys) scope cl C s H ex pn) ifs tt ∧ PE (cxB X (x :: ys) scope cl C s H ex pn) elt te)
    (hsw : swapsWith (.ListComp elt [⟨.Name x px, iter, ifs, 0⟩] scope pos) (some (.Name y py)) spos.line X.env = pure true := by rfl)
    (hs : ∀ z, foldedSetIterable iter X.env z = pure z := by intro _; rfl) : PS X (.Assign [.Name y py] (.ListComp elt [⟨.Name x px, iter, ifs, 0⟩] scope pos) spos) (tSetC i (tComp wi fr tt te)) := by
  intro pins s σ H Dn I h
  rw [exec_Assign_Name_used _ _ _ _ hsw]
  refine wpAny_bind (wpAny_standAt (wpAny_bind ?_))
  show wpAny _ X.A (do let _ ← comprehension (.ListComp elt [⟨.Name x px, iter, ifs, 0⟩] scope pos) scope X.env _ (newList []) false (eval iter X.env) (some (assign (.Name y py) X.env))) _ _ s
  refine wpAny_bind (thn (wpAny_comprehension_free (use := some (assign (.Name y py) X.env)) (Q := fun _ s' => SP X pins Dn .next s') rfl hs S.clos S.kind (fun z hz hl => ?_) (thn (hi pins s σ H _ I h) fun xv s1 h1 => thn h1 fun itv s2 h2 => ?_)) fun _ s' hq => wpAny_pure (wpAny_pure hq))
  · have z' := List.all_eq_true.mp S.names z hz
    rw [hl] at z'
    simpa using z'
  · obtain ⟨it, fp, tn, J, H2, rfl, I2, T, st2, f2, hB⟩ := h2
    refine comp_block (RR := fun acc C => compPost (model X.prog X.w) X.A X.xe (some (assign (.Name y py) X.env)) (fun _ s' => SP X pins Dn .next s') acc C) S hc hb I2 T st2 f2 hB fun D C s' H' J' hn fC q => ?_
    obtain ⟨m, oC, es, ep, ho, hd, hr⟩ := hn
    obtain ⟨c0, c1, c2, c3, c4, c5⟩ := fC
    have J2 : Inv X (pins ++ [(C, oC)]) σ H' s' := J'.pins_of fun p hp => by
      rcases List.mem_append.mp hp with z | z
      · exact J'.pin p (List.mem_append_right _ z)
      · have : p = (C, oC) := by simpa using z
        subst this
        exact ⟨ho, c0, c1, c2, fun v z => by rw [hd] at z; cases z⟩
    show wpAny _ X.A (assign (.Name y py) X.env (.ref D)) _ _ _
    refine thn (pg_name (X := X) hN hy (.inl hl) (.inr hl) _ s' σ H' (.ref D) (.ref D) (fun σ' H'' => σ' = σ.set i (some (.ref D)) ∧ H'' = H') J2 rfl ⟨rfl, rfl⟩) fun _ s3 ⟨σ3, H3, J3, e1, e2⟩ => ?_
    subst e1 e2
    obtain ⟨pc, pn0, _⟩ := J3.pin (C, oC) (List.mem_append_right _ (List.mem_append_right _ (List.mem_singleton.mpr rfl)))
    refine ⟨m, ⟨oC, es, ep, pc, hd, hr⟩, fun h' sb => ⟨_, H3, J3.unpinned.turned (it := C) (fun b o hb e => sb.extBut b o hb e) c0 c1 c3 c4 c5, q⟩⟩
end
/-! ### the block over a known row of items -/
def compGo (Ok : Hp → Prop) (ρ : L2.St) (tt : TT) (te : TE) : List V → List V → Hp → (List V → Hp → Prop) → Prop
  | [], ys, H, Q => Ok H ∧ Q ys H
  | x :: r, ys, H, Q => Ok H ∧ tt (some x :: ρ) H fun b H1 => if b = true then te (some x :: ρ) H1 fun y H2 => compGo Ok ρ tt te r (ys ++ [y]) H2 Q else compGo Ok ρ tt te r ys H1 Q
theorem compGo_ok {Ok : Hp → Prop} {ρ : L2.St} {tt : TT} {te : TE} {xs ys : List V} {H : Hp} {Q : List V → Hp → Prop} (h : compGo Ok ρ tt te xs ys H Q) : Ok H := by
  cases xs with
  | nil => exact h.1
  | cons x r => exact h.1
structure ItOf (J : It) (Ok : Hp → Prop) (xs : List V) : Prop where
  go : ∀ i H x, Ok H → xs[i]? = some x → J.go i H
  yld : ∀ i H x H', Ok H → J.yld i H x H' → H' = H ∧ (i < xs.length → xs[i]? = some x)
  stop : ∀ i H, Ok H → xs.length ≤ i → J.stop i H
section
variable {J : It} {Ok : Hp → Prop} {xs : List V} {ρ : L2.St} {tt : TT} {te : TE} {H : Hp} {Q : VK} {K : PySem.W.Frag} {a : Addr}
theorem blk_of (O : ItOf J Ok xs) (hn : xs.length ≤ sizeLine) (h : compGo Ok ρ tt te xs [] H fun ys H' => ∀ l, H' l = none → Q (.ref l) (upd H' l (.lst ys))) : tBlk J ρ tt te H Q := by
  refine ⟨fun i m ys H => m = xs.length - i ∧ i ≤ xs.length ∧ ys.length ≤ i ∧ compGo Ok ρ tt te (xs.drop i) ys H fun ys H' => ∀ l, H' l = none → Q (.ref l) (upd H' l (.lst ys)), ⟨_, rfl, Nat.zero_le _, Nat.le_refl _, h⟩, ?_⟩
  rintro i m ys H ⟨rfl, hi, hy, g⟩
  by_cases hlt : i < xs.length
  · have e := List.drop_eq_getElem_cons hlt
    rw [e] at g
    obtain ⟨g0, g1⟩ := g
    refine .inr ⟨O.go i H _ g0 (List.getElem?_eq_getElem hlt), by walk_at "om", fun zs H' => zs.length ≤ i + 1 ∧ compGo Ok ρ tt te (xs.drop (i + 1)) zs H' fun ys H' => ∀ l, H' l = none → Q (.ref l) (upd H' l (.lst ys)), fun zs H' q => ⟨_, by walk_at "om", rfl, hlt, q.1, q.2⟩, fun x H' y => ?_⟩
    obtain ⟨rfl, ex⟩ := O.yld i H x H' g0 y
    have ex := ex hlt
    rw [List.getElem?_eq_getElem hlt] at ex
    cases ex
    have l1 : ∀ y : V, (ys ++ [y]).length ≤ i + 1 := fun y => by rw [List.length_append, List.length_singleton]; walk_at "om"
    have l2 : ys.length ≤ i + 1 := by walk_at "om"
    simp only [l1, l2, true_and]
    exact g1
  · have e : i = xs.length := by walk_at "om"
    subst e
    rw [List.drop_length] at g
    exact .inl ⟨O.stop _ H g.1 (Nat.le_refl _), by walk_at "om", g.2⟩
theorem it_list : ItOf (Itl K a) (fun H => SqL K H a xs) xs :=
  ⟨fun _ _ _ h e => ⟨xs, _, h, e⟩, fun _ _ _ _ h y => ⟨y.1, fun _ => y.2 xs h⟩, fun _ _ h hi => ⟨xs, h, hi⟩⟩
theorem it_tup : ItOf (Itt K a) (fun H => SqT K H a xs) xs :=
  ⟨fun _ _ _ h e => ⟨xs, _, h, e⟩, fun _ _ _ _ h y => ⟨y.1, fun _ => y.2 xs h⟩, fun _ _ h hi => ⟨xs, h, hi⟩⟩
theorem it_rng {lo : Int} {n : Nat} : ItOf (Itr lo n) (fun _ => True) ((List.range n).map fun k => V.int (lo + (k : Nat))) :=
  ⟨fun i _ _ _ e => by
    have := (List.getElem?_eq_some_iff.mp e).1
    show i < n
    simpa using this, fun i _ _ _ _ y => ⟨y.1, fun hi => by
      have hi' : i < n := by simpa using hi
      rw [y.2, List.getElem?_map, List.getElem?_range hi']; rfl⟩, fun i _ _ hi => by
      show n ≤ i
      simpa using hi⟩
/-- a block that leaves the heap as it is -/
theorem compGo_map {p : V → Bool} {f : V → V} {Q' : List V → Hp → Prop} (hOk : Ok H) : ∀ {xs ys : List V}, (∀ x ∈ xs, ∀ Q, Q (p x) H → tt (some x :: ρ) H Q) → (∀ x ∈ xs, p x = true → ∀ Q, Q (f x) H → te (some x :: ρ) H Q) → Q' (ys ++ (xs.filter p).map f) H → compGo Ok ρ tt te xs ys H Q'
  | [], ys, _, _, q => ⟨hOk, by simpa using q⟩
  | x :: r, ys, ht, he, q => by
    refine ⟨hOk, ht x (.head _) _ ?_⟩
    by_cases hb : p x = true
    · rw [if_pos hb]
      refine he x (.head _) hb _ (compGo_map hOk (fun y hy => ht y (.tail _ hy)) (fun y hy => he y (.tail _ hy)) ?_)
      rw [List.filter_cons, if_pos hb] at q
      simpa using q
    · rw [if_neg hb]
      refine compGo_map hOk (fun y hy => ht y (.tail _ hy)) (fun y hy => he y (.tail _ hy)) ?_
      rw [List.filter_cons, if_neg hb] at q
      exact q
end
/-! ### rules within a block: the text's facts by their name -/
section
variable {X : Cx} {K : PySem.W.Frag}
theorem ix_seqK (h : X.K = K) : IxR X (rIx K) := h ▸ ix_seq
theorem call_lenK (h : X.K = K) : CallR X (.builtin "len") (fun xs H Q => ∃ x n, xs = [x] ∧ LenV K x H n ∧ Q (.int n) H) := h ▸ call_len
theorem op_in_seqK (h : X.K = K) : OpR X (compareOp .In) (rIn K false) := h ▸ op_in_seq
theorem op_notIn_seqK (h : X.K = K) : OpR X (compareOp .NotIn) (rIn K true) := h ▸ op_notIn_seq
theorem call_isiK (h : X.K = K) : CallR X (.builtin "isinstance") (fun xs H Q => ∃ x c, xs = [x, c] ∧ rIsi K x c H Q) := h ▸ call_isiA
end
end Gz

set_option Elab.async false
set_option linter.all false
set_option maxRecDepth 100000
set_option maxHeartbeats 4000000
/-! Values as data: == and != of tuples and lists, however deep -/
namespace Gz
open PySem PySem.Spec PyProof.Rows L2
mutual
inductive Dat (K : PySem.W.Frag) (H : Hp) : V → PyData → Prop where
  | non : Dat K H .non .none
  | bl (b : Bool) : Dat K H (.bl b) (.bool b)
  | int (i : Int) : Dat K H (.int i) (.int i)
  | str (x : Str) : Dat K H (.str x) (.str x)
  | tup {a : Addr} {xs : List V} {ds : List PyData} (h : SqT K H a xs) (r : Dats K H xs ds) : Dat K H (.ref a) (.tuple ds)
  | lst {a : Addr} {xs : List V} {ds : List PyData} (h : SqL K H a xs) (r : Dats K H xs ds) : Dat K H (.ref a) (.list ds)
inductive Dats (K : PySem.W.Frag) (H : Hp) : List V → List PyData → Prop where
  | nil : Dats K H [] []
  | cons {x : V} {d : PyData} {xs : List V} {ds : List PyData} (h : Dat K H x d) (r : Dats K H xs ds) : Dats K H (x :: xs) (d :: ds)
end
section
variable {X : Cx} {pins : List (Addr × Obj)} {σ : L2.St} {H : Hp} {s : Shared}
mutual
theorem Dat.reads (I : Inv X pins σ H s) : ∀ (d : PyData) {v : V} {u : Value}, Dat X.K H v d → RelV v u → ∃ as, Reads s.heap u d as
  | .none, _, _, .non, r => by cases r; exact ⟨_, .none⟩
  | .bool b, _, _, .bl _, r => by cases r; exact ⟨_, .bool b⟩
  | .int i, _, _, .int _, r => by obtain ⟨t, rfl⟩ := r; exact ⟨_, .int i t⟩
  | .str x, _, _, .str _, r => by obtain ⟨t, rfl⟩ := r; exact ⟨_, .str x t⟩
  | .tuple ds, _, _, .tup h q, r => by
    cases r
    obtain ⟨its, rv, ⟨o, ho, hc, n, hd⟩, _⟩ := I.tuple h
    obtain ⟨as, ra⟩ := Dats.reads I ds q rv
    exact ⟨_, .tuple ho hc hd (by simpa using ra)⟩
  | .list ds, _, _, .lst h q, r => by
    cases r
    obtain ⟨its, rv, ⟨o, n, ho, hc, _, hd⟩, _⟩ := I.list h
    obtain ⟨as, ra⟩ := Dats.reads I ds q rv
    exact ⟨_, .list ho hc hd (by simpa using ra)⟩
theorem Dats.reads (I : Inv X pins σ H s) : ∀ (ds : List PyData) {vs : List V} {us : List Value}, Dats X.K H vs ds → Vals vs us → ∃ as, ReadsAll s.heap us ds as
  | [], _, _, .nil, r => by cases r; exact ⟨_, .nil⟩
  | d :: ds, _, _, .cons h q, r => by
    cases r with
    | cons r1 r2 =>
      obtain ⟨as, ra⟩ := Dat.reads I d h r1
      obtain ⟨bs, rb⟩ := Dats.reads I ds q r2
      exact ⟨_, .cons ra rb⟩
end
def rEqD (K : PySem.W.Frag) (neg : Bool) : R2 := fun x y H Q => ∃ d e, Dat K H x d ∧ Dat K H y e ∧ d.canLay0 = true ∧ e.canLay0 = true ∧ d.depth ≤ 60 ∧ Q (.bl (if neg = true then !PyData.eqv d e else PyData.eqv d e)) H
theorem op_eqD (hu : X.A.units + 64 < cLine) : OpR X (compareOp .Eq) (rEqD X.K false) := by
  intro pins s σ H x y v u Q I rx ry h
  obtain ⟨d, e, dx, dy, c1, c2, dd, q⟩ := h
  obtain ⟨as, ra⟩ := Dat.reads I d dx rx
  obtain ⟨bs, rb⟩ := Dat.reads I e dy ry
  exact SeqAt.compareEq_reads ra rb c1 c2 (by omega) ⟨.bl _, H, I, rfl, q⟩
theorem op_neD (hu : X.A.units + 64 < cLine) : OpR X (compareOp .NotEq) (rEqD X.K true) := by
  intro pins s σ H x y v u Q I rx ry h
  obtain ⟨d, e, dx, dy, c1, c2, dd, q⟩ := h
  obtain ⟨as, ra⟩ := Dat.reads I d dx rx
  obtain ⟨bs, rb⟩ := Dat.reads I e dy ry
  exact SeqAt.compareNe_reads ra rb c1 c2 (by omega) ⟨.bl _, H, I, rfl, q⟩
end
end Gz

set_option Elab.async false
set_option linter.all false
set_option maxRecDepth 100000
set_option maxHeartbeats 4000000
/-! Stretches: ends that are numbers or None -/
namespace Gz
open PySem PySem.Spec PyProof.Rows L2
abbrev En := Option Int
def ev : En → V
  | none => .non
  | some i => .int i
theorem ev_none : ev none = .non := rfl
theorem ev_some (i : Int) : ev (some i) = .int i := rfl
def crossed : En → En → Bool
  | some x, some y => decide (y < x)
  | _, _ => false
/-- v is the tuple of the two ends -/
def IsS (H : Hp) (v : V) (a b : En) : Prop := ∃ p, v = .ref p ∧ H p = some (.tup [ev a, ev b])
theorem IsS.same {H H1 : Hp} {v : V} {a b : En} (h : IsS H v a b) (s : Same H H1) : IsS H1 v a b := by
  obtain ⟨p, e, h⟩ := h
  exact ⟨p, e, s _ _ h⟩
theorem IsS.new {H : Hp} {p : Addr} {a b : En} : IsS (upd H p (.tup [ev a, ev b])) (.ref p) a b := ⟨p, rfl, upd_same⟩
def hold (a b : En) (n : Int) : Bool := !crossed a (some n) && !crossed (some n) b
theorem hold_iff {a b : En} {n : Int} : hold a b n = true ↔ (∀ x, a = some x → x ≤ n) ∧ (∀ y, b = some y → n ≤ y) := by
  unfold hold
  rcases a with _ | x <;> rcases b with _ | y <;> simp [crossed]
theorem hold_none (b : En) (n : Int) : hold none b n = !crossed (some n) b := by unfold hold crossed; simp
theorem hold_hi (y n : Int) : hold none (some y) n = decide (n ≤ y) := by
  rw [hold_none]
  by_cases h : y < n
  · simp [crossed, h]
  · simp [crossed, h]; omega
theorem hold_lo {x n : Int} (b : En) (h : ¬ n < x) : hold (some x) b n = hold none b n := by unfold hold; simp [crossed, h]
theorem hold_out {x n : Int} (b : En) (h : n < x) : hold (some x) b n = false := by unfold hold; simp [crossed, h]
def maxE : En → En → En
  | some x, some y => some (if y > x then y else x)
  | some x, none => some x
  | none, b => b
def minE : En → En → En
  | some x, some y => some (if y < x then y else x)
  | some x, none => some x
  | none, b => b
theorem maxE_comm (a b : En) : maxE a b = maxE b a := by
  rcases a with _ | x <;> rcases b with _ | y <;> simp only [maxE]
  congr 1; split <;> split <;> omega
theorem minE_comm (a b : En) : minE a b = minE b a := by
  rcases a with _ | x <;> rcases b with _ | y <;> simp only [minE]
  congr 1; split <;> split <;> omega
def subE : En → Int → En
  | some x, k => some (x - k)
  | none, _ => none
def addE : En → Int → En
  | some x, k => some (x + k)
  | none, _ => none
/-- the ends that are numbers -/
def nums (a b : En) : List Int := [a, b].filterMap id
def notN (v : V) : Bool := !decide (v = .non)
theorem nums_V (a b : En) : ([ev a, ev b].filter notN).map (fun v => v) = (nums a b).map V.int := by
  rcases a with _ | x <;> rcases b with _ | y <;> simp [ev, nums, notN]
theorem max_nums (a b : En) : mmV maxL (nums a b) .non = ev (maxE a b) := by
  rcases a with _ | x <;> rcases b with _ | y <;> simp [nums, maxE, maxL, mmV, ev]
theorem min_nums (a b : En) : mmV minL (nums a b) .non = ev (minE a b) := by
  rcases a with _ | x <;> rcases b with _ | y <;> simp [nums, minE, minL, mmV, ev]
theorem maxE_of (a b : En) : (0 < (nums a b).length → maxE a b = some (maxL (nums a b))) ∧ (¬ 0 < (nums a b).length → maxE a b = none) := by
  rcases a with _ | x <;> rcases b with _ | y <;> simp [nums, maxE, maxL]
theorem minE_of (a b : En) : (0 < (nums a b).length → minE a b = some (minL (nums a b))) ∧ (¬ 0 < (nums a b).length → minE a b = none) := by
  rcases a with _ | x <;> rcases b with _ | y <;> simp [nums, minE, minL]
theorem crossed_ss (x y : Int) : crossed (some x) (some y) = decide (y < x) := rfl
theorem crossed_n (b : En) : crossed none b = false := by cases b <;> rfl
theorem crossed_m (a : En) : crossed a none = false := by cases a <;> rfl
theorem crossed_flip {a b : En} (h : crossed a b = true) : crossed b a = false := by
  rcases a with _ | x <;> rcases b with _ | y <;> simp [crossed] at h ⊢
  omega
theorem cross_test {a b : En} {A B : Prop} (h1 : crossed a b = true → A) (h2 : crossed a b = false → B) : if ¬ ev a = .non then (if ¬ ev b = .non then ∃ i, ev a = .int i ∧ ∃ x, ev b = .int x ∧ if x < i then A else B else B) else B := by
  rcases a with _ | x
  · simp only [ev_none, not_true_eq_false, ↓reduceIte]; exact h2 (crossed_n _)
  rcases b with _ | y
  · simp only [ev_none, ev_some, reduceCtorEq, not_false_eq_true, not_true_eq_false, ↓reduceIte]; exact h2 rfl
  simp only [ev_some, reduceCtorEq, not_false_eq_true, ↓reduceIte]
  refine ⟨_, rfl, _, rfl, ?_⟩
  split
  · rename_i h; exact h1 (decide_eq_true h)
  · rename_i h; exact h2 (decide_eq_false h)
/-- v is what both hold -/
def MeetIs (H : Hp) (v : V) (lo hi : En) : Prop := (crossed lo hi = true → v = .non) ∧ (crossed lo hi = false → IsS H v lo hi)
theorem MeetIs.same {H H1 : Hp} {v : V} {lo hi : En} (h : MeetIs H v lo hi) (s : Same H H1) : MeetIs H1 v lo hi := ⟨h.1, fun z => (h.2 z).same s⟩
/-- [x for x in (a, b) if x is not None] -/
theorem comp_ends {K : PySem.W.Frag} {H : Hp} {p : Addr} {a b : En} {Q : VK} {tt : TT} {te : TE} (hp : H p = some (.tup [ev a, ev b])) (ht : ∀ x H Q, Q (notN x) H → tt [some x] H Q) (he : ∀ x H Q, Q x H → te [some x] H Q)
    (q : ∀ l, H l = none → Q (.ref l) (upd H l (.lst ((nums a b).map V.int)))) : tBlk (Itt K p) [] tt te H Q := by
  refine blk_of (xs := [ev a, ev b]) it_tup line2 (compGo_map (p := notN) (f := fun v => v) (SqT.of hp) (fun x _ Q h => ht x H Q h) (fun x _ _ Q h => he x H Q h) ?_)
  rw [List.nil_append, nums_V]
  exact q
end Gz

set_option Elab.async false
set_option linter.all false
set_option maxHeartbeats 4000000
/-! Stretches gathered: the reckoning -/
namespace Gz
open L2
abbrev S2 := En × En
def hs (s : S2) (n : Int) : Bool := hold s.1 s.2 n
def okS (s : S2) : Prop := crossed s.1 s.2 = false
def klo : En → List Int
  | none => [0, 0]
  | some x => [1, x]
def leLo (a b : En) : Prop := a = none ∨ ∃ x y, a = some x ∧ b = some y ∧ x ≤ y
theorem lex_klo {a b : En} : HT.lexLt (klo b) (klo a) = false ↔ leLo a b := by
  rcases a with _ | x <;> rcases b with _ | y
  · exact ⟨fun _ => .inl rfl, fun _ => rfl⟩
  · exact ⟨fun _ => .inl rfl, fun _ => rfl⟩
  · refine ⟨fun h => (nomatch h), fun h => ?_⟩
    rcases h with h | ⟨_, _, _, h, _⟩ <;> cases h
  · have e : HT.lexLt (klo (some y)) (klo (some x)) = decide (y < x) := by
      show HT.lexLt [1, y] [1, x] = _
      rw [HT.lexLt_cons, if_pos rfl, HT.lexLt_cons]
      split
      · rename_i e; subst e; rw [HT.lexLt_nil_nil]; simp
      · rfl
    rw [e]
    constructor
    · intro h
      have : ¬ y < x := by simpa using h
      exact .inr ⟨x, y, rfl, rfl, by omega⟩
    · intro h
      rcases h with h | ⟨x', y', e1, e2, h⟩
      · cases h
      · cases e1; cases e2; simpa using h
theorem leLo.refl (a : En) : leLo a a := by
  rcases a with _ | x
  · exact .inl rfl
  · exact .inr ⟨x, x, rfl, rfl, Int.le_refl _⟩
theorem leLo.trans {a b c : En} (h : leLo a b) (h' : leLo b c) : leLo a c := by
  rcases h with rfl | ⟨x, y, rfl, rfl, h1⟩
  · exact .inl rfl
  · rcases h' with h' | ⟨x', y', e, rfl, h2⟩
    · cases h'
    · cases e; exact .inr ⟨_, _, rfl, rfl, by omega⟩
def gap (p q : S2) : Bool := match p.2, q.1 with
  | some h, some l => decide (l > h + 1)
  | _, _ => false
def minN : En → En → En
  | some x, some y => some (if y < x then y else x)
  | _, _ => none
def maxN : En → En → En
  | some x, some y => some (if y > x then y else x)
  | _, _ => none
def hull2 (p q : S2) : S2 := (minN p.1 q.1, maxN p.2 q.2)
theorem minN_le {a b : En} (h : leLo a b) : minN a b = a := by
  rcases h with rfl | ⟨x, y, rfl, rfl, h⟩
  · cases b <;> rfl
  · simp only [minN]; rw [if_neg (by omega)]
theorem hs_iff {s : S2} {n : Int} : hs s n = true ↔ (∀ x, s.1 = some x → x ≤ n) ∧ (∀ y, s.2 = some y → n ≤ y) := hold_iff
theorem hull2_holds {p q : S2} {n : Int} (hp : okS p) (hq : okS q) (hl : leLo p.1 q.1) (hg : gap p q = false) : (hs p n || hs q n) = hs (hull2 p q) n := by
  obtain ⟨a, b⟩ := p
  obtain ⟨c, d⟩ := q
  rw [Bool.eq_iff_iff, Bool.or_eq_true, hs_iff, hs_iff, hs_iff]
  simp only [okS, gap, hull2, leLo] at *
  rcases a with _ | x <;> rcases b with _ | y <;> rcases c with _ | z <;> rcases d with _ | w <;> simp [crossed, minN, maxN] at * <;> (try (constructor <;> intro h)) <;> (try split at *) <;> (try split) <;> omega
/-- between each and the next a number that neither holds -/
def gap2 (p q : S2) : Prop := ∃ h l, p.2 = some h ∧ q.1 = some l ∧ h + 2 ≤ l
def Apart : List S2 → Prop
  | x :: y :: r => gap2 x y ∧ Apart (y :: r)
  | _ => True
theorem Apart.snoc : ∀ {i : List S2} {p q : S2}, Apart (i ++ [p]) → gap2 p q → Apart (i ++ [p, q])
  | [], p, q, _, h => ⟨h, trivial⟩
  | [x], p, q, h, h' => ⟨h.1, h', trivial⟩
  | x :: y :: r, p, q, h, h' => ⟨h.1, Apart.snoc (i := y :: r) h.2 h'⟩
theorem Apart.last : ∀ {i : List S2} {p q : S2}, Apart (i ++ [p]) → p.1 = q.1 → Apart (i ++ [q])
  | [], p, q, _, h => trivial
  | [x], p, q, h, h' => by
    obtain ⟨⟨a, b, e1, e2, e3⟩, _⟩ := h
    exact ⟨⟨a, b, e1, h' ▸ e2, e3⟩, trivial⟩
  | x :: y :: r, p, q, h, h' => ⟨h.1, Apart.last (i := y :: r) h.2 h'⟩
theorem Apart.get : ∀ {l : List S2} {k : Nat} {p q : S2}, Apart l → l[k]? = some p → l[k + 1]? = some q → gap2 p q
  | [], _, _, _, _, e, _ => by simp at e
  | [_], _, _, _, _, _, e => by simp at e
  | x :: y :: r, 0, p, q, h, e, e' => by simp at e e'; subst e e'; exact h.1
  | x :: y :: r, k + 1, p, q, h, e, e' => Apart.get (l := y :: r) (k := k) h.2 (by simpa using e) (by simpa using e')
/-- the least lo, the greatest hi -/
def IsLo (l : List En) (e : En) : Prop := e ∈ l ∧ ∀ x ∈ l, leLo e x
def leHi (a b : En) : Prop := b = none ∨ ∃ x y, a = some x ∧ b = some y ∧ x ≤ y
def IsHi (l : List En) (e : En) : Prop := e ∈ l ∧ ∀ x ∈ l, leHi x e
theorem leLo.anti {a b : En} (h : leLo a b) (h' : leLo b a) : a = b := by
  rcases h with rfl | ⟨x, y, rfl, rfl, h1⟩
  · rcases h' with h' | ⟨x, y, e, e', _⟩
    · exact h'.symm
    · cases e'
  · rcases h' with h' | ⟨x', y', e, e', h2⟩
    · cases h'
    · cases e; cases e'; congr 1; omega
theorem leHi.anti {a b : En} (h : leHi a b) (h' : leHi b a) : a = b := by
  rcases h with rfl | ⟨x, y, rfl, rfl, h1⟩
  · rcases h' with h' | ⟨x, y, e, e', _⟩
    · exact h'
    · cases e
  · rcases h' with h' | ⟨x', y', e, e', h2⟩
    · cases h'
    · cases e; cases e'; congr 1; omega
theorem leHi.refl (a : En) : leHi a a := by
  rcases a with _ | x
  · exact .inl rfl
  · exact .inr ⟨x, x, rfl, rfl, Int.le_refl _⟩
theorem leHi.trans {a b c : En} (h : leHi a b) (h' : leHi b c) : leHi a c := by
  rcases h' with rfl | ⟨x', y', rfl, rfl, h2⟩
  · exact .inl rfl
  · rcases h with h | ⟨x, y, rfl, e, h1⟩
    · cases h
    · cases e; exact .inr ⟨_, _, rfl, rfl, by omega⟩
theorem IsLo.uniq {l l' : List En} {a b : En} (h : IsLo l a) (h' : IsLo l' b) (e : ∀ x, x ∈ l ↔ x ∈ l') : a = b := (h.2 b ((e b).mpr h'.1)).anti (h'.2 a ((e a).mp h.1))
theorem IsHi.uniq {l l' : List En} {a b : En} (h : IsHi l a) (h' : IsHi l' b) (e : ∀ x, x ∈ l ↔ x ∈ l') : a = b := (h'.2 a ((e a).mp h.1)).anti (h.2 b ((e b).mpr h'.1))
theorem maxN_hi (a b : En) : leHi a (maxN a b) ∧ leHi b (maxN a b) ∧ (maxN a b = a ∨ maxN a b = b) := by
  rcases a with _ | x <;> rcases b with _ | y <;> simp [maxN, leHi]
  split <;> omega
/-! ### the steps -/
/-- the rising list: what stands ahead, and the last one -/
abbrev Ris := Option (List S2 × S2)
def gStep : Ris → S2 → Ris
  | none, q => some ([], q)
  | some (i, p), q => if gap p q then some (i ++ [p], q) else some (i, hull2 p q)
def risL : Ris → List S2
  | none => []
  | some (i, p) => i ++ [p]
structure GInv (ps : List S2) (i : List S2) (p : S2) : Prop where
  ap : Apart (i ++ [p])
  ok : ∀ s ∈ i ++ [p], okS s
  held : ∀ n, ((i ++ [p]).any fun s => hs s n) = ps.any fun s => hs s n
  lo : IsLo (ps.map (·.1)) ((i ++ [p]).headD p).1
  hi : IsHi (ps.map (·.2)) p.2
  at_ : p.1 ∈ ps.map (·.1)
theorem GInv.step {ps i : List S2} {p q : S2} (h : GInv ps i p) (hq : okS q) (hl : ∀ s ∈ ps, leLo s.1 q.1) : ∃ i' p', gStep (some (i, p)) q = some (i', p') ∧ GInv (ps ++ [q]) i' p' := by
  have hp : okS p := h.ok p (by simp)
  have hpl : leLo p.1 q.1 := by
    obtain ⟨s, hs, e⟩ := List.mem_map.mp h.at_
    rw [← e]; exact hl s hs
  have lo' : IsLo ((ps ++ [q]).map (·.1)) ((i ++ [p]).headD p).1 := by
    refine ⟨by rw [List.map_append]; exact List.mem_append_left _ h.lo.1, fun x hx => ?_⟩
    rw [List.map_append] at hx
    rcases List.mem_append.mp hx with hx | hx
    · exact h.lo.2 x hx
    · have : x = q.1 := by simpa using hx
      subst this
      obtain ⟨s, hs, e⟩ := List.mem_map.mp h.lo.1
      rw [← e]; exact hl s hs
  simp only [gStep]
  by_cases hg : gap p q = true
  · rw [if_pos hg]
    refine ⟨_, _, rfl, ?_⟩
    obtain ⟨a, b, e1, e2, e3⟩ : gap2 p q := by
      unfold gap at hg
      split at hg
      · rename_i x y e1 e2
        refine ⟨x, y, e1, e2, ?_⟩
        have : y > x + 1 := by simpa using hg
        omega
      · cases hg
    have hd : ((i ++ [p] ++ [q]).headD q).1 = ((i ++ [p]).headD p).1 := by cases i <;> rfl
    refine ⟨by rw [List.append_assoc]; exact h.ap.snoc ⟨a, b, e1, e2, e3⟩, fun s hs => ?_, fun n => ?_, by rw [hd]; exact lo', ?_, ?_⟩
    · rcases List.mem_append.mp hs with hs | hs
      · exact h.ok s hs
      · have : s = q := by simpa using hs
        subst this; exact hq
    · have hh := h.held n
      rw [List.any_append] at hh
      rw [List.any_append, List.any_append, List.any_append, hh]
    · refine ⟨by simp, fun x hx => ?_⟩
      rw [List.map_append] at hx
      rcases List.mem_append.mp hx with hx | hx
      · have z := h.hi.2 x hx
        rw [e1] at z
        rcases hq2 : q.2 with _ | y
        · exact .inl rfl
        · have hq' := hq
          unfold okS at hq'
          rw [e2, hq2] at hq'
          have : ¬ y < b := by simpa [crossed] using hq'
          rcases z with z | ⟨u, v, rfl, ev, h1⟩
          · cases z
          · cases ev; exact .inr ⟨_, _, rfl, rfl, by omega⟩
      · have : x = q.2 := by simpa using hx
        subst this; exact leHi.refl _
    · simp
  · have hg' : gap p q = false := by simpa using hg
    rw [if_neg hg]
    refine ⟨_, _, rfl, ?_⟩
    have e1 : (hull2 p q).1 = p.1 := minN_le hpl
    have hd : ((i ++ [hull2 p q]).headD (hull2 p q)).1 = ((i ++ [p]).headD p).1 := by
      cases i with
      | nil => exact e1
      | cons x r => rfl
    obtain ⟨m1, m2, m3⟩ := maxN_hi p.2 q.2
    refine ⟨h.ap.last e1.symm, fun s hs => ?_, fun n => ?_, by rw [hd]; exact lo', ⟨?_, fun x hx => ?_⟩, ?_⟩
    · rcases List.mem_append.mp hs with hs | hs
      · exact h.ok s (List.mem_append_left _ hs)
      · have : s = hull2 p q := by simpa using hs
        subst this
        unfold okS at *
        rw [e1]
        show crossed p.1 (maxN p.2 q.2) = false
        rcases m3 with m3 | m3
        · rw [m3]; exact hp
        · rw [m3]
          rcases hpl with z | ⟨x, y, z1, z2, z3⟩
          · rw [z]; exact crossed_n _
          · rw [z1]
            rw [z2] at hq
            rcases hq2 : q.2 with _ | w
            · exact crossed_m _
            · rw [hq2] at hq
              simp [crossed] at hq ⊢
              omega
    · have hh := h.held n
      rw [List.any_append] at hh ⊢
      rw [List.any_append, ← hh]
      have k := hull2_holds (n := n) hp hq hpl hg'
      simp only [List.any_cons, List.any_nil, Bool.or_false]
      rw [← k, Bool.or_assoc]
    · rw [List.map_append]
      show maxN p.2 q.2 ∈ _
      rcases m3 with m3 | m3
      · rw [m3]; exact List.mem_append_left _ h.hi.1
      · rw [m3]; simp
    · rw [List.map_append] at hx
      rcases List.mem_append.mp hx with hx | hx
      · exact (h.hi.2 x hx).trans m1
      · have : x = q.2 := by simpa using hx
        subst this; exact m2
    · rw [e1, List.map_append]; exact List.mem_append_left _ h.at_
def gatherZ (zs : List S2) : Ris := zs.foldl gStep none
theorem gatherZ_inv : ∀ (rest ps i : List S2) (p : S2), GInv ps i p → (∀ s ∈ rest, okS s) → (ps ++ rest).Pairwise (fun a b => leLo a.1 b.1) → ∃ i' p', rest.foldl gStep (some (i, p)) = some (i', p') ∧ GInv (ps ++ rest) i' p'
  | [], ps, i, p, h, _, _ => ⟨i, p, rfl, by rw [List.append_nil]; exact h⟩
  | q :: rest, ps, i, p, h, ho, hp => by
    obtain ⟨i1, p1, e, h1⟩ := h.step (ho q (.head _)) fun s hs => (List.pairwise_append.mp hp).2.2 s hs q (.head _)
    have ea : ps ++ q :: rest = (ps ++ [q]) ++ rest := by simp
    rw [ea] at hp
    obtain ⟨i2, p2, e2, h2⟩ := gatherZ_inv rest (ps ++ [q]) i1 p1 h1 (fun s hs => ho s (.tail _ hs)) hp
    refine ⟨i2, p2, ?_, by rw [ea]; exact h2⟩
    rw [List.foldl_cons, e]; exact e2
theorem gatherZ_ok {zs : List S2} (ho : ∀ s ∈ zs, okS s) (hp : zs.Pairwise (fun a b => leLo a.1 b.1)) : (zs = [] ∧ gatherZ zs = none) ∨ ∃ i p, gatherZ zs = some (i, p) ∧ GInv zs i p := by
  cases zs with
  | nil => exact .inl ⟨rfl, rfl⟩
  | cons q rest =>
    right
    have h0 : GInv [q] [] q := ⟨trivial, fun s hs => by
      have : s = q := by simpa using hs
      subst this; exact ho s (.head _), fun n => rfl, ⟨by simp, fun x hx => by
        have : x = q.1 := by simpa using hx
        subst this; exact leLo.refl _⟩, ⟨by simp, fun x hx => by
        have : x = q.2 := by simpa using hx
        subst this; exact leHi.refl _⟩, by simp⟩
    obtain ⟨i, p, e, h⟩ := gatherZ_inv rest [q] [] q h0 (fun s hs => ho s (.tail _ hs)) hp
    exact ⟨i, p, e, h⟩
/-- what gathered tells -/
def gatherS (as : List S2) : List S2 := risL (gatherZ (sortL (as.map fun s => klo s.1) (none, none) as))
structure Gath (as gs : List S2) : Prop where
  ap : Apart gs
  ok : ∀ s ∈ gs, okS s
  held : ∀ n, (gs.any fun s => hs s n) = as.any fun s => hs s n
  nil : gs = [] ↔ as = []
  lo : ∀ g, gs.head? = some g → IsLo (as.map (·.1)) g.1
  hi : ∀ g, gs.getLast? = some g → IsHi (as.map (·.2)) g.2
theorem gatherS_ok {as : List S2} (ho : ∀ s ∈ as, okS s) : Gath as (gatherS as) := by
  have pm : (sortL (as.map fun s => klo s.1) (none, none) as).Perm as := sortL_perm
  have sr := sortL_sorted (kis := as.map fun s => klo s.1) (d := ((none, none) : S2)) (as := as) (f := fun s => klo s.1) rfl
  unfold gatherS
  generalize sortL (as.map fun s => klo s.1) (none, none) as = zs at pm sr ⊢
  rcases gatherZ_ok (fun s hs => ho s (pm.mem_iff.mp hs)) (sr.imp fun h => lex_klo.mp h) with ⟨rfl, e⟩ | ⟨i, p, e, h⟩
  · have : as = [] := by simpa using pm.symm.eq_nil
    subst this
    rw [e]
    exact ⟨trivial, fun s hs => (nomatch hs), fun _ => rfl, Iff.rfl, fun g hg => (nomatch hg), fun g hg => (nomatch hg)⟩
  · rw [e]
    have anyp : ∀ n, (zs.any fun s => hs s n) = as.any fun s => hs s n := fun n => by
      rw [Bool.eq_iff_iff, List.any_eq_true, List.any_eq_true]
      exact ⟨fun ⟨x, hx, q⟩ => ⟨x, pm.mem_iff.mp hx, q⟩, fun ⟨x, hx, q⟩ => ⟨x, pm.mem_iff.mpr hx, q⟩⟩
    refine ⟨h.ap, h.ok, fun n => (h.held n).trans (anyp n), ?_, fun g hg => ?_, fun g hg => ?_⟩
    · constructor
      · intro z; simp [risL] at z
      · intro z
        subst z
        have z := pm.eq_nil
        subst z
        cases e
    · have e2 : ((i ++ [p]).headD p) = g := by
        show ((i ++ [p]).headD p) = g
        have : (i ++ [p]).head? = some g := hg
        rw [List.headD_eq_head?_getD, this]; rfl
      have z := h.lo
      rw [e2] at z
      exact ⟨((pm.map _).mem_iff).mp z.1, fun x hx => z.2 x ((pm.map _).mem_iff.mpr hx)⟩
    · have e2 : p = g := by
        have : (i ++ [p]).getLast? = some g := hg
        rw [List.getLast?_concat] at this
        exact Option.some.inj this
      subst e2
      have z := h.hi
      exact ⟨((pm.map _).mem_iff).mp z.1, fun x hx => z.2 x ((pm.map _).mem_iff.mpr hx)⟩
/-! ### lists of stretches as they lie -/
open PySem in
def Sts (H : Hp) : List V → List S2 → Prop
  | [], [] => True
  | v :: vs, s :: ss => IsS H v s.1 s.2 ∧ Sts H vs ss
  | _, _ => False
section
variable {H H1 : Hp} {K : PySem.W.Frag}
theorem Sts.same (e : Same H H1) : ∀ {vs : List V} {ss : List S2}, Sts H vs ss → Sts H1 vs ss
  | [], [], _ => trivial
  | _ :: _, _ :: _, h => ⟨h.1.same e, Sts.same e h.2⟩
  | [], _ :: _, h => h.elim
  | _ :: _, [], h => h.elim
theorem IsS.put {v : V} {a b : En} {l : PySem.Addr} {ys : List V} {o : HO} (h : IsS H v a b) (hl : H l = some (.lst ys)) : IsS (upd H l o) v a b := by
  obtain ⟨p, e, h⟩ := h
  exact ⟨p, e, by rw [upd_ne (ne_of h hl fun z => nomatch z)]; exact h⟩
theorem Sts.put {l : PySem.Addr} {ys : List V} {o : HO} (hl : H l = some (.lst ys)) : ∀ {vs : List V} {ss : List S2}, Sts H vs ss → Sts (upd H l o) vs ss
  | [], [], _ => trivial
  | _ :: _, _ :: _, h => ⟨h.1.put hl, Sts.put hl h.2⟩
  | [], _ :: _, h => h.elim
  | _ :: _, [], h => h.elim
theorem Sts.len : ∀ {vs : List V} {ss : List S2}, Sts H vs ss → vs.length = ss.length
  | [], [], _ => rfl
  | _ :: _, _ :: _, h => by simp [Sts.len h.2]
  | [], _ :: _, h => h.elim
  | _ :: _, [], h => h.elim
theorem Sts.get : ∀ {vs : List V} {ss : List S2} {i : Nat} {v : V}, Sts H vs ss → vs[i]? = some v → ∃ s, ss[i]? = some s ∧ IsS H v s.1 s.2
  | [], [], _, _, _, e => by simp at e
  | _ :: _, s :: _, 0, _, h, e => by simp at e; subst e; exact ⟨s, rfl, h.1⟩
  | _ :: _, _ :: _, i + 1, _, h, e => by
    obtain ⟨s, a, b⟩ := Sts.get (i := i) h.2 (by simpa using e)
    exact ⟨s, by simpa using a, b⟩
  | [], _ :: _, _, _, h, _ => h.elim
  | _ :: _, [], _, _, h, _ => h.elim
theorem Sts.app : ∀ {vs ws : List V} {ss ts : List S2}, Sts H vs ss → Sts H ws ts → Sts H (vs ++ ws) (ss ++ ts)
  | [], _, [], _, _, h => h
  | _ :: _, _, _ :: _, _, h, h' => ⟨h.1, Sts.app h.2 h'⟩
  | [], _, _ :: _, _, h, _ => h.elim
  | _ :: _, _, [], _, h, _ => h.elim
theorem Sts.snoc_inv : ∀ {vs : List V} {ss : List S2} {s : S2}, Sts H vs (ss ++ [s]) → ∃ ws v, vs = ws ++ [v] ∧ Sts H ws ss ∧ IsS H v s.1 s.2
  | [], [], _, h => h.elim
  | [], _ :: _, _, h => h.elim
  | v :: [], [], s, h => ⟨[], v, rfl, trivial, h.1⟩
  | _ :: _ :: _, [], _, h => h.2.elim
  | v :: vs, t :: ss, s, h => by
    obtain ⟨ws, u, e, a, b⟩ := Sts.snoc_inv (vs := vs) (ss := ss) h.2
    exact ⟨v :: ws, u, by rw [e]; rfl, ⟨h.1, a⟩, b⟩
theorem Sts.sort {xs : List V} {as : List S2} {kis : List (List Int)} (h : Sts H xs as) : Sts H (sortL kis .non xs) (sortL kis (none, none) as) := by
  have hl := h.len
  have hp := (sortIx_ok (n := xs.length) (ltK_ord kis)).1
  unfold sortL
  rw [← hl]
  have gen : ∀ l : List Nat, (∀ i ∈ l, i < xs.length) → Sts H (l.map fun i => xs.getD i .non) (l.map fun i => as.getD i (none, none)) := by
    intro l
    induction l with
    | nil => intro _; exact trivial
    | cons i l ih =>
      intro q
      have hi := q i (.head _)
      obtain ⟨s, es, hs⟩ := h.get (List.getElem?_eq_getElem hi)
      refine ⟨?_, ih fun j hj => q j (.tail _ hj)⟩
      show IsS H (xs.getD i .non) (as.getD i (none, none)).1 (as.getD i (none, none)).2
      rw [List.getD_eq_getElem?_getD, List.getD_eq_getElem?_getD, es, List.getElem?_eq_getElem hi]
      exact hs
  exact gen _ fun i hi => by simpa using hp.mem_iff.mp hi
/-- the first, the second of a pair as it lies -/
def fstV (H : Hp) : V → V
  | .ref p => (match H p with | some (.tup (x :: _)) => x | _ => .non)
  | _ => .non
def sndV (H : Hp) : V → V
  | .ref p => (match H p with | some (.tup (_ :: x :: _)) => x | _ => .non)
  | _ => .non
theorem IsS.fst {v : V} {a b : En} (h : IsS H v a b) : fstV H v = ev a := by
  obtain ⟨p, rfl, h⟩ := h
  simp only [fstV, h]
theorem IsS.snd {v : V} {a b : En} (h : IsS H v a b) : sndV H v = ev b := by
  obtain ⟨p, rfl, h⟩ := h
  simp only [sndV, h]
theorem Sts.fst : ∀ {vs : List V} {ss : List S2}, Sts H vs ss → vs.map (fstV H) = ss.map fun s => ev s.1
  | [], [], _ => rfl
  | _ :: _, _ :: _, h => by rw [List.map_cons, List.map_cons, h.1.fst, Sts.fst h.2]
  | [], _ :: _, h => h.elim
  | _ :: _, [], h => h.elim
theorem Sts.snd : ∀ {vs : List V} {ss : List S2}, Sts H vs ss → vs.map (sndV H) = ss.map fun s => ev s.2
  | [], [], _ => rfl
  | _ :: _, _ :: _, h => by rw [List.map_cons, List.map_cons, h.1.snd, Sts.snd h.2]
  | [], _ :: _, h => h.elim
  | _ :: _, [], h => h.elim
theorem Sts.mem : ∀ {vs : List V} {ss : List S2} {v : V}, Sts H vs ss → v ∈ vs → ∃ s ∈ ss, IsS H v s.1 s.2 := fun h hv => by
  obtain ⟨i, hi, e⟩ := List.mem_iff_getElem.mp hv
  obtain ⟨s, es, q⟩ := Sts.get h (by rw [List.getElem?_eq_getElem hi, e])
  exact ⟨s, List.mem_of_getElem? es, q⟩
/-! ### ends in a list -/
theorem inV_ev : ∀ (es : List En), inV .non (es.map ev) = decide ((none : En) ∈ es)
  | [] => rfl
  | e :: es => by
    have ih := inV_ev es
    unfold inV at ih ⊢
    rw [List.map_cons, List.any_cons, ih]
    rcases e with _ | x
    · simp [ev, eqV]
    · simp [ev, eqV]
theorem flat_ev : ∀ (es : List En), (es.map ev).all flatV = true
  | [] => rfl
  | e :: es => by
    rw [List.map_cons, List.all_cons, flat_ev es]
    rcases e with _ | x <;> rfl
theorem ev_ints : ∀ {es : List En}, (none : En) ∉ es → es.map ev = (es.filterMap id).map V.int
  | [], _ => rfl
  | e :: es, h => by
    rcases e with _ | x
    · exact absurd (.head _) h
    · have ih := ev_ints (es := es) fun z => h (.tail _ z)
      rw [List.map_cons, ih]; rfl
theorem ints_ne {es : List En} (h : (none : En) ∉ es) (h0 : es ≠ []) : es.filterMap id ≠ [] := by
  cases es with
  | nil => exact absurd rfl h0
  | cons e r =>
    rcases e with _ | x
    · exact absurd (.head _) h
    · intro z; simp at z
theorem lo_ints {es : List En} (h : (none : En) ∉ es) (h0 : es ≠ []) : IsLo es (some (minL (es.filterMap id))) := by
  have mem : ∀ x, some x ∈ es ↔ x ∈ es.filterMap id := fun x => by simp
  have hne : es.filterMap id ≠ [] := by
    cases es with
    | nil => exact absurd rfl h0
    | cons e r =>
      rcases e with _ | x
      · exact absurd (.head _) h
      · intro z; simp at z
  obtain ⟨m1, m2⟩ := minL_mem hne
  refine ⟨(mem _).mpr m1, fun x hx => ?_⟩
  rcases x with _ | x
  · exact absurd hx h
  · exact .inr ⟨_, _, rfl, rfl, m2 x ((mem x).mp hx)⟩
theorem hi_ints {es : List En} (h : (none : En) ∉ es) (h0 : es ≠ []) : IsHi es (some (maxL (es.filterMap id))) := by
  have mem : ∀ x, some x ∈ es ↔ x ∈ es.filterMap id := fun x => by simp
  have hne : es.filterMap id ≠ [] := by
    cases es with
    | nil => exact absurd rfl h0
    | cons e r =>
      rcases e with _ | x
      · exact absurd (.head _) h
      · intro z; simp at z
  obtain ⟨m1, m2⟩ := maxL_mem hne
  refine ⟨(mem _).mpr m1, fun x hx => ?_⟩
  rcases x with _ | x
  · exact absurd hx h
  · exact .inr ⟨_, _, rfl, rfl, m2 x ((mem x).mp hx)⟩
theorem lo_none {es : List En} (h : (none : En) ∈ es) : IsLo es none := ⟨h, fun _ _ => .inl rfl⟩
theorem hi_none {es : List En} (h : (none : En) ∈ es) : IsHi es none := ⟨h, fun _ _ => .inl rfl⟩
theorem lo_two (a b : En) : IsLo [a, b] (minN a b) := by
  rcases a with _ | x <;> rcases b with _ | y
  · exact lo_none (by simp)
  · exact lo_none (by simp)
  · exact lo_none (by simp)
  · exact lo_ints (es := [some x, some y]) (by simp) (by simp)
theorem hi_two (a b : En) : IsHi [a, b] (maxN a b) := by
  rcases a with _ | x <;> rcases b with _ | y
  · exact hi_none (by simp)
  · exact hi_none (by simp)
  · exact hi_none (by simp)
  · exact hi_ints (es := [some x, some y]) (by simp) (by simp)
/-- v is the hull of these -/
def HullIs (H : Hp) (v : V) (as : List S2) : Prop := (as = [] → v = .non) ∧ (as ≠ [] → ∃ lo hi, IsS H v lo hi ∧ IsLo (as.map (·.1)) lo ∧ IsHi (as.map (·.2)) hi)
theorem HullIs.two {v : V} {p q : S2} (h : HullIs H v [p, q]) : IsS H v (hull2 p q).1 (hull2 p q).2 := by
  obtain ⟨lo, hi, a, b, c⟩ := h.2 (by simp)
  have e1 : lo = minN p.1 q.1 := b.uniq (lo_two p.1 q.1) fun _ => Iff.rfl
  have e2 : hi = maxN p.2 q.2 := c.uniq (hi_two p.2 q.2) fun _ => Iff.rfl
  rw [e1, e2] at a
  exact a
theorem filter_all (l : List V) : l.filter (fun _ => true) = l := List.filter_eq_self.mpr fun _ _ => rfl
/-! ### stretches as data -/
open PySem
def datE : En → PyData
  | none => .none
  | some i => .int i
def datS (s : S2) : PyData := .tuple [datE s.1, datE s.2]
theorem dat_ev (e : En) : Dat K H (ev e) (datE e) := by
  rcases e with _ | x
  · exact .non
  · exact .int x
theorem IsS.dat {v : V} {a b : En} (h : IsS H v a b) : Dat K H v (datS (a, b)) := by
  obtain ⟨p, rfl, h⟩ := h
  exact .tup (SqT.of h) (.cons (dat_ev a) (.cons (dat_ev b) .nil))
theorem Sts.dat : ∀ {vs : List V} {ss : List S2}, Sts H vs ss → Dats K H vs (ss.map datS)
  | [], [], _ => .nil
  | _ :: _, (a, b) :: _, h => .cons h.1.dat (Sts.dat h.2)
  | [], _ :: _, h => h.elim
  | _ :: _, [], h => h.elim
theorem eqv_E (e : En) : PyData.eqv (datE e) (datE e) = true := by
  rcases e with _ | x <;> simp [datE, PyData.eqv]
theorem eqv_S (s : S2) : PyData.eqv (datS s) (datS s) = true := by
  simp only [datS, PyData.eqv, PyData.eqvAll, eqv_E, Bool.and_self]
theorem eqv_Ss : ∀ (ss : List S2), PyData.eqvAll (ss.map datS) (ss.map datS) = true
  | [] => rfl
  | s :: ss => by rw [List.map_cons]; simp only [PyData.eqvAll, eqv_S, eqv_Ss ss, Bool.and_self]
theorem lay_E (e : En) : (datE e).canLay0 = true := by rcases e with _ | x <;> rfl
theorem lay_S (s : S2) : (datS s).canLay0 = true := by
  simp only [datS, PyData.canLay0, PyData.canLayAll0, lay_E, Bool.and_self]
theorem lay_Ss : ∀ (ss : List S2), PyData.canLayAll0 (ss.map datS) = true
  | [] => rfl
  | s :: ss => by rw [List.map_cons]; simp only [PyData.canLayAll0, lay_S, lay_Ss ss, Bool.and_self]
theorem dep_E (e : En) : (datE e).depth = 0 := by rcases e with _ | x <;> rfl
theorem dep_S (s : S2) : (datS s).depth = 1 := by
  simp only [datS, PyData.depth, PyData.depthAll, dep_E]; rfl
theorem dep_Ss : ∀ (ss : List S2), PyData.depthAll (ss.map datS) ≤ 1
  | [] => by simp [PyData.depthAll]
  | s :: ss => by
    rw [List.map_cons]
    have := dep_Ss ss
    simp only [PyData.depthAll, dep_S]; omega
/-- two lists of the same stretches are equal -/
theorem eq_Sts {x y : V} {a b : Addr} {xs ys : List V} {ss : List S2} {neg : Bool} {Q : VK} (ha : SqL K H a xs) (hb : SqL K H b ys) (h : Sts H xs ss) (h' : Sts H ys ss) (q : Q (.bl (!neg)) H) : rEqD K neg (.ref a) (.ref b) H Q := by
  refine ⟨.list (ss.map datS), .list (ss.map datS), .lst ha h.dat, .lst hb h'.dat, lay_Ss ss, lay_Ss ss, ?_, ?_⟩
  · have := dep_Ss ss
    simp only [PyData.depth]; omega
  · have e : PyData.eqv (.list (ss.map datS)) (.list (ss.map datS)) = true := by simp only [PyData.eqv, eqv_Ss]
    rw [e]
    cases neg <;> exact q
theorem eq_IsS {u v : V} {a b : En} {neg : Bool} {Q : VK} (h : IsS H u a b) (h' : IsS H v a b) (q : Q (.bl (!neg)) H) : rEqD K neg u v H Q := by
  refine ⟨_, _, h.dat, h'.dat, lay_S _, lay_S _, ?_, ?_⟩
  · rw [dep_S]; decide
  · rw [eqv_S]
    cases neg <;> exact q
theorem hull_ok {as : List S2} {lo hi : En} (h0 : as ≠ []) (ho : ∀ s ∈ as, okS s) (h1 : IsLo (as.map (·.1)) lo) (h2 : IsHi (as.map (·.2)) hi) : okS (lo, hi) := by
  cases as with
  | nil => exact absurd rfl h0
  | cons s r =>
    have a := h1.2 s.1 (by simp)
    have b := h2.2 s.2 (by simp)
    have c := ho s (by simp)
    unfold okS at c ⊢
    rcases a with rfl | ⟨x, y, rfl, e1, e2⟩
    · exact crossed_n _
    · rcases b with rfl | ⟨z, w, e3, rfl, e4⟩
      · exact crossed_m _
      · rw [e1, e3] at c
        simp [crossed] at c ⊢
        omega
theorem gather_len : ∀ (zs : List S2) (R : Ris), (risL (zs.foldl gStep R)).length ≤ (risL R).length + zs.length
  | [], R => by simp
  | z :: zs, R => by
    rw [List.foldl_cons]
    have h := gather_len zs (gStep R z)
    have h2 : (risL (gStep R z)).length ≤ (risL R).length + 1 := by
      rcases R with _ | ⟨i, p⟩
      · simp [gStep, risL]
      · simp only [gStep]
        split <;> simp [risL]
    rw [List.length_cons]; omega
theorem gatherS_len (as : List S2) : (gatherS as).length ≤ as.length := by
  unfold gatherS gatherZ
  have h := gather_len (sortL (as.map fun s => klo s.1) (none, none) as) none
  rw [sortL_length] at h
  have e : (risL none).length = 0 := rfl
  omega
theorem at_script {ns : List Int} {k : Int} (h0 : 0 ≤ k) (h1 : k < ns.length) : ∃ c, atI (ns.map V.int) k = some (.int c) := by
  obtain ⟨j, rfl⟩ : ∃ j : Nat, k = (j : Int) := ⟨k.toNat, by omega⟩
  have hk : j < ns.length := by omega
  refine ⟨ns[j], atI_nat ?_⟩
  rw [List.getElem?_map, List.getElem?_eq_getElem hk]
  rfl
end
end Gz

set_option Elab.async false
set_option linter.all false
set_option maxRecDepth 100000
set_option maxHeartbeats 4000000
/-! range with a step -/
namespace Gz
open PySem PySem.Spec PyProof.Rows L2
def Its (lo st : Int) (n : Nat) : It := ⟨fun i _ => i < n, fun i H x H' => H' = H ∧ x = .int (lo + (i : Int) * st), fun i _ => n ≤ i⟩
theorem turn_step {P : Program} {w : World} {K : PySem.W.Frag} {tg : Expr} (it : Addr) (lo st : Int) (n : Nat) : Turn P w K tg (Its lo st n) [it] it (fun i h => IsRangeIter h it (lo + (i : Nat) * st) ((n : Int) - (i : Nat)) st) where
  mem := by simp
  obj := fun i h q b hb => by
    have e : b = it := by simpa using hb
    subst e
    exact ⟨_, q, fun v z => by
      have z' : Data.fields _ = Data.cell v := z
      cases z'⟩
  keep := fun i h h' q k => k it (by simp) _ q
  item := by
    intro X hP hw hK hc i pins s σ H E I hf q hg
    subst hP hw hK
    obtain ⟨f0, f1, f2, f3, f4, f5⟩ := hf it (by simp)
    have W := Walks.range (prog := X.prog) (w := X.w) (I.ok.hd hc) it lo st n
    refine W.item i s _ _ hg q fun v h' tk hv q' kk => ?_
    obtain ⟨t, rfl⟩ := hv
    have I1 : Inv X pins σ H { s with heap := h', toks := tk } := I.turned (fun b o hb e => kk b o (by simpa using hb) e) f0 f1 f3 f4 f5
    exact ⟨_, rfl, go_of (s := { s with heap := h', toks := tk }) (n := "range_iterator") q' rfl rfl (by decide) ⟨.int (lo + (i : Int) * st), H, I1, ⟨t, rfl⟩, ⟨rfl, rfl⟩, q', fun b hb => (hf b hb).1⟩⟩
  done := by
    intro X hP hw hK hc i pins s σ H E I hf q hg
    subst hP hw hK
    obtain ⟨f0, f1, f2, f3, f4, f5⟩ := hf it (by simp)
    exact wpAny_pyNext_range_end (I.ok.hd hc) q (by have : n ≤ i := hg; omega) fun h' eb => ⟨rfl, I.turned (t' := s.toks) (fun b o hb e => eb b o hb e) f0 f1 f3 f4 f5⟩
  self := fun _ _ _ _ _ q h => wpAny_pyIter_rangeiter q h
/-- how many there are -/
def stepN (lo hi st : Int) : Nat := (Builtin.Range.rangeSize lo hi st).toNat
def iRng3 (ta : TA) : TI := fun σ H R => ta σ H fun vs H1 => ∃ i j c : Int, vs = [.int i, .int j, .int c] ∧ (-1000000 ≤ i ∧ i ≤ 1000000 ∧ -1000000 ≤ j ∧ j ≤ 1000000 ∧ -1000000 ≤ c ∧ c ≤ 1000000 ∧ c ≠ 0) ∧ R (Its i c (stepN i j c)) H1
theorem size_nn (i j c : Int) (h : c ≠ 0) : 0 ≤ Builtin.Range.rangeSize i j c := by
  unfold Builtin.Range.rangeSize
  split
  · rename_i hc
    split
    · have := Int.ediv_nonneg (show 0 ≤ j - i - 1 by omega) (show 0 ≤ c by omega); omega
    · omega
  · split
    · have := Int.ediv_nonneg (show 0 ≤ i - j - 1 by omega) (show 0 ≤ -c by omega); omega
    · omega
theorem size_le (i j c : Int) (h : -1000000 ≤ i ∧ i ≤ 1000000 ∧ -1000000 ≤ j ∧ j ≤ 1000000 ∧ c ≠ 0) : Builtin.Range.rangeSize i j c ≤ 2000000 := by
  unfold Builtin.Range.rangeSize
  split
  · split
    · have := Int.ediv_le_self (c) (show 0 ≤ j - i - 1 by omega); omega
    · omega
  · split
    · have := Int.ediv_le_self (-c) (show 0 ≤ i - j - 1 by omega); omega
    · omega
theorem small_step {i j c : Int} (h : -1000000 ≤ i ∧ i ≤ 1000000 ∧ -1000000 ≤ j ∧ j ≤ 1000000 ∧ -1000000 ≤ c ∧ c ≤ 1000000 ∧ c ≠ 0) : Builtin.Range.small i j c = true := by
  have h1 := size_nn i j c h.2.2.2.2.2.2
  have h2 := size_le i j c ⟨h.1, h.2.1, h.2.2.1, h.2.2.2.1, h.2.2.2.2.2.2⟩
  unfold Builtin.Range.small
  generalize Builtin.Range.rangeSize i j c = n at h1 h2 ⊢
  simp only [Builtin.Range.rangeFitsLong, Bool.and_eq_true, Bool.or_eq_true, decide_eq_true_eq, beq_iff_eq]
  refine ⟨by omega, .inr ?_⟩
  split <;> simp only [Bool.and_eq_true, decide_eq_true_eq] <;> omega
theorem pi_range3 {X : Cx} {tg a b c : Expr} {ta : TA} {p pos : Pos} (hg : Gl X "range") (hm : X.mg "range" = none) (ha : PA X [a, b, c] ta) (hs : starEach [a, b, c] X.env = (false, eval a X.env) :: starEach [b, c] X.env := by rfl) (hs2 : starEach [b, c] X.env = [(false, eval b X.env), (false, eval c X.env)] := by rfl) :
    PI X tg (.Call (.Name "range" p) [a, b, c] [] pos) (iRng3 ta) := by
  intro pins s σ H R I h
  refine Call_ (ld_blt I hg hm boot_range (PyProof.Rows.callWith_type1 (thn (ha pos pins s σ H _ I h) fun us s1 ⟨vs, H1, I1, r1, q1⟩ => ?_) (by rw [hs]) (by rw [hs2]; rfl)))
  obtain ⟨i, j, k, e, hb, q⟩ := q1
  subst e
  cases r1 with
  | cons r rr =>
    cases rr with
    | cons r' rr =>
      cases rr with
      | cons r'' rr =>
        cases rr
        obtain ⟨t, rfl⟩ := r
        obtain ⟨t', rfl⟩ := r'
        obtain ⟨t'', rfl⟩ := r''
        have hk : k ≠ 0 := hb.2.2.2.2.2.2
        refine call_range_3 hk ?_ (.inl (PyProof.noPylong_small (by omega)))
        refine wpAny_pyIter_range (IsRange.new ..) (small_step hb) ?_
        have I2 : Inv X pins σ H1 { s1 with heap := s1.heap.push { cls := .type "range", data := .fields #[.int i t, .int j t', .int k t''] }, toks := s1.toks } := I1.kept fun b o e => Heap.get?_push_of_some _ e
        refine ⟨_, [_], _, _, H1, rfl, I2.kept (t' := s1.toks) fun b o e => Heap.get?_push_of_some _ e, turn_step _ i k (stepN i j k), ?_, fun b hb => ?_, q⟩
        · have e1 : i + ((0 : Nat) : Int) * k = i := by simp
          have e2 : ((stepN i j k : Nat) : Int) - ((0 : Nat) : Int) = Builtin.Range.rangeSize i j k := by
            have := size_nn i j k hk
            unfold stepN; omega
          show IsRangeIter _ _ (i + ((0 : Nat) : Int) * k) (((stepN i j k : Nat) : Int) - ((0 : Nat) : Int)) k
          rw [e1, e2]
          exact Heap.get?_push_size _ rfl
        · have e : b = (s1.heap.push { cls := .type "range", data := .fields #[.int i t, .int j t', .int k t''] }).objs.size := by simpa using hb
          subst e
          exact I2.fpOk (Nat.le_refl _) (I2.hok.fresh (Nat.le_refl _))
theorem step2_lt {k : Int} {i : Nat} (h : i < stepN 1 k 2) : 1 + (i : Int) * 2 < k := by
  unfold stepN Builtin.Range.rangeSize at h
  rw [if_pos (by decide)] at h
  split at h
  · omega
  · simp at h
theorem step2_le (k : Int) (hk : k ≤ 62) : stepN 1 k 2 ≤ 31 := by
  unfold stepN Builtin.Range.rangeSize
  rw [if_pos (by decide)]
  split
  · omega
  · simp
section
variable {g : TG} {tb : TS} {D : Ends} {σ : L2.St} {H : Hp} {lo st : Int} {n : Nat}
theorem for_rng2 {ta : TA} : tFor (iRng2 ta) g tb D σ H = ta σ H (fun vs H1 => ∃ i j : Int, vs = [.int i, .int j] ∧ (-(2 ^ 62) ≤ i ∧ i < 2 ^ 62 ∧ -(2 ^ 62) ≤ j ∧ j < 2 ^ 62) ∧ FJ (Itr i (j - i).toNat) g tb D σ H1) := rfl
theorem for_rng3 {ta : TA} : tFor (iRng3 ta) g tb D σ H = ta σ H (fun vs H1 => ∃ i j c : Int, vs = [.int i, .int j, .int c] ∧ (-1000000 ≤ i ∧ i ≤ 1000000 ∧ -1000000 ≤ j ∧ j ≤ 1000000 ∧ -1000000 ≤ c ∧ c ≤ 1000000 ∧ c ≠ 0) ∧ FJ (Its i c (stepN i j c)) g tb D σ H1) := rfl
theorem by_step (Pv : Nat → L2.St → Hp → Prop) (h0 : Pv 0 σ H)
    (hs : ∀ i σ H, i < n → Pv i σ H → g (.int (lo + (i : Int) * st)) σ H fun σ2 H2 => tb { D with nx := Pv (i + 1), ct := Pv (i + 1), bk := D.nx } σ2 H2) (hd : ∀ σ H, Pv n σ H → D.nx σ H) : FJ (Its lo st n) g tb D σ H := by
  refine ⟨fun i m σ H => m = n - i ∧ i ≤ n ∧ Pv i σ H, ⟨n, by simp, Nat.zero_le _, h0⟩, ?_⟩
  rintro i m σ H ⟨rfl, hi, p⟩
  by_cases hlt : i < n
  · refine .inr ⟨hlt, Pv (i + 1), fun σ' H' p' => ⟨n - (i + 1), by omega, rfl, hlt, p'⟩, fun x H' y => ?_⟩
    obtain ⟨e, y⟩ := y
    subst e y
    exact hs i σ _ hlt p
  · have e : i = n := by omega
    subst e
    exact .inl ⟨Nat.le_refl _, hd σ H p⟩
end
end Gz

set_option Elab.async false
set_option linter.all false
set_option maxRecDepth 100000
set_option maxHeartbeats 4000000
/-! reversed, enumerate, zip as what a loop walks; sum, all, any of lists; tuples as targets -/
namespace Gz
open PySem PySem.Spec PyProof.Rows L2
local macro_rules | `(tactic| walk_at "om") => `(tactic| ((try simp only [PySem.Addr] at *); omega))
section
variable {X : Cx} {pins : List (Addr × Obj)} {σ : L2.St} {H : Hp} {s : Shared} {h' : Heap}
theorem turnsHok {ch : List Addr} (I : Inv X pins σ H s) (k : ∀ b o, b ∉ ch → s.heap.get? b = some o → h'.get? b = some o) (hf : ∀ b ∈ ch, FpOk X pins H b) {H' : Hp} (up : ∀ b u, H b = some u → H' b = some u) : ∀ b u, H b = some u → ObjOk X.prog X.w H' h' b u := by
  have nch : ∀ b u, H b = some u → b ∉ ch := fun b u e z => by rw [(hf b z).1] at e; cases e
  intro b u e
  refine (I.hok b u e).stay (fun c v hc q => k c v ?_ q) (fun c q => up c _ q) fun c xs q => up c _ q
  rcases hc with z | z
  · rw [z]; exact nch b u e
  · exact nch c _ z
/-- records of ours have turned -/
theorem Inv_turns {t' : Nat} {ch : List Addr} (I : Inv X pins σ H s) (k : ∀ b o, b ∉ ch → s.heap.get? b = some o → h'.get? b = some o) (hf : ∀ b ∈ ch, FpOk X pins H b) : Inv X pins σ H { s with heap := h', toks := t' } := by
  refine I.step (g' := s.gens) (d' := s.drawn) (ch := ch) (fun b hb => ?_) (fun b o _ _ hc e _ => k b o hc e) (fun b o _ _ hc e _ => ⟨o.slots, k b o hc e⟩) (fun _ _ _ _ n => n)
    (fun b o hc e => ⟨o, k b o hc e⟩) (fun _ _ e => e) (fun _ _ _ e => e) (fun b ps e => ⟨#[], by rw [e]; simp⟩) (fun m hm => ?_) (fun b u e => turnsHok I k hf (fun _ _ q => q) b u e) I.bare
  · obtain ⟨_, d1, d2, d3, d4, d5⟩ := hf b hb
    exact ⟨d3, d1, d4, d5⟩
  · obtain ⟨o, es, ep, ho, r⟩ := hm
    exact ⟨o, es, ep, k _ o (fun z => (hf _ z).2.1 rfl) ho, r⟩
/-- .. and a new object stands at T -/
theorem Inv_turnsLaid {t' : Nat} {ch : List Addr} {T : Addr} {o : HO} (I : Inv X pins σ H s) (k : ∀ b o, b ∉ ch → s.heap.get? b = some o → h'.get? b = some o) (hf : ∀ b ∈ ch, FpOk X pins H b) (hT : s.heap.objs.size ≤ T)
    (new : ObjOk X.prog X.w (upd H T o) h' T o) : Inv X pins σ (upd H T o) { s with heap := h', toks := t' } := by
  have hn := I.hok.fresh hT
  have neT : ∀ b u, s.heap.get? b = some u → b ≠ T := fun b u e => Nat.ne_of_lt (Nat.lt_of_lt_of_le (Heap.lt_size e) hT)
  have neH : ∀ b u, H b = some u → b ≠ T := fun b u e => ne_of_none e hn
  have up : ∀ b u, H b = some u → upd H T o b = some u := fun b u e => by rw [upd_ne (neH b u e)]; exact e
  refine I.step (g' := s.gens) (d' := s.drawn) (ch := ch) (fun b hb => ?_) (fun b o _ _ hc e _ => k b o hc e) (fun b o _ _ hc e _ => ⟨o.slots, k b o hc e⟩) (fun b u _ e n => by rw [upd_ne (neT b u e)]; exact n)
    (fun b o hc e => ⟨o, k b o hc e⟩) (fun b xs e => up b _ e) (fun b _ _ e => up b _ e) (fun b ps e => ⟨#[], by rw [up b _ e]; simp⟩) (fun m hm => ?_) (fun b u e => ?_) I.bare
  · obtain ⟨_, d1, d2, d3, d4, d5⟩ := hf b hb
    exact ⟨d3, d1, d4, d5⟩
  · obtain ⟨o, es, ep, ho, r⟩ := hm
    exact ⟨o, es, ep, k _ o (fun z => (hf _ z).2.1 rfl) ho, r⟩
  · by_cases hb : b = T
    · subst hb; rw [upd_same] at e; cases e; exact new
    · rw [upd_ne hb] at e
      exact turnsHok I k hf up b u e
end
/-! ### reversed -/
def Itv (K : PySem.W.Frag) (a : Addr) (n : Nat) : It :=
  ⟨fun i H => ∃ xs x, SqL K H a xs ∧ xs.length = n ∧ xs.reverse[i]? = some x, fun i H x H' => H' = H ∧ ∀ xs, SqL K H a xs → xs.length = n → xs.reverse[i]? = some x, fun i _ => i = n⟩
theorem turn_rev {P : Program} {w : World} {K : PySem.W.Frag} {tg : Expr} (a it : Addr) (n : Nat) : Turn P w K tg (Itv K a n) [it] it (fun i h => i ≤ n ∧ h.IsRevIter it a ((n : Int) - 1 - (i : Nat))) where
  mem := by simp
  obj := fun i h st b hb => by
    have e : b = it := by simpa using hb
    subst e
    obtain ⟨_, o, e, c, d⟩ := st
    exact ⟨o, e, fun v z => by rw [d] at z; cases z⟩
  keep := fun i h h' st k => ⟨st.1, st.2.at fun o e => k it (by simp) o e⟩
  item := by
    intro X hP hw hK hc i pins s σ H E I hf st hg
    subst hP hw hK
    obtain ⟨xs, x, hq, hn, hx⟩ := hg
    obtain ⟨its, rv, p, hz⟩ := I.list hq
    have hl := rv.length
    have hi : i < n := by
      have := (List.getElem?_eq_some_iff.mp hx).1
      rw [List.length_reverse] at this; omega
    have hx' : xs[n - 1 - i]? = some x := by
      rw [List.getElem?_reverse (by omega), hn] at hx; exact hx
    obtain ⟨u, hu, ru⟩ := rv.get hx'
    obtain ⟨f0, f1, f2, f3, f4, f5⟩ := hf it (by simp)
    have st' := st.2
    rw [show (n : Int) - 1 - (i : Nat) = ((n - 1 - i : Nat) : Int) by omega] at st'
    refine wpAny_pyNext_rev_item st' p.isList (x := u) (by simpa using hu) fun h' st' sb => ?_
    have I1 : Inv X pins σ H { s with heap := h' } := I.turned (t' := s.toks) (fun b o hb e => (sb.2 b hb).trans e) f0 f1 f3 f4 f5
    obtain ⟨o, e, c, d⟩ := id st'
    rw [show ((n - 1 - i : Nat) : Int) - 1 = (n : Int) - 1 - ((i + 1 : Nat) : Int) by omega] at st'
    exact ⟨u, rfl, go_of (s := { s with heap := h' }) e c d (by decide) ⟨x, H, I1, ru, ⟨rfl, fun ys hy _ => by rw [I.list_inj hy hq]; exact hx⟩, ⟨by omega, st'⟩, fun b hb => (hf b hb).1⟩⟩
  done := by
    intro X hP hw hK hc i pins s σ H E I hf st hg
    subst hP hw hK
    have hg' : i = n := hg
    subst hg'
    obtain ⟨f0, f1, f2, f3, f4, f5⟩ := hf it (by simp)
    have st' := st.2
    rw [show (i : Int) - 1 - (i : Nat) = -1 by omega] at st'
    exact wpAny_pyNext_rev_end (I.ok.hd hc) st' fun h' eb => ⟨rfl, I.turned (t' := s.toks) (fun b o hb e => eb b o hb e) f0 f1 f3 f4 f5⟩
  self := fun _ _ _ _ _ st h => wpAny_pyIter_revIter st.2 h
def iRev (K : PySem.W.Frag) (ta : TA) : TI := fun σ H R => ta σ H fun vs H1 => ∃ a xs, vs = [.ref a] ∧ SqL K H1 a xs ∧ R (Itv K a xs.length) H1
theorem pi_rev {X : Cx} {tg e : Expr} {ta : TA} {p pos : Pos} (hg : Gl X "reversed") (hm : X.mg "reversed" = none) (ha : PA X [e] ta) (hs : starEach [e] X.env = [(false, eval e X.env)] := by rfl) : PI X tg (.Call (.Name "reversed" p) [e] [] pos) (iRev X.K ta) := by
  intro pins s σ H R I h
  refine Call_ (ld_blt I hg hm b_reversed (PyProof.Rows.callWith_type1 (thn (ha pos pins s σ H _ I h) fun us s1 ⟨vs, H1, I1, r1, q1⟩ => ?_) hs rfl))
  obtain ⟨a, xs, rfl, hq, q⟩ := q1
  obtain ⟨u, rfl, ru⟩ := vals1 r1
  cases ru
  obtain ⟨its, rv, p, hz⟩ := I1.list hq
  refine call_reversed_list p.isList ?_
  have hl := rv.length
  refine wpAny_pyIter_revIter (i := (its.toArray.size : Int) - 1) (l := a) ⟨_, Heap.get?_push_size _ rfl, rfl, rfl⟩ ?_
  refine ⟨s1.heap.objs.size, [s1.heap.objs.size], _, _, H1, rfl, I1.kept (t' := s1.toks) fun b o e => Heap.get?_push_of_some _ e, turn_rev a _ xs.length, ⟨Nat.zero_le _, _, Heap.get?_push_size _ rfl, rfl, ?_⟩, fun b hb => ?_, q⟩
  · rw [List.size_toArray, ← hl]; simp; rfl
  · have e : b = s1.heap.objs.size := by simpa using hb
    subst e
    exact I1.fpOk (Nat.le_refl _) (I1.hok.fresh (Nat.le_refl _))
/-! ### enumerate, zip: a new tuple at each turn -/
def Ite (K : PySem.W.Frag) (a : Addr) : It :=
  ⟨fun i H => ∃ xs x, SqL K H a xs ∧ xs[i]? = some x, fun i H v H' => ∃ (p : Addr) (x : V), v = .ref p ∧ H p = none ∧ H' = upd H p (.tup [.int i, x]) ∧ ∀ xs, SqL K H a xs → xs[i]? = some x, fun i H => ∃ xs, SqL K H a xs ∧ xs.length ≤ i⟩
theorem line2' : 2 ≤ sizeLine := by decide
theorem turn_enum {P : Program} {w : World} {K : PySem.W.Frag} {es : List Expr} {k : Nat} {tp : Pos} (a e it : Addr) (hei : e ≠ it) : Turn P w K (.Tuple es k tp) (Ite K a) [e, it] e (fun i h => (∃ old, IsEnum h e it (i : Nat) old) ∧ h.IsListIter it a i) where
  mem := by simp
  obj := fun i h st b hb => by
    obtain ⟨⟨old, he⟩, o, ho, c, d⟩ := st
    have hb' : b = e ∨ b = it := by simpa using hb
    rcases hb' with rfl | rfl
    · exact ⟨_, he, fun v z => by
        have z' : Data.fields _ = Data.cell v := z
        cases z'⟩
    · exact ⟨o, ho, fun v z => by rw [d] at z; cases z⟩
  keep := fun i h h' st kk => by
    obtain ⟨⟨old, he⟩, hi⟩ := st
    exact ⟨⟨old, kk e (by simp) _ he⟩, hi.at fun o e => kk it (by simp) o e⟩
  item := by
    intro X hP hw hK hc i pins s σ H E I hf st hg
    subst hP hw hK
    obtain ⟨xs, x, hq, hx⟩ := hg
    obtain ⟨⟨old, he⟩, hit⟩ := st
    obtain ⟨its, rv, p, hz⟩ := I.list hq
    obtain ⟨u, hu, ru⟩ := rv.get hx
    refine wpAny_pyNext_enum_item he hit p.isList (x := u) (by simpa using hu) hei fun h1 ho hit1 hT hsz hk => ?_
    refine ⟨_, rfl, wpAny_letOwnedTupleGo_enum ho fun h2 he2 hs2 => ?_⟩
    have hs2' : Heap.SameBut e h1 h2 := hs2
    have neT : s.heap.objs.size ≠ e := Nat.ne_of_gt (Heap.lt_size he)
    have up : ∀ b o, b ∉ [e, it] → s.heap.get? b = some o → h2.get? b = some o := fun b o hb q => by
      have hb' : b ≠ e ∧ b ≠ it := by simpa using hb
      exact hs2'.extBut b o hb'.1 (hk b o hb'.1 hb'.2 q)
    have hn : H s.heap.objs.size = none := I.hok.fresh (Nat.le_refl _)
    refine ⟨.ref s.heap.objs.size, upd H s.heap.objs.size (.tup [.int i, x]), Inv_turnsLaid (s := s) (h' := h2) (t' := s.toks + 1) I up hf (Nat.le_refl _) ⟨line2', [.int i s.toks, u], .cons ⟨_, rfl⟩ (.cons ru .nil), ?_⟩, rfl, ⟨_, x, rfl, hn, rfl, fun ys hy => by rw [I.list_inj hy hq]; exact hx⟩, ⟨⟨u, ?_⟩, ?_⟩, fun b hb => ?_⟩
    · have := hs2'.extBut _ _ neT hT
      exact ⟨_, this, rfl, _, rfl⟩
    · have : ((i : Int) + 1) = ((i + 1 : Nat) : Int) := by omega
      rw [← this]; exact he2
    · exact hit1.at fun o q => hs2'.extBut _ _ (Ne.symm hei) q
    · rw [upd_ne]
      · exact (hf b hb).1
      · have hb' : b = e ∨ b = it := by simpa using hb
        rcases hb' with rfl | rfl
        · exact Ne.symm neT
        · obtain ⟨o, q, _⟩ := hit
          exact Nat.ne_of_lt (Heap.lt_size q)
  done := by
    intro X hP hw hK hc i pins s σ H E I hf st hg
    subst hP hw hK
    obtain ⟨xs, hq, hx⟩ := hg
    obtain ⟨⟨old, he⟩, hit⟩ := st
    obtain ⟨its, rv, p, hz⟩ := I.list hq
    have hl := rv.length
    refine wpAny_pyNext_enum_end (I.ok.hd hc) he hit p.isList (by simp; omega) fun h' eb => ⟨rfl, Inv_turns (t' := s.toks) I (fun b o hb q => ?_) hf⟩
    have hb' : b ≠ e ∧ b ≠ it := by simpa using hb
    exact eb b o hb'.2 q
  self := fun _ i s Q E st h => by
    obtain ⟨⟨old, he⟩, _⟩ := st
    exact wpAny_pyIter_enum he h
def iEnum (K : PySem.W.Frag) (ta : TA) : TI := fun σ H R => ta σ H fun vs H1 => ∃ a, vs = [.ref a] ∧ (∃ xs, SqL K H1 a xs) ∧ R (Ite K a) H1
theorem pi_enum {X : Cx} {es : List Expr} {k : Nat} {tp : Pos} {e : Expr} {ta : TA} {p pos : Pos} (hg : Gl X "enumerate") (hm : X.mg "enumerate" = none) (ha : PA X [e] ta) (hs : starEach [e] X.env = [(false, eval e X.env)] := by rfl) : PI X (.Tuple es k tp) (.Call (.Name "enumerate" p) [e] [] pos) (iEnum X.K ta) := by
  intro pins s σ H R I h
  refine Call_ (ld_blt I hg hm b_enumerate (PyProof.Rows.callWith_type1 (thn (ha pos pins s σ H _ I h) fun us s1 ⟨vs, H1, I1, r1, q1⟩ => ?_) hs rfl))
  obtain ⟨a, rfl, ⟨xs, hq⟩, q⟩ := q1
  obtain ⟨u, rfl, ru⟩ := vals1 r1
  cases ru
  obtain ⟨its, rv, p, hz⟩ := I1.list hq
  refine call_enumerate_list p.isList fun h' he hit hsz hk => ?_
  refine wpAny_pyIter_enum he ?_
  have I2 : Inv X pins σ H1 { s1 with heap := h' } := I1.kept (t' := s1.toks) hk
  refine ⟨s1.heap.objs.size + 1, [s1.heap.objs.size + 1, s1.heap.objs.size], _, _, H1, rfl, I2, turn_enum a _ _ (by walk_at "om"), ⟨⟨.none, he⟩, hit⟩, fun b hb => ?_, q⟩
  have hb' : b = s1.heap.objs.size + 1 ∨ b = s1.heap.objs.size := by simpa using hb
  rcases hb' with rfl | rfl
  · exact I1.fpOk (Nat.le_succ _) (I1.hok.fresh (Nat.le_succ _))
  · exact I1.fpOk (Nat.le_refl _) (I1.hok.fresh (Nat.le_refl _))
def Itz (K : PySem.W.Frag) (a b : Addr) : It :=
  ⟨fun i H => ∃ xs ys x y, SqL K H a xs ∧ SqL K H b ys ∧ xs[i]? = some x ∧ ys[i]? = some y, fun i H v H' => ∃ (p : Addr) (x y : V), v = .ref p ∧ H p = none ∧ H' = upd H p (.tup [x, y]) ∧ (∀ xs, SqL K H a xs → xs[i]? = some x) ∧ ∀ ys, SqL K H b ys → ys[i]? = some y,
    fun i H => ∃ xs ys, SqL K H a xs ∧ SqL K H b ys ∧ (xs.length ≤ i ∨ ys.length ≤ i)⟩
theorem turn_zip {P : Program} {w : World} {K : PySem.W.Frag} {es : List Expr} {k : Nat} {tp : Pos} (a b z TI TO i1 i2 : Addr) (D : ZipApart z TI TO i1 i2 a b) : Turn P w K (.Tuple es k tp) (Itz K a b) [z, TI, TO, i1, i2] z
    (fun i h => IsZip h z TI TO .none ∧ IsPair h TI (.ref i1) (.ref i2) ∧ (∃ a b, IsPair h TO a b) ∧ h.IsListIter i1 a i ∧ h.IsListIter i2 b i) where
  mem := by simp
  obj := fun i h st c hc => by
    obtain ⟨hz, hTI, ⟨ta, tb, hTO⟩, ⟨o1, h1, c1, d1⟩, ⟨o2, h2, c2, d2⟩⟩ := st
    have hc' : c = z ∨ c = TI ∨ c = TO ∨ c = i1 ∨ c = i2 := by simpa using hc
    rcases hc' with rfl | rfl | rfl | rfl | rfl
    · exact ⟨_, hz, fun v q => by
        have q' : Data.fields _ = Data.cell v := q
        cases q'⟩
    · exact ⟨_, hTI, fun v q => by
        have q' : Data.seq _ _ = Data.cell v := q
        cases q'⟩
    · exact ⟨_, hTO, fun v q => by
        have q' : Data.seq _ _ = Data.cell v := q
        cases q'⟩
    · exact ⟨o1, h1, fun v q => by rw [d1] at q; cases q⟩
    · exact ⟨o2, h2, fun v q => by rw [d2] at q; cases q⟩
  keep := fun i h h' st kk => by
    obtain ⟨hz, hTI, ⟨ta, tb, hTO⟩, h1, h2⟩ := st
    exact ⟨kk z (by simp) _ hz, kk TI (by simp) _ hTI, ⟨ta, tb, kk TO (by simp) _ hTO⟩, h1.at fun o e => kk i1 (by simp) o e, h2.at fun o e => kk i2 (by simp) o e⟩
  item := by
    intro X hP hw hK hc i pins s σ H E I hf st hg
    subst hP hw hK
    obtain ⟨xs, ys, x, y, hqx, hqy, hx, hy⟩ := hg
    obtain ⟨hz, hTI, ⟨ta, tb, hTO⟩, h1, h2⟩ := st
    obtain ⟨its, rv, p1, _⟩ := I.list hqx
    obtain ⟨jts, rv2, p2, _⟩ := I.list hqy
    obtain ⟨u, hu, ru⟩ := rv.get hx
    obtain ⟨v, hv, rv'⟩ := rv2.get hy
    refine wpAny_pyNext_zip_item D hz hTI hTO h1 h2 p1.isList p2.isList (x := u) (y := v) (by simpa using hu) (by simpa using hv) fun h' z1 t1 l1 l2 pT hsz hk => ?_
    refine ⟨_, rfl, wpAny_letOwnedTupleGo_zip z1 fun h3 z3 hs3 => ?_⟩
    have hs3' : Heap.SameBut z h' h3 := hs3
    have neT : s.heap.objs.size ≠ z := Nat.ne_of_gt (Heap.lt_size hz)
    have up : ∀ b o, b ∉ [z, TI, TO, i1, i2] → s.heap.get? b = some o → h3.get? b = some o := fun b o hb q => by
      have hb' : b ≠ z ∧ b ≠ TI ∧ b ≠ TO ∧ b ≠ i1 ∧ b ≠ i2 := by simpa using hb
      exact hs3'.extBut b o hb'.1 (hk b o hb'.1 hb'.2.2.1 hb'.2.2.2.1 hb'.2.2.2.2 q)
    have hn : H s.heap.objs.size = none := I.hok.fresh (Nat.le_refl _)
    refine ⟨.ref s.heap.objs.size, upd H s.heap.objs.size (.tup [x, y]), Inv_turnsLaid (s := s) (h' := h3) (t' := s.toks) I up hf (Nat.le_refl _) ⟨line2', [u, v], .cons ru (.cons rv' .nil), ?_⟩, rfl, ⟨_, x, y, rfl, hn, rfl, fun zs hzs => by rw [I.list_inj hzs hqx]; exact hx, fun zs hzs => by rw [I.list_inj hzs hqy]; exact hy⟩,
      ⟨z3, hs3'.extBut _ _ D.TIz (hk _ _ D.TIz D.TITO D.TIi1 D.TIi2 hTI), ⟨_, _, hs3'.extBut _ _ D.TOz t1⟩, l1.at fun o q => hs3'.extBut _ _ D.i1z q, l2.at fun o q => hs3'.extBut _ _ D.i2z q⟩, fun b hb => ?_⟩
    · have := hs3'.extBut _ _ neT pT
      exact ⟨_, this, rfl, _, rfl⟩
    · rw [upd_ne]
      · exact (hf b hb).1
      · have hb' : b = z ∨ b = TI ∨ b = TO ∨ b = i1 ∨ b = i2 := by simpa using hb
        rcases hb' with rfl | rfl | rfl | rfl | rfl
        · exact Ne.symm neT
        · exact Nat.ne_of_lt (Heap.lt_size hTI)
        · exact Nat.ne_of_lt (Heap.lt_size hTO)
        · obtain ⟨o, q, _⟩ := h1
          exact Nat.ne_of_lt (Heap.lt_size q)
        · obtain ⟨o, q, _⟩ := h2
          exact Nat.ne_of_lt (Heap.lt_size q)
  done := by
    intro X hP hw hK hc i pins s σ H E I hf st hg
    subst hP hw hK
    obtain ⟨xs, ys, hqx, hqy, hx⟩ := hg
    obtain ⟨hz, hTI, ⟨ta, tb, hTO⟩, h1, h2⟩ := st
    obtain ⟨its, rv, p1, _⟩ := I.list hqx
    obtain ⟨jts, rv2, p2, _⟩ := I.list hqy
    have l1 := rv.length
    have l2 := rv2.length
    refine wpAny_pyNext_zip_end (I.ok.hd hc) D hz hTI hTO h1 h2 p1.isList p2.isList (hx.imp (fun q => by simp; omega) fun q => by simp; omega) fun h' hk => ⟨rfl, Inv_turns (t' := s.toks) I (fun b o hb q => ?_) hf⟩
    have hb' : b ≠ z ∧ b ≠ TI ∧ b ≠ TO ∧ b ≠ i1 ∧ b ≠ i2 := by simpa using hb
    exact hk b o hb'.1 hb'.2.2.1 hb'.2.2.2.1 hb'.2.2.2.2 q
  self := fun _ i s Q E st h => wpAny_pyIter_zip st.1 h
def iZip (K : PySem.W.Frag) (ta : TA) : TI := fun σ H R => ta σ H fun vs H1 => ∃ a b, vs = [.ref a, .ref b] ∧ (∃ xs, SqL K H1 a xs) ∧ (∃ ys, SqL K H1 b ys) ∧ R (Itz K a b) H1
theorem pi_zip {X : Cx} {es : List Expr} {k : Nat} {tp : Pos} {e f : Expr} {ta : TA} {p pos : Pos} (hg : Gl X "zip") (hm : X.mg "zip" = none) (ha : PA X [e, f] ta) (hs : starEach [e, f] X.env = (false, eval e X.env) :: starEach [f] X.env := by rfl) (hs2 : starEach [f] X.env = [(false, eval f X.env)] := by rfl) : PI X (.Tuple es k tp) (.Call (.Name "zip" p) [e, f] [] pos) (iZip X.K ta) := by
  intro pins s σ H R I h
  refine Call_ (ld_blt I hg hm b_zip (PyProof.Rows.callWith_type1 (thn (ha pos pins s σ H _ I h) fun us s1 ⟨vs, H1, I1, r1, q1⟩ => ?_) hs (by rw [hs2]; rfl)))
  obtain ⟨a, b, rfl, ⟨xs, hqx⟩, ⟨ys, hqy⟩, q⟩ := q1
  obtain ⟨u, v, rfl, ru, rv0⟩ := vals2 r1
  cases ru
  cases rv0
  obtain ⟨its, rv, p1, _⟩ := I1.list hqx
  obtain ⟨jts, rv2, p2, _⟩ := I1.list hqy
  have a1 : a < s1.heap.objs.size := by obtain ⟨_, e, _⟩ := p1.isList; exact Heap.lt_size e
  have a2 : b < s1.heap.objs.size := by obtain ⟨_, e, _⟩ := p2.isList; exact Heap.lt_size e
  refine call_zip_2 p1.isList p2.isList fun h' hz hTI hTO h1 h2 hsz hk => ?_
  refine wpAny_pyIter_zip hz ?_
  have I2 : Inv X pins σ H1 { s1 with heap := h' } := I1.kept (t' := s1.toks) hk
  refine ⟨s1.heap.objs.size + 4, [s1.heap.objs.size + 4, s1.heap.objs.size + 2, s1.heap.objs.size + 3, s1.heap.objs.size, s1.heap.objs.size + 1], _, _, H1, rfl, I2, turn_zip a b _ _ _ _ _ (zipApart_new a1 a2), ⟨hz, hTI, ⟨_, _, hTO⟩, h1, h2⟩, fun c hc => ?_, q⟩
  have hc' : s1.heap.objs.size ≤ c := by
    simp only [List.mem_cons, List.not_mem_nil, or_false] at hc
    walk_at "om"
  exact I1.fpOk hc' (I1.hok.fresh hc')
/-! ### sum, all, any of a list -/
section
variable {X : Cx}
theorem call_sumL (hc : X.calm = true) : CallR X (.builtin "sum") (fun xs H Q => ∃ (a : Addr) (ns : List Int), xs = [.ref a] ∧ SqL X.K H a (ns.map V.int) ∧ Q (.int ns.sum) H) := by
  intro pins s σ H xs us Q I r h
  obtain ⟨a, ns, rfl, hS, q⟩ := h
  obtain ⟨u, rfl, ru⟩ := vals1 r
  cases ru
  obtain ⟨its, rv, hp, _⟩ := I.list hS
  obtain ⟨xs, e1, e2⟩ := ints_items rv
  obtain ⟨o, n, ho, hcl, _, hdt⟩ := hp
  have hl : s.heap.IsList a (intItems xs) := ⟨o, ho, hcl, n, by rw [hdt, e1]⟩
  refine sum_intListG (I.ok.hd hc) hl fun h' tk t' hk => ⟨.int ns.sum, H, I.kept hk, ⟨t', ?_⟩, q⟩
  rw [preSum_eq, List.take_of_length_le (by simp), e2]
theorem bools_are : ∀ {bs : List Bool} {its : List Value}, Vals (bs.map V.bl) its → its = bs.map Value.bool
  | [], its, r => by cases r; rfl
  | b :: bs, its, r => by
    cases r with
    | cons r1 r2 =>
      cases r1
      rw [bools_are r2]; rfl
theorem call_allL (hc : X.calm = true) : CallR X (.builtin "all") (fun xs H Q => ∃ (a : Addr) (bs : List Bool), xs = [.ref a] ∧ SqL X.K H a (bs.map V.bl) ∧ Q (.bl (bs.all id)) H) := by
  intro pins s σ H xs us Q I r h
  obtain ⟨a, bs, rfl, hS, q⟩ := h
  obtain ⟨u, rfl, ru⟩ := vals1 r
  cases ru
  obtain ⟨its, rv, hp, _⟩ := I.list hS
  have e := bools_are rv
  subst e
  have hl := hp.isList
  have hlt : a < s.heap.objs.size := by obtain ⟨_, e, _⟩ := hl; exact Heap.lt_size e
  refine call_all_walk (wpAny_pyIter_list hl ?_)
  refine ⟨s.heap.objs.size, [s.heap.objs.size, a], [s.heap.objs.size], (bs.map Value.bool).toArray.size, _, _, fun i => (bs[i]?).getD true, rfl, Walks.list (A := X.A.in1) (I.ok.hd hc) _ a (Nat.ne_of_lt hlt) (bs.map Value.bool).toArray, ⟨⟨_, Heap.get?_push_size _ rfl, rfl, rfl⟩, hl.push _⟩, fun i v s' Q' E' hP hQ => ?_, fun h' tk hk => ?_⟩
  · have hP' : (bs[i]?).map Value.bool = some v := by simpa using hP
    cases e : bs[i]? with
    | none => rw [e] at hP'; cases hP'
    | some b =>
      rw [e] at hP'; cases hP'
      simp only [e, Option.getD_some] at hQ
      exact wpAny_truthy_bool hQ
  · have e : ((List.range (bs.map Value.bool).toArray.size).all fun i => (bs[i]?).getD true) = bs.all id := by
      rw [List.size_toArray, List.length_map]; exact PyProof.Rows.LSm.range_all bs
    rw [e]
    exact ⟨.bl (bs.all id), H, I.kept (fun b o q => hk b o (fun z => by
      have : b = s.heap.objs.size := by simpa using z
      rw [this] at q; exact Nat.lt_irrefl _ (Heap.lt_size q)) (Heap.get?_push_of_some _ q)), rfl, q⟩
theorem call_anyL (hc : X.calm = true) : CallR X (.builtin "any") (fun xs H Q => ∃ (a : Addr) (bs : List Bool), xs = [.ref a] ∧ SqL X.K H a (bs.map V.bl) ∧ Q (.bl (bs.any id)) H) := by
  intro pins s σ H xs us Q I r h
  obtain ⟨a, bs, rfl, hS, q⟩ := h
  obtain ⟨u, rfl, ru⟩ := vals1 r
  cases ru
  obtain ⟨its, rv, hp, _⟩ := I.list hS
  have e := bools_are rv
  subst e
  have hl := hp.isList
  have hlt : a < s.heap.objs.size := by obtain ⟨_, e, _⟩ := hl; exact Heap.lt_size e
  refine call_any_walk (wpAny_pyIter_list hl ?_)
  refine ⟨s.heap.objs.size, [s.heap.objs.size, a], [s.heap.objs.size], (bs.map Value.bool).toArray.size, _, _, fun i => (bs[i]?).getD false, rfl, Walks.list (A := X.A.in1) (I.ok.hd hc) _ a (Nat.ne_of_lt hlt) (bs.map Value.bool).toArray, ⟨⟨_, Heap.get?_push_size _ rfl, rfl, rfl⟩, hl.push _⟩, fun i v s' Q' E' hP hQ => ?_, fun h' tk hk => ?_⟩
  · have hP' : (bs[i]?).map Value.bool = some v := by simpa using hP
    cases e : bs[i]? with
    | none => rw [e] at hP'; cases hP'
    | some b =>
      rw [e] at hP'; cases hP'
      simp only [e, Option.getD_some] at hQ
      exact wpAny_truthy_bool hQ
  · have e : ((List.range (bs.map Value.bool).toArray.size).any fun i => (bs[i]?).getD false) = bs.any id := by
      rw [List.size_toArray, List.length_map]; exact PyProof.Rows.LSm.range_any bs
    rw [e]
    exact ⟨.bl (bs.any id), H, I.kept (fun b o q => hk b o (fun z => by
      have : b = s.heap.objs.size := by simpa using z
      rw [this] at q; exact Nat.lt_irrefl _ (Heap.lt_size q)) (Heap.get?_push_of_some _ q)), rfl, q⟩
end
/-! ### loops over them, opened as far as the invariant -/
section
variable {K : PySem.W.Frag} {g : TG} {tb : TS} {D : Ends} {σ : L2.St} {H : Hp} {a b : Addr} {xs ys : List V}
theorem for_rev {ta : TA} : tFor (iRev K ta) g tb D σ H = ta σ H (fun vs H1 => ∃ a xs, vs = [.ref a] ∧ SqL K H1 a xs ∧ FJ (Itv K a xs.length) g tb D σ H1) := rfl
theorem for_enum {ta : TA} : tFor (iEnum K ta) g tb D σ H = ta σ H (fun vs H1 => ∃ a, vs = [.ref a] ∧ (∃ xs, SqL K H1 a xs) ∧ FJ (Ite K a) g tb D σ H1) := rfl
theorem for_zip {ta : TA} : tFor (iZip K ta) g tb D σ H = ta σ H (fun vs H1 => ∃ a b, vs = [.ref a, .ref b] ∧ (∃ xs, SqL K H1 a xs) ∧ (∃ ys, SqL K H1 b ys) ∧ FJ (Itz K a b) g tb D σ H1) := rfl
theorem by_rev (Pv : Nat → L2.St → Hp → Prop) (h0 : Pv 0 σ H) (hl : ∀ i σ H, i ≤ xs.length → Pv i σ H → SqL K H a xs)
    (hs : ∀ i x σ H, xs.reverse[i]? = some x → Pv i σ H → g x σ H fun σ2 H2 => tb { D with nx := Pv (i + 1), ct := Pv (i + 1), bk := D.nx } σ2 H2) (hd : ∀ σ H, Pv xs.length σ H → D.nx σ H) : FJ (Itv K a xs.length) g tb D σ H := by
  refine ⟨fun i m σ H => m = xs.length - i ∧ i ≤ xs.length ∧ Pv i σ H, ⟨_, rfl, Nat.zero_le _, h0⟩, ?_⟩
  rintro i m σ H ⟨rfl, hi, p⟩
  have q := hl i σ H hi p
  by_cases hlt : i < xs.length
  · have hx : xs.reverse[i]? = some (xs.reverse[i]'(by rw [List.length_reverse]; exact hlt)) := List.getElem?_eq_getElem _
    refine .inr ⟨⟨xs, _, q, rfl, hx⟩, Pv (i + 1), fun σ' H' p' => ⟨xs.length - (i + 1), by omega, rfl, hlt, p'⟩, fun x H' y => ?_⟩
    obtain ⟨e, y⟩ := y
    subst e
    exact hs i x σ _ (y xs q rfl) p
  · have e : i = xs.length := by omega
    subst e
    exact .inl ⟨rfl, hd σ H p⟩
theorem by_enum (Pv : Nat → L2.St → Hp → Prop) (h0 : Pv 0 σ H) (hl : ∀ i σ H, i ≤ xs.length → Pv i σ H → SqL K H a xs)
    (hs : ∀ i x σ H p, xs[i]? = some x → Pv i σ H → H p = none → g (.ref p) σ (upd H p (.tup [.int i, x])) fun σ2 H2 => tb { D with nx := Pv (i + 1), ct := Pv (i + 1), bk := D.nx } σ2 H2) (hd : ∀ σ H, Pv xs.length σ H → D.nx σ H) : FJ (Ite K a) g tb D σ H := by
  refine ⟨fun i m σ H => m = xs.length - i ∧ i ≤ xs.length ∧ Pv i σ H, ⟨_, rfl, Nat.zero_le _, h0⟩, ?_⟩
  rintro i m σ H ⟨rfl, hi, p⟩
  have q := hl i σ H hi p
  by_cases hlt : i < xs.length
  · refine .inr ⟨⟨xs, xs[i], q, by simp [hlt]⟩, Pv (i + 1), fun σ' H' p' => ⟨xs.length - (i + 1), by omega, rfl, hlt, p'⟩, fun v H' y => ?_⟩
    obtain ⟨w, x, rfl, hw, rfl, y⟩ := y
    exact hs i x σ _ w (y xs q) p hw
  · have e : i = xs.length := by omega
    subst e
    exact .inl ⟨⟨xs, q, Nat.le_refl _⟩, hd σ H p⟩
theorem by_zip (Pv : Nat → L2.St → Hp → Prop) (h0 : Pv 0 σ H) (hl : ∀ i σ H, Pv i σ H → SqL K H a xs ∧ SqL K H b ys)
    (hs : ∀ i x y σ H p, xs[i]? = some x → ys[i]? = some y → Pv i σ H → H p = none → g (.ref p) σ (upd H p (.tup [x, y])) fun σ2 H2 => tb { D with nx := Pv (i + 1), ct := Pv (i + 1), bk := D.nx } σ2 H2) (hd : ∀ σ H, Pv (min xs.length ys.length) σ H → D.nx σ H) : FJ (Itz K a b) g tb D σ H := by
  refine ⟨fun i m σ H => m = min xs.length ys.length - i ∧ i ≤ min xs.length ys.length ∧ Pv i σ H, ⟨_, rfl, Nat.zero_le _, h0⟩, ?_⟩
  rintro i m σ H ⟨rfl, hi, p⟩
  have q := hl i σ H p
  by_cases hlt : i < min xs.length ys.length
  · have h1 : i < xs.length := by omega
    have h2 : i < ys.length := by omega
    refine .inr ⟨⟨xs, ys, xs[i], ys[i], q.1, q.2, by simp [h1], by simp [h2]⟩, Pv (i + 1), fun σ' H' p' => ⟨min xs.length ys.length - (i + 1), by omega, rfl, hlt, p'⟩, fun v H' y => ?_⟩
    obtain ⟨w, x, y', rfl, hw, rfl, e1, e2⟩ := y
    exact hs i x y' σ _ w (e1 xs q.1) (e2 ys q.2) p hw
  · have e : i = min xs.length ys.length := by omega
    refine .inl ⟨⟨xs, ys, q.1, q.2, by omega⟩, hd σ H (e ▸ p)⟩
end
/-- two names as a target -/
theorem gTup2 {K : PySem.W.Frag} {i j : Nat} {p : Addr} {x y : V} {σ : L2.St} {H : Hp} {Q : L2.St → Hp → Prop} (h : SqT K H p [x, y]) (q : Q ((σ.set i (some x)).set j (some y)) H) : gTup K 2 (gCons (gName i) (gCons (gName j) gNil)) (.ref p) σ H Q :=
  ⟨p, [x, y], rfl, h, rfl, x, [y], rfl, y, [], rfl, rfl, q⟩
end Gz

set_option Elab.async false
set_option linter.all false
set_option maxRecDepth 100000
set_option maxHeartbeats 4000000
/-! List comprehensions whose target is any one (a tuple of names) -/
namespace Gz
open PySem PySem.Spec PyProof.Rows L2
local macro_rules | `(tactic| walk_at "om") => `(tactic| ((try simp only [PySem.Addr] at *); omega))
structure CompOkG (X : Cx) (own : List Str) (scope : Scope) (cl : List (Str × Addr)) (fr : List Nat) (ys : List Str) : Prop where
  clos : closureFor scope X.env = pure cl
  nocell : (scope.names.all fun p => p.2 != .cell) = true
  kind : scope.kind = .function
  names : (scope.names.all fun p => p.2 != .local || scope.names.lookup p.1 == some .local) = true
  kinds : ((relabel scope X.env).names.all fun p => (p.2 != .cell && p.2 != .free) || (cl.lookup p.1).isSome) = true
  cls : ClOk X cl
  frs : FrOk X scope cl fr ys
  kfr : (ys.all fun y => (relabel scope X.env).names.lookup y == some .cell) = true
def tBlkG (k : Nat) (J : It) (g : TG) (ρ : L2.St) (tt : TT) (te : TE) (H : Hp) (Q : VK) : Prop := ∃ W : Nat → Nat → List V → Hp → Prop, (∃ m, W 0 m [] H) ∧ ∀ i m ys H, W i m ys H →
  (J.stop i H ∧ ys.length ≤ sizeLine ∧ ∀ l, H l = none → Q (.ref l) (upd H l (.lst ys))) ∨ (J.go i H ∧ ys.length < sizeLine ∧ ∃ N : List V → Hp → Prop, (∀ zs H', N zs H' → ∃ m', m' < m ∧ W (i + 1) m' zs H') ∧
    ∀ os : List (Option V), os.length = k → ∀ x H', J.yld i H x H' → g x (os ++ ρ) H' fun σ2 H2 => ∃ os', os'.length = k ∧ σ2 = os' ++ ρ ∧ tt σ2 H2 fun b H1 => if b = true then te σ2 H1 fun y H2 => N (ys ++ [y]) H2 else N ys H1)
def tCompG (k : Nat) (wi : TI) (g : TG) (fr : List Nat) (tt : TT) (te : TE) : TE := fun σ H Q => wi σ H fun J H1 => tBlkG k J g (fr.map fun j => (σ[j]?).join) tt te H1 Q
theorem compLoop_own {prog : Program} {w : World} {A : Around} {s : Shared} {R : Result → Shared → Prop} {elt target iter : Expr} {ifs : List Expr} {scope : Scope} {pos : Pos} {it acc : Value} {env : Env} (I : Nat → Shared → Prop)
    (turn : ∀ n s, I n s → wpAny (model prog w) A (pyNext it) (fun r s₁ => match r with
      | none => R (.ok .next) s₁
      | some v => wpAny (model prog w) A (letOwnedTupleGo target it v) (fun _ s₁' => wpAny (model prog w) A (assign target env v) (fun _ s₂ =>
          wpAny (model prog w) A (forIn ifs true fun c r => if r = true then do let ok ← isTrue c env (eval c env); pure (ForInStep.yield ok) else pure (ForInStep.yield r)) (fun ok s₃ =>
            if ok = true then wpAny (model prog w) A (eval elt env) (fun x s₄ =>
              wpAny (model prog w) A (call (.builtin "list.append") [acc, x]) (fun _ s₅ => ∃ m, m < n ∧ I m s₅) (notedBy (model prog w) A env fun e s' => R (.error e) s') s₄) (notedBy (model prog w) A env fun e s' => R (.error e) s') s₃
            else ∃ m, m < n ∧ I m s₃) (notedBy (model prog w) A env fun e s' => R (.error e) s') s₂) (notedBy (model prog w) A env fun e s' => R (.error e) s') s₁') (notedBy (model prog w) A env fun e s' => R (.error e) s') s₁) (notedBy (model prog w) A env fun e s' => R (.error e) s') s)
    (n : Nat) (h : I n s) :
    codeAny (model prog w) A (.compLoop (.ListComp elt [⟨target, iter, ifs, 0⟩] scope pos) 0 it acc env) R s := by
  refine codeAny_loop rfl I (fun n s hI => ?_) n h
  show wpAny _ A ((compTurn (.ListComp elt [⟨target, iter, ifs, 0⟩] scope pos) 0 it acc env).onRaise (fun x => do noteFrame x env; theTreesLotGoes x)) _ _ s
  refine wpAny_noted ?_
  rw [compTurn_list]
  refine wpAny_bind (wpAny_standAt (wpAny_bind (wpAny_mono (turn n s hI) (fun r s₁ h₁ => ?_) fun _ _ h' => h')))
  cases r with
  | none => exact wpAny_pure h₁
  | some v =>
    refine wpAny_bind (wpAny_mono h₁ (fun _ s₁' h₁' => ?_) fun _ _ h' => h')
    refine wpAny_bind (wpAny_mono h₁' (fun _ s₂ h₂ => wpAny_bind (wpAny_mono h₂ (fun ok s₃ h₃ => ?_) fun _ _ h' => h')) fun _ _ h' => h')
    cases ok with
    | false => exact wpAny_pure ⟨rfl, h₃⟩
    | true =>
      exact wpAny_bind (wpAny_bind (wpAny_mono h₃ (fun x s₄ h₄ => wpAny_bind (wpAny_mono h₄ (fun _ s₅ h₅ => wpAny_pure (wpAny_pure ⟨rfl, h₅⟩)) fun _ _ h' => h')) fun _ _ h' => h'))
section
variable {X : Cx} {pins : List (Addr × Obj)} {σ : L2.St} {H2 : Hp} {s2 : Shared} {own : List Str} {tg : Expr} {g : TG} {pos : Pos} {elt iter : Expr} {ifs : List Expr} {scope : Scope} {cl : List (Str × Addr)} {fr : List Nat} {ys : List Str} {tt : TT} {te : TE}
theorem cxB_okG {C : Addr} {ex : List Addr} {pn : List (Addr × Obj)} (S : CompOkG X own scope cl fr ys) (I2 : Inv X pins σ H2 s2) (f2 : ∀ b ∈ ex, FpOk X pins H2 b) (hC : s2.heap.objs.size ≤ C) (hex : ∀ b ∈ ex, b < s2.heap.objs.size) : (cxB X (own ++ ys) scope cl C s2 H2 ex pn).Ok := by
  refine ⟨I2.ok.mod, S.kind, I2.ok.glob, I2.ok.blt, hC, fun a b c h1 h2 => ?_, fun y hy => ?_, fun _ _ z => (nomatch z), I2.ok.hd, I2.ok.frames, .inl rfl, fun b hb => ⟨?_, fun y c e z => ?_⟩, I2.bs, Nat.le_trans I2.ok.bsz I2.sz, fun b o e hb => ?_, fun b hb z => ?_, I2.stack, I2.stkFree⟩
  · exact I2.ok.inj a b c (S.cls.get a c h1) (S.cls.get b c h2)
  · have hy' : (relabel scope X.env).names.lookup y = some .cell ∨ (relabel scope X.env).names.lookup y = some .free := hy
    have q : (cl.lookup y).isSome = true := by
      rcases hy' with e | e
      · simpa using look_in S.kinds e
      · simpa using look_in S.kinds e
    exact Option.isSome_iff_exists.mp q
  · exact Nat.ne_of_lt (Nat.lt_of_lt_of_le (hex b hb) hC)
  · exact (f2 b hb).2.2.2.2.1 y c (S.cls.get y c e) z
  · obtain ⟨_, _, _, d, _, _⟩ := f2 b hb
    rcases d with d | d
    · exact I2.ok.noex b o e d
    · exact absurd (Nat.lt_of_lt_of_le (Heap.lt_size e) (Nat.le_trans I2.ok.bsz d)) (Nat.lt_irrefl _)
  · obtain ⟨_, d1, d2, _⟩ := f2 b hb
    rcases List.mem_cons.mp (I2.stkSub b z) with q | q
    · exact d1 q
    · exact d2 q

theorem comp_blockG {J : It} {fp : List Addr} {it : Addr} {tn : Nat → Heap → Prop} {E : Value → Shared → Prop} {Q : VK} {RR : Value → Addr → Result → Shared → Prop}
    (S : CompOkG X own scope cl fr ys) (hc : X.calm = true) (hg : ∀ (C : Addr) (s : Shared) (H : Hp) (ex : List Addr) (pn : List (Addr × Obj)), PG (cxB X (own ++ ys) scope cl C s H ex pn) tg g)
    (hb : ∀ (C : Addr) (s : Shared) (H : Hp) (ex : List Addr) (pn : List (Addr × Obj)), PTs (cxB X (own ++ ys) scope cl C s H ex pn) ifs tt ∧ PE (cxB X (own ++ ys) scope cl C s H ex pn) elt te)
    (I2 : Inv X pins σ H2 s2) (T : Turn X.prog X.w X.K tg J fp it tn) (st2 : tn 0 s2.heap) (f2 : ∀ b ∈ fp, FpOk X pins H2 b)
    (h : tBlkG own.length J g (fr.map fun j => (σ[j]?).join) tt te H2 Q)
    (hRR : ∀ D C s' H', Inv X pins σ H' s' → (∃ m, s'.heap.Ns C m) → FpOk X pins H' C → Q (.ref D) H' → RR (.ref D) C (.ok .next) s') :
    wpAny (model X.prog X.w) X.A (newList []) (fun acc s3 => wpAny (model X.prog X.w) X.A (newFunctionEnv scope X.env.globals cl [] X.env.qual none .none (some X.env)) (fun cenv s4 =>
      codeAny (model X.prog X.w) X.A (.compStart (.ListComp elt [⟨tg, iter, ifs, 0⟩] scope pos) 0 (.ref it) acc { cenv with scope := relabel scope X.env }) (RR acc cenv.locals) s4) E s3) E s2 := by
  obtain ⟨W, ⟨m0, w0⟩, turn⟩ := h
  refine wpAny_newObj_type (wpAny_newFunctionEnv (fun y hy => by simpa using List.all_eq_true.mp S.nocell y hy) (fun y hy => absurd hy (by simp)) (fun h1 hns hsb => ?_) S.kind)
  dsimp only at hns hsb ⊢
  generalize eP : s2.heap.push { cls := .type "list", dict := none, data := .seq ([] : List Value).toArray } = P2 at hns hsb ⊢
  have sz : P2.objs.size = s2.heap.objs.size + 1 := by rw [← eP, Heap.size_push]
  have hDC : s2.heap.objs.size ≠ P2.objs.size := by walk_at "om"
  have keep : ∀ b o, s2.heap.get? b = some o → h1.get? b = some o := fun b o e => by
    have lt := Heap.lt_size e
    exact hsb.extBut b o (by walk_at "om") (Heap.get?_push_of_some _ (eP ▸ Heap.get?_push_of_some _ e))
  have hD : h1.get? s2.heap.objs.size = some { cls := .type "list", data := .seq ([] : List Value).toArray 0 } :=
    hsb.extBut _ _ hDC (Heap.get?_push_of_some _ (eP ▸ Heap.get?_push_size _ rfl))
  have hfp : ∀ b ∈ fp, b < s2.heap.objs.size := fun b hb => by
    obtain ⟨o, e, _⟩ := T.obj 0 _ st2 b hb
    exact Heap.lt_size e
  have noStk : ∀ b, s2.heap.objs.size ≤ b → b ∉ frs X.stack := fun b hle z => by
    rcases List.mem_cons.mp (I2.stkSub b z) with q | q
    · have := I2.lt; walk_at "om"
    · exact I2.nofs hle q
  generalize eC : P2.objs.size = C at hns hsb hDC ⊢
  generalize eD : s2.heap.objs.size = D at hDC hD hfp noStk
  have hCle : s2.heap.objs.size ≤ C := by walk_at "om"
  have hDle : s2.heap.objs.size ≤ D := by walk_at "om"
  have ok' : (cxB X (own ++ ys) scope cl C s2 H2 fp (X.pn ++ pins)).Ok := cxB_okG S I2 f2 hCle (fun b hb => by have := hfp b hb; walk_at "om")
  have pinsOk : ∀ p ∈ X.pn ++ pins, p.1 ≠ C ∧ p.1 ≠ D ∧ p.1 ∉ frs X.stack ∧ ∀ b ∈ fp, p.1 ≠ b := fun p hp => by
    obtain ⟨e, n, nL, nf, _⟩ := I2.pin p hp
    have lt := Heap.lt_size e
    refine ⟨by walk_at "om", by walk_at "om", fun z => ?_, fun b hb => (f2 b hb).2.2.2.2.2 p hp⟩
    rcases List.mem_cons.mp (I2.stkSub _ z) with q | q
    · exact nL q
    · exact nf q
  have I4 : Inv (cxB X (own ++ ys) scope cl C s2 H2 fp (X.pn ++ pins)) [] ((own.map fun _ => none) ++ fr.map fun j => (σ[j]?).join) H2 { s2 with heap := h1, toks := s2.toks + ([] : List (Str × Value)).length } := by
    refine ⟨ok', rfl, I2.bare, Un.kept keep, ⟨_, hns, fun i y v e1 e2 e3 => ?_⟩, fun y c e => ?_, I2.hok.fresh hCle, fun y c e => I2.freeC y c (S.cls.get y c e), fun p hp => ?_, I2.hok.kept keep, ?_⟩
    · by_cases hio : i < own.length
      · rw [List.getElem?_append_left (by simpa using hio)] at e2
        simp [hio] at e2
      · rw [List.getElem?_append_right (by simp; omega)] at e2
        have e1' : ys[i - own.length]? = some y := by
          have : (own ++ ys)[i]? = some y := e1
          rwa [List.getElem?_append_right (by omega)] at this
        rw [List.length_map] at e2
        obtain ⟨j, c, hN, hσ, hk, hc1, hc2⟩ := S.frs.get (i - own.length) y v e1' e2
        obtain ⟨m, hm, hl⟩ := I2.loc
        obtain ⟨u, ru, lu⟩ := hl j y v hN hσ (.inr (.inl hk))
        refine ⟨u, ru, .inr ⟨.inl ?_, c, hc1, ?_⟩⟩
        · have z := List.all_eq_true.mp S.kfr y (List.mem_of_getElem? e1')
          exact (by simpa using z : (relabel scope X.env).names.lookup y = some .cell)
        · rcases lu with ⟨z, _⟩ | ⟨_, c', e', q'⟩
          · rw [hk] at z; cases z
          · rw [hc2] at e'; cases e'
            obtain ⟨o, ho, hd⟩ := q'
            exact ⟨o, keep _ _ ho, hd⟩
    · obtain ⟨v, o, ho, hd⟩ := I2.cell y c (S.cls.get y c e)
      exact ⟨v, o, keep _ _ ho, hd⟩
    · have hp' : p ∈ X.pn ++ pins := by
        have : p ∈ (X.pn ++ pins) ++ [] := hp
        simpa using this
      obtain ⟨e, n, _, _, d⟩ := I2.pin p hp'
      obtain ⟨p1, _, p3, _⟩ := pinsOk p hp'
      exact ⟨keep _ _ e, n, p1, p3, d⟩
    · show ((own.map fun _ => (none : Option V)) ++ fr.map fun j => (σ[j]?).join).length = (own ++ ys).length
      simp [S.frs.len]
  have st4 : tn 0 h1 := T.keep 0 _ _ st2 fun b _ o e => keep b o e
  have fpB : ∀ (H' : Hp) (o : Obj), (∀ b ∈ fp, H' b = none) → ∀ b ∈ fp, FpOk (cxB X (own ++ ys) scope cl C s2 H2 fp (X.pn ++ pins)) [(D, o)] H' b := fun H' o hn b hb => by
    obtain ⟨_, d1, d2, d3, d4, d5⟩ := f2 b hb
    have lt := hfp b hb
    refine ⟨hn b hb, ?_, fun z => ?_, .inl hb, fun y c e => d4 y c (S.cls.get y c e), fun p hp => ?_⟩
    · show b ≠ C
      walk_at "om"
    · rcases List.mem_cons.mp (I2.stkSub b z) with q | q
      · exact d1 q
      · exact d2 q
    · have hp' : p ∈ (X.pn ++ pins) ++ [(D, o)] := hp
      rcases List.mem_append.mp hp' with z | z
      · exact d5 p z
      · have : p = (D, o) := by simpa using z
        subst this
        show D ≠ b
        walk_at "om"
  have loop : ∀ s' : Shared, s' = { s2 with heap := h1, toks := s2.toks + ([] : List (Str × Value)).length } →
      codeAny (model X.prog X.w) X.A (.compLoop (.ListComp elt [⟨tg, iter, ifs, 0⟩] scope pos) 0 (.ref it) (.ref D) (compEnvC scope cl C X.env)) (RR (.ref D) C) s' := by
    rintro s' rfl
    refine compLoop_own (fun n s' => ∃ i zs H' os its nn, os.length = own.length ∧ Inv (cxB X (own ++ ys) scope cl C s2 H2 fp (X.pn ++ pins)) [] (os ++ fr.map fun j => (σ[j]?).join) H' s' ∧ tn i s'.heap ∧ (∀ b ∈ fp, H' b = none) ∧ H' D = none ∧
      s'.heap.get? D = some { cls := .type "list", data := .seq (its : List Value).toArray nn } ∧ Vals zs its ∧ W i n zs H') ?_ m0 ⟨0, [], H2, own.map fun _ => none, [], 0, by simp, I4, st4, fun b hb => (f2 b hb).1, I2.hok.fresh hDle, hD, .nil, w0⟩
    rintro n s3 ⟨i, zs, H3, os3, its, nn, hos3, I3, st3, fr3, hD3, oD3, r3, w3⟩
    have I3' : Inv (cxB X (own ++ ys) scope cl C s2 H2 fp (X.pn ++ pins)) [(D, { cls := .type "list", data := .seq its.toArray nn })] (os3 ++ fr.map fun j => (σ[j]?).join) H3 s3 := I3.pins_of fun p hp => by
      have : p = (D, { cls := .type "list", data := .seq its.toArray nn }) := by simpa using hp
      subst this
      exact ⟨oD3, hD3, hDC, noStk D (Nat.le_refl _), fun v z => nomatch z⟩
    rcases turn i n zs H3 w3 with ⟨stop, hlen, q⟩ | ⟨go, hlen, N, hNN, step⟩
    · refine wpAny_mono (T.done (cxB X (own ++ ys) scope cl C s2 H2 fp (X.pn ++ pins)) rfl rfl rfl hc i _ s3 _ H3 (fun _ _ => False) I3' (fpB H3 _ fr3) st3 stop) (fun r s4 ⟨hr, J4⟩ => ?_) fun _ _ z => z.elim
      subst hr
      have un := J4.base
      have neD : ∀ b o, s2.heap.get? b = some o → b ≠ D := fun b o e => by have := Heap.lt_size e; walk_at "om"
      have neH : ∀ b u, H3 b = some u → b ≠ D := fun b u e z => by rw [z, hD3] at e; cases e
      refine hRR D C s4 (upd H3 D (.lst zs)) ?_ ?_ ?_ (q D hD3)
      · refine I2.call' (ch := fp) J4.os ⟨un.keep, un.slot, fun b o e nn hx => ?_, un.there, fun b xs e => ?_, fun b o u e => ?_, fun b ps e => ?_⟩ (fun a o e => ?_) J4.bare fun b hb => ?_
        · rw [upd_ne (neD b o e)]; exact un.free b o e nn hx
        · have := un.tups b xs e; rw [upd_ne (neH b _ this)]; exact this
        · have := un.frzs b o u e; rw [upd_ne (neH b _ this)]; exact this
        · obtain ⟨more, this⟩ := un.tbls b ps e
          exact ⟨more, by rw [upd_ne (neH b _ this)]; exact this⟩
        · by_cases ha : a = D
          · subst ha
            rw [upd_same] at e; cases e
            exact ⟨hlen, its, nn, r3, (J4.pin (a, _) (List.mem_append_right _ (List.mem_singleton.mpr rfl))).1⟩
          · rw [upd_ne ha] at e
            exact (J4.hok a o e).stay (fun _ _ _ z => z) (fun b z => by rw [upd_ne (neH b _ z)]; exact z) fun b xs z => by rw [upd_ne (neH b _ z)]; exact z
        · obtain ⟨_, d1, d2, d3, d4, d5⟩ := f2 b hb
          exact ⟨d3, d1, d4, d5⟩
      · obtain ⟨m, hm, _⟩ := J4.loc
        exact ⟨m, hm⟩
      · exact I2.fpOk hCle (by rw [upd_ne (Ne.symm hDC)]; exact J4.free)
    · refine wpAny_mono (T.item (cxB X (own ++ ys) scope cl C s2 H2 fp (X.pn ++ pins)) rfl rfl rfl hc i _ s3 _ H3 (fun _ _ => False) I3' (fpB H3 _ fr3) st3 go) (fun r s4 ⟨u, hr, h4⟩ => ?_) fun _ _ z => z.elim
      subst hr
      refine wpAny_mono h4 (fun _ s5 ⟨y5, H5, I5, r5, yl, st5, fr5⟩ => ?_) fun _ _ z => z.elim
      have I5' := I5.pinned (fpB H5 _ fr5) (T.obj _ _ st5)
      refine wpAny_mono (hg C s2 H2 fp (X.pn ++ pins) _ s5 _ H5 y5 u _ I5' r5 (step os3 hos3 y5 H5 yl)) (fun _ s6 ⟨σ6, H6, I6, os6, hos6, e6, q6⟩ => ?_) fun _ _ z => z.elim
      subst e6
      have after : ∀ (s7 : Shared) (H7 : Hp), Inv (cxB X (own ++ ys) scope cl C s2 H2 fp (X.pn ++ pins)) ([(D, { cls := .type "list", data := .seq its.toArray nn })] ++ pinsAt fp s5.heap) (os6 ++ fr.map fun j => (σ[j]?).join) H7 s7 →
          Inv (cxB X (own ++ ys) scope cl C s2 H2 fp (X.pn ++ pins)) [] (os6 ++ fr.map fun j => (σ[j]?).join) H7 s7 ∧ tn (i + 1) s7.heap ∧ (∀ b ∈ fp, H7 b = none) ∧ H7 D = none ∧ s7.heap.get? D = some { cls := .type "list", data := .seq its.toArray nn } := fun s7 H7 I7 => by
        have pD := I7.pin (D, { cls := .type "list", data := .seq its.toArray nn }) (List.mem_append_right _ (List.mem_append_left _ (List.mem_singleton.mpr rfl)))
        refine ⟨I7.pins_of fun p hp => absurd hp (by simp), T.keep _ _ _ st5 fun b hb o e => (I7.pin (b, o) (List.mem_append_right _ (List.mem_append_right _ (mem_pinsAt hb e)))).1, fun b hb => ?_, pD.2.1, pD.1⟩
        obtain ⟨o, e, _⟩ := T.obj _ _ st5 b hb
        exact (I7.pin (b, o) (List.mem_append_right _ (List.mem_append_right _ (mem_pinsAt hb e)))).2.1
      refine wpAny_mono ((hb C s2 H2 fp (X.pn ++ pins)).1 _ s6 _ H6 _ I6 q6) (fun ok s7 ⟨H7, I7, q7⟩ => ?_) fun _ _ z => z.elim
      dsimp only at q7
      by_cases hok : ok = true
      · rw [if_pos hok] at q7 ⊢
        refine wpAny_mono ((hb C s2 H2 fp (X.pn ++ pins)).2 _ s7 _ H7 _ I7 q7) (fun yv s8 ⟨y8, H8, I8, r8, n8⟩ => ?_) fun _ _ z => z.elim
        obtain ⟨m', hm', w8⟩ := hNN _ _ n8
        obtain ⟨J8, st8, fr8, hD8, oD8⟩ := after s8 H8 I8
        have hl := r3.length
        refine call_meets F.slot_list_append ⟨_, oD8, rfl⟩ F.entry_list_append (F.args_list_append_2 _ _) (PySem.list_append D its.toArray nn yv (by rw [List.size_toArray]; walk_at "om")) ⟨oD8, ?_⟩
        have oD9 := PySem.IsL.update oD8 (fun a => a.push yv)
        rw [List.push_toArray] at oD9
        refine ⟨m', hm', i + 1, zs ++ [y8], H8, os6, its ++ [yv], _, hos6, J8.turned (it := D) (fun b o hb' e => (Heap.get?_update_other _ _ (Ne.symm hb')).trans e) hD8 hDC (.inr hDle) (fun y c e z => ?_) (fun p hp => ?_), T.keep _ _ _ st8 fun b hb' o e => ?_, fr8, hD8, oD9, r3.append (.cons r8 .nil), w8⟩
        · obtain ⟨v, o, ho, _⟩ := I2.cell y c (S.cls.get y c e)
          have := Heap.lt_size ho
          walk_at "om"
        · have hp' : p ∈ X.pn ++ pins := by
            have : p ∈ (X.pn ++ pins) ++ [] := hp
            simpa using this
          exact (pinsOk p hp').2.1
        · have := hfp b hb'
          exact (Heap.get?_update_other _ _ (by walk_at "om")).trans e
      · rw [if_neg hok] at q7 ⊢
        obtain ⟨m', hm', w7⟩ := hNN _ _ q7
        obtain ⟨J7, st7, fr7, hD7, oD7⟩ := after s7 H7 I7
        exact ⟨m', hm', i + 1, zs, H7, os6, its, nn, hos6, J7, st7, fr7, hD7, oD7, r3, w7⟩
  exact codeAny_compStart_list (loop _ rfl) (T.self X.A 0 _ _ _ st4 (loop _ rfl))
/-- [elt for x in iter if c] -/
theorem pe_compG {wi : TI} (S : CompOkG X own scope cl fr ys) (hc : X.calm = true) (hi : PI X tg iter wi) (hg : ∀ (C : Addr) (s : Shared) (H : Hp) (ex : List Addr) (pn : List (Addr × Obj)), PG (cxB X (own ++ ys) scope cl C s H ex pn) tg g)
    (hb : ∀ (C : Addr) (s : Shared) (H : Hp) (ex : List Addr) (pn : List (Addr × Obj)), PTs (cxB X (own ++ ys) scope cl C s H ex pn) ifs tt ∧ PE (cxB X (own ++ ys) scope cl C s H ex pn) elt te)
    (hs : ∀ z, foldedSetIterable iter X.env z = pure z := by intro _; rfl) : PE X (.ListComp elt [⟨tg, iter, ifs, 0⟩] scope pos) (tCompG own.length wi g fr tt te) := by
  intro pins s σ H Q I h
  rw [eval_ListComp]
  refine wpAny_comprehension_free (use := none) rfl hs S.clos S.kind (fun y hy hl => ?_) (thn (hi pins s σ H _ I h) fun xv s1 h1 => thn h1 fun itv s2 h2 => ?_)
  · have z := List.all_eq_true.mp S.names y hy
    rw [hl] at z
    simpa using z
  · obtain ⟨it, fp, tn, J, H2, rfl, I2, T, st2, f2, hB⟩ := h2
    refine comp_blockG (RR := fun acc C => compPost (model X.prog X.w) X.A X.xe none (EP X pins σ Q) acc C) S hc hg hb I2 T st2 f2 hB fun D C s' H' J' hn fC q => ?_
    obtain ⟨m, hm⟩ := hn
    obtain ⟨c0, c1, c2, c3, c4, c5⟩ := fC
    exact ⟨m, hm, fun h' sb => ⟨.ref D, H', J'.turned (it := C) (fun b o hb e => sb.extBut b o hb e) c0 c1 c3 c4 c5, rfl, q⟩⟩
theorem ps_setCompG {wi : TI} {y : Str} {py spos : Pos} {i : Nat} (S : CompOkG X own scope cl fr ys) (hc : X.calm = true) (hN : X.N.Nodup) (hy : X.N[i]? = some y) (hl : X.env.scope.names.lookup y = some .local) (hi : PI X tg iter wi) (hg : ∀ (C : Addr) (s : Shared) (H : Hp) (ex : List Addr) (pn : List (Addr × Obj)), PG (cxB X (own ++ ys) scope cl C s H ex pn) tg g)
    (hb : ∀ (C : Addr) (s : Shared) (H : Hp) (ex : List Addr) (pn : List (Addr × Obj)), PTs (cxB X (own ++ ys) scope cl C s H ex pn) ifs tt ∧ PE (cxB X (own ++ ys) scope cl C s H ex pn) elt te)
    (hsw : swapsWith (.ListComp elt [⟨tg, iter, ifs, 0⟩] scope pos) (some (.Name y py)) spos.line X.env = pure true := by rfl)
    (hs : ∀ z, foldedSetIterable iter X.env z = pure z := by intro _; rfl) : PS X (.Assign [.Name y py] (.ListComp elt [⟨tg, iter, ifs, 0⟩] scope pos) spos) (tSetC i (tCompG own.length wi g fr tt te)) := by
  intro pins s σ H Dn I h
  rw [exec_Assign_Name_used _ _ _ _ hsw]
  refine wpAny_bind (wpAny_standAt (wpAny_bind ?_))
  show wpAny _ X.A (do let _ ← comprehension (.ListComp elt [⟨tg, iter, ifs, 0⟩] scope pos) scope X.env _ (newList []) false (eval iter X.env) (some (assign (.Name y py) X.env))) _ _ s
  refine wpAny_bind (thn (wpAny_comprehension_free (use := some (assign (.Name y py) X.env)) (Q := fun _ s' => SP X pins Dn .next s') rfl hs S.clos S.kind (fun z hz hl => ?_) (thn (hi pins s σ H _ I h) fun xv s1 h1 => thn h1 fun itv s2 h2 => ?_)) fun _ s' hq => wpAny_pure (wpAny_pure hq))
  · have z' := List.all_eq_true.mp S.names z hz
    rw [hl] at z'
    simpa using z'
  · obtain ⟨it, fp, tn, J, H2, rfl, I2, T, st2, f2, hB⟩ := h2
    refine comp_blockG (RR := fun acc C => compPost (model X.prog X.w) X.A X.xe (some (assign (.Name y py) X.env)) (fun _ s' => SP X pins Dn .next s') acc C) S hc hg hb I2 T st2 f2 hB fun D C s' H' J' hn fC q => ?_
    obtain ⟨m, oC, es, ep, ho, hd, hr⟩ := hn
    obtain ⟨c0, c1, c2, c3, c4, c5⟩ := fC
    have J2 : Inv X (pins ++ [(C, oC)]) σ H' s' := J'.pins_of fun p hp => by
      rcases List.mem_append.mp hp with z | z
      · exact J'.pin p (List.mem_append_right _ z)
      · have : p = (C, oC) := by simpa using z
        subst this
        exact ⟨ho, c0, c1, c2, fun v z => by rw [hd] at z; cases z⟩
    show wpAny _ X.A (assign (.Name y py) X.env (.ref D)) _ _ _
    refine thn (pg_name (X := X) hN hy (.inl hl) (.inr hl) _ s' σ H' (.ref D) (.ref D) (fun σ' H'' => σ' = σ.set i (some (.ref D)) ∧ H'' = H') J2 rfl ⟨rfl, rfl⟩) fun _ s3 ⟨σ3, H3, J3, e1, e2⟩ => ?_
    subst e1 e2
    obtain ⟨pc, pn0, _⟩ := J3.pin (C, oC) (List.mem_append_right _ (List.mem_append_right _ (List.mem_singleton.mpr rfl)))
    refine ⟨m, ⟨oC, es, ep, pc, hd, hr⟩, fun h' sb => ⟨_, H3, J3.unpinned.turned (it := C) (fun b o hb e => sb.extBut b o hb e) c0 c1 c3 c4 c5, q⟩⟩
end
end Gz
namespace Gz
open PySem PySem.Spec PyProof.Rows L2
section
variable {X : Cx} {K : PySem.W.Frag}
theorem sl_listK (h : X.K = K) : SlR X (rSlL K) := h ▸ sl_list
/-- rows of two, a new tuple for each -/
def pairGo (Ok : Hp → Prop) (ρ : L2.St) (tt : TT) (te : TE) : List (V × V) → List V → Hp → (List V → Hp → Prop) → Prop
  | [], zs, H, Q => Ok H ∧ Q zs H
  | (x, y) :: r, zs, H, Q => Ok H ∧ ∀ p, H p = none → tt (some x :: some y :: ρ) (upd H p (.tup [x, y])) fun b H1 => if b = true then te (some x :: some y :: ρ) H1 fun z H2 => pairGo Ok ρ tt te r (zs ++ [z]) H2 Q else pairGo Ok ρ tt te r zs H1 Q
theorem two_os {os : List (Option V)} (h : os.length = 2) : ∃ a b, os = [a, b] := by
  match os, h with
  | [a, b], _ => exact ⟨a, b, rfl⟩
variable {ρ : L2.St} {tt : TT} {te : TE} {H : Hp} {Q : VK} {a b : Addr} {xs ys : List V}
theorem blk_zip (hn : (xs.zip ys).length ≤ sizeLine) (h : pairGo (fun H => SqL K H a xs ∧ SqL K H b ys) ρ tt te (xs.zip ys) [] H fun zs H' => ∀ l, H' l = none → Q (.ref l) (upd H' l (.lst zs))) :
    tBlkG 2 (Itz K a b) (gTup K 2 (gCons (gName 0) (gCons (gName 1) gNil))) ρ tt te H Q := by
  have hlen : (xs.zip ys).length = min xs.length ys.length := List.length_zip
  refine ⟨fun i m zs H => m = (xs.zip ys).length - i ∧ i ≤ (xs.zip ys).length ∧ zs.length ≤ i ∧ pairGo (fun H => SqL K H a xs ∧ SqL K H b ys) ρ tt te ((xs.zip ys).drop i) zs H fun zs H' => ∀ l, H' l = none → Q (.ref l) (upd H' l (.lst zs)), ⟨_, rfl, Nat.zero_le _, Nat.le_refl _, h⟩, ?_⟩
  rintro i m zs H ⟨rfl, hi, hy, g⟩
  by_cases hlt : i < (xs.zip ys).length
  · have e := List.drop_eq_getElem_cons hlt
    have h1 : i < xs.length := by omega
    have h2 : i < ys.length := by omega
    have e2 : (xs.zip ys)[i] = (xs[i], ys[i]) := List.getElem_zip
    rw [e, e2] at g
    obtain ⟨⟨g0, g0'⟩, g1⟩ := g
    have l1 : ∀ y : V, (zs ++ [y]).length ≤ i + 1 := fun y => by rw [List.length_append, List.length_singleton]; omega
    have l2 : zs.length ≤ i + 1 := by omega
    refine .inr ⟨⟨xs, ys, xs[i], ys[i], g0, g0', by simp [h1], by simp [h2]⟩, by omega, fun ws H' => ws.length ≤ i + 1 ∧ pairGo (fun H => SqL K H a xs ∧ SqL K H b ys) ρ tt te ((xs.zip ys).drop (i + 1)) ws H' fun zs H' => ∀ l, H' l = none → Q (.ref l) (upd H' l (.lst zs)), fun zs H' q => ⟨_, by omega, rfl, hlt, q.1, q.2⟩, fun os hos v H' y => ?_⟩
    obtain ⟨p, x, y', rfl, hp, rfl, ex, ey⟩ := y
    have ex := ex xs g0
    have ey := ey ys g0'
    rw [List.getElem?_eq_getElem h1] at ex
    rw [List.getElem?_eq_getElem h2] at ey
    cases ex
    cases ey
    obtain ⟨o1, o2, rfl⟩ := two_os hos
    refine gTup2 (SqT.of upd_same) ⟨[some xs[i], some ys[i]], rfl, rfl, ?_⟩
    simp only [l1, l2, true_and]
    exact g1 p hp
  · have e : i = (xs.zip ys).length := by omega
    subst e
    rw [List.drop_length] at g
    obtain ⟨⟨g0, g0'⟩, g1⟩ := g
    exact .inl ⟨⟨xs, ys, g0, g0', by omega⟩, by omega, g1⟩
/-- tests and items that leave the heap as it is -/
theorem pairGo_map {Ok : Hp → Prop} {p : V × V → Bool} {f : V × V → V} {Q' : List V → Hp → Prop} : ∀ {rows : List (V × V)} {H : Hp} {zs : List V}, (∀ H', Same H H' → Ok H') → (∀ r ∈ rows, ∀ H', Same H H' → ∀ Q, Q (p r) H' → tt (some r.1 :: some r.2 :: ρ) H' Q) →
    (∀ r ∈ rows, p r = true → ∀ H', Same H H' → ∀ Q, Q (f r) H' → te (some r.1 :: some r.2 :: ρ) H' Q) → (∀ H', Same H H' → Q' (zs ++ (rows.filter p).map f) H') → pairGo Ok ρ tt te rows zs H Q'
  | [], H, zs, hOk, _, _, q => ⟨hOk H (Same.refl H), by simpa using q H (Same.refl H)⟩
  | (x, y) :: r, H, zs, hOk, ht, he, q => by
    refine ⟨hOk H (Same.refl H), fun w hw => ?_⟩
    have s := Gz.same_upd (o := .tup [x, y]) hw
    refine ht _ (.head _) _ s _ ?_
    by_cases hb : p (x, y) = true
    · rw [if_pos hb]
      refine he _ (.head _) hb _ s _ (pairGo_map (fun H' s' => hOk H' (s.trans s')) (fun z hz H' s' => ht z (.tail _ hz) H' (s.trans s')) (fun z hz hb H' s' => he z (.tail _ hz) hb H' (s.trans s')) fun H' s' => ?_)
      have := q H' (s.trans s')
      rw [List.filter_cons, if_pos hb] at this
      simpa using this
    · rw [if_neg hb]
      refine pairGo_map (fun H' s' => hOk H' (s.trans s')) (fun z hz H' s' => ht z (.tail _ hz) H' (s.trans s')) (fun z hz hb H' s' => he z (.tail _ hz) hb H' (s.trans s')) fun H' s' => ?_
      have := q H' (s.trans s')
      rw [List.filter_cons, if_neg hb] at this
      exact this
end
end Gz

set_option Elab.async false
set_option linter.all false
set_option maxRecDepth 100000
set_option maxHeartbeats 4000000
/-! slices by natural bounds -/
namespace Gz
open PySem PySem.Spec PyProof.Rows L2
theorem cutV_nat (xs : List V) {a b : Nat} (h2 : b ≤ xs.length) : cutV xs (some (a : Int)) (some (b : Int)) = (xs.drop a).take (b - a) := by
  unfold cutV
  rw [HT.sIx_nat, HT.sIx_nat, Nat.min_eq_left h2]
  by_cases h : a ≤ xs.length
  · rw [Nat.min_eq_left h]
  · rw [Nat.min_eq_right (by omega), List.drop_eq_nil_of_le (Nat.le_refl _), List.drop_eq_nil_of_le (by omega)]; simp
theorem cutV_to (xs : List V) (b : Nat) : cutV xs none (some (b : Int)) = xs.take b := by
  unfold cutV
  rw [HT.sIx_nat, HT.sIx_none, List.drop_zero, Nat.sub_zero]
  by_cases h : b ≤ xs.length
  · rw [Nat.min_eq_left h]
  · rw [Nat.min_eq_right (by omega), List.take_length, List.take_of_length_le (by omega)]
theorem cutV_from (xs : List V) (a : Nat) : cutV xs (some (a : Int)) none = xs.drop a := by
  unfold cutV
  rw [HT.sIx_nat, HT.sIx_none]
  by_cases h : a ≤ xs.length
  · rw [Nat.min_eq_left h, List.take_of_length_le (by rw [List.length_drop]; omega)]
  · rw [Nat.min_eq_right (by omega), List.drop_eq_nil_of_le (Nat.le_refl _), List.drop_eq_nil_of_le (by omega)]; simp
theorem cutV_map (ns : List Int) (lo hi : Option Int) : ∃ ms : List Int, cutV (ns.map V.int) lo hi = ms.map V.int ∧ ms.length ≤ ns.length ∧ ∀ x ∈ ms, x ∈ ns := by
  unfold cutV
  rw [← List.map_drop, ← List.map_take]
  refine ⟨_, rfl, ?_, fun x hx => List.mem_of_mem_drop (List.mem_of_mem_take hx)⟩
  rw [List.length_take, List.length_drop]; omega
theorem dats_ints {K : PySem.W.Frag} {H : Hp} : ∀ (ns : List Int), Dats K H (ns.map V.int) (ns.map PyData.int)
  | [] => .nil
  | n :: ns => .cons (.int n) (dats_ints ns)
theorem ints_get {ns : List Int} {i : Nat} {x : V} (h : (ns.map V.int)[i]? = some x) : ∃ n, ns[i]? = some n ∧ x = .int n := by
  rw [List.getElem?_map] at h
  cases e : ns[i]? with
  | none => rw [e] at h; cases h
  | some n => rw [e] at h; cases h; exact ⟨n, rfl, rfl⟩
theorem step_down (lo hi : Int) : stepN lo hi (-1) = (lo - hi).toNat := by
  unfold stepN Builtin.Range.rangeSize
  rw [if_neg (by decide)]
  split
  · simp
  · simp; omega
mutual
/-- data of None, truths, ints, tuples and lists, no deeper than n -/
def plainD : Nat → PyData → Bool
  | _, .none => true
  | _, .bool _ => true
  | _, .int _ => true
  | n + 1, .tuple ds => plainDs n ds
  | n + 1, .list ds => plainDs n ds
  | _, _ => false
def plainDs : Nat → List PyData → Bool
  | _, [] => true
  | n, d :: ds => plainD n d && plainDs n ds
end
mutual
theorem plain_ok : ∀ (d : PyData) {n : Nat}, plainD n d = true → PyData.eqv d d = true ∧ d.canLay0 = true ∧ d.depth ≤ n
  | .none, n, _ => ⟨rfl, rfl, Nat.zero_le _⟩
  | .bool b, n, _ => ⟨by simp [PyData.eqv], rfl, Nat.zero_le _⟩
  | .int i, n, _ => ⟨by simp [PyData.eqv], rfl, Nat.zero_le _⟩
  | .str x, 0, h => by simp [plainD] at h
  | .str x, n + 1, h => by simp [plainD] at h
  | .dict x, 0, h => by simp [plainD] at h
  | .dict x, n + 1, h => by simp [plainD] at h
  | .tuple ds, 0, h => by simp [plainD] at h
  | .list ds, 0, h => by simp [plainD] at h
  | .tuple ds, n + 1, h => by
    obtain ⟨a, b, c⟩ := plain_oks ds (n := n) (by simpa [plainD] using h)
    exact ⟨by simpa only [PyData.eqv] using a, by simpa only [PyData.canLay0] using b, by simp only [PyData.depth]; omega⟩
  | .list ds, n + 1, h => by
    obtain ⟨a, b, c⟩ := plain_oks ds (n := n) (by simpa [plainD] using h)
    exact ⟨by simpa only [PyData.eqv] using a, by simpa only [PyData.canLay0] using b, by simp only [PyData.depth]; omega⟩
theorem plain_oks : ∀ (ds : List PyData) {n : Nat}, plainDs n ds = true → PyData.eqvAll ds ds = true ∧ PyData.canLayAll0 ds = true ∧ PyData.depthAll ds ≤ n
  | [], n, _ => ⟨rfl, rfl, Nat.zero_le _⟩
  | d :: ds, n, h => by
    have h' : plainD n d = true ∧ plainDs n ds = true := by simpa [plainDs] using h
    obtain ⟨a, b, c⟩ := plain_ok d h'.1
    obtain ⟨a', b', c'⟩ := plain_oks ds h'.2
    exact ⟨by simp only [PyData.eqvAll, a, a', Bool.and_self], by simp only [PyData.canLayAll0, b, b', Bool.and_self], by simp only [PyData.depthAll]; omega⟩
end
/-- two things of the same data -/
theorem eq_dat {K : PySem.W.Frag} {H : Hp} {x y : V} {d : PyData} {n : Nat} {neg : Bool} {Q : VK} (hx : Dat K H x d) (hy : Dat K H y d) (hp : plainD n d = true) (hn : n ≤ 60) (q : Q (.bl (!neg)) H) : rEqD K neg x y H Q := by
  obtain ⟨a, b, c⟩ := plain_ok d hp
  refine ⟨d, d, hx, hy, b, b, Nat.le_trans c hn, ?_⟩
  rw [a]
  cases neg <;> exact q
theorem plain_ints : ∀ (ns : List Int) (n : Nat), plainDs n (ns.map PyData.int) = true
  | [], n => by cases n <;> rfl
  | i :: ns, n => by
    rw [List.map_cons]
    cases n <;> simp only [plainDs, plainD, plain_ints ns, Bool.and_self]
/-- two lists of the same ints -/
theorem eq_ints {K : PySem.W.Frag} {H : Hp} {a b : Addr} {ns : List Int} {neg : Bool} {Q : VK} (h : SqL K H a (ns.map V.int)) (h' : SqL K H b (ns.map V.int)) (q : Q (.bl (!neg)) H) : rEqD K neg (.ref a) (.ref b) H Q :=
  eq_dat (n := 1) (.lst h (dats_ints ns)) (.lst h' (dats_ints ns)) (by simp only [plainD, plain_ints]) (by decide) q
end Gz
namespace Gz
open PySem PySem.Spec PyProof.Rows L2
/-- a block whose items are some ints -/
theorem compGo_ints {Ok : Hp → Prop} {ρ : L2.St} {tt : TT} {te : TE} {H : Hp} {Q' : List V → Hp → Prop} (hOk : Ok H) : ∀ {xs ys : List V}, (∀ x ∈ xs, ∀ Q, Q true H → tt (some x :: ρ) H Q) → (∀ x ∈ xs, ∀ Q : VK, (∀ n : Int, Q (.int n) H) → te (some x :: ρ) H Q) → (∀ ms : List Int, ms.length = xs.length → Q' (ys ++ ms.map V.int) H) → compGo Ok ρ tt te xs ys H Q'
  | [], ys, _, _, q => ⟨hOk, by simpa using q [] rfl⟩
  | x :: r, ys, ht, he, q => by
    refine ⟨hOk, ht x (.head _) _ ?_⟩
    rw [if_pos rfl]
    refine he x (.head _) _ fun n => compGo_ints hOk (fun y hy => ht y (.tail _ hy)) (fun y hy => he y (.tail _ hy)) fun ms hm => ?_
    have := q (n :: ms) (by simp [hm])
    simpa using this
end Gz

set_option Elab.async false
set_option linter.all false
set_option maxRecDepth 100000
set_option maxHeartbeats 4000000
/-! lists of things by what they are; points, and the leaps between them -/
namespace Gz
open PySem PySem.Spec PyProof.Rows L2
/-! ### a list of values, by what each is -/
def All2 {α : Type} (R : V → α → Prop) : List V → List α → Prop
  | [], [] => True
  | x :: xs, a :: as => R x a ∧ All2 R xs as
  | _, _ => False
section
variable {α : Type} {R R' : V → α → Prop}
theorem All2.len : ∀ {xs : List V} {as : List α}, All2 R xs as → xs.length = as.length
  | [], [], _ => rfl
  | _ :: _, _ :: _, h => by simp [All2.len h.2]
  | [], _ :: _, h => h.elim
  | _ :: _, [], h => h.elim
theorem All2.imp (f : ∀ x a, R x a → R' x a) : ∀ {xs : List V} {as : List α}, All2 R xs as → All2 R' xs as
  | [], [], _ => trivial
  | _ :: _, _ :: _, h => ⟨f _ _ h.1, All2.imp f h.2⟩
  | [], _ :: _, h => h.elim
  | _ :: _, [], h => h.elim
theorem All2.get : ∀ {xs : List V} {as : List α}, All2 R xs as → ∀ {i : Nat} {x : V}, xs[i]? = some x → ∃ a, as[i]? = some a ∧ R x a
  | [], [], _, i, x, e => by simp at e
  | _ :: _, a :: _, h, 0, x, e => by simp at e; subst e; exact ⟨a, by simp, h.1⟩
  | _ :: _, _ :: _, h, i + 1, x, e => by
    simp only [List.getElem?_cons_succ] at e ⊢
    exact All2.get h.2 e
  | [], _ :: _, h, _, _, _ => h.elim
  | _ :: _, [], h, _, _, _ => h.elim
theorem All2.at : ∀ {xs : List V} {as : List α}, All2 R xs as → ∀ {i : Nat} {a : α}, as[i]? = some a → ∃ x, xs[i]? = some x ∧ R x a
  | [], [], _, i, x, e => by simp at e
  | x :: _, _ :: _, h, 0, a, e => by simp at e; subst e; exact ⟨x, by simp, h.1⟩
  | _ :: _, _ :: _, h, i + 1, a, e => by
    simp only [List.getElem?_cons_succ] at e ⊢
    exact All2.at h.2 e
  | [], _ :: _, h, _, _, _ => h.elim
  | _ :: _, [], h, _, _, _ => h.elim
theorem All2.app : ∀ {xs ys : List V} {as bs : List α}, All2 R xs as → All2 R ys bs → All2 R (xs ++ ys) (as ++ bs)
  | [], _, [], _, _, h => h
  | _ :: _, _, _ :: _, _, h, h' => ⟨h.1, All2.app h.2 h'⟩
  | [], _, _ :: _, _, h, _ => h.elim
  | _ :: _, _, [], _, h, _ => h.elim
theorem All2.snoc {xs : List V} {as : List α} {x : V} {a : α} (h : All2 R xs as) (h' : R x a) : All2 R (xs ++ [x]) (as ++ [a]) := h.app ⟨h', trivial⟩
theorem All2.take : ∀ {xs : List V} {as : List α} (n : Nat), All2 R xs as → All2 R (xs.take n) (as.take n)
  | [], [], n, _ => by simp [All2]
  | _ :: _, _ :: _, 0, _ => by simp [All2]
  | _ :: _, _ :: _, n + 1, h => by simpa [All2] using ⟨h.1, All2.take n h.2⟩
  | [], _ :: _, _, h => h.elim
  | _ :: _, [], _, h => h.elim
theorem All2.drop : ∀ {xs : List V} {as : List α} (n : Nat), All2 R xs as → All2 R (xs.drop n) (as.drop n)
  | [], [], n, _ => by simp [All2]
  | _ :: _, _ :: _, 0, h => by simpa using h
  | _ :: _, _ :: _, n + 1, h => by simpa using All2.drop n h.2
  | [], _ :: _, _, h => h.elim
  | _ :: _, [], _, h => h.elim
theorem All2.ints : ∀ (ns : List Int), All2 (fun x n => x = V.int n) (ns.map V.int) ns
  | [] => trivial
  | n :: ns => ⟨rfl, All2.ints ns⟩
theorem All2.rng {lo : Int} (n : Nat) : All2 (fun x (k : Nat) => x = V.int (lo + k)) ((List.range n).map fun k => V.int (lo + (k : Nat))) (List.range n) := by
  suffices ∀ l : List Nat, All2 (fun x (k : Nat) => x = V.int (lo + k)) (l.map fun k => V.int (lo + (k : Nat))) l from this _
  intro l
  induction l with
  | nil => trivial
  | cons a l ih => exact ⟨rfl, ih⟩
end
/-- a block whose tests and items let the heap grow -/
theorem compGo_grow {α : Type} {R : Hp → V → α → Prop} {Ok : Hp → Prop} {ρ : L2.St} {tt : TT} {te : TE} {p : α → Bool} {f : α → V} {Q' : List V → Hp → Prop} (mono : ∀ H H' x a, Same H H' → R H x a → R H' x a) : ∀ {xs : List V} {as : List α} {ys : List V} {H : Hp}, All2 (R H) xs as → (∀ H', Same H H' → Ok H') →
    (∀ x a, a ∈ as → ∀ H', Same H H' → R H' x a → ∀ Q, (∀ H'', Same H' H'' → Q (p a) H'') → tt (some x :: ρ) H' Q) → (∀ x a, a ∈ as → p a = true → ∀ H', Same H H' → R H' x a → ∀ Q : VK, (∀ H'', Same H' H'' → Q (f a) H'') → te (some x :: ρ) H' Q) →
    (∀ H', Same H H' → Q' (ys ++ (as.filter p).map f) H') → compGo Ok ρ tt te xs ys H Q'
  | [], [], ys, H, _, hOk, _, _, q => ⟨hOk H (Same.refl H), by simpa using q H (Same.refl H)⟩
  | x :: xs, a :: as, ys, H, h, hOk, ht, he, q => by
    refine ⟨hOk H (Same.refl H), ht x a (.head _) H (Same.refl H) h.1 _ fun H1 s1 => ?_⟩
    by_cases hb : p a = true
    · rw [if_pos hb]
      refine he x a (.head _) hb H1 s1 (mono _ _ _ _ s1 h.1) _ fun H2 s2 => ?_
      have S := s1.trans s2
      refine compGo_grow mono (h.2.imp fun x a r => mono _ _ _ _ S r) (fun H' s' => hOk H' (S.trans s')) (fun x a ha H' s' => ht x a (.tail _ ha) H' (S.trans s')) (fun x a ha hb H' s' => he x a (.tail _ ha) hb H' (S.trans s')) fun H' s' => ?_
      have := q H' (S.trans s')
      rw [List.filter_cons, if_pos hb] at this
      simpa using this
    · rw [if_neg hb]
      refine compGo_grow mono (h.2.imp fun x a r => mono _ _ _ _ s1 r) (fun H' s' => hOk H' (s1.trans s')) (fun x a ha H' s' => ht x a (.tail _ ha) H' (s1.trans s')) (fun x a ha hb H' s' => he x a (.tail _ ha) hb H' (s1.trans s')) fun H' s' => ?_
      have := q H' (s1.trans s')
      rw [List.filter_cons, if_neg hb] at this
      exact this
  | [], _ :: _, _, _, h, _, _, _, _ => h.elim
  | _ :: _, [], _, _, h, _, _, _, _ => h.elim
/-- .. that leave it -/
theorem compGo_all {α : Type} {R : V → α → Prop} {Ok : Hp → Prop} {ρ : L2.St} {tt : TT} {te : TE} {p : α → Bool} {f : α → V} {Q' : List V → Hp → Prop} {H : Hp} (hOk : Ok H) : ∀ {xs : List V} {as : List α} {ys : List V}, All2 R xs as →
    (∀ x a, a ∈ as → R x a → ∀ Q, Q (p a) H → tt (some x :: ρ) H Q) → (∀ x a, a ∈ as → p a = true → R x a → ∀ Q : VK, Q (f a) H → te (some x :: ρ) H Q) →
    Q' (ys ++ (as.filter p).map f) H → compGo Ok ρ tt te xs ys H Q'
  | [], [], ys, _, _, _, q => ⟨hOk, by simpa using q⟩
  | x :: xs, a :: as, ys, h, ht, he, q => by
    refine ⟨hOk, ht x a (.head _) h.1 _ ?_⟩
    by_cases hb : p a = true
    · rw [if_pos hb]
      refine he x a (.head _) hb h.1 _ (compGo_all hOk h.2 (fun x a ha => ht x a (.tail _ ha)) (fun x a ha => he x a (.tail _ ha)) ?_)
      rw [List.filter_cons, if_pos hb] at q
      simpa using q
    · rw [if_neg hb]
      refine compGo_all hOk h.2 (fun x a ha => ht x a (.tail _ ha)) (fun x a ha => he x a (.tail _ ha)) ?_
      rw [List.filter_cons, if_neg hb] at q
      exact q
  | [], _ :: _, _, h, _, _, _ => h.elim
  | _ :: _, [], _, h, _, _, _ => h.elim
theorem filter_tt {α : Type} (l : List α) : l.filter (fun _ => true) = l := List.filter_eq_self.mpr fun _ _ => rfl
/-! ### points -/
abbrev P2 := Int × Int
def IsPt (H : Hp) (v : V) (p : P2) : Prop := ∃ a, v = .ref a ∧ H a = some (.tup [.int p.1, .int p.2])
theorem IsPt.same {H H' : Hp} {v : V} {p : P2} (h : IsPt H v p) (s : Same H H') : IsPt H' v p := let ⟨a, e, q⟩ := h; ⟨a, e, s _ _ q⟩
theorem IsPt.new {H : Hp} {a : Addr} {x y : Int} : IsPt (upd H a (.tup [.int x, .int y])) (.ref a) (x, y) := ⟨a, rfl, upd_same⟩
theorem IsPt.put {H : Hp} {v : V} {p : P2} {r : Addr} {ys zs : List V} (h : IsPt H v p) (hr : H r = some (.lst ys)) : IsPt (upd H r (.lst zs)) v p := by
  obtain ⟨a, e, q⟩ := h
  refine ⟨a, e, ?_⟩
  rw [upd_ne (ne_of q hr (fun z => nomatch z))]; exact q
abbrev Pts (H : Hp) : List V → List P2 → Prop := All2 (IsPt H)
theorem Pts.same {H H' : Hp} {xs : List V} {ps : List P2} (h : Pts H xs ps) (s : Same H H') : Pts H' xs ps := All2.imp (fun _ _ r => r.same s) h
theorem Pts.put {H : Hp} {xs : List V} {ps : List P2} {r : Addr} {ys zs : List V} (h : Pts H xs ps) (hr : H r = some (.lst ys)) : Pts (upd H r (.lst zs)) xs ps := All2.imp (fun _ _ x => x.put hr) h
def datP (p : P2) : PyData := .tuple [.int p.1, .int p.2]
theorem Pts.dat {K : PySem.W.Frag} {H : Hp} : ∀ {xs : List V} {ps : List P2}, Pts H xs ps → Dats K H xs (ps.map datP)
  | [], [], _ => .nil
  | _ :: _, _ :: _, h => by
    obtain ⟨a, rfl, q⟩ := h.1
    exact .cons (.tup (SqT.of q) (.cons (.int _) (.cons (.int _) .nil))) (Pts.dat h.2)
  | [], _ :: _, h => h.elim
  | _ :: _, [], h => h.elim
theorem plain_pts : ∀ (ps : List P2), plainDs 1 (ps.map datP) = true
  | [] => rfl
  | p :: ps => by
    rw [List.map_cons]
    simp only [plainDs, plain_pts ps, Bool.and_true]
    rfl
/-- two lists of the same points -/
theorem eq_pts {K : PySem.W.Frag} {H : Hp} {a b : Addr} {xs ys : List V} {ps : List P2} {neg : Bool} {Q : VK} (ha : SqL K H a xs) (hb : SqL K H b ys) (h : Pts H xs ps) (h' : Pts H ys ps) (q : Q (.bl (!neg)) H) : rEqD K neg (.ref a) (.ref b) H Q :=
  eq_dat (n := 2) (.lst ha h.dat) (.lst hb h'.dat) (by simp only [plainD, plain_pts]) (by decide) q
/-! ### rising, near, free -/
def ris (ns : List Int) : Bool := (ns.zip (ns.drop 1)).all fun r => decide (r.1 < r.2)
theorem ris_cons (a b : Int) (ns : List Int) : ris (a :: b :: ns) = (decide (a < b) && ris (b :: ns)) := rfl
theorem ris_iff {ns : List Int} : ris ns = true ↔ ∀ i, i + 1 < ns.length → ns.getD i 0 < ns.getD (i + 1) 0 := by
  unfold ris
  rw [List.all_eq_true]
  constructor
  · intro h i hi
    have e : (ns.zip (ns.drop 1))[i]? = some (ns.getD i 0, ns.getD (i + 1) 0) := by
      rw [List.getElem?_zip_eq_some, List.getElem?_drop, List.getD_eq_getElem?_getD, List.getD_eq_getElem?_getD, List.getElem?_eq_getElem (show i < ns.length by omega), show 1 + i = i + 1 by omega, List.getElem?_eq_getElem hi]
      exact ⟨rfl, rfl⟩
    simpa using h _ (List.mem_of_getElem? e)
  · intro h r hr
    obtain ⟨i, hi⟩ := List.mem_iff_getElem?.mp hr
    rw [List.getElem?_zip_eq_some, List.getElem?_drop] at hi
    have h1 := (List.getElem?_eq_some_iff.mp hi.2).1
    have := h i (by omega)
    rw [List.getD_eq_getElem?_getD, List.getD_eq_getElem?_getD, hi.1, show i + 1 = 1 + i by omega, hi.2] at this
    simpa using this
def ltV : V × V → V
  | (.int a, .int b) => .bl (decide (a < b))
  | _ => .non
theorem zip_ints (ns ms : List Int) : (ns.map V.int).zip (ms.map V.int) = (ns.zip ms).map fun r => (V.int r.1, V.int r.2) := by
  rw [List.zip_map]; rfl
def wid (s e : P2) : Int := e.1 - s.1
def aside (s e p : P2) : Int := (p.2 - s.2) * (e.1 - s.1) - (p.1 - s.1) * (e.2 - s.2)
def nearB (s e p : P2) (err : Int) : Bool := decide (iabs (aside s e p) ≤ err * (e.1 - s.1))
def ptD (ps : List P2) (i : Nat) : P2 := ps.getD i (0, 0)
def freeB (ps : List P2) (err : Int) (i j : Nat) : Bool := ((ps.take j).drop (i + 1)).all fun p => nearB (ptD ps i) (ptD ps j) p err
theorem free_next (ps : List P2) (err : Int) (i : Nat) : freeB ps err i (i + 1) = true := by
  unfold freeB
  rw [List.drop_eq_nil_of_le (by rw [List.length_take]; omega)]; rfl
def BP (ps : List P2) : Prop := ∀ p ∈ ps, Bd 300 p.1 ∧ Bd 300 p.2
/-- the prices of the first n points -/
def Prices (ps : List P2) (err : Int) (n : Nat) (cs : List Int) : Prop := cs.length = n ∧ cs.getD 0 0 = 0 ∧ ∀ e, 1 ≤ e → e < n → (∀ i, i < e → freeB ps err i e = true → cs.getD e 0 ≤ cs.getD i 0 + 1) ∧ ∃ i, i < e ∧ freeB ps err i e = true ∧ cs.getD e 0 = cs.getD i 0 + 1
def okPts (ps : List P2) : Prop := 2 ≤ ps.length ∧ ris (ps.map (·.1)) = true
theorem at_pt {H : Hp} {xs : List V} {ps : List P2} (h : Pts H xs ps) {i : Nat} (hi : i < ps.length) : ∃ v, atI xs (i : Int) = some v ∧ IsPt H v (ptD ps i) := by
  have e : ps[i]? = some (ptD ps i) := by unfold ptD; rw [List.getD_eq_getElem?_getD, List.getElem?_eq_getElem hi]; rfl
  obtain ⟨x, ex, r⟩ := h.at e
  exact ⟨x, atI_nat ex, r⟩
theorem BP_at {ps : List P2} (h : BP ps) {i : Nat} (hi : i < ps.length) : Bd 300 (ptD ps i).1 ∧ Bd 300 (ptD ps i).2 := by
  refine h _ ?_
  unfold ptD; rw [List.getD_eq_getElem?_getD, List.getElem?_eq_getElem hi]; exact List.getElem_mem hi
theorem Prices.next {ps : List P2} {err : Int} {n : Nat} {cs : List Int} (h : Prices ps err n cs) (hn : 1 ≤ n) : Prices ps err (n + 1) (cs ++ [1 + minL (((List.range n).filter fun i => freeB ps err i n).map fun i => cs.getD i 0)]) := by
  obtain ⟨hl, h0, hp⟩ := h
  have ne : (((List.range n).filter fun i => freeB ps err i n).map fun i => cs.getD i 0) ≠ [] := by
    have hm : n - 1 ∈ (List.range n).filter fun i => freeB ps err i n := by
      rw [List.mem_filter]
      refine ⟨List.mem_range.mpr (by omega), ?_⟩
      have := free_next ps err (n - 1)
      rwa [show n - 1 + 1 = n by omega] at this
    intro z
    rw [List.map_eq_nil_iff] at z
    rw [z] at hm; cases hm
  obtain ⟨m1, m2⟩ := minL_mem ne
  have gl : ∀ i, i < n → (cs ++ [1 + minL (((List.range n).filter fun i => freeB ps err i n).map fun i => cs.getD i 0)]).getD i 0 = cs.getD i 0 := fun i hi => by
    rw [List.getD_eq_getElem?_getD, List.getD_eq_getElem?_getD, List.getElem?_append_left (by omega)]
  have gn : (cs ++ [1 + minL (((List.range n).filter fun i => freeB ps err i n).map fun i => cs.getD i 0)]).getD n 0 = 1 + minL (((List.range n).filter fun i => freeB ps err i n).map fun i => cs.getD i 0) := by
    rw [List.getD_eq_getElem?_getD, List.getElem?_append_right (by omega), hl, Nat.sub_self]; rfl
  refine ⟨by rw [List.length_append, List.length_singleton, hl], by rw [gl 0 (by omega)]; exact h0, fun e h1 h2 => ?_⟩
  by_cases he : e < n
  · obtain ⟨q1, i, hi, hf, q2⟩ := hp e h1 he
    rw [gl e he]
    refine ⟨fun j hj hf => by rw [gl j (by omega)]; exact q1 j hj hf, i, hi, hf, by rw [gl i (by omega)]; exact q2⟩
  · have : e = n := by omega
    subst this
    rw [gn]
    refine ⟨fun j hj hf => ?_, ?_⟩
    · rw [gl j hj]
      have := m2 (cs.getD j 0) (List.mem_map.mpr ⟨j, List.mem_filter.mpr ⟨List.mem_range.mpr hj, hf⟩, rfl⟩)
      omega
    · obtain ⟨i, hi, e⟩ := List.mem_map.mp m1
      rw [List.mem_filter] at hi
      refine ⟨i, List.mem_range.mp hi.1, hi.2, ?_⟩
      rw [gl i (List.mem_range.mp hi.1), e]; omega
end Gz
namespace Gz
open PySem PySem.Spec PyProof.Rows L2
theorem ris_snoc {ns : List Int} {n : Int} (h : ris ns = true) (h' : ∀ x ∈ ns, x < n) : ris (ns ++ [n]) = true := by
  rw [ris_iff] at h ⊢
  intro i hi
  rw [List.length_append, List.length_singleton] at hi
  by_cases hl : i + 1 < ns.length
  · have := h i hl
    rw [List.getD_eq_getElem?_getD, List.getD_eq_getElem?_getD, List.getElem?_append_left (by omega), List.getElem?_append_left hl, ← List.getD_eq_getElem?_getD, ← List.getD_eq_getElem?_getD]
    exact this
  · have e : i + 1 = ns.length := by omega
    rw [List.getD_eq_getElem?_getD, List.getD_eq_getElem?_getD, List.getElem?_append_left (by omega), List.getElem?_append_right (by omega), e, Nat.sub_self, List.getElem?_eq_getElem (by omega)]
    exact h' _ (List.getElem_mem _)
theorem mul_small {d k : Int} (hd : 0 ≤ d) (h1 : -4 ≤ k) (h2 : k ≤ 4) : -4 * d ≤ d * k ∧ d * k ≤ 4 * d := by
  have a := Int.mul_le_mul_of_nonneg_left h1 hd
  have b := Int.mul_le_mul_of_nonneg_left h2 hd
  omega
theorem Bd200 {x : Int} (h : x.natAbs < 2 ^ 300) : Bd 300 x := h
/-- not above the error, not below it -/
theorem near_iff (s e p : P2) (err : Int) : nearB s e p err = true ↔ ¬ (err * (e.1 - s.1) < p.2 * (e.1 - s.1) - (s.2 * (e.1 - s.1) + (e.2 - s.2) * (p.1 - s.1)) ∨ p.2 * (e.1 - s.1) - (s.2 * (e.1 - s.1) + (e.2 - s.2) * (p.1 - s.1)) < -err * (e.1 - s.1)) := by
  unfold nearB aside iabs
  rw [decide_eq_true_eq]
  have e1 : (p.2 - s.2) * (e.1 - s.1) = p.2 * (e.1 - s.1) - s.2 * (e.1 - s.1) := Int.sub_mul ..
  have e2 : (p.1 - s.1) * (e.2 - s.2) = (e.2 - s.2) * (p.1 - s.1) := Int.mul_comm ..
  have e3 : -err * (e.1 - s.1) = -(err * (e.1 - s.1)) := Int.neg_mul ..
  rw [e1, e2, e3]
  generalize p.2 * (e.1 - s.1) = A
  generalize s.2 * (e.1 - s.1) = B
  generalize (e.2 - s.2) * (p.1 - s.1) = C
  generalize err * (e.1 - s.1) = D
  split <;> omega
theorem free_take {ps : List P2} {err : Int} {i j : Nat} : freeB ps err i j = true ↔ ∀ k, i < k → k < j → k < ps.length → nearB (ptD ps i) (ptD ps j) (ptD ps k) err = true := by
  unfold freeB
  rw [List.all_eq_true]
  constructor
  · intro h k h1 h2 h3
    refine h _ (List.mem_iff_getElem?.mpr ⟨k - (i + 1), ?_⟩)
    rw [List.getElem?_drop, show i + 1 + (k - (i + 1)) = k by omega, List.getElem?_take_of_lt h2]
    unfold ptD; rw [List.getD_eq_getElem?_getD, List.getElem?_eq_getElem h3]; rfl
  · intro h p hp
    obtain ⟨k, hk⟩ := List.mem_iff_getElem?.mp hp
    rw [List.getElem?_drop] at hk
    have h2 : i + 1 + k < j := by
      have := (List.getElem?_eq_some_iff.mp hk).1
      rw [List.length_take] at this; omega
    rw [List.getElem?_take_of_lt h2] at hk
    have h3 := (List.getElem?_eq_some_iff.mp hk).1
    have := h (i + 1 + k) (by omega) h2 h3
    unfold ptD at this
    rw [List.getD_eq_getElem?_getD (i := i + 1 + k), hk] at this
    exact this
end Gz
namespace Gz
open PySem PySem.Spec PyProof.Rows L2
def BQ (ps : List P2) : Prop := ∀ p ∈ ps, Bd 250 p.1 ∧ Bd 250 p.2
theorem BQ.bp {ps : List P2} (h : BQ ps) : BP ps := fun p hp => ⟨(h p hp).1.up (by decide), (h p hp).2.up (by decide)⟩
theorem Bd250 {x : Int} (h : x.natAbs < 2 ^ 250) : Bd 250 x := h
/-- one raw that is no greater than the one ahead -/
theorem spoilt {ps : List P2} {t : Nat} {x y : Int} (ht : t + 1 < ps.length) (hx : x ≤ (ptD ps t).1) : ¬ okPts (ps.take (t + 1) ++ [(x, y)] ++ ps.drop (t + 2)) := by
  rintro ⟨_, h⟩
  rw [ris_iff] at h
  have hl : (ps.take (t + 1)).length = t + 1 := by rw [List.length_take]; omega
  have := h t (by simp only [List.length_map, List.length_append, List.length_singleton, List.length_drop, hl]; omega)
  have e1 : ((ps.take (t + 1) ++ [(x, y)] ++ ps.drop (t + 2)).map (·.1)).getD t 0 = (ptD ps t).1 := by
    rw [List.getD_eq_getElem?_getD, List.getElem?_map, List.append_assoc, List.getElem?_append_left (by omega), List.getElem?_take_of_lt (by omega), List.getElem?_eq_getElem (by omega)]
    unfold ptD
    rw [List.getD_eq_getElem?_getD, List.getElem?_eq_getElem (by omega)]
    rfl
  have e2 : ((ps.take (t + 1) ++ [(x, y)] ++ ps.drop (t + 2)).map (·.1)).getD (t + 1) 0 = x := by
    rw [List.getD_eq_getElem?_getD, List.getElem?_map, List.append_assoc, List.getElem?_append_right (by omega), hl, Nat.sub_self]
    rfl
  rw [e1, e2] at this
  omega
end Gz

set_option Elab.async false
set_option linter.all false
set_option maxRecDepth 100000
set_option maxHeartbeats 4000000
/-! gauges, reckoned -/
namespace Gz
open PySem PySem.Spec PyProof.Rows L2
/-- the value t/b lies on the line through s and e at the raw p/q -/
def onl (s e : P2) (p q t b : Int) : Prop := (t - s.2 * b) * (e.1 - s.1) * q = (p - s.1 * q) * (e.2 - s.2) * b
theorem chain_line {y1 v y2 x1 x2 m1 m2 s1 s2 q dr p r dv : Int} (h1 : s1 * dr = dv * s2) (h2 : m1 * q = (p - r * q) * m2) (h3 : x1 * (m2 * s2) = m1 * s1 * x2) (h4 : y1 * x2 = (v * x2 + x1) * y2) (n1 : x2 ≠ 0) (n2 : m2 ≠ 0) (n3 : s2 ≠ 0) :
    (y1 - v * y2) * dr * q = (p - r * q) * dv * y2 := by
  have h : ((y1 - v * y2) * dr * q - (p - r * q) * dv * y2) * (x2 * m2 * s2) = 0 := by grind
  have n : x2 * m2 * s2 ≠ 0 := Int.mul_ne_zero (Int.mul_ne_zero n1 n2) n3
  have := (Int.mul_eq_zero.mp h).resolve_right n
  omega
/-- the raw lies within the piece from i on -/
def inP (ks : List P2) (p q : Int) (i : Nat) : Prop := i + 1 < ks.length ∧ (ptD ks i).1 * q ≤ p ∧ p ≤ (ptD ks (i + 1)).1 * q
def hit (ks : List P2) (p q : Int) : Prop := ∃ i, inP ks p q i
structure Led (ks : List P2) (p q t b : Int) : Prop where
  pos : 1 ≤ b
  low : gcdI t b = 1
  on : ∀ i, inP ks p q i → onl (ptD ks i) (ptD ks (i + 1)) p q t b
def okKn (ks : List P2) : Prop := 2 ≤ ks.length ∧ ris (ks.map (·.1)) = true ∧ ris (ks.map (·.2)) = true
theorem ptD_map1 {ks : List P2} {i : Nat} (h : i < ks.length) : (ks.map (·.1)).getD i 0 = (ptD ks i).1 := by
  unfold ptD
  rw [List.getD_eq_getElem?_getD, List.getElem?_map, List.getD_eq_getElem?_getD, List.getElem?_eq_getElem h]; rfl
theorem ptD_map2 {ks : List P2} {i : Nat} (h : i < ks.length) : (ks.map (·.2)).getD i 0 = (ptD ks i).2 := by
  unfold ptD
  rw [List.getD_eq_getElem?_getD, List.getElem?_map, List.getD_eq_getElem?_getD, List.getElem?_eq_getElem h]; rfl
theorem ris_lt1 {ks : List P2} (h : ris (ks.map (·.1)) = true) : ∀ {i j : Nat}, i < j → j < ks.length → (ptD ks i).1 < (ptD ks j).1 := by
  rw [ris_iff] at h
  have st : ∀ i, i + 1 < ks.length → (ptD ks i).1 < (ptD ks (i + 1)).1 := fun i hi => by
    have := h i (by rw [List.length_map]; exact hi)
    rwa [ptD_map1 (by omega), ptD_map1 hi] at this
  intro i j hij hj
  induction j with
  | zero => omega
  | succ j ih =>
    by_cases e : i = j
    · subst e; exact st i hj
    · exact Int.lt_trans (ih (by omega) (by omega)) (st j hj)
theorem ris_lt2 {ks : List P2} (h : ris (ks.map (·.2)) = true) : ∀ {i j : Nat}, i < j → j < ks.length → (ptD ks i).2 < (ptD ks j).2 := by
  rw [ris_iff] at h
  have st : ∀ i, i + 1 < ks.length → (ptD ks i).2 < (ptD ks (i + 1)).2 := fun i hi => by
    have := h i (by rw [List.length_map]; exact hi)
    rwa [ptD_map2 (by omega), ptD_map2 hi] at this
  intro i j hij hj
  induction j with
  | zero => omega
  | succ j ih =>
    by_cases e : i = j
    · subst e; exact st i hj
    · exact Int.lt_trans (ih (by omega) (by omega)) (st j hj)
theorem line_next {a b c : P2} {p q t w : Int} (hq : 0 < q) (hab : a.1 < b.1) (h1 : p = b.1 * q) (h : onl a b p q t w) : onl b c p q t w := by
  unfold onl at *
  subst h1
  have e : (t - b.2 * w) * ((b.1 - a.1) * q) = 0 := by grind
  have n : (b.1 - a.1) * q ≠ 0 := Int.mul_ne_zero (by omega) (by omega)
  have := (Int.mul_eq_zero.mp e).resolve_right n
  have e2 : t - b.2 * w = 0 := this
  rw [e2]; grind
/-- on one piece, so on all that the raw lies within -/
theorem Led.of {ks : List P2} {p q t b : Int} {i : Nat} (hr : ris (ks.map (·.1)) = true) (hq : 0 < q) (h1 : 1 ≤ b) (h2 : gcdI t b = 1) (hi : inP ks p q i) (first : ∀ j, j < i → ¬ inP ks p q j) (h : onl (ptD ks i) (ptD ks (i + 1)) p q t b) : Led ks p q t b := by
  refine ⟨h1, h2, fun j hj => ?_⟩
  by_cases e : j = i
  · rw [e]; exact h
  by_cases lt : j < i
  · exact absurd hj (first j lt)
  by_cases e1 : j = i + 1
  · subst e1
    have l1 := ris_lt1 hr (i := i) (j := i + 1) (by omega) (by have := hj.1; omega)
    exact line_next hq l1 (by have := hi.2.2; have := hj.2.1; omega) h
  · have l1 := ris_lt1 hr (i := i + 1) (j := j) (by omega) (by have := hj.1; omega)
    have : (ptD ks (i + 1)).1 * q < (ptD ks j).1 * q := Int.mul_lt_mul_of_pos_right l1 hq
    have a1 := hi.2.2
    have a2 := hj.2.1
    omega
/-- a raw between the first and the last one lies within a piece -/
theorem hit_of {ks : List P2} {p q : Int} (h2 : 2 ≤ ks.length) (h0 : (ptD ks 0).1 * q ≤ p) (h1 : p ≤ (ptD ks (ks.length - 1)).1 * q) : hit ks p q := by
  have : ∀ n, n < ks.length → p ≤ (ptD ks n).1 * q → (∃ i, inP ks p q i) ∨ n = 0 := by
    intro n
    induction n with
    | zero => intro _ _; exact .inr rfl
    | succ n ih =>
      intro hn hp
      by_cases hc : (ptD ks n).1 * q ≤ p
      · exact .inl ⟨n, hn, hc, hp⟩
      · rcases ih (by omega) (by omega) with h | rfl
        · exact .inl h
        · exact absurd h0 hc
  rcases this (ks.length - 1) (by omega) h1 with h | h
  · exact h
  · omega
theorem no_hit_low {ks : List P2} {p q : Int} (hr : ris (ks.map (·.1)) = true) (hq : 0 < q) (h : p < (ptD ks 0).1 * q) : ¬ hit ks p q := by
  rintro ⟨i, h1, h2, h3⟩
  have : (ptD ks 0).1 * q ≤ (ptD ks i).1 * q := by
    by_cases e : i = 0
    · rw [e]; exact Int.le_refl _
    · exact Int.le_of_lt (Int.mul_lt_mul_of_pos_right (ris_lt1 hr (by omega) (by omega)) hq)
  omega
theorem no_hit_high {ks : List P2} {p q : Int} (hr : ris (ks.map (·.1)) = true) (hq : 0 < q) (h : (ptD ks (ks.length - 1)).1 * q < p) : ¬ hit ks p q := by
  rintro ⟨i, h1, h2, h3⟩
  have : (ptD ks (i + 1)).1 * q ≤ (ptD ks (ks.length - 1)).1 * q := by
    by_cases e : i + 1 = ks.length - 1
    · rw [e]; exact Int.le_refl _
    · exact Int.le_of_lt (Int.mul_lt_mul_of_pos_right (ris_lt1 hr (by omega) (by omega)) hq)
  omega
/-- a ratio as a tuple -/
def IsR (H : Hp) (v : V) (t b : Int) : Prop := ∃ a, v = .ref a ∧ H a = some (.tup [.int t, .int b])
theorem IsR.same {H H' : Hp} {v : V} {t b : Int} (h : IsR H v t b) (s : Same H H') : IsR H' v t b := let ⟨a, e, q⟩ := h; ⟨a, e, s _ _ q⟩
theorem IsR.p {K : PySem.W.Frag} {H : Hp} {v : V} {t b : Int} (h : IsR H v t b) : IsP K H v t b := let ⟨a, e, q⟩ := h; ⟨a, e, SqT.of q⟩
/-- a gauge as it lies -/
def IsG (C : Addr) (H : Hp) (v : V) (ks : List P2) : Prop := ∃ x dx l xs, v = .ref x ∧ H x = some (.ins C dx [("knots", .ref l)]) ∧ H l = some (.lst xs) ∧ Pts H xs ks
theorem IsG.same {C : Addr} {H H' : Hp} {v : V} {ks : List P2} (h : IsG C H v ks) (s : Same H H') : IsG C H' v ks := by
  obtain ⟨x, dx, l, xs, e, h1, h2, h3⟩ := h
  exact ⟨x, dx, l, xs, e, s _ _ h1, s _ _ h2, h3.same s⟩
/-- all but what stands at x -/
def SameBut (x : Addr) (H H' : Hp) : Prop := ∀ b o, b ≠ x → H b = some o → H' b = some o
end Gz
namespace Gz
open PySem PySem.Spec PyProof.Rows L2
theorem between_parts {h d n i u w : Int} (hn : 1 ≤ n) (hd : 0 ≤ d) (hi0 : 0 ≤ i) (hin : i ≤ n) (hw : 1 ≤ w) (e : u * n = (h * n + d * i) * w) : h * w ≤ u ∧ u ≤ (h + d) * w := by
  have a1 : 0 ≤ d * i * w := Int.mul_nonneg (Int.mul_nonneg hd hi0) (by omega)
  have a2 : 0 ≤ d * (n - i) * w := Int.mul_nonneg (Int.mul_nonneg hd (by omega)) (by omega)
  constructor
  · refine Int.le_of_mul_le_mul_right (a := n) ?_ (by omega)
    grind
  · refine Int.le_of_mul_le_mul_right (a := n) ?_ (by omega)
    grind
theorem at_last {H : Hp} {xs : List V} {ps : List P2} (h : Pts H xs ps) (h0 : 0 < ps.length) : ∃ v, atI xs (-1) = some v ∧ IsPt H v (ptD ps (ps.length - 1)) := by
  have hl := h.len
  have e : ps[ps.length - 1]? = some (ptD ps (ps.length - 1)) := by unfold ptD; rw [List.getD_eq_getElem?_getD, List.getElem?_eq_getElem (by omega)]; rfl
  obtain ⟨x, ex, r⟩ := h.at e
  refine ⟨x, ?_, r⟩
  unfold atI ixN
  rw [if_neg (by decide), if_pos (by omega)]
  show xs[(-1 + (xs.length : Int)).toNat]? = _
  rw [show (-1 + (xs.length : Int)).toNat = ps.length - 1 by omega]
  exact ex
theorem BQ_at {ps : List P2} (h : BQ ps) {i : Nat} (hi : i < ps.length) : Bd 250 (ptD ps i).1 ∧ Bd 250 (ptD ps i).2 := by
  refine h _ ?_
  unfold ptD; rw [List.getD_eq_getElem?_getD, List.getElem?_eq_getElem hi]; exact List.getElem_mem hi
theorem mem_ptD {ps : List P2} {i : Nat} (hi : i < ps.length) : ptD ps i ∈ ps := by
  unfold ptD; rw [List.getD_eq_getElem?_getD, List.getElem?_eq_getElem hi]; exact List.getElem_mem hi
theorem Bd1 : Bd 100 1 := Bd.up (n := 1) (by show 1 < 2; decide) (by decide)
end Gz
namespace Gz
open PySem PySem.Spec PyProof.Rows L2
/-- a block whose items are new things -/
theorem compGo_new {α β : Type} {R : Hp → V → α → Prop} {R' : Hp → V → β → Prop} {Ok : Hp → Prop} {ρ : L2.St} {tt : TT} {te : TE} {f : α → β} {Q' : List V → Hp → Prop} (mono : ∀ H H' x a, Same H H' → R H x a → R H' x a) (mono' : ∀ H H' x a, Same H H' → R' H x a → R' H' x a) :
    ∀ {xs : List V} {as : List α} {ys : List V} {bs : List β} {H : Hp}, All2 (R H) xs as → All2 (R' H) ys bs → (∀ H', Same H H' → Ok H') → (∀ x a, a ∈ as → ∀ H', Same H H' → R H' x a → ∀ Q, Q true H' → tt (some x :: ρ) H' Q) →
    (∀ x a, a ∈ as → ∀ H', Same H H' → R H' x a → ∀ Q : VK, (∀ H'' y, Same H' H'' → R' H'' y (f a) → Q y H'') → te (some x :: ρ) H' Q) →
    (∀ H' zs, Same H H' → All2 (R' H') zs (bs ++ as.map f) → Q' zs H') → compGo Ok ρ tt te xs ys H Q'
  | [], [], ys, bs, H, _, hy, hOk, _, _, q => ⟨hOk H (Same.refl H), q H ys (Same.refl H) (by simpa using hy)⟩
  | x :: xs, a :: as, ys, bs, H, h, hy, hOk, ht, he, q => by
    refine ⟨hOk H (Same.refl H), ht x a (.head _) H (Same.refl H) h.1 _ ?_⟩
    rw [if_pos rfl]
    refine he x a (.head _) H (Same.refl H) h.1 _ fun H2 y s2 r2 => ?_
    refine compGo_new mono mono' (bs := bs ++ [f a]) (h.2.imp fun x a r => mono _ _ _ _ s2 r) ((hy.imp fun x a r => mono' _ _ _ _ s2 r).snoc r2) (fun H' s' => hOk H' (s2.trans s')) (fun x a ha H' s' => ht x a (.tail _ ha) H' (s2.trans s')) (fun x a ha H' s' => he x a (.tail _ ha) H' (s2.trans s')) fun H' zs s' hz => ?_
    refine q H' zs (s2.trans s') ?_
    rw [List.map_cons]
    rwa [List.append_assoc] at hz
  | [], _ :: _, _, _, _, h, _, _, _, _, _ => h.elim
  | _ :: _, [], _, _, _, h, _, _, _, _, _ => h.elim
/-! ### back again -/
def sw (ks : List P2) : List P2 := ks.map fun p => (p.2, p.1)
theorem sw_sw (ks : List P2) : sw (sw ks) = ks := by unfold sw; rw [List.map_map]; exact List.map_id'' (fun _ => rfl) ks
theorem sw_len (ks : List P2) : (sw ks).length = ks.length := List.length_map ..
theorem sw_at {ks : List P2} {i : Nat} (h : i < ks.length) : ptD (sw ks) i = ((ptD ks i).2, (ptD ks i).1) := by
  unfold ptD sw
  rw [List.getD_eq_getElem?_getD, List.getElem?_map, List.getD_eq_getElem?_getD, List.getElem?_eq_getElem h]; rfl
theorem sw_ok {ks : List P2} (h : okKn ks) : okKn (sw ks) := by
  refine ⟨by rw [sw_len]; exact h.1, ?_, ?_⟩
  · unfold sw; rw [List.map_map]; exact h.2.2
  · unfold sw; rw [List.map_map]; exact h.2.1
theorem sw_bq {ks : List P2} (h : BQ ks) : BQ (sw ks) := fun p hp => by
  obtain ⟨q, hq, rfl⟩ := List.mem_map.mp hp
  exact ⟨(h q hq).2, (h q hq).1⟩
theorem pos_of_mul {x y : Int} (hy : 0 < y) (h : 0 ≤ x * y) : 0 ≤ x := by
  refine Decidable.byContradiction fun hn => ?_
  have := Int.mul_lt_mul_of_pos_right (show x < 0 by omega) hy
  omega
/-- led forth the raw lies within the same piece of the values -/
theorem in_other {ks : List P2} (hok : okKn ks) {u w t b : Int} {i : Nat} (hw : 1 ≤ w) (h : inP ks u w i) (led : Led ks u w t b) : inP (sw ks) t b i := by
  have hi := h.1
  have l1 := ris_lt1 hok.2.1 (i := i) (j := i + 1) (by omega) hi
  have l2 := ris_lt2 hok.2.2 (i := i) (j := i + 1) (by omega) hi
  have on := led.on i h
  have hb := led.pos
  unfold onl at on
  refine ⟨by rw [sw_len]; exact hi, ?_, ?_⟩
  · rw [sw_at (by omega)]
    show (ptD ks i).2 * b ≤ t
    have p1 : 0 ≤ (u - (ptD ks i).1 * w) * ((ptD ks (i + 1)).2 - (ptD ks i).2) * b := Int.mul_nonneg (Int.mul_nonneg (by have := h.2.1; omega) (by omega)) (by omega)
    rw [← on, Int.mul_assoc] at p1
    have := pos_of_mul (Int.mul_pos (by omega) (by omega)) p1
    omega
  · rw [sw_at (by omega)]
    show t ≤ (ptD ks (i + 1)).2 * b
    have p1 : 0 ≤ ((ptD ks (i + 1)).1 * w - u) * ((ptD ks (i + 1)).2 - (ptD ks i).2) * b := Int.mul_nonneg (Int.mul_nonneg (by have := h.2.2; omega) (by omega)) (by omega)
    have e : ((ptD ks (i + 1)).2 * b - t) * (((ptD ks (i + 1)).1 - (ptD ks i).1) * w) = ((ptD ks (i + 1)).1 * w - u) * ((ptD ks (i + 1)).2 - (ptD ks i).2) * b := by grind
    rw [← e] at p1
    have := pos_of_mul (Int.mul_pos (by omega) (by omega)) p1
    omega
theorem lowest_eq {t b u w : Int} (h1 : gcdI t b = 1) (h2 : gcdI u w = 1) (hb : 1 ≤ b) (hw : 1 ≤ w) (e : t * w = u * b) : t = u ∧ b = w := by
  have c1 : Nat.gcd t.natAbs b.natAbs = 1 := by unfold gcdI at h1; omega
  have c2 : Nat.gcd u.natAbs w.natAbs = 1 := by unfold gcdI at h2; omega
  have en : t.natAbs * w.natAbs = u.natAbs * b.natAbs := by rw [← Int.natAbs_mul, ← Int.natAbs_mul, e]
  have d1 : b.natAbs ∣ w.natAbs := by
    have : b.natAbs ∣ t.natAbs * w.natAbs := by rw [en]; exact Nat.dvd_mul_left _ _
    exact (Nat.Coprime.symm c1).dvd_of_dvd_mul_left this
  have d2 : w.natAbs ∣ b.natAbs := by
    have : w.natAbs ∣ u.natAbs * b.natAbs := by rw [← en]; exact Nat.dvd_mul_left _ _
    exact (Nat.Coprime.symm c2).dvd_of_dvd_mul_left this
  have eb : b = w := by have := Nat.dvd_antisymm d1 d2; omega
  subst eb
  exact ⟨Int.eq_of_mul_eq_mul_right (by omega) e, rfl⟩
/-- forth and back: the same -/
theorem there_and_back {ks : List P2} (hok : okKn ks) {u w t b x y : Int} {i : Nat} (hw : 1 ≤ w) (hg : gcdI u w = 1) (h : inP ks u w i) (led : Led ks u w t b) (led2 : Led (sw ks) t b x y) : x = u ∧ y = w := by
  have hi := h.1
  have l1 := ris_lt1 hok.2.1 (i := i) (j := i + 1) (by omega) hi
  have l2 := ris_lt2 hok.2.2 (i := i) (j := i + 1) (by omega) hi
  have on := led.on i h
  have on2 := led2.on i (in_other hok hw h led)
  rw [sw_at (by omega), sw_at hi] at on2
  unfold onl at on on2
  dsimp only at on2
  refine lowest_eq led2.low hg led2.pos hw ?_
  have n : ((ptD ks (i + 1)).2 - (ptD ks i).2) * b ≠ 0 := Int.mul_ne_zero (by omega) (by have := led.pos; omega)
  refine Int.eq_of_mul_eq_mul_right n ?_
  grind
end Gz
namespace Gz
open PySem PySem.Spec PyProof.Rows L2
theorem in_ends {ks : List P2} {p q : Int} {i : Nat} (hr : ris (ks.map (·.1)) = true) (hq : 0 < q) (h : inP ks p q i) : (ptD ks 0).1 * q ≤ p ∧ p ≤ (ptD ks (ks.length - 1)).1 * q := by
  obtain ⟨h1, h2, h3⟩ := h
  constructor
  · have : (ptD ks 0).1 * q ≤ (ptD ks i).1 * q := by
      by_cases e : i = 0
      · rw [e]; exact Int.le_refl _
      · exact Int.le_of_lt (Int.mul_lt_mul_of_pos_right (ris_lt1 hr (by omega) (by omega)) hq)
    omega
  · have : (ptD ks (i + 1)).1 * q ≤ (ptD ks (ks.length - 1)).1 * q := by
      by_cases e : i + 1 = ks.length - 1
      · rw [e]; exact Int.le_refl _
      · exact Int.le_of_lt (Int.mul_lt_mul_of_pos_right (ris_lt1 hr (by omega) (by omega)) hq)
    omega
end Gz

set_option Elab.async false
set_option linter.all false
set_option maxRecDepth 100000
set_option maxHeartbeats 4000000
/-! sorted ints, blocks that select, the cells of stretches -/
namespace Gz
open PySem PySem.Spec PyProof.Rows L2
/-! ### sorted(xs) of ints -/
theorem vals_ints {us : List Value} {ns : List Int} (h : IntsAre us ns) : Vals (ns.map V.int) us := by
  induction h with
  | nil => exact .nil
  | cons n t r ih => exact .cons ⟨t, rfl⟩ ih
theorem call_sortedL {X : Cx} : CallR X (.builtin "sorted") (fun xs H Q => ∃ (a : Addr) (ns : List Int), xs = [.ref a] ∧ SqL X.K H a (ns.map V.int) ∧ ns.length < 64 ∧ ∀ (l : Addr) (zs : List Int), H l = none → zs.Perm ns → zs.Pairwise (· ≤ ·) → Q (.ref l) (upd H l (.lst (zs.map V.int)))) := by
  intro pins s σ H xs us Q I r h
  obtain ⟨a, ns, rfl, hS, h64, q⟩ := h
  obtain ⟨u, rfl, ru⟩ := vals1 r
  cases ru
  obtain ⟨its, rv, hp, hz⟩ := I.list hS
  have hl : its.length = ns.length := by have := rv.length; rw [List.length_map] at this; omega
  refine sorted_ints hp.isList (intsAre_of rv) (by omega) fun out zs a1 a2 a3 => ?_
  obtain ⟨e, he⟩ := sortedAll_at s.heap its out
  have hlt : s.heap.objs.size ≤ s.heap.objs.size + 1 := Nat.le_succ _
  refine ⟨.ref (s.heap.objs.size + 1), _, I.laid (t' := s.toks) (o := .lst (zs.map V.int)) (fun b o q => sortedAll_old q) hlt ⟨?_, out.toList, e, vals_ints a1, he⟩, rfl, q _ zs (I.hok.fresh hlt) a2 a3⟩
  rw [List.length_map, a2.length_eq]
  exact Nat.le_trans (Nat.le_of_lt h64) (by decide)
/-! ### blocks that select -/
theorem compGo_sel {α : Type} {R : Hp → V → α → Prop} {Ok : Hp → Prop} {ρ : L2.St} {tt : TT} {te : TE} {p : α → Bool} {Q' : List V → Hp → Prop} (mono : ∀ H H' x a, Same H H' → R H x a → R H' x a) : ∀ {xs : List V} {as : List α} {ys : List V} {H : Hp}, All2 (R H) xs as → (∀ H', Same H H' → Ok H') →
    (∀ x a, a ∈ as → ∀ H', Same H H' → R H' x a → ∀ Q, (∀ H'', Same H' H'' → Q (p a) H'') → tt (some x :: ρ) H' Q) → (∀ x H', Same H H' → ∀ Q : VK, Q x H' → te (some x :: ρ) H' Q) →
    (∀ H' zs, Same H H' → All2 (R H') zs (as.filter p) → Q' (ys ++ zs) H') → compGo Ok ρ tt te xs ys H Q'
  | [], [], ys, H, _, hOk, _, _, q => ⟨hOk H (Same.refl H), by simpa using q H [] (Same.refl H) trivial⟩
  | x :: xs, a :: as, ys, H, h, hOk, ht, he, q => by
    refine ⟨hOk H (Same.refl H), ht x a (.head _) H (Same.refl H) h.1 _ fun H1 s1 => ?_⟩
    have go := fun (ws : List V) (q2 : ∀ H' zs, Same H1 H' → All2 (R H') zs (as.filter p) → Q' (ws ++ zs) H') => compGo_sel (ys := ws) mono (h.2.imp fun x a r => mono _ _ _ _ s1 r) (fun H' s' => hOk H' (s1.trans s')) (fun x a ha H' s' => ht x a (.tail _ ha) H' (s1.trans s')) (fun x H' s' => he x H' (s1.trans s')) q2
    by_cases hb : p a = true
    · rw [if_pos hb]
      refine he x H1 s1 _ (go _ fun H' zs s' hz => ?_)
      have := q H' (x :: zs) (s1.trans s') (by rw [List.filter_cons, if_pos hb]; exact ⟨mono _ _ _ _ (s1.trans s') h.1, hz⟩)
      simpa using this
    · rw [if_neg hb]
      refine go _ fun H' zs s' hz => q H' zs (s1.trans s') ?_
      rw [List.filter_cons, if_neg hb]; exact hz
  | [], _ :: _, _, _, h, _, _, _, _ => h.elim
  | _ :: _, [], _, _, h, _, _, _, _ => h.elim
theorem pairGo_new {β : Type} {R' : Hp → V → β → Prop} {Ok : Hp → Prop} {ρ : L2.St} {tt : TT} {te : TE} {p : V × V → Bool} {f : V × V → β} {Q' : List V → Hp → Prop} (mono' : ∀ H H' x a, Same H H' → R' H x a → R' H' x a) : ∀ {rows : List (V × V)} {H : Hp} {zs : List V} {bs : List β}, All2 (R' H) zs bs → (∀ H', Same H H' → Ok H') →
    (∀ r ∈ rows, ∀ H', Same H H' → ∀ Q, Q (p r) H' → tt (some r.1 :: some r.2 :: ρ) H' Q) → (∀ r ∈ rows, p r = true → ∀ H', Same H H' → ∀ Q : VK, (∀ H'' y, Same H' H'' → R' H'' y (f r) → Q y H'') → te (some r.1 :: some r.2 :: ρ) H' Q) →
    (∀ H' ws, Same H H' → All2 (R' H') ws (bs ++ (rows.filter p).map f) → Q' ws H') → pairGo Ok ρ tt te rows zs H Q'
  | [], H, zs, bs, hz, hOk, _, _, q => ⟨hOk H (Same.refl H), q H zs (Same.refl H) (by simpa using hz)⟩
  | (x, y) :: r, H, zs, bs, hz, hOk, ht, he, q => by
    refine ⟨hOk H (Same.refl H), fun w hw => ?_⟩
    have s := Gz.same_upd (o := .tup [x, y]) hw
    refine ht _ (.head _) _ s _ ?_
    by_cases hb : p (x, y) = true
    · rw [if_pos hb]
      refine he _ (.head _) hb _ s _ fun H2 v s2 r2 => ?_
      have S := s.trans s2
      refine pairGo_new mono' (bs := bs ++ [f (x, y)]) ((hz.imp fun x a r => mono' _ _ _ _ S r).snoc r2) (fun H' s' => hOk H' (S.trans s')) (fun z hz H' s' => ht z (.tail _ hz) H' (S.trans s')) (fun z hz hb H' s' => he z (.tail _ hz) hb H' (S.trans s')) fun H' ws s' hw => q H' ws (S.trans s') ?_
      rw [List.filter_cons, if_pos hb, List.map_cons]
      rwa [List.append_assoc] at hw
    · rw [if_neg hb]
      refine pairGo_new mono' (hz.imp fun x a r => mono' _ _ _ _ s r) (fun H' s' => hOk H' (s.trans s')) (fun z hz H' s' => ht z (.tail _ hz) H' (s.trans s')) (fun z hz hb H' s' => he z (.tail _ hz) hb H' (s.trans s')) fun H' ws s' hw => q H' ws (s.trans s') ?_
      rw [List.filter_cons, if_neg hb]; exact hw
/-! ### stretches as a list of things -/
abbrev IsS2 (H : Hp) (v : V) (s : S2) : Prop := IsS H v s.1 s.2
theorem Sts.all : ∀ {H : Hp} {xs : List V} {ss : List S2}, Sts H xs ss → All2 (IsS2 H) xs ss
  | _, [], [], _ => trivial
  | _, _ :: _, _ :: _, h => ⟨h.1, Sts.all h.2⟩
  | _, [], _ :: _, h => h.elim
  | _, _ :: _, [], h => h.elim
theorem All2.sts : ∀ {H : Hp} {xs : List V} {ss : List S2}, All2 (IsS2 H) xs ss → Sts H xs ss
  | _, [], [], _ => trivial
  | _, _ :: _, _ :: _, h => ⟨h.1, All2.sts h.2⟩
  | _, [], _ :: _, h => h.elim
  | _, _ :: _, [], h => h.elim
/-! ### counts, cuts, cells -/
def cnt (as : List S2) (n : Int) : Nat := (as.filter fun s => hs s n).length
def cutsOf (as : List S2) : List Int := as.filterMap (·.1) ++ (as.filterMap (·.2)).map (· + 1)
def cellsFrom : En → List Int → List S2
  | lo, [] => [(lo, none)]
  | lo, z :: zs => (lo, some (z - 1)) :: cellsFrom (some z) zs
theorem cells_zip : ∀ (lo : En) (zs : List Int), (lo :: zs.map some).zip ((zs.map fun z => some (z - 1)) ++ [none]) = cellsFrom lo zs
  | lo, [] => rfl
  | lo, z :: zs => by
    show (lo, some (z - 1)) :: ((some z :: zs.map some).zip ((zs.map fun z => some (z - 1)) ++ [none])) = _
    rw [cells_zip]; rfl
theorem cells_cover : ∀ {zs : List Int} {lo : En} {n : Int}, (∀ x, lo = some x → x ≤ n) → ∃ c ∈ cellsFrom lo zs, hs c n = true
  | [], lo, n, h => ⟨(lo, none), .head _, hs_iff.mpr ⟨h, fun y e => nomatch e⟩⟩
  | z :: zs, lo, n, h => by
    by_cases hn : n ≤ z - 1
    · exact ⟨(lo, some (z - 1)), .head _, hs_iff.mpr ⟨h, fun y e => by cases e; exact hn⟩⟩
    · obtain ⟨c, hc, h2⟩ := cells_cover (zs := zs) (lo := some z) (n := n) fun x e => by cases e; omega
      exact ⟨c, .tail _ hc, h2⟩
theorem cells_same : ∀ {zs : List Int} {lo : En} {pre : List Int} {c : S2} {n m : Int}, zs.Pairwise (· ≤ ·) → (∀ x ∈ pre, ∃ y, lo = some y ∧ x ≤ y) → (∀ y, lo = some y → ∀ z ∈ zs, y ≤ z) → c ∈ cellsFrom lo zs → hs c n = true → hs c m = true → ∀ x, x ∈ pre ++ zs → (x ≤ n ↔ x ≤ m)
  | [], lo, pre, c, n, m, _, hpre, _, hc, h1, h2, x, hx => by
    have e : c = (lo, none) := by simpa [cellsFrom] using hc
    subst e
    obtain ⟨y, ey, hy⟩ := hpre x (by simpa using hx)
    have a := (hs_iff.mp h1).1 y ey
    have b := (hs_iff.mp h2).1 y ey
    constructor <;> intro _ <;> omega
  | z :: zs, lo, pre, c, n, m, hz, hpre, hlo, hc, h1, h2, x, hx => by
    rcases List.mem_cons.mp hc with e | hc
    · subst e
      have u1 := (hs_iff.mp h1).2 (z - 1) rfl
      have u2 := (hs_iff.mp h2).2 (z - 1) rfl
      rcases List.mem_append.mp hx with hx | hx
      · obtain ⟨y, ey, hy⟩ := hpre x hx
        have a := (hs_iff.mp h1).1 y ey
        have b := (hs_iff.mp h2).1 y ey
        constructor <;> intro _ <;> omega
      · have : z ≤ x := by
          rcases List.mem_cons.mp hx with rfl | hx
          · exact Int.le_refl _
          · exact (List.pairwise_cons.mp hz).1 x hx
        constructor <;> intro _ <;> omega
    · refine cells_same (pre := pre ++ [z]) (List.pairwise_cons.mp hz).2 (fun y hy => ?_) (fun y ey w hw => ?_) hc h1 h2 x (by simpa using hx)
      · rcases List.mem_append.mp hy with hy | hy
        · obtain ⟨w, ew, hw⟩ := hpre y hy
          have := hlo w ew z (.head _)
          exact ⟨z, rfl, by omega⟩
        · have : y = z := by simpa using hy
          exact ⟨z, rfl, by omega⟩
      · cases ey
        exact (List.pairwise_cons.mp hz).1 w hw
structure CellsOk (as cs : List S2) : Prop where
  ok : ∀ c ∈ cs, okS c
  cover : ∀ n, ∃ c ∈ cs, hs c n = true
  same : ∀ c ∈ cs, ∀ n m, hs c n = true → hs c m = true → cnt as n = cnt as m
  len : cs.length ≤ 2 * as.length + 1
  nil : as = [] → cs = [(none, none)]
theorem hs_same {as : List S2} {n m : Int} (h : ∀ x ∈ cutsOf as, (x ≤ n ↔ x ≤ m)) : ∀ s ∈ as, hs s n = hs s m := by
  intro s hs0
  have lo : ∀ x, s.1 = some x → (x ≤ n ↔ x ≤ m) := fun x e => h x (List.mem_append_left _ (List.mem_filterMap.mpr ⟨s, hs0, e⟩))
  have hi : ∀ y, s.2 = some y → (n ≤ y ↔ m ≤ y) := fun y e => by
    have := h (y + 1) (List.mem_append_right _ (List.mem_map.mpr ⟨y, List.mem_filterMap.mpr ⟨s, hs0, e⟩, rfl⟩))
    constructor <;> intro _ <;> omega
  rw [Bool.eq_iff_iff, hs_iff, hs_iff]
  constructor
  · rintro ⟨a, b⟩
    exact ⟨fun x e => (lo x e).mp (a x e), fun y e => (hi y e).mp (b y e)⟩
  · rintro ⟨a, b⟩
    exact ⟨fun x e => (lo x e).mpr (a x e), fun y e => (hi y e).mpr (b y e)⟩
theorem cnt_same {as : List S2} {n m : Int} (h : ∀ s ∈ as, hs s n = hs s m) : cnt as n = cnt as m := by
  unfold cnt
  rw [List.filter_congr (fun s hs0 => h s hs0)]
theorem cellsFrom_len : ∀ (lo : En) (zs : List Int), (cellsFrom lo zs).length = zs.length + 1
  | _, [] => rfl
  | _, z :: zs => by show (cellsFrom (some z) zs).length + 1 = _; rw [cellsFrom_len]; rfl
theorem cells_ok {as : List S2} {zs : List Int} (hp : zs.Perm (cutsOf as)) (hz : zs.Pairwise (· ≤ ·)) : CellsOk as ((cellsFrom none zs).filter fun c => !crossed c.1 c.2) := by
  refine ⟨fun c hc => ?_, fun n => ?_, fun c hc n m h1 h2 => ?_, ?_, fun e => ?_⟩
  · have := (List.mem_filter.mp hc).2
    unfold okS
    simpa using this
  · obtain ⟨c, hc, h⟩ := cells_cover (zs := zs) (lo := none) (n := n) fun x e => nomatch e
    refine ⟨c, List.mem_filter.mpr ⟨hc, ?_⟩, h⟩
    obtain ⟨a, b⟩ := hs_iff.mp h
    cases e1 : c.1 with
    | none => simp [crossed]
    | some x =>
      cases e2 : c.2 with
      | none => simp [crossed]
      | some y =>
        have := a x e1
        have := b y e2
        simp [crossed]; omega
  · refine cnt_same (hs_same fun x hx => ?_)
    exact cells_same (lo := none) (pre := []) hz (fun y hy => by simp at hy) (fun y e => nomatch e) (List.mem_filter.mp hc).1 h1 h2 x (by simpa using hp.symm.subset hx)
  · have l1 := List.length_filter_le (fun c : S2 => !crossed c.1 c.2) (cellsFrom none zs)
    rw [cellsFrom_len, hp.length_eq] at l1
    have l2 : (cutsOf as).length ≤ 2 * as.length := by
      unfold cutsOf
      rw [List.length_append, List.length_map]
      have a := List.length_filterMap_le (·.1) as
      have b := List.length_filterMap_le (·.2) as
      omega
    omega
  · subst e
    have : zs = [] := List.Perm.eq_nil hp
    subst this
    rfl
/-- a number in a cell -/
def numIn (c : S2) : Int := match c.1, c.2 with
  | some x, _ => x
  | none, some y => y
  | none, none => 0
theorem numIn_in {c : S2} (h : okS c) : hs c (numIn c) = true := by
  rw [hs_iff]
  unfold okS at h
  rcases c with ⟨_ | x, _ | y⟩
  · exact ⟨fun _ e => (nomatch e), fun _ e => (nomatch e)⟩
  · exact ⟨fun _ e => (nomatch e), fun _ e => by cases e; exact Int.le_refl _⟩
  · exact ⟨fun _ e => by cases e; exact Int.le_refl _, fun _ e => (nomatch e)⟩
  · refine ⟨fun _ e => by cases e; exact Int.le_refl _, fun _ e => ?_⟩
    cases e
    show x ≤ y
    simp [crossed] at h; omega
/-- what agrees: the numbers that at least so many hold -/
theorem agree_holds {as cs : List S2} (h : CellsOk as cs) (need : Int) (n : Int) : ((cs.filter fun c => decide (need ≤ (cnt as (numIn c) : Int))).any fun c => hs c n) = decide (need ≤ (cnt as n : Int)) := by
  rw [Bool.eq_iff_iff, List.any_eq_true, decide_eq_true_eq]
  constructor
  · rintro ⟨c, hc, h1⟩
    obtain ⟨h2, h3⟩ := List.mem_filter.mp hc
    rw [decide_eq_true_eq] at h3
    rwa [h.same c h2 _ n (numIn_in (h.ok c h2)) h1] at h3
  · intro h1
    obtain ⟨c, hc, h2⟩ := h.cover n
    refine ⟨c, List.mem_filter.mpr ⟨hc, ?_⟩, h2⟩
    rw [decide_eq_true_eq, h.same c hc _ n (numIn_in (h.ok c hc)) h2]
    exact h1
def unev : V → En
  | .int n => some n
  | _ => none
theorem unev_ev (e : En) : unev (ev e) = e := by cases e <;> rfl
end Gz
namespace Gz
open PySem PySem.Spec PyProof.Rows L2
theorem begins_ints : ∀ (as : List S2), ((as.filter fun s => s.1.isSome).map fun s => ev s.1) = (as.filterMap (·.1)).map V.int
  | [] => rfl
  | (none, b) :: as => by simpa using begins_ints as
  | (some x, b) :: as => by simpa [ev] using begins_ints as
def endV (s : S2) : V := match s.2 with
  | some y => .int (y + 1)
  | none => .non
theorem ends_ints : ∀ (as : List S2), ((as.filter fun s => s.2.isSome).map endV) = ((as.filterMap (·.2)).map (· + 1)).map V.int
  | [] => rfl
  | (a, none) :: as => by simpa using ends_ints as
  | (a, some y) :: as => by simpa [endV] using ends_ints as
theorem rows_cells (zs : List Int) : (V.non :: zs.map V.int).zip ((zs.map fun z => V.int (z - 1)) ++ [V.non]) = (cellsFrom none zs).map fun c => (ev c.1, ev c.2) := by
  have e1 : (V.non :: zs.map V.int) = ((none : En) :: zs.map some).map ev := by simp [ev]
  have e2 : ((zs.map fun z => V.int (z - 1)) ++ [V.non]) = ((zs.map fun z => (some (z - 1) : En)) ++ [none]).map ev := by simp [ev]
  rw [e1, e2, List.zip_map, cells_zip]
  rfl
def selP (r : V × V) : Bool := !crossed (unev r.1) (unev r.2)
def selF (r : V × V) : S2 := (unev r.1, unev r.2)
theorem rows_sel (cs : List S2) : (((cs.map fun c => (ev c.1, ev c.2)).filter selP).map selF) = cs.filter fun c => !crossed c.1 c.2 := by
  induction cs with
  | nil => rfl
  | cons c cs ih =>
    rw [List.map_cons, List.filter_cons, List.filter_cons]
    have e1 : selP (ev c.1, ev c.2) = !crossed c.1 c.2 := by unfold selP; rw [unev_ev, unev_ev]
    have e2 : selF (ev c.1, ev c.2) = c := by unfold selF; rw [unev_ev, unev_ev]
    rw [e1]
    split
    · rw [List.map_cons, ih, e2]
    · exact ih
end Gz
namespace Gz
open PySem PySem.Spec PyProof.Rows L2
theorem gather_all : gatherS [(none, none)] = [(none, none)] := by
  have G := gatherS_ok (as := [(none, none)]) fun s hs0 => by
    have : s = (none, none) := by simpa using hs0
    subst this; rfl
  have hl := gatherS_len [(none, none)]
  generalize gatherS [(none, none)] = gs at G hl
  match gs, G, hl with
  | [], G, _ => exact absurd (G.nil.mp rfl) (by simp)
  | [g], G, _ =>
    have a := (G.lo g rfl).1
    have b := (G.hi g rfl).1
    have e1 : g.1 = none := by simpa using a
    have e2 : g.2 = none := by simpa using b
    have e3 : g = (none, none) := Prod.ext e1 e2
    rw [e3]
  | _ :: _ :: _, _, h => exact absurd h (by simp)
end Gz

set_option Elab.async false
set_option linter.all false
set_option maxRecDepth 100000
set_option maxHeartbeats 1000000
namespace K16
open PySem L2 Gz
local macro_rules | `(tactic| walk_at "gz") => `(tactic| try simp only [ev_none, ev_some, tSeq, tIfS, tTest, tOp, tUn, tVar, tC, tRet, tNext, tAsg, gName, tCB, tCons, tNil, tCall, tIsN, tNotN, tB, tAnd, tOr, tNot, tAndV, tOrV, tNotV, tIf, tDrop, rI, rI0, rU, rEq, rNe, scal_ii, scal_bb, scal_in, scal_ni, scal_nn, isi_ii, isi_ib, isi_bi, isi_bb, isi_ni, isi_nt, ite_tt, ite_ff, L2.start, cxK, cxN, List.map_cons, List.map_nil, List.length_cons, List.length_nil, List.replicate, List.append_nil, List.nil_append, List.cons_append, List.getElem?_cons_zero, List.getElem?_cons_succ, List.set_cons_zero, List.set_cons_succ, Option.some.injEq, V.int.injEq, V.bl.injEq, V.ref.injEq, List.cons.injEq, exists_eq_left, exists_eq_left', exists_and_left, true_and, and_true, decide_eq_true_eq, Nat.zero_add, Nat.sub_self, Nat.add_one_sub_one, Nat.reduceAdd, Nat.reduceSub, reduceCtorEq, decide_true, decide_false, Bool.not_true, Bool.not_false, Bool.not_eq_true', decide_eq_false_iff_not, false_and, exists_false, and_assoc, tTup, tLst, tBM, tBM0, rAppend, rExtend, for_rng1, for_lst, for_tpl, ↓reduceIte, not_false_eq_true, not_true_eq_false, tComp, tMM, tSortK, tSetC, iTup, iList, tAll, gSub, rSetL, iRng3, iRng2, iRng1, for_rng2, for_rng3, tFld, sFld, tMeth, tMake, tSl, tNoPart, tPart, rSlL, rCat, for_rev, for_enum, for_zip, tChain, tCompG, iRev, iEnum, iZip, Option.join_some])
local macro_rules | `(tactic| walk_at "gza") => `(tactic| simp only [ev_none, ev_some, tSeq, tIfS, tTest, tOp, tUn, tVar, tC, tRet, tNext, tAsg, gName, tCB, tCons, tNil, tCall, tIsN, tNotN, tB, tAnd, tOr, tNot, tAndV, tOrV, tNotV, tIf, tDrop, rI, rI0, rU, rEq, rNe, scal_ii, scal_bb, scal_in, scal_ni, scal_nn, isi_ii, isi_ib, isi_bi, isi_bb, isi_ni, isi_nt, ite_tt, ite_ff, L2.start, cxK, cxN, List.map_cons, List.map_nil, List.length_cons, List.length_nil, List.replicate, List.append_nil, List.nil_append, List.cons_append, List.getElem?_cons_zero, List.getElem?_cons_succ, List.set_cons_zero, List.set_cons_succ, Option.some.injEq, V.int.injEq, V.bl.injEq, V.ref.injEq, List.cons.injEq, exists_eq_left, exists_eq_left', exists_and_left, true_and, and_true, decide_eq_true_eq, Nat.zero_add, Nat.sub_self, Nat.add_one_sub_one, Nat.reduceAdd, Nat.reduceSub, reduceCtorEq, decide_true, decide_false, Bool.not_true, Bool.not_false, Bool.not_eq_true', decide_eq_false_iff_not, false_and, exists_false, and_assoc, tTup, tLst, tBM, tBM0, rAppend, rExtend, for_rng1, for_lst, for_tpl, ↓reduceIte, not_false_eq_true, not_true_eq_false, tComp, tMM, tSortK, tSetC, iTup, iList, tAll, gSub, rSetL, iRng3, iRng2, iRng1, for_rng2, for_rng3, tFld, sFld, tMeth, tMake, tSl, tNoPart, tPart, rSlL, rCat, for_rev, for_enum, for_zip, tChain, tCompG, iRev, iEnum, iZip, Option.join_some] at *)
local macro_rules | `(tactic| walk_at "sd") => `(tactic| (and_intros <;> first | assumption | exact bd200 (by decide) | exact bd200 (em30 _) | exact mul200 (by decide) (by decide) | exact ⟨by decide, by decide, by decide⟩ | decide | omega))
local macro_rules | `(tactic| walk_at "gzn") => `(tactic| (try simp only [ev_none, ev_some, tSeq, tIfS, tTest, tOp, tUn, tVar, tC, tRet, tNext, tAsg, gName, tCB, tCons, tNil, tCall, tIsN, tNotN, tB, tAnd, tOr, tNot, tAndV, tOrV, tNotV, tIf, tDrop, rI, rI0, rU, rEq, rNe, scal_ii, scal_bb, scal_in, scal_ni, scal_nn, isi_ii, isi_ib, isi_bi, isi_bb, isi_ni, isi_nt, ite_tt, ite_ff, L2.start, cxK, cxN, List.map_cons, List.map_nil, List.length_cons, List.length_nil, List.replicate, List.append_nil, List.nil_append, List.cons_append, List.getElem?_cons_zero, List.getElem?_cons_succ, List.set_cons_zero, List.set_cons_succ, Option.some.injEq, V.int.injEq, V.bl.injEq, V.ref.injEq, List.cons.injEq, exists_eq_left, exists_eq_left', exists_and_left, true_and, and_true, decide_eq_true_eq, Nat.zero_add, Nat.sub_self, Nat.add_one_sub_one, Nat.reduceAdd, Nat.reduceSub, reduceCtorEq, decide_true, decide_false, Bool.not_true, Bool.not_false, Bool.not_eq_true', decide_eq_false_iff_not, false_and, exists_false, and_assoc, tTup, tLst, tBM, tBM0, rAppend, rExtend, for_rng1, for_lst, for_tpl, ↓reduceIte, not_false_eq_true, not_true_eq_false, tComp, tMM, tSortK, tSetC, iTup, iList, tAll, gSub, rSetL, iRng3, iRng2, iRng1, for_rng2, for_rng3, tFld, sFld, tMeth, tMake, tSl, tNoPart, tPart, rSlL, rCat, for_rev, for_enum, for_zip, tChain, tCompG, iRev, iEnum, iZip, Option.join_some, Int.reducePow, Int.reduceToNat, Int.reduceMul, Int.reduceAdd]))

def top (i : Nat) : Stmt := PySem.Challenge.pw_gaze_k16_most_agree.main.body.getD i (.Pass ⟨0, 0, 0, 0⟩)
abbrev s_is_crossed : Stmt := top 1
abbrev s_holds : Stmt := top 2
abbrev s_hull : Stmt := top 3
abbrev s_by_lo : Stmt := top 4
abbrev s_leaves_gap : Stmt := top 5
abbrev s_gathered : Stmt := top 6
abbrev s_cells : Stmt := top 8
abbrev s_number_in : Stmt := top 9
abbrev s_votes_for : Stmt := top 10
abbrev s_agree : Stmt := top 11
abbrev s_most_agree : Stmt := top 12
abbrev s_law_cell : Stmt := top 14
abbrev s_law_whole : Stmt := top 15
abbrev s_law_stretch_by : Stmt := top 16
abbrev s_law_some : Stmt := top 17
abbrev s_law_count : Stmt := top 18
abbrev s_law_form : Stmt := top 19
abbrev s_law_numbers : Stmt := top 20
abbrev s_law : Stmt := top 21
theorem sc_is_crossed : FnScope ["lo", "hi"] ["lo", "hi"] (defScope s_is_crossed) := ⟨rfl, rfl, rfl, by decide +kernel, rfl, by decide +kernel, by decide +kernel⟩
theorem sc_holds : FnScope ["one", "number"] ["one", "number"] (defScope s_holds) := ⟨rfl, rfl, rfl, by decide +kernel, rfl, by decide +kernel, by decide +kernel⟩
theorem sc_hull : FnScope ["some", "los", "his", "lo", "hi"] ["some"] (defScope s_hull) := ⟨rfl, rfl, rfl, by decide +kernel, rfl, by decide +kernel, by decide +kernel⟩
theorem sc_by_lo : FnScope ["one"] ["one"] (defScope s_by_lo) := ⟨rfl, rfl, rfl, by decide +kernel, rfl, by decide +kernel, by decide +kernel⟩
theorem sc_leaves_gap : FnScope ["one", "later"] ["one", "later"] (defScope s_leaves_gap) := ⟨rfl, rfl, rfl, by decide +kernel, rfl, by decide +kernel, by decide +kernel⟩
theorem sc_gathered : FnScope ["some", "rising", "one"] ["some"] (defScope s_gathered) := ⟨rfl, rfl, rfl, by decide +kernel, rfl, by decide +kernel, by decide +kernel⟩
theorem sc_cells : FnScope ["some", "begins", "ends", "cuts", "los", "his"] ["some"] (defScope s_cells) := ⟨rfl, rfl, rfl, by decide +kernel, rfl, by decide +kernel, by decide +kernel⟩
theorem sc_number_in : FnScope ["cell"] ["cell"] (defScope s_number_in) := ⟨rfl, rfl, rfl, by decide +kernel, rfl, by decide +kernel, by decide +kernel⟩
theorem sc_votes_for : FnScope ["some", "cell", "number"] ["some", "cell"] (defScope s_votes_for) := ⟨rfl, rfl, rfl, by decide +kernel, rfl, by decide +kernel, by decide +kernel⟩
theorem sc_agree : FnScope ["some", "need"] ["some", "need"] (defScope s_agree) := ⟨rfl, rfl, rfl, by decide +kernel, rfl, by decide +kernel, by decide +kernel⟩
theorem sc_most_agree : FnScope ["some", "most"] ["some"] (defScope s_most_agree) := ⟨rfl, rfl, rfl, by decide +kernel, rfl, by decide +kernel, by decide +kernel⟩
theorem sc_law_cell : FnScope ["_law_script", "_law_k"] ["_law_script", "_law_k"] (defScope s_law_cell) := ⟨rfl, rfl, rfl, by decide +kernel, rfl, by decide +kernel, by decide +kernel⟩
theorem sc_law_whole : FnScope ["_law_found"] ["_law_found"] (defScope s_law_whole) := ⟨rfl, rfl, rfl, by decide +kernel, rfl, by decide +kernel, by decide +kernel⟩
theorem sc_law_stretch_by : FnScope ["_law_cell_here", "_law_more", "_law_base", "_law_lo", "_law_hi"] ["_law_cell_here", "_law_more", "_law_base"] (defScope s_law_stretch_by) := ⟨rfl, rfl, rfl, by decide +kernel, rfl, by decide +kernel, by decide +kernel⟩
theorem sc_law_some : FnScope ["_law_script", "_law_base", "_law_some_here", "_law_k"] ["_law_script"] (defScope s_law_some) := ⟨rfl, rfl, rfl, by decide +kernel, rfl, by decide +kernel, by decide +kernel⟩
theorem sc_law_count : FnScope ["_law_some_here", "_law_number", "_law_count_here", "_law_one"] ["_law_some_here", "_law_number"] (defScope s_law_count) := ⟨rfl, rfl, rfl, by decide +kernel, rfl, by decide +kernel, by decide +kernel⟩
theorem sc_law_form : FnScope ["_law_told", "_law_one", "_law_end", "_law_k"] ["_law_told"] (defScope s_law_form) := ⟨rfl, rfl, rfl, by decide +kernel, rfl, by decide +kernel, by decide +kernel⟩
theorem sc_law_numbers : FnScope ["_law_some_here", "_law_numbers_here", "_law_one", "_law_end"] ["_law_some_here"] (defScope s_law_numbers) := ⟨rfl, rfl, rfl, by decide +kernel, rfl, by decide +kernel, by decide +kernel⟩
theorem sc_law : FnScope ["_law_script", "_law_some_here", "_law_handed", "_law_found", "_law_number", "_law_count_here", "_law_told"] ["_law_script"] (defScope s_law) := ⟨rfl, rfl, rfl, by decide +kernel, rfl, by decide +kernel, by decide +kernel⟩
structure Tx (K : PySem.W.Frag) (mg : Str → Option Value) where
  a_is_crossed : Addr
  fd_is_crossed : FuncData
  F_is_crossed : Fun K "is_crossed" "is_crossed" s_is_crossed a_is_crossed fd_is_crossed
  m_is_crossed : mg "is_crossed" = some (.ref a_is_crossed)
  b_is_crossed : Binds K fd_is_crossed ["lo", "hi"] []
  a_holds : Addr
  fd_holds : FuncData
  F_holds : Fun K "holds" "holds" s_holds a_holds fd_holds
  m_holds : mg "holds" = some (.ref a_holds)
  b_holds : Binds K fd_holds ["one", "number"] []
  a_hull : Addr
  fd_hull : FuncData
  F_hull : Fun K "hull" "hull" s_hull a_hull fd_hull
  m_hull : mg "hull" = some (.ref a_hull)
  b_hull : Binds K fd_hull ["some"] []
  a_by_lo : Addr
  fd_by_lo : FuncData
  F_by_lo : Fun K "by_lo" "by_lo" s_by_lo a_by_lo fd_by_lo
  m_by_lo : mg "by_lo" = some (.ref a_by_lo)
  b_by_lo : Binds K fd_by_lo ["one"] []
  a_leaves_gap : Addr
  fd_leaves_gap : FuncData
  F_leaves_gap : Fun K "leaves_gap" "leaves_gap" s_leaves_gap a_leaves_gap fd_leaves_gap
  m_leaves_gap : mg "leaves_gap" = some (.ref a_leaves_gap)
  b_leaves_gap : Binds K fd_leaves_gap ["one", "later"] []
  a_gathered : Addr
  fd_gathered : FuncData
  F_gathered : Fun K "gathered" "gathered" s_gathered a_gathered fd_gathered
  m_gathered : mg "gathered" = some (.ref a_gathered)
  b_gathered : Binds K fd_gathered ["some"] []
  a_cells : Addr
  fd_cells : FuncData
  F_cells : Fun K "cells" "cells" s_cells a_cells fd_cells
  m_cells : mg "cells" = some (.ref a_cells)
  b_cells : Binds K fd_cells ["some"] []
  a_number_in : Addr
  fd_number_in : FuncData
  F_number_in : Fun K "number_in" "number_in" s_number_in a_number_in fd_number_in
  m_number_in : mg "number_in" = some (.ref a_number_in)
  b_number_in : Binds K fd_number_in ["cell"] []
  a_votes_for : Addr
  fd_votes_for : FuncData
  F_votes_for : Fun K "votes_for" "votes_for" s_votes_for a_votes_for fd_votes_for
  m_votes_for : mg "votes_for" = some (.ref a_votes_for)
  b_votes_for : Binds K fd_votes_for ["some", "cell"] []
  a_agree : Addr
  fd_agree : FuncData
  F_agree : Fun K "agree" "agree" s_agree a_agree fd_agree
  m_agree : mg "agree" = some (.ref a_agree)
  b_agree : Binds K fd_agree ["some", "need"] []
  a_most_agree : Addr
  fd_most_agree : FuncData
  F_most_agree : Fun K "most_agree" "most_agree" s_most_agree a_most_agree fd_most_agree
  m_most_agree : mg "most_agree" = some (.ref a_most_agree)
  b_most_agree : Binds K fd_most_agree ["some"] []
  a_law_cell : Addr
  fd_law_cell : FuncData
  F_law_cell : Fun K "_law_cell" "_law_cell" s_law_cell a_law_cell fd_law_cell
  m_law_cell : mg "_law_cell" = some (.ref a_law_cell)
  b_law_cell : Binds K fd_law_cell ["_law_script", "_law_k"] []
  a_law_whole : Addr
  fd_law_whole : FuncData
  F_law_whole : Fun K "_law_whole" "_law_whole" s_law_whole a_law_whole fd_law_whole
  m_law_whole : mg "_law_whole" = some (.ref a_law_whole)
  b_law_whole : Binds K fd_law_whole ["_law_found"] []
  a_law_stretch_by : Addr
  fd_law_stretch_by : FuncData
  F_law_stretch_by : Fun K "_law_stretch_by" "_law_stretch_by" s_law_stretch_by a_law_stretch_by fd_law_stretch_by
  m_law_stretch_by : mg "_law_stretch_by" = some (.ref a_law_stretch_by)
  b_law_stretch_by : Binds K fd_law_stretch_by ["_law_cell_here", "_law_more", "_law_base"] []
  a_law_some : Addr
  fd_law_some : FuncData
  F_law_some : Fun K "_law_some" "_law_some" s_law_some a_law_some fd_law_some
  m_law_some : mg "_law_some" = some (.ref a_law_some)
  b_law_some : Binds K fd_law_some ["_law_script"] []
  a_law_count : Addr
  fd_law_count : FuncData
  F_law_count : Fun K "_law_count" "_law_count" s_law_count a_law_count fd_law_count
  m_law_count : mg "_law_count" = some (.ref a_law_count)
  b_law_count : Binds K fd_law_count ["_law_some_here", "_law_number"] []
  a_law_form : Addr
  fd_law_form : FuncData
  F_law_form : Fun K "_law_form" "_law_form" s_law_form a_law_form fd_law_form
  m_law_form : mg "_law_form" = some (.ref a_law_form)
  b_law_form : Binds K fd_law_form ["_law_told"] []
  a_law_numbers : Addr
  fd_law_numbers : FuncData
  F_law_numbers : Fun K "_law_numbers" "_law_numbers" s_law_numbers a_law_numbers fd_law_numbers
  m_law_numbers : mg "_law_numbers" = some (.ref a_law_numbers)
  b_law_numbers : Binds K fd_law_numbers ["_law_some_here"] []
  a_law : Addr
  fd_law : FuncData
  F_law : Fun K "law" "law" s_law a_law fd_law
  m_law : mg "law" = some (.ref a_law)
  b_law : Binds K fd_law ["_law_script"] []
  n_bool : mg "bool" = none
  n_int : mg "int" = none
  n_isinstance : mg "isinstance" = none
  n_len : mg "len" = none
  n_list : mg "list" = none
  n_max : mg "max" = none
  n_min : mg "min" = none
  n_range : mg "range" = none
  n_sorted : mg "sorted" = none
  n_tuple : mg "tuple" = none
  n_zip : mg "zip" = none
section
variable {P : Program} {w : World} {K : PySem.W.Frag} {mg : Str → Option Value} {base : Heap}
def sp_cell (K : PySem.W.Frag) : Sp := fun vs H Q _ => ∃ (a : Addr) (ns : List Int) (k : Int), vs = [.ref a, .int k] ∧ SqL K H a (ns.map V.int) ∧ 0 ≤ k ∧ Q (.int (cellD ns k)) H
theorem ok_law_cell (T : Tx K mg) : FnOk P w K mg base (CXX P w) 1 T.a_law_cell T.fd_law_cell ["_law_script", "_law_k"] (sp_cell K) := by
  refine okN T.F_law_cell sc_law_cell (fun vs H Q E h => ?_) (fun cdv A outer s H vs Q E hr h => ?_)
  · obtain ⟨a, ns, k, rfl, _⟩ := h
    rfl
  · obtain ⟨a, ns, k, rfl, hS, hk, q⟩ := h
    refine ⟨_, (pss_cons (ps_if (pt_cmpR op_lt (pv 1) (pe_callB call_len (by rfl) T.n_len b_len (pa_cons (pv 0) pa_nil)) (nomark _)) (pss_one (ps_ret (pe_ix ix_seq (pv 0) (pv 1) (fun _ _ => rfl)))) pss_nil)
    (pss_one (ps_ret pe_int))), ?_⟩
    walk_at "gz"
    refine ⟨_, lenL hS, ?_⟩
    rw [List.length_map]
    by_cases hlt : k < (ns.length : Int)
    · rw [if_pos hlt]
      have e : ns[k.toNat]? = some (cellD ns k) := by
        unfold cellD
        rw [List.getD_eq_getElem?_getD, List.getElem?_eq_getElem (by omega)]
        rfl
      refine ixL hS ?_ q
      have ek : k = ((k.toNat : Nat) : Int) := by omega
      refine (congrArg (atI _) ek).trans (atI_nat ?_)
      rw [List.getElem?_map, e]
      rfl
    · rw [if_neg hlt]
      have e : cellD ns k = 0 := by
        unfold cellD
        rw [List.getD_eq_getElem?_getD, List.getElem?_eq_none (by omega)]
        rfl
      rw [e] at q
      exact q
def sp_whole : Sp := fun vs H Q _ => ∃ (v : V), vs = [v] ∧ (v = .non ∨ ∃ i, v = .int i) ∧ Q (.bl (isWhole v)) H
theorem ok_law_whole (T : Tx K mg) : FnOk P w K mg base (CXX P w) 1 T.a_law_whole T.fd_law_whole ["_law_found"] sp_whole := by
  refine okN T.F_law_whole sc_law_whole (fun vs H Q E h => ?_) (fun cdv A outer s H vs Q E hr h => ?_)
  · obtain ⟨v, rfl, _⟩ := h
    rfl
  · obtain ⟨v, rfl, hv, q⟩ := h
    refine ⟨_, (pss_one (ps_ret (pe_and (pe_callB call_isiA (by rfl) T.n_isinstance b_isinstance (pa_cons (pv 0) (pa_cons (pe_bltn (v := .ty "int") rfl T.n_int b_int rfl) pa_nil))) (pe_one (pe_not (pe_callB call_isiA (by rfl) T.n_isinstance b_isinstance (pa_cons (pv 0) (pa_cons (pe_bltn (v := .ty "bool") rfl T.n_bool b_bool rfl) pa_nil)))))))), ?_⟩
    rcases hv with rfl | ⟨i, rfl⟩
    · walk_at "gz"
      exact q
    · walk_at "gz"
      exact q
def sp_crossed : Sp := fun vs H Q _ => ∃ (a b : En), vs = [ev a, ev b] ∧ Q (.bl (crossed a b)) H
theorem ok_is_crossed (T : Tx K mg) : FnOk P w K mg base (CXX P w) 1 T.a_is_crossed T.fd_is_crossed ["lo", "hi"] sp_crossed := by
  refine okN T.F_is_crossed sc_is_crossed (fun vs H Q E h => ?_) (fun cdv A outer s H vs Q E hr h => ?_)
  · obtain ⟨a, b, rfl, _⟩ := h
    rfl
  · obtain ⟨a, b, rfl, q⟩ := h
    refine ⟨_, (pss_one (ps_ret (pe_and (pe_cmp (pc_notN (pv 0))) (pe_and (pe_cmp (pc_notN (pv 1))) (pe_one (pe_cmpR op_gt (pv 0) (pv 1) (nomark _))))))), ?_⟩
    rcases a with _ | x
    · walk_at "gz"
      exact q
    rcases b with _ | y
    · walk_at "gz"
      exact q
    walk_at "gz"
    exact q
def sp_holds : Sp := fun vs H Q _ => ∃ (v : V) (a b : En) (n : Int), vs = [v, .int n] ∧ IsS H v a b ∧ Q (.bl (hold a b n)) H
theorem ok_holds (T : Tx K mg) : FnOk P w K mg base (CXX P w) 2 T.a_holds T.fd_holds ["one", "number"] sp_holds := by
  refine okN T.F_holds sc_holds (fun vs H Q E h => ?_) (fun cdv A outer s H vs Q E hr h => ?_)
  · obtain ⟨v, a, b, n, rfl, _⟩ := h
    rfl
  · obtain ⟨v, a, b, n, rfl, ⟨p, rfl, hp⟩, q⟩ := h
    refine ⟨_, (pss_one (ps_ret (pe_and (pe_not (pe_call (ok_is_crossed T) (hr.mono (by decide)) rfl T.m_is_crossed T.F_is_crossed.kp T.b_is_crossed .nil passE0 (pa_cons (pe_ix ix_seq (pv 0) pe_int (fun _ _ => rfl)) (pa_cons (pv 1) pa_nil)))) (pe_one (pe_not (pe_call (ok_is_crossed T) (hr.mono (by decide)) rfl T.m_is_crossed T.F_is_crossed.kp T.b_is_crossed .nil passE0 (pa_cons (pv 1) (pa_cons (pe_ix ix_seq (pv 0) pe_int (fun _ _ => rfl)) pa_nil)))))))), ?_⟩
    walk_at "gz"
    refine ixT (SqT.of hp) rfl ⟨a, some n, rfl, ?_⟩
    unfold hold at q
    walk_at "gz"
    cases hc : crossed a (some n) with
    | true =>
      rw [hc] at q
      walk_at "gz"
      exact q
    | false =>
      rw [hc] at q
      walk_at "gz"
      refine ixT (SqT.of hp) rfl ⟨some n, b, rfl, ?_⟩
      walk_at "gz"
      exact q
def sp_hull (K : PySem.W.Frag) : Sp := fun vs H Q _ => ∃ (a : Addr) (xs : List V) (as : List S2), vs = [.ref a] ∧ SqL K H a xs ∧ xs.length ≤ sizeLine ∧ Sts H xs as ∧ ∀ v H', Same H H' → HullIs H' v as → Q v H'
theorem ok_hull (T : Tx K mg) : FnOk P w K mg base (CXX P w) 1 T.a_hull T.fd_hull ["some"] (sp_hull K) := by
  refine okN T.F_hull sc_hull (fun vs H Q E h => ?_) (fun cdv A outer s H vs Q E hr h => ?_)
  · obtain ⟨a, xs, as, rfl, _⟩ := h
    rfl
  · obtain ⟨a, xs, as, rfl, hS, hz, hs, q⟩ := h
    refine ⟨_, (pss_cons (ps_if (pt_cmpR op_eq (pe_callB call_len (by rfl) T.n_len b_len (pa_cons (pv 0) pa_nil)) pe_int (nomark _)) (pss_one (ps_ret pe_non)) pss_nil)
    (pss_cons (ps_setComp (i := 1) (CompOk.mk (fr := []) (ys := []) rfl (by decide +kernel) rfl (by decide +kernel) rfl rfl .nil .nil (by decide) rfl) rfl sc_hull.nd rfl rfl (pi_list (pv 0)) (fun C s2 H2 ex pn => ⟨pts_nil, (pe_ix (ix_seqK (K := K) rfl) (pv 0) pe_int (fun _ _ => rfl))⟩))
    (pss_cons (ps_setComp (i := 2) (CompOk.mk (fr := []) (ys := []) rfl (by decide +kernel) rfl (by decide +kernel) rfl rfl .nil .nil (by decide) rfl) rfl sc_hull.nd rfl rfl (pi_list (pv 0)) (fun C s2 H2 ex pn => ⟨pts_nil, (pe_ix (ix_seqK (K := K) rfl) (pv 0) pe_int (fun _ _ => rfl))⟩))
    (pss_cons (ps_set (i := 3) sc_hull.nd rfl (Or.inl rfl) (pe_ifExp (pt_cmpR op_in_seq pe_non (pv 1) (by with_unfolding_all rfl)) pe_non (pe_callB (call_minL rfl) (by rfl) T.n_min b_min (pa_cons (pv 1) pa_nil))))
    (pss_cons (ps_set (i := 4) sc_hull.nd rfl (Or.inl rfl) (pe_ifExp (pt_cmpR op_in_seq pe_non (pv 2) (by with_unfolding_all rfl)) pe_non (pe_callB (call_maxL rfl) (by rfl) T.n_max b_max (pa_cons (pv 2) pa_nil))))
    (pss_one (ps_ret (pe_tup (pa_cons (pv 3) (pa_cons (pv 4) pa_nil)))))))))), ?_⟩
    have hl := hs.len
    walk_at "gz"
    refine ⟨_, lenL hS, ?_⟩
    split
    · rename_i h0
      have e : as = [] := List.length_eq_zero_iff.mp (by omega)
      exact q _ _ (Same.refl H) ⟨fun _ => rfl, fun z => absurd e z⟩
    rename_i h0
    have hne : as ≠ [] := fun z => h0 (by rw [z] at hl; simp [hl])
    refine ⟨⟨_, hS⟩, blk_of it_list hz (compGo_map (p := fun _ => true) (f := fstV H) hS (fun x _ Q h => ?_) (fun x hx _ Q h => ?_) ?_)⟩
    · walk_at "gz"
      exact h
    · walk_at "gz"
      obtain ⟨t, _, ht⟩ := hs.mem hx
      have e := ht.fst
      obtain ⟨p, rfl, hp⟩ := ht
      rw [e] at h
      exact ixT (SqT.of hp) rfl h
    rw [List.nil_append, filter_all, hs.fst]
    intro l1 h1
    have s1 := same_upd (o := .lst (as.map fun s => ev s.1)) h1
    have L1 : upd H l1 (.lst (as.map fun s => ev s.1)) l1 = some (.lst ((as.map (·.1)).map ev)) := by rw [upd_same, List.map_map]; rfl
    generalize upd H l1 (.lst (as.map fun s => ev s.1)) = H1 at s1 L1 ⊢
    have hs1 := hs.same s1
    walk_at "gz"
    refine ⟨⟨_, s1.seq hS⟩, blk_of it_list hz (compGo_map (p := fun _ => true) (f := sndV H1) (s1.seq hS) (fun x _ Q h => ?_) (fun x hx _ Q h => ?_) ?_)⟩
    · walk_at "gz"
      exact h
    · walk_at "gz"
      obtain ⟨t, _, ht⟩ := hs1.mem hx
      have e := ht.snd
      obtain ⟨p, rfl, hp⟩ := ht
      rw [e] at h
      exact ixT (SqT.of hp) rfl h
    rw [List.nil_append, filter_all, hs1.snd]
    intro l2 h2
    have s2 := same_upd (o := .lst (as.map fun s => ev s.2)) h2
    have L2 : upd H1 l2 (.lst (as.map fun s => ev s.2)) l2 = some (.lst ((as.map (·.2)).map ev)) := by rw [upd_same, List.map_map]; rfl
    generalize upd H1 l2 (.lst (as.map fun s => ev s.2)) = H2 at s2 L2 ⊢
    have L1' := s2 _ _ L1
    have S2' := s1.trans s2
    have fin : ∀ lo hi, IsLo (as.map (·.1)) lo → IsHi (as.map (·.2)) hi → 2 ≤ sizeLine ∧ ∀ p, H2 p = none → Q (.ref p) (upd H2 p (.tup [ev lo, ev hi])) := fun lo hi a b =>
      ⟨line2, fun p hp => q _ _ (S2'.trans (same_upd hp)) ⟨fun z => absurd z hne, fun _ => ⟨lo, hi, IsS.new, a, b⟩⟩⟩
    have n1 : as.map (·.1) ≠ [] := by simpa using hne
    have n2 : as.map (·.2) ≠ [] := by simpa using hne
    walk_at "gz"
    refine ⟨l1, _, rfl, .inl (SqL.of L1'), rfl, flat_ev _, ?_⟩
    rw [if_neg (by decide), inV_ev]
    walk_at "gz"
    have part : ∀ lo, IsLo (as.map (·.1)) lo → rIn K false .non (.ref l2) H2 (fun z H1 => ∃ k, z = .bl k ∧ if k = true then 2 ≤ sizeLine ∧ ∀ p, H1 p = none → Q (.ref p) (upd H1 p (.tup [ev lo, .non])) else ∃ x, SqL K H1 l2 (x.map V.int) ∧ x ≠ [] ∧ 2 ≤ sizeLine ∧ ∀ p, H1 p = none → Q (.ref p) (upd H1 p (.tup [ev lo, .int (maxL x)]))) := fun lo hlo => by
      refine ⟨l2, _, rfl, .inl (SqL.of L2), rfl, flat_ev _, _, rfl, ?_⟩
      simp only [Bool.false_eq_true, ↓reduceIte]
      rw [inV_ev]
      by_cases hn : (none : En) ∈ as.map (·.2)
      · rw [decide_eq_true hn, if_pos rfl]
        exact fin lo none hlo (hi_none hn)
      · rw [decide_eq_false hn, if_neg (by decide)]
        exact ⟨_, SqL.of (by rw [L2, ev_ints hn]), ints_ne hn n2, fin lo _ hlo (hi_ints hn n2)⟩
    split
    · rename_i hn
      exact part none (lo_none hn)
    · rename_i hn
      exact ⟨_, SqL.of (by rw [L1', ev_ints hn]), ints_ne hn n1, part _ (lo_ints hn n1)⟩
def sp_bylo : Sp := fun vs H Q _ => ∃ (v : V) (s : S2), vs = [v] ∧ IsS H v s.1 s.2 ∧ ∀ p, H p = none → Q (.ref p) (upd H p (.tup ((klo s.1).map V.int)))
theorem ok_by_lo (T : Tx K mg) : FnOk P w K mg base (CXX P w) 1 T.a_by_lo T.fd_by_lo ["one"] sp_bylo := by
  refine okN T.F_by_lo sc_by_lo (fun vs H Q E h => ?_) (fun cdv A outer s H vs Q E hr h => ?_)
  · obtain ⟨v, s, rfl, _⟩ := h
    rfl
  · obtain ⟨v, ⟨a, b⟩, rfl, ⟨p, rfl, hp⟩, q⟩ := h
    refine ⟨_, (pss_cons (ps_if (pt_cmp (pc_isN (pe_ix ix_seq (pv 0) pe_int (fun _ _ => rfl)))) (pss_one (ps_ret (pe_tup (pa_cons pe_int (pa_cons pe_int pa_nil))))) pss_nil)
    (pss_one (ps_ret (pe_tup (pa_cons pe_int (pa_cons (pe_ix ix_seq (pv 0) pe_int (fun _ _ => rfl)) pa_nil)))))), ?_⟩
    walk_at "gz"
    refine ixT (SqT.of hp) rfl ?_
    rcases a with _ | x
    · walk_at "gz"
      exact ⟨line2, q⟩
    · walk_at "gz"
      refine ixT (SqT.of hp) rfl ?_
      walk_at "gz"
      exact ⟨line2, q⟩
theorem keys_lo : ∀ {xs : List V} {as : List S2} {ks : List V} {kis : List (List Int)} {H : Hp} {Q : List V → Hp → Prop}, Sts H xs as → KeyT K H ks kis → (∀ ks' H', Same H H' → KeyT K H' ks' (kis ++ as.map fun s => klo s.1) → Q ks' H') → keyGo sp_bylo xs ks H Q
  | [], [], ks, kis, H, Q, _, hk, q => q ks H (Same.refl H) (by rw [List.map_nil, List.append_nil]; exact hk)
  | x :: xs, s :: as, ks, kis, H, Q, hs, hk, q => by
    refine ⟨x, s, rfl, hs.1, fun p hp => ?_⟩
    have s1 := same_upd (o := .tup ((klo s.1).map V.int)) hp
    refine keys_lo (hs.2.same s1) (kis := kis ++ [klo s.1]) (KeyT.snoc (SqT.of upd_same) ?_ (hk.same s1)) fun ks' H' s' hk' => q ks' H' (s1.trans s') ?_
    · rcases s.1 with _ | y <;> exact fun z => nomatch z
    · rw [List.map_cons]; rwa [List.append_assoc] at hk'
  | [], _ :: _, _, _, _, _, h, _, _ => h.elim
  | _ :: _, [], _, _, _, _, h, _, _ => h.elim
def sp_gap : Sp := fun vs H Q _ => ∃ (v u : V) (s t : S2), vs = [v, u] ∧ IsS H v s.1 s.2 ∧ IsS H u t.1 t.2 ∧ Q (.bl (gap s t)) H
theorem ok_leaves_gap (T : Tx K mg) : FnOk P w K mg base (CXX P w) 1 T.a_leaves_gap T.fd_leaves_gap ["one", "later"] sp_gap := by
  refine okN T.F_leaves_gap sc_leaves_gap (fun vs H Q E h => ?_) (fun cdv A outer s H vs Q E hr h => ?_)
  · obtain ⟨v, u, s, t, rfl, _⟩ := h
    rfl
  · obtain ⟨v, u, ⟨a, b⟩, ⟨c, d⟩, rfl, ⟨p, rfl, hp⟩, ⟨r, rfl, hr0⟩, q⟩ := h
    refine ⟨_, (pss_one (ps_ret (pe_and (pe_cmp (pc_notN (pe_ix ix_seq (pv 0) pe_int (fun _ _ => rfl)))) (pe_and (pe_cmp (pc_notN (pe_ix ix_seq (pv 1) pe_int (fun _ _ => rfl)))) (pe_one (pe_cmpR op_gt (pe_ix ix_seq (pv 1) pe_int (fun _ _ => rfl)) (pe_op op_add (pe_ix ix_seq (pv 0) pe_int (fun _ _ => rfl)) pe_int) (nomark _))))))), ?_⟩
    walk_at "gz"
    refine ixT (SqT.of hp) rfl ?_
    rcases b with _ | y
    · walk_at "gz"
      exact q
    · walk_at "gz"
      refine ixT (SqT.of hr0) rfl ?_
      rcases c with _ | z
      · walk_at "gz"
        exact q
      · walk_at "gz"
        refine ixT (SqT.of hr0) rfl (ixT (SqT.of hp) rfl ?_)
        walk_at "gz"
        exact q
def inv_gath (K : PySem.W.Frag) (H : Hp) (a r l : Addr) (zs : List V) (ss : List S2) (i : Nat) (σ : St) (H1 : Hp) : Prop := ∃ (ys : List V) (e : Option V), σ = [some (.ref a), some (.ref r), e] ∧ Same H H1 ∧ H1 r = some (.lst ys) ∧ Sts H1 ys (risL ((ss.take i).foldl gStep none)) ∧ SqL K H1 l zs ∧ Sts H1 zs ss ∧ ys.length ≤ i
def sp_gathered (K : PySem.W.Frag) : Sp := fun vs H Q _ => ∃ (a : Addr) (xs : List V) (as : List S2), vs = [.ref a] ∧ SqL K H a xs ∧ xs.length < 64 ∧ Sts H xs as ∧ ∀ l ys H', Same H H' → H l = none → H' l = some (.lst ys) → Sts H' ys (gatherS as) → Q (.ref l) H'
theorem ok_gathered (T : Tx K mg) : FnOk P w K mg base (CXX P w) 4 T.a_gathered T.fd_gathered ["some"] (sp_gathered K) := by
  refine okN T.F_gathered sc_gathered (fun vs H Q E h => ?_) (fun cdv A outer s H vs Q E hr h => ?_)
  · obtain ⟨a, xs, as, rfl, _⟩ := h
    rfl
  · obtain ⟨a, xs, as, rfl, hS, hz, hs, q⟩ := h
    refine ⟨_, (pss_cons (ps_set (i := 1) sc_gathered.nd rfl (Or.inl rfl) (pe_lst pa_nil))
    (pss_cons (ps_for PassesOwn.never rfl (pi_list (pe_sortedK (ok_by_lo T) (fun _ _ _ _ _ z => noCXX z) (hr.mono (by decide)) T.b_by_lo rfl T.m_by_lo rfl T.n_sorted (pv 0))) (pg_name (i := 2) sc_gathered.nd rfl (Or.inl rfl)) (pss_one (ps_if (PW.pt (pw_or (pt_cmpR op_eq (pe_callB call_len (by rfl) T.n_len b_len (pa_cons (pv 1) pa_nil)) pe_int (nomark _)) (pw_or1 (pt_val (pe_call (ok_leaves_gap T) (hr.mono (by decide)) rfl T.m_leaves_gap T.F_leaves_gap.kp T.b_leaves_gap .nil passE0 (pa_cons (pe_ix ix_seq (pv 1) (pe_un un_neg pe_int) (fun _ _ => rfl)) (pa_cons (pv 2) pa_nil))))))) (pss_one (ps_expr (pe_bm PySem.F.plainAttrs_list PySem.F.slot_list_append PySem.F.type_list_append mt_append (pv 1) (pa_cons (pv 2) pa_nil)))) (pss_one (ps_asg (pe_call (ok_hull T) (hr.mono (by decide)) rfl T.m_hull T.F_hull.kp T.b_hull .nil passE0 (pa_cons (pe_lst (pa_cons (pe_ix ix_seq (pv 1) (pe_un un_neg pe_int) (fun _ _ => rfl)) (pa_cons (pv 2) pa_nil))) pa_nil)) (pg_sub (pv 1) (pe_un un_neg pe_int) set_list))))))
    (pss_one (ps_ret (pv 1))))), ?_⟩
    walk_at "gz"
    refine ⟨by decide, fun r hr0 => ?_⟩
    have s1 := same_upd (o := .lst []) hr0
    have R1 : upd H r (.lst []) r = some (.lst []) := upd_same
    generalize upd H r (.lst []) = H1 at s1 R1 ⊢
    refine ⟨a, xs, rfl, s1.seq hS, hz, keys_lo (hs.same s1) (ks := []) (kis := []) trivial fun ks H2 s2 hk => ⟨_, hk, fun l hl => ?_⟩⟩
    rw [List.nil_append]
    have s3 := (s1.trans s2).trans (same_upd (o := .lst (sortL (as.map fun s => klo s.1) .non xs)) hl)
    have L3 : upd H2 l (.lst (sortL (as.map fun s => klo s.1) .non xs)) l = some (.lst (sortL (as.map fun s => klo s.1) .non xs)) := upd_same
    have R3 := same_upd (o := .lst (sortL (as.map fun s => klo s.1) .non xs)) hl _ _ (s2 _ _ R1)
    have Z3 := (hs.same s3).sort (kis := as.map fun s => klo s.1)
    generalize upd H2 l (.lst (sortL (as.map fun s => klo s.1) .non xs)) = H3 at s3 L3 R3 Z3 ⊢
    have zl : (sortL (as.map fun s => klo s.1) .non xs).length < 64 := by rw [sortL_length]; exact hz
    have rl : r ≠ l := fun z => by rw [z] at R1; rw [s2 _ _ R1] at hl; cases hl
    unfold gatherS at q
    generalize sortL (as.map fun s => klo s.1) .non xs = zs at L3 Z3 zl ⊢
    generalize sortL (as.map fun s => klo s.1) (none, none) as = ss at Z3 q
    walk_at "gz"
    refine ⟨⟨_, SqL.of L3⟩, by_list (xs := zs) (inv_gath K H a r l zs ss) ⟨[], none, rfl, s3, R3, trivial, SqL.of L3, Z3, Nat.le_refl _⟩ ?_ ?_ ?_⟩
    · rintro i σ H4 _ ⟨_, _, _, _, _, _, h, _⟩
      exact h
    · rintro i x σ H4 hx ⟨ys, e, rfl, s4, R4, Y4, L4, Z4, hy⟩
      obtain ⟨s, es, hsx⟩ := Z4.get hx
      have hi : i < zs.length := (List.getElem?_eq_some_iff.mp hx).1
      have tk : (ss.take (i + 1)).foldl gStep none = gStep ((ss.take i).foldl gStep none) s := by
        rw [List.take_succ, es, List.foldl_append]; rfl
      have keepL : ∀ o, SqL K (upd H4 r o) l zs := fun o => by
        rcases L4 with (h | ⟨z, h⟩) | h
        · exact .inl (.inl (by rw [upd_ne (Ne.symm rl)]; exact h))
        · exact .inl (.inr ⟨z, by rw [upd_ne (Ne.symm rl)]; exact h⟩)
        · exact .inr h
      have app : ∀ R, gStep ((ss.take i).foldl gStep none) s = R → Sts H4 (ys ++ [x]) (risL R) → tyV K "list" (.ref r) H4 ∧ ∃ xs', H4 r = some (.lst xs') ∧ xs'.length < sizeLine ∧ inv_gath K H a r l zs ss (i + 1) [some (.ref a), some (.ref r), some x] (upd H4 r (.lst (xs' ++ [x]))) := fun R eR hY => by
        refine ⟨.inl ⟨rfl, _, SqL.of R4⟩, ys, R4, Nat.lt_of_le_of_lt hy (Nat.lt_of_lt_of_le (by omega : i < 64) (by decide)), ys ++ [x], _, rfl, same_put hr0 s4, upd_same, ?_, keepL _, Sts.put R4 Z4, ?_⟩
        · rw [tk, eR]; exact Sts.put R4 hY
        · rw [List.length_append, List.length_singleton]; omega
      walk_at "gz"
      cases hR : (ss.take i).foldl gStep none with
      | none =>
        rw [hR] at Y4 app
        have e0 : ys = [] := List.length_eq_zero_iff.mp (by have := Y4.len; simpa [risL] using this)
        refine ⟨_, lenL (SqL.of R4), ?_⟩
        rw [if_pos (by rw [e0]; rfl)]
        refine app _ rfl ?_
        rw [e0]
        exact ⟨hsx, trivial⟩
      | some ip =>
        obtain ⟨is, p⟩ := ip
        rw [hR] at Y4 app
        obtain ⟨ws, v, e0, W4, hv⟩ := Sts.snoc_inv Y4
        have il : atI ys (-1) = some v := by rw [e0]; exact atI_last ws v
        refine ⟨_, lenL (SqL.of R4), ?_⟩
        rw [if_neg (by rw [e0, List.length_append, List.length_singleton]; omega)]
        refine ixL (SqL.of R4) il ⟨v, x, p, s, rfl, hv, hsx, ?_⟩
        cases hg : gap p s with
        | true =>
          walk_at "gz"
          refine app _ (by simp only [gStep]; rw [if_pos hg]) ?_
          exact Sts.app Y4 ⟨hsx, trivial⟩
        | false =>
          walk_at "gz"
          refine ixL (SqL.of R4) il ⟨line2, fun m hm => ?_⟩
          have s5 := same_upd (o := .lst [v, x]) hm
          refine ⟨m, [v, x], [p, s], rfl, SqL.of upd_same, line2, ⟨hv.same s5, hsx.same s5, trivial⟩, fun w H5 s6 hw => ?_⟩
          have s7 := s5.trans s6
          have R5 := s7 _ _ R4
          walk_at "gz"
          refine ⟨ys, R5, ys.length - 1, ?_, ws ++ [w], _, rfl, same_put hr0 (s4.trans s7), ?_, ?_, ?_, Sts.put R5 (Z4.same s7), ?_⟩
          · unfold ixN
            rw [if_neg (by decide), if_pos (by rw [e0, List.length_append, List.length_singleton]; omega)]
            congr 1
            omega
          · rw [upd_same, e0, List.length_append, List.length_singleton, Nat.add_sub_cancel, List.set_append_right _ _ (Nat.le_refl _), Nat.sub_self]; rfl
          · rw [tk, hR]
            simp only [gStep]
            rw [if_neg (by rw [hg]; decide)]
            exact Sts.put R5 (Sts.app (W4.same s7) ⟨hw.two, trivial⟩)
          · rcases s7.seq L4 with (h | ⟨z, h⟩) | h
            · exact .inl (.inl (by rw [upd_ne (Ne.symm rl)]; exact h))
            · exact .inl (.inr ⟨z, by rw [upd_ne (Ne.symm rl)]; exact h⟩)
            · exact .inr h
          · rw [List.length_append, List.length_singleton]
            rw [e0, List.length_append, List.length_singleton] at hy
            omega
    · rintro σ H4 ⟨ys, e, rfl, s4, R4, Y4, L4, Z4, hy⟩
      walk_at "gz"
      rw [List.take_of_length_le (by rw [← Z4.len]; exact Nat.le_refl _)] at Y4
      exact q _ _ _ s4 hr0 R4 Y4
def sp_cells (K : PySem.W.Frag) : Sp := fun vs H Q _ => ∃ (a : Addr) (xs : List V) (as : List S2), vs = [.ref a] ∧ SqL K H a xs ∧ Sts H xs as ∧ as.length ≤ 30 ∧ ∀ l ys cs H', Same H H' → H' l = some (.lst ys) → Sts H' ys cs → CellsOk as cs → Q (.ref l) H'
theorem ok_cells (T : Tx K mg) : FnOk P w K mg base (CXX P w) 2 T.a_cells T.fd_cells ["some"] (sp_cells K) := by
  refine okN T.F_cells sc_cells (fun vs H Q E h => ?_) (fun cdv A outer s H vs Q E hr h => ?_)
  · obtain ⟨a, xs, as, rfl, _⟩ := h
    rfl
  · obtain ⟨a, xs, as, rfl, hS, hs0, hn, q⟩ := h
    refine ⟨_, (pss_cons (ps_setComp (i := 1) (CompOk.mk (fr := []) (ys := []) rfl (by decide +kernel) rfl (by decide +kernel) rfl rfl .nil .nil (by decide) rfl) rfl sc_cells.nd rfl rfl (pi_list (pv 0)) (fun C s2 H2 ex pn => ⟨(pts_one (pt_cmp (pc_notN (pe_ix (ix_seqK (K := K) rfl) (pv 0) pe_int (fun _ _ => rfl))))), (pe_ix (ix_seqK (K := K) rfl) (pv 0) pe_int (fun _ _ => rfl))⟩))
    (pss_cons (ps_setComp (i := 2) (CompOk.mk (fr := []) (ys := []) rfl (by decide +kernel) rfl (by decide +kernel) rfl rfl .nil .nil (by decide) rfl) rfl sc_cells.nd rfl rfl (pi_list (pv 0)) (fun C s2 H2 ex pn => ⟨(pts_one (pt_cmp (pc_notN (pe_ix (ix_seqK (K := K) rfl) (pv 0) pe_int (fun _ _ => rfl))))), (pe_op op_add (pe_ix (ix_seqK (K := K) rfl) (pv 0) pe_int (fun _ _ => rfl)) pe_int)⟩))
    (pss_cons (ps_set (i := 3) sc_cells.nd rfl (Or.inl rfl) (pe_callB call_sortedL (by rfl) T.n_sorted b_sorted (pa_cons (pe_op op_cat (pv 1) (pv 2)) pa_nil)))
    (pss_cons (ps_set (i := 4) sc_cells.nd rfl (Or.inl rfl) (pe_op op_cat (pe_lst (pa_cons pe_non pa_nil)) (pv 3)))
    (pss_cons (ps_set (i := 5) sc_cells.nd rfl (Or.inl rfl) (pe_op op_cat (pe_comp (CompOk.mk (fr := []) (ys := []) rfl (by decide +kernel) rfl (by decide +kernel) rfl rfl .nil .nil (by decide) rfl) rfl (pi_list (pv 3)) (fun C s2 H2 ex pn => ⟨pts_nil, (pe_op op_sub (pv 0) pe_int)⟩)) (pe_lst (pa_cons pe_non pa_nil))))
    (pss_one (ps_ret (pe_compG (g := gTup K 2 (gCons (gName 0) (gCons (gName 1) gNil))) (CompOkG.mk (own := ["lo", "hi"]) (fr := []) (ys := []) rfl (by decide +kernel) rfl (by decide +kernel) rfl .nil .nil rfl) rfl (pi_zip rfl T.n_zip (pa_cons (pv 4) (pa_cons (pv 5) pa_nil))) (fun C s2 H2 ex pn => pg_tup (n := 2) rfl (pgs_cons (pg_name (i := 0) (show (["lo", "hi"] : List Str).Nodup by decide) rfl (.inl (lookup_relabel_local rfl)) (.inr (lookup_relabel_local rfl))) (pgs_cons (pg_name (i := 1) (show (["lo", "hi"] : List Str).Nodup by decide) rfl (.inl (lookup_relabel_local rfl)) (.inr (lookup_relabel_local rfl))) pgs_nil))) (fun C s2 H2 ex pn => ⟨(pts_one (pt_not (pt_val (pe_call (ok_is_crossed T) (hr.mono (by decide)) rfl T.m_is_crossed T.F_is_crossed.kp T.b_is_crossed .nil passE0 (pa_cons (pv 0) (pa_cons (pv 1) pa_nil)))))), (pe_tup (pa_cons (pv 0) (pa_cons (pv 1) pa_nil)))⟩))))))))), ?_⟩
    have hl := hs0.len
    have hz : xs.length ≤ sizeLine := Nat.le_trans (by omega : xs.length ≤ 30) (by decide)
    walk_at "gz"
    refine ⟨⟨_, hS⟩, blk_of it_list hz (compGo_all (R := IsS2 H) (p := fun s => s.1.isSome) (f := fun s => ev s.1) hS hs0.all (fun x s _ r Q h => ?_) (fun x s _ _ r Q h => ?_) ?_)⟩
    · obtain ⟨e1, e2⟩ := s
      obtain ⟨p, rfl, hp⟩ := r
      walk_at "gz"
      refine ixT (SqT.of hp) rfl ?_
      rcases e1 with _ | x
      · walk_at "gz"
        exact h
      · walk_at "gz"
        exact h
    · obtain ⟨p, rfl, hp⟩ := r
      walk_at "gz"
      exact ixT (SqT.of hp) rfl h
    rw [List.nil_append, begins_ints]
    intro l1 hl1
    have S1 := same_upd (o := .lst ((as.filterMap (·.1)).map V.int)) hl1
    have A1 : upd H l1 (.lst ((as.filterMap (·.1)).map V.int)) l1 = some (.lst ((as.filterMap (·.1)).map V.int)) := upd_same
    generalize upd H l1 (.lst ((as.filterMap (·.1)).map V.int)) = H1 at S1 A1 ⊢
    walk_at "gz"
    refine ⟨⟨_, S1.seq hS⟩, blk_of it_list hz (compGo_all (R := IsS2 H1) (p := fun s => s.2.isSome) (f := endV) (S1.seq hS) (hs0.same S1).all (fun x s _ r Q h => ?_) (fun x s _ hb r Q h => ?_) ?_)⟩
    · obtain ⟨e1, e2⟩ := s
      obtain ⟨p, rfl, hp⟩ := r
      walk_at "gz"
      refine ixT (SqT.of hp) rfl ?_
      rcases e2 with _ | x
      · walk_at "gz"
        exact h
      · walk_at "gz"
        exact h
    · obtain ⟨e1, e2⟩ := s
      obtain ⟨p, rfl, hp⟩ := r
      walk_at "gz"
      refine ixT (SqT.of hp) rfl ?_
      rcases e2 with _ | x
      · cases hb
      · walk_at "gz"
        exact h
    rw [List.nil_append, ends_ints]
    intro l2 hl2
    have S2' := same_upd (o := .lst (((as.filterMap (·.2)).map (· + 1)).map V.int)) hl2
    have A2 : upd H1 l2 (.lst (((as.filterMap (·.2)).map (· + 1)).map V.int)) l2 = some (.lst (((as.filterMap (·.2)).map (· + 1)).map V.int)) := upd_same
    generalize upd H1 l2 (.lst (((as.filterMap (·.2)).map (· + 1)).map V.int)) = H2 at S2' A2 ⊢
    have n1 := List.length_filterMap_le (·.1) as
    have n2 := List.length_filterMap_le (·.2) as
    have T2 := S1.trans S2'
    walk_at "gz"
    have hsz : ∀ n : Nat, n ≤ 100 → n ≤ sizeLine := fun n h => Nat.le_trans h (by decide)
    refine ⟨_, S2' _ _ A1, _, A2, hsz _ (by simp only [List.length_map]; omega), fun p3 hp3 => ⟨cutsOf as, SqL.of ?_, by unfold cutsOf; rw [List.length_append, List.length_map]; omega, fun l zs hl0 hpm hpw => ?_⟩⟩
    · rw [upd_same]; unfold cutsOf; rw [List.map_append]
    have zl : zs.length ≤ 60 := by rw [hpm.length_eq]; unfold cutsOf; rw [List.length_append, List.length_map]; omega
    have S4 := (same_upd (o := .lst ((as.filterMap (·.1)).map V.int ++ ((as.filterMap (·.2)).map (· + 1)).map V.int)) hp3).trans (same_upd (o := .lst (zs.map V.int)) hl0)
    have A4 : upd (upd H2 p3 (.lst ((as.filterMap (·.1)).map V.int ++ ((as.filterMap (·.2)).map (· + 1)).map V.int))) l (.lst (zs.map V.int)) l = some (.lst (zs.map V.int)) := upd_same
    generalize upd (upd H2 p3 (.lst ((as.filterMap (·.1)).map V.int ++ ((as.filterMap (·.2)).map (· + 1)).map V.int))) l (.lst (zs.map V.int)) = H4 at S4 A4 ⊢
    have T4 := T2.trans S4
    refine ⟨by decide, fun p1 hp1 => ⟨_, upd_same, _, same_upd hp1 _ _ A4, hsz _ (by simp only [List.length_map, List.length_cons, List.length_nil]; omega), fun p2 hp2 => ?_⟩⟩
    have S5 := (same_upd (o := .lst [.non]) hp1).trans (same_upd (o := .lst ([.non] ++ zs.map V.int)) hp2)
    have B5 : upd (upd H4 p1 (.lst [.non])) p2 (.lst ([.non] ++ zs.map V.int)) p2 = some (.lst (.non :: zs.map V.int)) := upd_same
    generalize upd (upd H4 p1 (.lst [.non])) p2 (.lst ([.non] ++ zs.map V.int)) = H5 at S5 B5 ⊢
    have A5 := S5 _ _ A4
    have T5 := T4.trans S5
    refine ⟨⟨_, SqL.of A5⟩, blk_of it_list (hsz _ (by rw [List.length_map]; omega)) (compGo_all (R := fun x n => x = V.int n) (p := fun _ => true) (f := fun n => .int (n - 1)) (SqL.of A5) (All2.ints zs) (fun x n _ r Q h => ?_) (fun x n _ _ r Q h => ?_) ?_)⟩
    · walk_at "gz"
      exact h
    · subst r
      walk_at "gz"
      exact h
    rw [List.nil_append, filter_tt]
    intro l6 hl6
    have S6 := same_upd (o := .lst (zs.map fun n => V.int (n - 1))) hl6
    have C6 : upd H5 l6 (.lst (zs.map fun n => V.int (n - 1))) l6 = some (.lst (zs.map fun n => V.int (n - 1))) := upd_same
    generalize upd H5 l6 (.lst (zs.map fun n => V.int (n - 1))) = H6 at S6 C6 ⊢
    refine ⟨by decide, fun p7 hp7 => ⟨l6, rfl, _, same_upd hp7 _ _ C6, _, upd_same, hsz _ (by simp only [List.length_map, List.length_cons, List.length_nil]; omega), fun p8 hp8 => ?_⟩⟩
    have S8 := (same_upd (o := .lst [.non]) hp7).trans (same_upd (o := .lst ((zs.map fun n => V.int (n - 1)) ++ [.non])) hp8)
    have D8 : upd (upd H6 p7 (.lst [.non])) p8 (.lst ((zs.map fun n => V.int (n - 1)) ++ [.non])) p8 = some (.lst ((zs.map fun n => V.int (n - 1)) ++ [.non])) := upd_same
    generalize upd (upd H6 p7 (.lst [.non])) p8 (.lst ((zs.map fun n => V.int (n - 1)) ++ [.non])) = H8 at S8 D8 ⊢
    have B8 := (S6.trans S8) _ _ B5
    have T8 := T5.trans (S6.trans S8)
    refine ⟨⟨_, SqL.of B8⟩, ⟨_, SqL.of D8⟩, blk_zip (xs := .non :: zs.map V.int) (ys := (zs.map fun n => V.int (n - 1)) ++ [.non]) (by
      rw [rows_cells, List.length_map, cellsFrom_len]; exact hsz _ (by omega)) (pairGo_new (R' := IsS2) (p := selP) (f := selF) (bs := []) (fun _ _ _ _ s r => IsS.same r s) trivial (fun H' s' => ⟨SqL.of (s' _ _ B8), SqL.of (s' _ _ D8)⟩) (fun r hr0 H' s' Q h => ?_) (fun r hr0 _ H' s' Q h => ?_) fun H' ws s' hw => ?_)⟩
    · rw [rows_cells] at hr0
      obtain ⟨c, _, rfl⟩ := List.mem_map.mp hr0
      unfold selP at h
      rw [unev_ev, unev_ev] at h
      walk_at "gz"
      exact ⟨_, _, rfl, _, rfl, h⟩
    · rw [rows_cells] at hr0
      obtain ⟨c, _, rfl⟩ := List.mem_map.mp hr0
      walk_at "gz"
      refine ⟨line2, fun p hp => h _ _ (same_upd hp) ?_⟩
      unfold selF
      rw [unev_ev, unev_ev]
      exact IsS.new
    · rw [List.nil_append, rows_cells, rows_sel] at hw
      intro m hm
      exact q m ws _ _ (T8.trans (s'.trans (same_upd hm))) upd_same ((All2.sts hw).same (same_upd hm)) (cells_ok hpm hpw)
def sp_numin : Sp := fun vs H Q _ => ∃ (v : V) (c : S2), vs = [v] ∧ IsS2 H v c ∧ Q (.int (numIn c)) H
theorem ok_number_in (T : Tx K mg) : FnOk P w K mg base (CXX P w) 1 T.a_number_in T.fd_number_in ["cell"] sp_numin := by
  refine okN T.F_number_in sc_number_in (fun vs H Q E h => ?_) (fun cdv A outer s H vs Q E hr h => ?_)
  · obtain ⟨v, c, rfl, _⟩ := h
    rfl
  · obtain ⟨v, ⟨e1, e2⟩, rfl, ⟨p, rfl, hp⟩, q⟩ := h
    refine ⟨_, (pss_cons (ps_if (pt_cmp (pc_notN (pe_ix ix_seq (pv 0) pe_int (fun _ _ => rfl)))) (pss_one (ps_ret (pe_ix ix_seq (pv 0) pe_int (fun _ _ => rfl)))) pss_nil)
    (pss_cons (ps_if (pt_cmp (pc_notN (pe_ix ix_seq (pv 0) pe_int (fun _ _ => rfl)))) (pss_one (ps_ret (pe_ix ix_seq (pv 0) pe_int (fun _ _ => rfl)))) pss_nil)
    (pss_one (ps_ret pe_int)))), ?_⟩
    walk_at "gz"
    refine ixT (SqT.of hp) rfl ?_
    rcases e1 with _ | x
    · walk_at "gz"
      refine ixT (SqT.of hp) rfl ?_
      rcases e2 with _ | y
      · walk_at "gz"
        exact q
      · walk_at "gz"
        exact ixT (SqT.of hp) rfl q
    · walk_at "gz"
      exact ixT (SqT.of hp) rfl q
def sp_votes (K : PySem.W.Frag) : Sp := fun vs H Q _ => ∃ (a : Addr) (xs : List V) (as : List S2) (v : V) (c : S2), vs = [.ref a, v] ∧ SqL K H a xs ∧ Sts H xs as ∧ as.length ≤ 30 ∧ IsS2 H v c ∧ ∀ H', Same H H' → Q (.int (cnt as (numIn c) : Nat)) H'
theorem ok_votes_for (T : Tx K mg) : FnOk P w K mg base (CXX P w) 3 T.a_votes_for T.fd_votes_for ["some", "cell"] (sp_votes K) := by
  refine okN T.F_votes_for sc_votes_for (fun vs H Q E h => ?_) (fun cdv A outer s H vs Q E hr h => ?_)
  · obtain ⟨a, xs, as, v, c, rfl, _⟩ := h
    rfl
  · obtain ⟨a, xs, as, v, c, rfl, hS, hs0, hn, hc, q⟩ := h
    refine ⟨_, (pss_cons (ps_set (i := 2) sc_votes_for.nd rfl (Or.inr rfl) (pe_call (ok_number_in T) (hr.mono (by decide)) rfl T.m_number_in T.F_number_in.kp T.b_number_in .nil passE0 (pa_cons (pv 1) pa_nil)))
    (pss_one (ps_ret (pe_callB call_len (by rfl) T.n_len b_len (pa_cons (pe_comp (CompOk.mk (fr := [2]) (ys := ["number"]) rfl (by decide +kernel) rfl (by decide +kernel) rfl rfl (.cons rfl .nil) (.cons rfl rfl rfl rfl .nil) (by decide) rfl) rfl (pi_list (pv 0)) (fun C s2 H2 ex pn => ⟨(pts_one (pt_val (pe_call (ok_holds T) (hr.mono (by decide)) rfl T.m_holds T.F_holds.kp T.b_holds .nil passE0 (pa_cons (pv 0) (pa_cons (pv 1) pa_nil))))), (pv 0)⟩)) pa_nil))))), ?_⟩
    have hl := hs0.len
    walk_at "gz"
    refine ⟨v, c, rfl, hc, ?_⟩
    walk_at "gz"
    refine ⟨⟨_, hS⟩, blk_of it_list (Nat.le_trans (by omega : xs.length ≤ 30) (by decide)) (compGo_sel (R := IsS2) (p := fun s => hs s (numIn c)) (fun _ _ _ _ s r => IsS.same r s) hs0.all (fun H' s' => s'.seq hS) (fun x s _ H' s' r Q h => ?_) (fun x H' s' Q h => ?_) fun H' zs s' hz => ?_)⟩
    · walk_at "gz"
      refine ⟨_, _, _, _, rfl, r, ?_⟩
      walk_at "gz"
      exact h _ (Same.refl _)
    · walk_at "gz"
      exact h
    · intro l hl2
      rw [List.nil_append]
      refine ⟨_, lenL (SqL.of upd_same), ?_⟩
      rw [hz.len]
      exact q _ (s'.trans (same_upd hl2))
def chosen (as cs : List S2) (need : Int) : List S2 := cs.filter fun c => decide (need ≤ (cnt as (numIn c) : Int))
def sp_agree (K : PySem.W.Frag) : Sp := fun vs H Q _ => ∃ (a : Addr) (xs : List V) (as : List S2) (need : Int), vs = [.ref a, .int need] ∧ SqL K H a xs ∧ Sts H xs as ∧ as.length ≤ 30 ∧ ∀ l ys gs H', Same H H' → H l = none → H' l = some (.lst ys) → Sts H' ys gs → Apart gs → (∀ s ∈ gs, okS s) → (∀ n, (gs.any fun s => hs s n) = decide (need ≤ (cnt as n : Int))) → gs.length ≤ 61 → (as = [] → need ≤ 0 → gs = [(none, none)]) → Q (.ref l) H'
theorem ok_agree (T : Tx K mg) : FnOk P w K mg base (CXX P w) 5 T.a_agree T.fd_agree ["some", "need"] (sp_agree K) := by
  refine okN T.F_agree sc_agree (fun vs H Q E h => ?_) (fun cdv A outer s H vs Q E hr h => ?_)
  · obtain ⟨a, xs, as, need, rfl, _⟩ := h
    rfl
  · obtain ⟨a, xs, as, need, rfl, hS, hs0, hn, q⟩ := h
    refine ⟨_, (pss_one (ps_ret (pe_call (ok_gathered T) (hr.mono (by decide)) rfl T.m_gathered T.F_gathered.kp T.b_gathered .nil passE0 (pa_cons (pe_comp (CompOk.mk (fr := [1, 0]) (ys := ["need", "some"]) rfl (by decide +kernel) rfl (by decide +kernel) rfl rfl (.cons rfl (.cons rfl .nil)) (.cons rfl rfl rfl rfl (.cons rfl rfl rfl rfl .nil)) (by decide) rfl) rfl (pi_list (pe_call (ok_cells T) (hr.mono (by decide)) rfl T.m_cells T.F_cells.kp T.b_cells .nil passE0 (pa_cons (pv 0) pa_nil))) (fun C s2 H2 ex pn => ⟨(pts_one (pt_cmpR op_ge (pe_call (ok_votes_for T) (hr.mono (by decide)) rfl T.m_votes_for T.F_votes_for.kp T.b_votes_for .nil passE0 (pa_cons (pv 2) (pa_cons (pv 0) pa_nil))) (pv 1) (nomark _))), (pv 0)⟩)) pa_nil)))), ?_⟩
    walk_at "gz"
    refine ⟨a, xs, as, rfl, hS, hs0, hn, fun l ys cs H1 S1 L1 C1 hc => ?_⟩
    have hl := C1.len
    have h61 := hc.len
    walk_at "gz"
    refine ⟨⟨_, SqL.of L1⟩, blk_of it_list (Nat.le_trans (by omega : ys.length ≤ 61) (by decide)) (compGo_sel (R := IsS2) (p := fun c => decide (need ≤ (cnt as (numIn c) : Int))) (fun _ _ _ _ s r => IsS.same r s) C1.all (fun H' s' => SqL.of (s' _ _ L1)) (fun x c _ H' s' r Q h => ?_) (fun x H' s' Q h => ?_) fun H' zs s' hz => ?_)⟩
    · walk_at "gz"
      refine ⟨a, xs, as, x, c, rfl, (S1.trans s').seq hS, hs0.same (S1.trans s'), hn, r, fun H2 s2 => ?_⟩
      walk_at "gz"
      exact h _ s2
    · walk_at "gz"
      exact h
    · intro m hm
      rw [List.nil_append]
      have hz' := (All2.sts hz).same (same_upd (o := .lst zs) hm)
      have hlen := hz.len
      have hle := List.length_filter_le (fun c => decide (need ≤ (cnt as (numIn c) : Int))) cs
      refine ⟨m, zs, cs.filter fun c => decide (need ≤ (cnt as (numIn c) : Int)), rfl, SqL.of upd_same, by omega, hz', fun l2 ws H2 s2 hl2 L2 G2 => ?_⟩
      have S := S1.trans (s'.trans (same_upd (o := .lst zs) hm))
      have G := gatherS_ok (as := cs.filter fun c => decide (need ≤ (cnt as (numIn c) : Int))) fun c hc0 => hc.ok c (List.mem_filter.mp hc0).1
      refine q l2 ws _ H2 (S.trans s2) (S.free hl2) L2 G2 G.ap G.ok (fun n => ?_) ?_ (fun e1 e2 => ?_)
      · rw [G.held n, agree_holds hc need n]
      · have := gatherS_len (cs.filter fun c => decide (need ≤ (cnt as (numIn c) : Int)))
        omega
      · rw [hc.nil e1]
        have : ([(none, none)] : List S2).filter (fun c => decide (need ≤ (cnt as (numIn c) : Int))) = [(none, none)] := by
          rw [List.filter_cons, if_pos (by rw [decide_eq_true_eq]; omega)]; rfl
        rw [this]
        exact gather_all
def sp_most (K : PySem.W.Frag) : Sp := fun vs H Q _ => ∃ (a : Addr) (xs : List V) (as : List S2), vs = [.ref a] ∧ SqL K H a xs ∧ Sts H xs as ∧ as.length ≤ 30 ∧ ∀ p l ys gs (m : Int) H', Same H H' → H' p = some (.tup [.int m, .ref l]) → H' l = some (.lst ys) → Sts H' ys gs → Apart gs → (∀ s ∈ gs, okS s) → (∀ n, (gs.any fun s => hs s n) = decide (m ≤ (cnt as n : Int))) → gs.length ≤ 61 → (∀ n, (cnt as n : Int) ≤ m) → gs ≠ [] → (as = [] → m = 0 ∧ gs = [(none, none)]) → Q (.ref p) H'
theorem ok_most_agree (T : Tx K mg) : FnOk P w K mg base (CXX P w) 6 T.a_most_agree T.fd_most_agree ["some"] (sp_most K) := by
  refine okN T.F_most_agree sc_most_agree (fun vs H Q E h => ?_) (fun cdv A outer s H vs Q E hr h => ?_)
  · obtain ⟨a, xs, as, rfl, _⟩ := h
    rfl
  · obtain ⟨a, xs, as, rfl, hS, hs0, hn, q⟩ := h
    refine ⟨_, (pss_cons (ps_set (i := 1) sc_most_agree.nd rfl (Or.inl rfl) (pe_callB (call_maxL rfl) (by rfl) T.n_max b_max (pa_cons (pe_comp (CompOk.mk (fr := [0]) (ys := ["some"]) rfl (by decide +kernel) rfl (by decide +kernel) rfl rfl (.cons rfl .nil) (.cons rfl rfl rfl rfl .nil) (by decide) rfl) rfl (pi_list (pe_call (ok_cells T) (hr.mono (by decide)) rfl T.m_cells T.F_cells.kp T.b_cells .nil passE0 (pa_cons (pv 0) pa_nil))) (fun C s2 H2 ex pn => ⟨pts_nil, (pe_call (ok_votes_for T) (hr.mono (by decide)) rfl T.m_votes_for T.F_votes_for.kp T.b_votes_for .nil passE0 (pa_cons (pv 1) (pa_cons (pv 0) pa_nil)))⟩)) pa_nil)))
    (pss_one (ps_ret (pe_tup (pa_cons (pv 1) (pa_cons (pe_call (ok_agree T) (hr.mono (by decide)) rfl T.m_agree T.F_agree.kp T.b_agree .nil passE0 (pa_cons (pv 0) (pa_cons (pv 1) pa_nil))) pa_nil)))))), ?_⟩
    walk_at "gz"
    refine ⟨a, xs, as, rfl, hS, hs0, hn, fun l ys cs H1 S1 L1 C1 hc => ?_⟩
    have hl := C1.len
    have h61 := hc.len
    walk_at "gz"
    refine ⟨⟨_, SqL.of L1⟩, blk_of it_list (Nat.le_trans (by omega : ys.length ≤ 61) (by decide)) (compGo_grow (R := IsS2) (p := fun _ => true) (f := fun c => .int (cnt as (numIn c) : Nat)) (fun _ _ _ _ s r => IsS.same r s) C1.all (fun H' s' => SqL.of (s' _ _ L1)) (fun x c _ H' s' r Q h => ?_) (fun x c _ _ H' s' r Q h => ?_) fun H2 s2 => ?_)⟩
    · walk_at "gz"
      exact h _ (Same.refl _)
    · walk_at "gz"
      exact ⟨a, xs, as, x, c, rfl, (S1.trans s').seq hS, hs0.same (S1.trans s'), hn, r, h⟩
    rw [List.nil_append, filter_tt]
    intro m hm
    have e1 : (cs.map fun c => V.int (cnt as (numIn c) : Nat)) = (cs.map fun c => ((cnt as (numIn c) : Nat) : Int)).map V.int := by rw [List.map_map]; rfl
    rw [e1]
    have S3 := s2.trans (same_upd (o := .lst ((cs.map fun c => ((cnt as (numIn c) : Nat) : Int)).map V.int)) hm)
    have M3 : upd H2 m (.lst ((cs.map fun c => ((cnt as (numIn c) : Nat) : Int)).map V.int)) m = some (.lst ((cs.map fun c => ((cnt as (numIn c) : Nat) : Int)).map V.int)) := upd_same
    generalize upd H2 m (.lst ((cs.map fun c => ((cnt as (numIn c) : Nat) : Int)).map V.int)) = H3 at S3 M3 ⊢
    have ne : (cs.map fun c => ((cnt as (numIn c) : Nat) : Int)) ≠ [] := by
      obtain ⟨c, hc0, _⟩ := hc.cover 0
      intro z
      rw [List.map_eq_nil_iff] at z
      rw [z] at hc0; cases hc0
    obtain ⟨m1, m2⟩ := maxL_mem ne
    have T3 := S1.trans S3
    walk_at "gz"
    refine ⟨_, SqL.of M3, ne, ?_⟩
    generalize hM : maxL (cs.map fun c => ((cnt as (numIn c) : Nat) : Int)) = M at m1 m2 ⊢
    obtain ⟨c0, hc0, e0⟩ := List.mem_map.mp m1
    have top : ∀ n, (cnt as n : Int) ≤ M := fun n => by
      obtain ⟨c, hc1, h1⟩ := hc.cover n
      rw [← hc.same c hc1 _ n (numIn_in (hc.ok c hc1)) h1]
      exact m2 _ (List.mem_map.mpr ⟨c, hc1, rfl⟩)
    walk_at "gz"
    refine ⟨a, xs, as, M, rfl, T3.seq hS, hs0.same T3, hn, fun l2 ws gs H4 s4 hl2 L4 G4 hap hok hh hgl hnil => ⟨line2, fun p hp => ?_⟩⟩
    have s5 := same_upd (o := .tup [.int M, .ref l2]) hp
    refine q p l2 ws gs M _ (T3.trans (s4.trans s5)) upd_same (s5 _ _ L4) (G4.same s5) hap hok hh hgl top (fun z => ?_) (fun e => ?_)
    · have := hh (numIn c0)
      rw [z, decide_eq_true (by omega)] at this
      cases this
    · have e2 : M = 0 := by rw [← e0]; subst e; rfl
      exact ⟨e2, hnil e (by omega)⟩
end
end K16

set_option Elab.async false
set_option linter.all false
set_option maxRecDepth 100000
set_option maxHeartbeats 1000000
namespace K16
open PySem L2 Gz
local macro_rules | `(tactic| walk_at "gz") => `(tactic| try simp only [ev_none, ev_some, tSeq, tIfS, tTest, tOp, tUn, tVar, tC, tRet, tNext, tAsg, gName, tCB, tCons, tNil, tCall, tIsN, tNotN, tB, tAnd, tOr, tNot, tAndV, tOrV, tNotV, tIf, tDrop, rI, rI0, rU, rEq, rNe, scal_ii, scal_bb, scal_in, scal_ni, scal_nn, isi_ii, isi_ib, isi_bi, isi_bb, isi_ni, isi_nt, ite_tt, ite_ff, L2.start, cxK, cxN, List.map_cons, List.map_nil, List.length_cons, List.length_nil, List.replicate, List.append_nil, List.nil_append, List.cons_append, List.getElem?_cons_zero, List.getElem?_cons_succ, List.set_cons_zero, List.set_cons_succ, Option.some.injEq, V.int.injEq, V.bl.injEq, V.ref.injEq, List.cons.injEq, exists_eq_left, exists_eq_left', exists_and_left, true_and, and_true, decide_eq_true_eq, Nat.zero_add, Nat.sub_self, Nat.add_one_sub_one, Nat.reduceAdd, Nat.reduceSub, reduceCtorEq, decide_true, decide_false, Bool.not_true, Bool.not_false, Bool.not_eq_true', decide_eq_false_iff_not, false_and, exists_false, and_assoc, tTup, tLst, tBM, tBM0, rAppend, rExtend, for_rng1, for_lst, for_tpl, ↓reduceIte, not_false_eq_true, not_true_eq_false, tComp, tMM, tSortK, tSetC, iTup, iList, tAll, gSub, rSetL, iRng3, iRng2, iRng1, for_rng2, for_rng3, tFld, sFld, tMeth, tMake, tSl, tNoPart, tPart, rSlL, rCat, for_rev, for_enum, for_zip, tChain, tCompG, iRev, iEnum, iZip, Option.join_some])
local macro_rules | `(tactic| walk_at "gza") => `(tactic| simp only [ev_none, ev_some, tSeq, tIfS, tTest, tOp, tUn, tVar, tC, tRet, tNext, tAsg, gName, tCB, tCons, tNil, tCall, tIsN, tNotN, tB, tAnd, tOr, tNot, tAndV, tOrV, tNotV, tIf, tDrop, rI, rI0, rU, rEq, rNe, scal_ii, scal_bb, scal_in, scal_ni, scal_nn, isi_ii, isi_ib, isi_bi, isi_bb, isi_ni, isi_nt, ite_tt, ite_ff, L2.start, cxK, cxN, List.map_cons, List.map_nil, List.length_cons, List.length_nil, List.replicate, List.append_nil, List.nil_append, List.cons_append, List.getElem?_cons_zero, List.getElem?_cons_succ, List.set_cons_zero, List.set_cons_succ, Option.some.injEq, V.int.injEq, V.bl.injEq, V.ref.injEq, List.cons.injEq, exists_eq_left, exists_eq_left', exists_and_left, true_and, and_true, decide_eq_true_eq, Nat.zero_add, Nat.sub_self, Nat.add_one_sub_one, Nat.reduceAdd, Nat.reduceSub, reduceCtorEq, decide_true, decide_false, Bool.not_true, Bool.not_false, Bool.not_eq_true', decide_eq_false_iff_not, false_and, exists_false, and_assoc, tTup, tLst, tBM, tBM0, rAppend, rExtend, for_rng1, for_lst, for_tpl, ↓reduceIte, not_false_eq_true, not_true_eq_false, tComp, tMM, tSortK, tSetC, iTup, iList, tAll, gSub, rSetL, iRng3, iRng2, iRng1, for_rng2, for_rng3, tFld, sFld, tMeth, tMake, tSl, tNoPart, tPart, rSlL, rCat, for_rev, for_enum, for_zip, tChain, tCompG, iRev, iEnum, iZip, Option.join_some] at *)
local macro_rules | `(tactic| walk_at "sd") => `(tactic| (and_intros <;> first | assumption | exact bd200 (by decide) | exact bd200 (em30 _) | exact mul200 (by decide) (by decide) | exact ⟨by decide, by decide, by decide⟩ | decide | omega))
local macro_rules | `(tactic| walk_at "gzn") => `(tactic| (try simp only [ev_none, ev_some, tSeq, tIfS, tTest, tOp, tUn, tVar, tC, tRet, tNext, tAsg, gName, tCB, tCons, tNil, tCall, tIsN, tNotN, tB, tAnd, tOr, tNot, tAndV, tOrV, tNotV, tIf, tDrop, rI, rI0, rU, rEq, rNe, scal_ii, scal_bb, scal_in, scal_ni, scal_nn, isi_ii, isi_ib, isi_bi, isi_bb, isi_ni, isi_nt, ite_tt, ite_ff, L2.start, cxK, cxN, List.map_cons, List.map_nil, List.length_cons, List.length_nil, List.replicate, List.append_nil, List.nil_append, List.cons_append, List.getElem?_cons_zero, List.getElem?_cons_succ, List.set_cons_zero, List.set_cons_succ, Option.some.injEq, V.int.injEq, V.bl.injEq, V.ref.injEq, List.cons.injEq, exists_eq_left, exists_eq_left', exists_and_left, true_and, and_true, decide_eq_true_eq, Nat.zero_add, Nat.sub_self, Nat.add_one_sub_one, Nat.reduceAdd, Nat.reduceSub, reduceCtorEq, decide_true, decide_false, Bool.not_true, Bool.not_false, Bool.not_eq_true', decide_eq_false_iff_not, false_and, exists_false, and_assoc, tTup, tLst, tBM, tBM0, rAppend, rExtend, for_rng1, for_lst, for_tpl, ↓reduceIte, not_false_eq_true, not_true_eq_false, tComp, tMM, tSortK, tSetC, iTup, iList, tAll, gSub, rSetL, iRng3, iRng2, iRng1, for_rng2, for_rng3, tFld, sFld, tMeth, tMake, tSl, tNoPart, tPart, rSlL, rCat, for_rev, for_enum, for_zip, tChain, tCompG, iRev, iEnum, iZip, Option.join_some, Int.reducePow, Int.reduceToNat, Int.reduceMul, Int.reduceAdd]))

section
variable {P : Program} {w : World} {K : PySem.W.Frag} {mg : Str → Option Value} {base : Heap}
def stBy (c m b : Int) : S2 := (if c % 7 = 0 then none else some (b + c / 7 % 21), if m % 9 = 0 then none else if m % 9 = 1 then some (b + c / 7 % 21 + m / 9 % 10000000000000000000000000000000000000000) else some (b + c / 7 % 21 + m / 9 % 10))
theorem stBy_ok (c m b : Int) : okS (stBy c m b) := by
  unfold okS stBy
  dsimp only
  have h1 := Int.emod_nonneg (m / 9) (show (10000000000000000000000000000000000000000 : Int) ≠ 0 by decide)
  have h2 := Int.emod_nonneg (m / 9) (show (10 : Int) ≠ 0 by decide)
  generalize m / 9 % 10000000000000000000000000000000000000000 = x at h1 ⊢
  generalize m / 9 % 10 = y at h2 ⊢
  generalize b + c / 7 % 21 = z
  split
  · exact crossed_n _
  · split
    · exact crossed_m _
    · split
      · simp [crossed]; omega
      · simp [crossed]; omega
def sp_stretchby : Sp := fun vs H Q _ => ∃ (c m b : Int), vs = [.int c, .int m, .int b] ∧ ∀ p, H p = none → Q (.ref p) (upd H p (.tup [ev (stBy c m b).1, ev (stBy c m b).2]))
theorem ok_law_stretch_by (T : Tx K mg) : FnOk P w K mg base (CXX P w) 1 T.a_law_stretch_by T.fd_law_stretch_by ["_law_cell_here", "_law_more", "_law_base"] sp_stretchby := by
  refine okN T.F_law_stretch_by sc_law_stretch_by (fun vs H Q E h => ?_) (fun cdv A outer s H vs Q E hr h => ?_)
  · obtain ⟨c, m, b, rfl, _⟩ := h
    rfl
  · obtain ⟨c, m, b, rfl, q⟩ := h
    refine ⟨_, (pss_cons (ps_set (i := 3) sc_law_stretch_by.nd rfl (Or.inl rfl) (pe_op op_add (pv 2) (pe_op op_mod (pe_op op_fdivB (pv 0) pe_int) pe_int)))
    (pss_cons (ps_set (i := 4) sc_law_stretch_by.nd rfl (Or.inl rfl) (pe_op op_add (pv 3) (pe_op op_mod (pe_op op_fdivB (pv 1) pe_int) pe_int)))
    (pss_cons (ps_if (pt_cmpR op_eq (pe_op op_mod (pv 1) pe_int) pe_int (nomark _)) (pss_one (ps_set (i := 4) sc_law_stretch_by.nd rfl (Or.inl rfl) (pe_op op_add (pv 3) (pe_op op_mod (pe_op op_fdivB (pv 1) pe_int) (pe_op op_pow pe_int pe_int))))) pss_nil)
    (pss_cons (ps_if (pt_cmpR op_eq (pe_op op_mod (pv 1) pe_int) pe_int (nomark _)) (pss_one (ps_set (i := 4) sc_law_stretch_by.nd rfl (Or.inl rfl) pe_non)) pss_nil)
    (pss_cons (ps_if (pt_cmpR op_eq (pe_op op_mod (pv 0) pe_int) pe_int (nomark _)) (pss_one (ps_set (i := 3) sc_law_stretch_by.nd rfl (Or.inl rfl) pe_non)) pss_nil)
    (pss_one (ps_ret (pe_tup (pa_cons (pv 3) (pa_cons (pv 4) pa_nil)))))))))), ?_⟩
    walk_at "gzn"
    unfold stBy at q
    dsimp only at q
    refine ⟨by decide, bd200 (by decide), by decide, by decide, bd200 (by decide), by decide, by decide, ?_⟩
    by_cases h1 : m % 9 = 1
    · have h2 : ¬ m % 9 = 0 := by omega
      rw [if_pos h1]
      refine ⟨by decide, bd200 (by decide), ⟨by decide, by decide, by decide⟩, by decide, by decide, ?_⟩
      rw [if_neg h2]
      refine ⟨by decide, ?_⟩
      rw [if_neg h2, if_pos h1] at q
      split
      · rename_i h3
        rw [if_pos h3] at q
        exact ⟨line2, q⟩
      · rename_i h3
        rw [if_neg h3] at q
        exact ⟨line2, q⟩
    · rw [if_neg h1]
      refine ⟨by decide, ?_⟩
      by_cases h2 : m % 9 = 0
      · rw [if_pos h2] at q ⊢
        refine ⟨by decide, ?_⟩
        split
        · rename_i h3
          rw [if_pos h3] at q
          exact ⟨line2, q⟩
        · rename_i h3
          rw [if_neg h3] at q
          exact ⟨line2, q⟩
      · rw [if_neg h2] at q ⊢
        rw [if_neg h1] at q
        refine ⟨by decide, ?_⟩
        split
        · rename_i h3
          rw [if_pos h3] at q
          exact ⟨line2, q⟩
        · rename_i h3
          rw [if_neg h3] at q
          exact ⟨line2, q⟩
def sp_form (K : PySem.W.Frag) : Sp := fun vs H Q _ => ∃ (a : Addr) (xs : List V) (gs : List S2), vs = [.ref a] ∧ H a = some (.lst xs) ∧ xs.length ≤ 1000 ∧ Sts H xs gs ∧ (∀ s ∈ gs, okS s) ∧ Apart gs ∧ gs ≠ [] ∧ Q (.bl true) H
def invF (H : Hp) (a : Addr) (_ : Nat) (σ : St) (H1 : Hp) : Prop := ∃ (e1 e2 e3 : Option V), σ = [some (.ref a), e1, e2, e3] ∧ H1 = H
def invF2 (H : Hp) (a p : Addr) (_ : Nat) (σ : St) (H1 : Hp) : Prop := ∃ (e2 e3 : Option V), σ = [some (.ref a), some (.ref p), e2, e3] ∧ H1 = H
theorem ok_law_form (T : Tx K mg) : FnOk P w K mg base (CXX P w) 2 T.a_law_form T.fd_law_form ["_law_told"] (sp_form K) := by
  refine okN T.F_law_form sc_law_form (fun vs H Q E h => ?_) (fun cdv A outer s H vs Q E hr h => ?_)
  · obtain ⟨a, xs, gs, rfl, _⟩ := h
    rfl
  · obtain ⟨a, xs, gs, rfl, hA, hz, hs0, ho, hap, hne, q⟩ := h
    refine ⟨_, (pss_cons (ps_if (PW.pt (pw_or (pt_not (pt_val (pe_callB call_isiA (by rfl) T.n_isinstance b_isinstance (pa_cons (pv 0) (pa_cons (pe_bltn (v := .ty "list") rfl T.n_list b_list rfl) pa_nil))))) (pw_or1 (pt_cmpR op_eq (pe_callB call_len (by rfl) T.n_len b_len (pa_cons (pv 0) pa_nil)) pe_int (nomark _))))) (pss_one (ps_ret pe_bl)) pss_nil)
    (pss_cons (ps_for PassesOwn.never rfl (pi_list (pv 0)) (pg_name (i := 1) sc_law_form.nd rfl (Or.inl rfl)) (pss_cons (ps_if (PW.pt (pw_or (pt_not (pt_val (pe_callB call_isiA (by rfl) T.n_isinstance b_isinstance (pa_cons (pv 1) (pa_cons (pe_bltn (v := .ty "tuple") rfl T.n_tuple b_tuple rfl) pa_nil))))) (pw_or1 (pt_cmpR op_ne (pe_callB call_len (by rfl) T.n_len b_len (pa_cons (pv 1) pa_nil)) pe_int (nomark _))))) (pss_one (ps_ret pe_bl)) pss_nil)
        (pss_cons (ps_for PassesOwn.never rfl (pi_tup (pv 1)) (pg_name (i := 2) sc_law_form.nd rfl (Or.inl rfl)) (pss_one (ps_if (PW.pt (pw_and (pt_cmp (pc_notN (pv 2))) (pw_and1 (pt_not (pt_val (pe_call (ok_law_whole T) (hr.mono (by decide)) rfl T.m_law_whole T.F_law_whole.kp T.b_law_whole .nil passE0 (pa_cons (pv 2) pa_nil))))))) (pss_one (ps_ret pe_bl)) pss_nil)))
        (pss_one (ps_if (PW.pt (pw_and (pt_cmp (pc_notN (pe_ix ix_seq (pv 1) pe_int (fun _ _ => rfl)))) (pw_and (pt_cmp (pc_notN (pe_ix ix_seq (pv 1) pe_int (fun _ _ => rfl)))) (pw_and1 (pt_cmpR op_gt (pe_ix ix_seq (pv 1) pe_int (fun _ _ => rfl)) (pe_ix ix_seq (pv 1) pe_int (fun _ _ => rfl)) (nomark _)))))) (pss_one (ps_ret pe_bl)) pss_nil)))))
    (pss_cons (ps_for PassesOwn.never rfl (pi_range1 rfl T.n_range (pa_cons (pe_op op_sub (pe_callB call_len (by rfl) T.n_len b_len (pa_cons (pv 0) pa_nil)) pe_int) pa_nil)) (pg_name (i := 3) sc_law_form.nd rfl (Or.inl rfl)) (pss_one (ps_if (PW.pt (pw_or (pt_cmp (pc_isN (pe_ix ix_seq (pe_ix ix_seq (pv 0) (pv 3) (fun _ _ => rfl)) pe_int (fun _ _ => rfl)))) (pw_or (pt_cmp (pc_isN (pe_ix ix_seq (pe_ix ix_seq (pv 0) (pe_op op_add (pv 3) pe_int) (fun _ _ => rfl)) pe_int (fun _ _ => rfl)))) (pw_or1 (pt_cmpR op_gt (pe_op op_add (pe_ix ix_seq (pe_ix ix_seq (pv 0) (pv 3) (fun _ _ => rfl)) pe_int (fun _ _ => rfl)) pe_int) (pe_ix ix_seq (pe_ix ix_seq (pv 0) (pe_op op_add (pv 3) pe_int) (fun _ _ => rfl)) pe_int (fun _ _ => rfl)) (nomark _)))))) (pss_one (ps_ret pe_bl)) pss_nil)))
    (pss_one (ps_ret pe_bl))))), ?_⟩
    walk_at "gz"
    refine isi_lst hA ?_
    walk_at "gz"
    refine ⟨_, lenL (SqL.of hA), ?_⟩
    rw [if_neg (fun z => hne (List.length_eq_zero_iff.mp (by have := hs0.len; omega)))]
    refine ⟨⟨_, SqL.of hA⟩, by_list (xs := xs) (invF H a) ⟨_, _, _, rfl, rfl⟩ ?_ ?_ ?_⟩
    · rintro i σ H1 _ ⟨_, _, _, _, rfl⟩
      exact SqL.of hA
    · rintro i x σ H1 hx ⟨e1, e2, e3, rfl, rfl⟩
      obtain ⟨⟨c, d⟩, es, p, rfl, hp⟩ := hs0.get hx
      have hc := ho _ (List.mem_of_getElem? es)
      walk_at "gz"
      refine isi_tup hp ?_
      walk_at "gz"
      refine ⟨_, lenT (SqT.of hp), ?_⟩
      walk_at "gzn"
      refine ⟨⟨_, SqT.of hp⟩, by_tup (xs := [ev c, ev d]) (invF2 H1 a p) ⟨_, _, rfl, rfl⟩ ?_ ?_ ?_⟩
      · rintro i σ H1 _ ⟨_, _, _, rfl⟩
        exact SqT.of hp
      · rintro j e σ H1 he ⟨e2, e3, rfl, rfl⟩
        obtain ⟨e', rfl⟩ : ∃ e' : En, e = ev e' := by
          have := List.mem_of_getElem? he
          simp at this
          rcases this with h | h
          · exact ⟨_, h⟩
          · exact ⟨_, h⟩
        rcases e' with _ | n
        · walk_at "gz"
          exact ⟨_, _, rfl, rfl⟩
        · walk_at "gz"
          refine ⟨_, rfl, .inr ⟨_, rfl⟩, ?_⟩
          simp only [isWhole]
          walk_at "gz"
          exact ⟨_, _, rfl, rfl⟩
      · rintro σ H1 ⟨e2, e3, rfl, rfl⟩
        walk_at "gz"
        refine ixT (SqT.of hp) rfl ?_
        rcases c with _ | x
        · walk_at "gz"
          exact ⟨_, _, _, rfl, rfl⟩
        · walk_at "gz"
          refine ixT (SqT.of hp) rfl ?_
          rcases d with _ | y
          · walk_at "gz"
            exact ⟨_, _, _, rfl, rfl⟩
          · walk_at "gz"
            refine ixT (SqT.of hp) rfl (ixT (SqT.of hp) rfl ?_)
            walk_at "gz"
            have hxy : ¬ y < x := by simpa [okS, crossed] using hc
            rw [if_neg hxy]
            exact ⟨_, _, _, rfl, rfl⟩
    · rintro σ H1 ⟨e1, e2, e3, rfl, rfl⟩
      walk_at "gzn"
      refine ⟨_, lenL (SqL.of hA), by omega, by omega, by_range (invF H1 a) ⟨_, _, _, rfl, rfl⟩ ?_ ?_⟩
      · rintro i σ H2 hi ⟨e1, e2, e3, rfl, rfl⟩
        have hi1 : i < xs.length := by omega
        have hi2 : i + 1 < xs.length := by omega
        have g1 : xs[i]? = some xs[i] := List.getElem?_eq_getElem hi1
        have g2 : xs[i + 1]? = some xs[i + 1] := List.getElem?_eq_getElem hi2
        obtain ⟨⟨c, d⟩, es, p, ep, hp⟩ := hs0.get g1
        obtain ⟨⟨c', d'⟩, es', p', ep', hp'⟩ := hs0.get g2
        obtain ⟨h, l, e1, e2, e3⟩ := hap.get es es'
        dsimp only at e1 e2 hp hp'
        subst e1 e2
        rw [ep] at g1
        rw [ep'] at g2
        have a1 : atI xs (0 + (i : Int)) = some (.ref p) := by rw [Int.zero_add]; exact atI_nat g1
        have a2 : atI xs (0 + (i : Int) + 1) = some (.ref p') := by
          have := atI_nat g2
          rw [Int.zero_add]
          exact_mod_cast this
        walk_at "gz"
        refine ixL (SqL.of hA) a1 (ixT (SqT.of hp) rfl ?_)
        walk_at "gz"
        refine ixL (SqL.of hA) a2 (ixT (SqT.of hp') rfl ?_)
        walk_at "gz"
        refine ixL (SqL.of hA) a1 (ixT (SqT.of hp) rfl ?_)
        walk_at "gz"
        refine ixL (SqL.of hA) a2 (ixT (SqT.of hp') rfl ?_)
        walk_at "gz"
        rw [if_neg (by omega)]
        exact ⟨_, _, _, rfl, rfl⟩
      · rintro σ H2 ⟨e1, e2, e3, rfl, rfl⟩
        walk_at "gz"
        exact q
def sp_numbers (K : PySem.W.Frag) : Sp := fun vs H Q _ => ∃ (a : Addr) (xs : List V) (as : List S2), vs = [.ref a] ∧ SqL K H a xs ∧ xs.length ≤ 1000 ∧ Sts H xs as ∧ ∀ (l : Addr) (ns : List Int) (H' : Hp), Same H H' → H' l = some (.lst (ns.map V.int)) → ns.length ≤ 1 + 6 * xs.length → Q (.ref l) H'
def invN (H : Hp) (a l : Addr) (i : Nat) (σ : St) (H1 : Hp) : Prop := ∃ (ns : List Int) (e1 e2 : Option V), σ = [some (.ref a), some (.ref l), e1, e2] ∧ Same H H1 ∧ H1 l = some (.lst (ns.map V.int)) ∧ ns.length ≤ 1 + 6 * i
def invN2 (H : Hp) (a l p : Addr) (i j : Nat) (σ : St) (H1 : Hp) : Prop := ∃ (ns : List Int) (e2 : Option V), σ = [some (.ref a), some (.ref l), some (.ref p), e2] ∧ Same H H1 ∧ H1 l = some (.lst (ns.map V.int)) ∧ ns.length ≤ 1 + 6 * i + 3 * j
theorem ok_law_numbers (T : Tx K mg) : FnOk P w K mg base (CXX P w) 1 T.a_law_numbers T.fd_law_numbers ["_law_some_here"] (sp_numbers K) := by
  refine okN T.F_law_numbers sc_law_numbers (fun vs H Q E h => ?_) (fun cdv A outer s H vs Q E hr h => ?_)
  · obtain ⟨a, xs, as, rfl, _⟩ := h
    rfl
  · obtain ⟨a, xs, as, rfl, hS, hz, hs0, q⟩ := h
    refine ⟨_, (pss_cons (ps_set (i := 1) sc_law_numbers.nd rfl (Or.inl rfl) (pe_lst (pa_cons pe_int pa_nil)))
    (pss_cons (ps_for PassesOwn.never rfl (pi_list (pv 0)) (pg_name (i := 2) sc_law_numbers.nd rfl (Or.inl rfl)) (pss_one (ps_for PassesOwn.never rfl (pi_tup (pv 2)) (pg_name (i := 3) sc_law_numbers.nd rfl (Or.inl rfl)) (pss_one (ps_if (pt_cmp (pc_notN (pv 3))) (pss_one (ps_expr (pe_bm PySem.F.plainAttrs_list PySem.F.slot_list_extend PySem.F.type_list_extend mt_extend (pv 1) (pa_cons (pe_lst (pa_cons (pe_op op_sub (pv 3) pe_int) (pa_cons (pv 3) (pa_cons (pe_op op_add (pv 3) pe_int) pa_nil)))) pa_nil)))) pss_nil)))))
    (pss_one (ps_ret (pv 1))))), ?_⟩
    walk_at "gz"
    refine ⟨by decide, fun l hl => ?_⟩
    have s1 := same_upd (o := .lst [.int 0]) hl
    refine ⟨⟨_, s1.seq hS⟩, by_list (xs := xs) (invN H a l) ⟨[0], _, _, rfl, s1, upd_same, Nat.le_refl _⟩ ?_ ?_ ?_⟩
    · rintro i σ H1 _ ⟨_, _, _, _, s, _⟩
      exact s.seq hS
    · rintro i x σ H1 hx ⟨ns, e1, e2, rfl, s2, L2, hn⟩
      have hi : i < xs.length := (List.getElem?_eq_some_iff.mp hx).1
      obtain ⟨⟨c, d⟩, es, p, rfl, hp⟩ := hs0.get hx
      walk_at "gz"
      refine ⟨⟨_, SqT.of (s2 _ _ hp)⟩, by_tup (xs := [ev c, ev d]) (invN2 H a l p i) ⟨ns, _, rfl, s2, L2, by omega⟩ ?_ ?_ ?_⟩
      · rintro j σ H2 _ ⟨_, _, _, s, _⟩
        exact SqT.of (s _ _ hp)
      · rintro j e σ H2 he ⟨ms, e2, rfl, s3, L3, hm⟩
        have hj : j < 2 := (List.getElem?_eq_some_iff.mp he).1
        obtain ⟨e', rfl⟩ : ∃ e' : En, e = ev e' := by
          have := List.mem_of_getElem? he
          simp at this
          rcases this with h | h
          · exact ⟨_, h⟩
          · exact ⟨_, h⟩
        rcases e' with _ | n
        · walk_at "gz"
          exact ⟨ms, _, rfl, s3, L3, by omega⟩
        · walk_at "gz"
          refine ⟨.inl ⟨rfl, _, SqL.of L3⟩, by decide, fun m hm2 => ?_⟩
          refine ⟨_, (upd_ne (ne_of_none L3 hm2)).trans L3, _, upd_same, ?_, ms ++ [n - 1, n, n + 1], _, rfl, same_put hl (s3.trans (same_upd hm2)), ?_, ?_⟩
          · rw [List.length_map]
            show ms.length + 3 ≤ sizeLine
            exact Nat.le_trans (by omega : ms.length + 3 ≤ 6100) (by decide)
          · rw [upd_same, List.map_append]; rfl
          · rw [List.length_append]; show ms.length + 3 ≤ _; omega
      · rintro σ H2 ⟨ms, e2, rfl, s3, L3, hm⟩
        simp only [List.length_cons, List.length_nil] at hm
        exact ⟨ms, _, _, rfl, s3, L3, by omega⟩
    · rintro σ H1 ⟨ns, e1, e2, rfl, s2, L2, hn⟩
      walk_at "gz"
      exact q _ _ _ s2 L2 hn
theorem step3_lt {k : Int} {i : Nat} (h : i < stepN 1 k 3) : 1 + (i : Int) * 3 < k := by
  unfold stepN Builtin.Range.rangeSize at h
  rw [if_pos (by decide)] at h
  split at h
  · omega
  · simp at h
theorem step3_le (k : Int) (hk : k ≤ 59) : stepN 1 k 3 ≤ 20 := by
  unfold stepN Builtin.Range.rangeSize
  rw [if_pos (by decide)]
  split
  · omega
  · simp
def sp_some (K : PySem.W.Frag) : Sp := fun vs H Q _ => ∃ (a : Addr) (ns : List Int), vs = [.ref a] ∧ SqL K H a (ns.map V.int) ∧ ns.length ≤ 63 ∧ ∀ l xs as H', Same H H' → H' l = some (.lst xs) → Sts H' xs as → (∀ s ∈ as, okS s) → as.length ≤ 20 → Q (.ref l) H'
def inv_some (a r : Addr) (b : Int) (H : Hp) (i : Nat) (σ : St) (H1 : Hp) : Prop := ∃ (xs : List V) (as : List S2) (e : Option V), σ = [some (.ref a), some (.int b), some (.ref r), e] ∧ Same H H1 ∧ H1 r = some (.lst xs) ∧ Sts H1 xs as ∧ (∀ s ∈ as, okS s) ∧ xs.length ≤ i
theorem ok_law_some (T : Tx K mg) : FnOk P w K mg base (CXX P w) 2 T.a_law_some T.fd_law_some ["_law_script"] (sp_some K) := by
  refine okN T.F_law_some sc_law_some (fun vs H Q E h => ?_) (fun cdv A outer s H vs Q E hr h => ?_)
  · obtain ⟨a, ns, rfl, _⟩ := h
    rfl
  · obtain ⟨a, ns, rfl, hS, hn, q⟩ := h
    refine ⟨_, (pss_cons (ps_set (i := 1) sc_law_some.nd rfl (Or.inl rfl) (pe_ix ix_seq (pe_tup (pa_cons (pe_un un_neg pe_int) (pa_cons (pe_op op_pow pe_int pe_int) (pa_cons (pe_un un_neg (pe_op op_pow pe_int pe_int)) pa_nil)))) (pe_op op_mod (pe_call (ok_law_cell T) (hr.mono (by decide)) rfl T.m_law_cell T.F_law_cell.kp T.b_law_cell .nil passE0 (pa_cons (pv 0) (pa_cons pe_int pa_nil))) pe_int) (fun _ _ => rfl)))
    (pss_cons (ps_set (i := 2) sc_law_some.nd rfl (Or.inl rfl) (pe_lst pa_nil))
    (pss_cons (ps_for PassesOwn.never rfl (pi_range3 rfl T.n_range (pa_cons pe_int (pa_cons (pe_op op_sub (pe_callB (call_min2 rfl) (by rfl) T.n_min b_min (pa_cons (pe_callB call_len (by rfl) T.n_len b_len (pa_cons (pv 0) pa_nil)) (pa_cons pe_int pa_nil))) pe_int) (pa_cons pe_int pa_nil)))) (pg_name (i := 3) sc_law_some.nd rfl (Or.inl rfl)) (pss_one (ps_if (PW.pt (pw_and (pt_cmpR op_eq (pe_op op_mod (pe_ix ix_seq (pv 0) (pe_op op_add (pv 3) pe_int) (fun _ _ => rfl)) pe_int) pe_int (nomark _)) (pw_and1 (pt_cmpR op_gt (pe_callB call_len (by rfl) T.n_len b_len (pa_cons (pv 2) pa_nil)) pe_int (nomark _))))) (pss_one (ps_expr (pe_bm PySem.F.plainAttrs_list PySem.F.slot_list_append PySem.F.type_list_append mt_append (pv 2) (pa_cons (pe_ix ix_seq (pv 2) (pe_un un_neg pe_int) (fun _ _ => rfl)) pa_nil)))) (pss_one (ps_expr (pe_bm PySem.F.plainAttrs_list PySem.F.slot_list_append PySem.F.type_list_append mt_append (pv 2) (pa_cons (pe_call (ok_law_stretch_by T) (hr.mono (by decide)) rfl T.m_law_stretch_by T.F_law_stretch_by.kp T.b_law_stretch_by .nil passE0 (pa_cons (pe_ix ix_seq (pv 0) (pv 3) (fun _ _ => rfl)) (pa_cons (pe_ix ix_seq (pv 0) (pe_op op_add (pv 3) pe_int) (fun _ _ => rfl)) (pa_cons (pv 1) pa_nil)))) pa_nil)))))))
    (pss_one (ps_ret (pv 2)))))), ?_⟩
    walk_at "gzn"
    refine ⟨⟨by decide, by decide, by decide⟩, ⟨by decide, by decide, by decide⟩, by decide, fun t ht => ?_⟩
    have s1 := same_upd (o := .tup [.int (-10), .int 100000000000000000000000000000000000000000000000000, .int (-100000000000000000000000000000000000000000000000000)]) ht
    refine ⟨a, ns, 0, rfl, s1.seq hS, by decide, _, rfl, by decide, ?_⟩
    obtain ⟨b, hb⟩ : ∃ b, atI [V.int (-10), V.int 100000000000000000000000000000000000000000000000000, V.int (-100000000000000000000000000000000000000000000000000)] (cellD ns 0 % 3) = some (.int b) := by
      have h1 := Int.emod_nonneg (cellD ns 0) (show (3 : Int) ≠ 0 by decide)
      have h2 := Int.emod_lt_of_pos (cellD ns 0) (show (0 : Int) < 3 by decide)
      generalize cellD ns 0 % 3 = k at h1 h2 ⊢
      have : k = 0 ∨ k = 1 ∨ k = 2 := by omega
      rcases this with rfl | rfl | rfl
      · exact ⟨_, rfl⟩
      · exact ⟨_, rfl⟩
      · exact ⟨_, rfl⟩
    refine ixT (SqT.of upd_same) hb ⟨Nat.zero_le _, fun r hr0 => ?_⟩
    have S2 := s1.trans (same_upd (o := .lst []) hr0)
    have Hr : H r = none := s1.free hr0
    have R2 : upd (upd H t (.tup [.int (-10), .int 100000000000000000000000000000000000000000000000000, .int (-100000000000000000000000000000000000000000000000000)])) r (.lst []) r = some (.lst []) := upd_same
    generalize upd (upd H t (.tup [.int (-10), .int 100000000000000000000000000000000000000000000000000, .int (-100000000000000000000000000000000000000000000000000)])) r (.lst []) = H2 at S2 R2 ⊢
    refine ⟨_, lenL (S2.seq hS), ?_⟩
    rw [List.length_map]
    have hm : (if (61 : Int) < (ns.length : Int) then (61 : Int) else (ns.length : Int)) ≤ 61 ∧ (if (61 : Int) < (ns.length : Int) then (61 : Int) else (ns.length : Int)) ≤ (ns.length : Int) ∧ 0 ≤ (if (61 : Int) < (ns.length : Int) then (61 : Int) else (ns.length : Int)) := by split <;> omega
    generalize (if (61 : Int) < (ns.length : Int) then (61 : Int) else (ns.length : Int)) = m at hm ⊢
    refine ⟨by decide, by decide, by omega, by omega, by decide, by decide, by decide, by_step (inv_some a r b H) ⟨[], [], _, rfl, S2, R2, trivial, fun s hs => (nomatch hs), Nat.le_refl _⟩ ?_ ?_⟩
    · rintro i σ H3 hi ⟨xs, as, e, rfl, S3, R3, hs3, ho, hl⟩
      have hlt := step3_lt hi
      have hle := step3_le (m - 2) (by omega)
      obtain ⟨c1, a1⟩ := at_script (ns := ns) (k := 1 + (i : Int) * 3) (by omega) (by omega)
      obtain ⟨c2, a2⟩ := at_script (ns := ns) (k := 1 + (i : Int) * 3 + 1) (by omega) (by omega)
      obtain ⟨c3, a3⟩ := at_script (ns := ns) (k := 1 + (i : Int) * 3 + 2) (by omega) (by omega)
      have make : tyV K "list" (.ref r) H3 ∧ rIx K (.ref a) (.int (1 + (i : Int) * 3)) H3 (fun x H1 => rIx K (.ref a) (.int (1 + (i : Int) * 3 + 1)) H1 fun y H2 => sp_stretchby [x, y, .int b] H2 (fun z H4 => ∃ xs', H4 r = some (.lst xs') ∧ xs'.length < sizeLine ∧ inv_some a r b H (i + 1) [some (.ref a), some (.int b), some (.ref r), some (.int (1 + (i : Int) * 3))] (upd H4 r (.lst (xs' ++ [z])))) E0) := by
        refine ⟨.inl ⟨rfl, _, SqL.of R3⟩, ixL (S3.seq hS) a1 (ixL (S3.seq hS) a2 ⟨c1, c2, b, rfl, fun p hp => ?_⟩)⟩
        have s4 := same_upd (o := .tup [ev (stBy c1 c2 b).1, ev (stBy c1 c2 b).2]) hp
        have R4 := s4 _ _ R3
        refine ⟨xs, R4, Nat.lt_of_le_of_lt hl (Nat.lt_of_lt_of_le (by omega : i < 31) (by decide)), xs ++ [.ref p], as ++ [stBy c1 c2 b], _, rfl, same_put Hr (S3.trans s4), upd_same, Sts.put R4 (Sts.app (hs3.same s4) ⟨IsS.new, trivial⟩), fun s hs => ?_, ?_⟩
        · rcases List.mem_append.mp hs with hs | hs
          · exact ho s hs
          · have : s = stBy c1 c2 b := by simpa using hs
            subst this; exact stBy_ok _ _ _
        · rw [List.length_append, List.length_singleton]; omega
      walk_at "gzn"
      refine ixL (S3.seq hS) a3 ?_
      walk_at "gzn"
      refine ⟨by decide, ?_⟩
      split
      · refine ⟨_, lenL (SqL.of R3), ?_⟩
        split
        · rename_i h0 h1
          have hal := hs3.len
          obtain ⟨zs, z, e0⟩ : ∃ zs z, as = zs ++ [z] := ⟨as.dropLast, as.getLast (fun z => by rw [z, List.length_nil] at hal; omega), (List.dropLast_concat_getLast _).symm⟩
          subst e0
          obtain ⟨ws, v, e1, W4, hv⟩ := Sts.snoc_inv hs3
          have il : atI xs (-1) = some v := by rw [e1]; exact atI_last ws v
          refine ⟨.inl ⟨rfl, _, SqL.of R3⟩, ixL (SqL.of R3) il ?_⟩
          walk_at "gzn"
          refine ⟨xs, R3, Nat.lt_of_le_of_lt hl (Nat.lt_of_lt_of_le (by omega : i < 31) (by decide)), xs ++ [v], zs ++ [z] ++ [z], _, rfl, same_put Hr S3, upd_same, Sts.put R3 (Sts.app hs3 ⟨hv, trivial⟩), fun s hs => ?_, ?_⟩
          · rcases List.mem_append.mp hs with hs | hs
            · exact ho s hs
            · have : s = z := by simpa using hs
              subst this; exact ho _ (by simp)
          · rw [List.length_append, List.length_singleton]; omega
        · exact make
      · exact make
    · rintro σ H3 ⟨xs, as, e3, rfl, S3, R3, hs3, ho, hl⟩
      have hle := step3_le (m - 2) (by omega)
      have hal := hs3.len
      walk_at "gzn"
      exact q r xs as _ S3 R3 hs3 ho (by omega)
def sp_count (K : PySem.W.Frag) : Sp := fun vs H Q _ => ∃ (a : Addr) (xs : List V) (as : List S2) (n : Int), vs = [.ref a, .int n] ∧ SqL K H a xs ∧ Sts H xs as ∧ Q (.int (cnt as n : Nat)) H
def inv_count (H : Hp) (a : Addr) (n : Int) (as : List S2) (i : Nat) (σ : St) (H1 : Hp) : Prop := ∃ (e : Option V), σ = [some (.ref a), some (.int n), some (.int (cnt (as.take i) n : Nat)), e] ∧ H1 = H
theorem cnt_take {as : List S2} {i : Nat} {s : S2} {n : Int} (h : as[i]? = some s) : cnt (as.take (i + 1)) n = cnt (as.take i) n + if hs s n = true then 1 else 0 := by
  unfold cnt
  rw [List.take_succ, h]
  show ((as.take i ++ [s]).filter _).length = _
  rw [List.filter_append, List.length_append]
  congr 1
  rw [List.filter_cons]
  split <;> rfl
theorem ok_law_count (T : Tx K mg) : FnOk P w K mg base (CXX P w) 1 T.a_law_count T.fd_law_count ["_law_some_here", "_law_number"] (sp_count K) := by
  refine okN T.F_law_count sc_law_count (fun vs H Q E h => ?_) (fun cdv A outer s H vs Q E hr h => ?_)
  · obtain ⟨a, xs, as, n, rfl, _⟩ := h
    rfl
  · obtain ⟨a, xs, as, n, rfl, hS, hs0, q⟩ := h
    refine ⟨_, (pss_cons (ps_set (i := 2) sc_law_count.nd rfl (Or.inl rfl) pe_int)
    (pss_cons (ps_for PassesOwn.never rfl (pi_list (pv 0)) (pg_name (i := 3) sc_law_count.nd rfl (Or.inl rfl)) (pss_one (ps_if (PW.pt (pw_and (PW.pt (pw_or (pt_cmp (pc_isN (pe_ix ix_seq (pv 3) pe_int (fun _ _ => rfl)))) (pw_or1 (pt_cmpR op_le (pe_ix ix_seq (pv 3) pe_int (fun _ _ => rfl)) (pv 1) (nomark _))))) (pw_and1 (PW.pt (pw_or (pt_cmp (pc_isN (pe_ix ix_seq (pv 3) pe_int (fun _ _ => rfl)))) (pw_or1 (pt_cmpR op_le (pv 1) (pe_ix ix_seq (pv 3) pe_int (fun _ _ => rfl)) (nomark _)))))))) (pss_one (ps_set (i := 2) sc_law_count.nd rfl (Or.inl rfl) (pe_op op_add (pv 2) pe_int))) pss_nil)))
    (pss_one (ps_ret (pv 2))))), ?_⟩
    walk_at "gz"
    refine ⟨⟨_, hS⟩, by_list (xs := xs) (inv_count H a n as) ⟨_, rfl, rfl⟩ ?_ ?_ ?_⟩
    · rintro i σ H1 _ ⟨_, _, rfl⟩
      exact hS
    · rintro i x σ H1 hx ⟨e, rfl, rfl⟩
      obtain ⟨⟨c, d⟩, es, p, rfl, hp⟩ := hs0.get hx
      have ct := cnt_take (n := n) es
      have yes : hs (c, d) n = true → inv_count H1 a n as (i + 1) [some (.ref a), some (.int n), some (.int ((cnt (as.take i) n : Nat) + 1)), some (.ref p)] H1 := fun z => ⟨some (.ref p), by rw [ct, if_pos z]; rfl, rfl⟩
      have no : hs (c, d) n ≠ true → inv_count H1 a n as (i + 1) [some (.ref a), some (.int n), some (.int (cnt (as.take i) n : Nat)), some (.ref p)] H1 := fun z => ⟨some (.ref p), by rw [ct, if_neg z]; rfl, rfl⟩
      have hd : ∀ m : Int, hs (c, d) m = hold c d m := fun _ => rfl
      rw [hd] at yes no
      walk_at "gz"
      refine ixT (SqT.of hp) rfl ?_
      have hi2 : (∀ x, c = some x → ¬ n < x) → rIx K (.ref p) (.int 1) H1 fun x H1_1 => if x = .non then inv_count H1 a n as (i + 1) [some (.ref a), some (.int n), some (.int ((cnt (as.take i) n : Nat) + 1)), some (.ref p)] H1_1 else rIx K (.ref p) (.int 1) H1_1 fun x_1 H1_2 => ∃ x_2, x_1 = .int x_2 ∧ if n ≤ x_2 then inv_count H1 a n as (i + 1) [some (.ref a), some (.int n), some (.int ((cnt (as.take i) n : Nat) + 1)), some (.ref p)] H1_2 else inv_count H1 a n as (i + 1) [some (.ref a), some (.int n), some (.int (cnt (as.take i) n : Nat)), some (.ref p)] H1_2 := fun hc => by
        have eh : hold c d n = hold none d n := by
          rcases c with _ | x
          · rfl
          · exact hold_lo d (hc x rfl)
        rw [eh] at yes no
        refine ixT (SqT.of hp) rfl ?_
        rcases d with _ | y
        · walk_at "gz"
          exact yes rfl
        · walk_at "gz"
          refine ixT (SqT.of hp) rfl ?_
          walk_at "gz"
          rw [hold_hi] at yes no
          split
          · rename_i hy
            exact yes (decide_eq_true hy)
          · rename_i hy
            exact no (by simpa using hy)
      rcases c with _ | x
      · walk_at "gz"
        exact hi2 (fun x z => nomatch z)
      · walk_at "gz"
        refine ixT (SqT.of hp) rfl ?_
        walk_at "gz"
        split
        · rename_i hx2
          refine hi2 fun x' e' => ?_
          cases e'
          omega
        · rename_i hx2
          exact no (by rw [hold_out d (by omega)]; exact Bool.false_ne_true)
    · rintro σ H1 ⟨e, rfl, rfl⟩
      walk_at "gz"
      rw [List.take_of_length_le (by rw [← hs0.len]; exact Nat.le_refl _)]
      exact q
end
end K16

set_option Elab.async false
set_option linter.all false
set_option maxRecDepth 100000
set_option maxHeartbeats 1000000
namespace K16
open PySem L2 Gz
local macro_rules | `(tactic| walk_at "gz") => `(tactic| try simp only [ev_none, ev_some, tSeq, tIfS, tTest, tOp, tUn, tVar, tC, tRet, tNext, tAsg, gName, tCB, tCons, tNil, tCall, tIsN, tNotN, tB, tAnd, tOr, tNot, tAndV, tOrV, tNotV, tIf, tDrop, rI, rI0, rU, rEq, rNe, scal_ii, scal_bb, scal_in, scal_ni, scal_nn, isi_ii, isi_ib, isi_bi, isi_bb, isi_ni, isi_nt, ite_tt, ite_ff, L2.start, cxK, cxN, List.map_cons, List.map_nil, List.length_cons, List.length_nil, List.replicate, List.append_nil, List.nil_append, List.cons_append, List.getElem?_cons_zero, List.getElem?_cons_succ, List.set_cons_zero, List.set_cons_succ, Option.some.injEq, V.int.injEq, V.bl.injEq, V.ref.injEq, List.cons.injEq, exists_eq_left, exists_eq_left', exists_and_left, true_and, and_true, decide_eq_true_eq, Nat.zero_add, Nat.sub_self, Nat.add_one_sub_one, Nat.reduceAdd, Nat.reduceSub, reduceCtorEq, decide_true, decide_false, Bool.not_true, Bool.not_false, Bool.not_eq_true', decide_eq_false_iff_not, false_and, exists_false, and_assoc, tTup, tLst, tBM, tBM0, rAppend, rExtend, for_rng1, for_lst, for_tpl, ↓reduceIte, not_false_eq_true, not_true_eq_false, tComp, tMM, tSortK, tSetC, iTup, iList, tAll, gSub, rSetL, iRng3, iRng2, iRng1, for_rng2, for_rng3, tFld, sFld, tMeth, tMake, tSl, tNoPart, tPart, rSlL, rCat, for_rev, for_enum, for_zip, tChain, tCompG, iRev, iEnum, iZip, Option.join_some])
local macro_rules | `(tactic| walk_at "gza") => `(tactic| simp only [ev_none, ev_some, tSeq, tIfS, tTest, tOp, tUn, tVar, tC, tRet, tNext, tAsg, gName, tCB, tCons, tNil, tCall, tIsN, tNotN, tB, tAnd, tOr, tNot, tAndV, tOrV, tNotV, tIf, tDrop, rI, rI0, rU, rEq, rNe, scal_ii, scal_bb, scal_in, scal_ni, scal_nn, isi_ii, isi_ib, isi_bi, isi_bb, isi_ni, isi_nt, ite_tt, ite_ff, L2.start, cxK, cxN, List.map_cons, List.map_nil, List.length_cons, List.length_nil, List.replicate, List.append_nil, List.nil_append, List.cons_append, List.getElem?_cons_zero, List.getElem?_cons_succ, List.set_cons_zero, List.set_cons_succ, Option.some.injEq, V.int.injEq, V.bl.injEq, V.ref.injEq, List.cons.injEq, exists_eq_left, exists_eq_left', exists_and_left, true_and, and_true, decide_eq_true_eq, Nat.zero_add, Nat.sub_self, Nat.add_one_sub_one, Nat.reduceAdd, Nat.reduceSub, reduceCtorEq, decide_true, decide_false, Bool.not_true, Bool.not_false, Bool.not_eq_true', decide_eq_false_iff_not, false_and, exists_false, and_assoc, tTup, tLst, tBM, tBM0, rAppend, rExtend, for_rng1, for_lst, for_tpl, ↓reduceIte, not_false_eq_true, not_true_eq_false, tComp, tMM, tSortK, tSetC, iTup, iList, tAll, gSub, rSetL, iRng3, iRng2, iRng1, for_rng2, for_rng3, tFld, sFld, tMeth, tMake, tSl, tNoPart, tPart, rSlL, rCat, for_rev, for_enum, for_zip, tChain, tCompG, iRev, iEnum, iZip, Option.join_some] at *)
local macro_rules | `(tactic| walk_at "sd") => `(tactic| (and_intros <;> first | assumption | exact bd200 (by decide) | exact bd200 (em30 _) | exact mul200 (by decide) (by decide) | exact ⟨by decide, by decide, by decide⟩ | decide | omega))
local macro_rules | `(tactic| walk_at "gzn") => `(tactic| (try simp only [ev_none, ev_some, tSeq, tIfS, tTest, tOp, tUn, tVar, tC, tRet, tNext, tAsg, gName, tCB, tCons, tNil, tCall, tIsN, tNotN, tB, tAnd, tOr, tNot, tAndV, tOrV, tNotV, tIf, tDrop, rI, rI0, rU, rEq, rNe, scal_ii, scal_bb, scal_in, scal_ni, scal_nn, isi_ii, isi_ib, isi_bi, isi_bb, isi_ni, isi_nt, ite_tt, ite_ff, L2.start, cxK, cxN, List.map_cons, List.map_nil, List.length_cons, List.length_nil, List.replicate, List.append_nil, List.nil_append, List.cons_append, List.getElem?_cons_zero, List.getElem?_cons_succ, List.set_cons_zero, List.set_cons_succ, Option.some.injEq, V.int.injEq, V.bl.injEq, V.ref.injEq, List.cons.injEq, exists_eq_left, exists_eq_left', exists_and_left, true_and, and_true, decide_eq_true_eq, Nat.zero_add, Nat.sub_self, Nat.add_one_sub_one, Nat.reduceAdd, Nat.reduceSub, reduceCtorEq, decide_true, decide_false, Bool.not_true, Bool.not_false, Bool.not_eq_true', decide_eq_false_iff_not, false_and, exists_false, and_assoc, tTup, tLst, tBM, tBM0, rAppend, rExtend, for_rng1, for_lst, for_tpl, ↓reduceIte, not_false_eq_true, not_true_eq_false, tComp, tMM, tSortK, tSetC, iTup, iList, tAll, gSub, rSetL, iRng3, iRng2, iRng1, for_rng2, for_rng3, tFld, sFld, tMeth, tMake, tSl, tNoPart, tPart, rSlL, rCat, for_rev, for_enum, for_zip, tChain, tCompG, iRev, iEnum, iZip, Option.join_some, Int.reducePow, Int.reduceToNat, Int.reduceMul, Int.reduceAdd]))

section
variable {P : Program} {w : World} {K : PySem.W.Frag} {mg : Str → Option Value} {base : Heap}
theorem any_cnt {gs : List S2} {n : Int} : (gs.any fun s => hs s n) = decide (0 < cnt gs n) := by
  unfold cnt
  rw [Bool.eq_iff_iff, List.any_eq_true, decide_eq_true_eq, List.length_pos_iff]
  constructor
  · rintro ⟨s, h1, h2⟩ z
    have : s ∈ gs.filter fun s => hs s n := List.mem_filter.mpr ⟨h1, h2⟩
    rw [z] at this; cases this
  · intro h
    obtain ⟨s, hs0⟩ := List.exists_mem_of_ne_nil _ h
    exact ⟨s, (List.mem_filter.mp hs0).1, (List.mem_filter.mp hs0).2⟩
def sp_law (K : PySem.W.Frag) : Sp := fun vs H Q _ => ∃ (a : Addr) (ns : List Int), vs = [.ref a] ∧ SqL K H a (ns.map V.int) ∧ ns.length ≤ 63 ∧ ∀ H', Q (.bl true) H'
def inv_law (H : Hp) (a l h p : Addr) (_ : Nat) (σ : St) (H1 : Hp) : Prop := ∃ (e1 e2 e3 : Option V), σ = [some (.ref a), some (.ref l), some (.ref h), some (.ref p), e1, e2, e3] ∧ H1 = H
theorem ok_law (T : Tx K mg) : FnOk P w K mg base (CXX P w) 7 T.a_law T.fd_law ["_law_script"] (sp_law K) := by
  refine okN T.F_law sc_law (fun vs H Q E h => ?_) (fun cdv A outer s H vs Q E hr h => ?_)
  · obtain ⟨a, ns, rfl, _⟩ := h
    rfl
  · obtain ⟨a, ns, rfl, hS, hn, q⟩ := h
    refine ⟨_, (pss_cons (ps_set (i := 1) sc_law.nd rfl (Or.inl rfl) (pe_call (ok_law_some T) (hr.mono (by decide)) rfl T.m_law_some T.F_law_some.kp T.b_law_some .nil passE0 (pa_cons (pv 0) pa_nil)))
    (pss_cons (ps_set (i := 2) sc_law.nd rfl (Or.inl rfl) (pe_callTy call_list_of (by rfl) T.n_list b_list (pa_cons (pv 1) pa_nil)))
    (pss_cons (ps_set (i := 3) sc_law.nd rfl (Or.inl rfl) (pe_call (ok_most_agree T) (hr.mono (by decide)) rfl T.m_most_agree T.F_most_agree.kp T.b_most_agree .nil passE0 (pa_cons (pv 2) pa_nil)))
    (pss_cons (ps_if (PW.pt (pw_or (pt_cmpR (op_neD hr.units) (pv 2) (pv 1) (nomark _)) (pw_or (pt_not (pt_val (pe_callB call_isiA (by rfl) T.n_isinstance b_isinstance (pa_cons (pv 3) (pa_cons (pe_bltn (v := .ty "tuple") rfl T.n_tuple b_tuple rfl) pa_nil))))) (pw_or1 (pt_cmpR op_ne (pe_callB call_len (by rfl) T.n_len b_len (pa_cons (pv 3) pa_nil)) pe_int (nomark _)))))) (pss_one (ps_ret pe_bl)) pss_nil)
    (pss_cons (ps_if (PW.pt (pw_or (pt_not (pt_val (pe_call (ok_law_whole T) (hr.mono (by decide)) rfl T.m_law_whole T.F_law_whole.kp T.b_law_whole .nil passE0 (pa_cons (pe_ix ix_seq (pv 3) pe_int (fun _ _ => rfl)) pa_nil)))) (pw_or1 (pt_not (pt_val (pe_call (ok_law_form T) (hr.mono (by decide)) rfl T.m_law_form T.F_law_form.kp T.b_law_form .nil passE0 (pa_cons (pe_ix ix_seq (pv 3) pe_int (fun _ _ => rfl)) pa_nil))))))) (pss_one (ps_ret pe_bl)) pss_nil)
    (pss_cons (ps_for PassesOwn.never rfl (pi_list (pe_call (ok_law_numbers T) (hr.mono (by decide)) rfl T.m_law_numbers T.F_law_numbers.kp T.b_law_numbers .nil passE0 (pa_cons (pe_op op_cat (pv 1) (pe_ix ix_seq (pv 3) pe_int (fun _ _ => rfl))) pa_nil))) (pg_name (i := 4) sc_law.nd rfl (Or.inl rfl)) (pss_cons (ps_set (i := 5) sc_law.nd rfl (Or.inl rfl) (pe_call (ok_law_count T) (hr.mono (by decide)) rfl T.m_law_count T.F_law_count.kp T.b_law_count .nil passE0 (pa_cons (pv 1) (pa_cons (pv 4) pa_nil))))
        (pss_one (ps_if (PW.pt (pw_or (pt_cmpR op_gt (pv 5) (pe_ix ix_seq (pv 3) pe_int (fun _ _ => rfl)) (nomark _)) (pw_or1 (pt_cmpR op_ne (pe_cmpR op_eq (pv 5) (pe_ix ix_seq (pv 3) pe_int (fun _ _ => rfl)) (nomark _)) (pe_cmpR op_gt (pe_call (ok_law_count T) (hr.mono (by decide)) rfl T.m_law_count T.F_law_count.kp T.b_law_count .nil passE0 (pa_cons (pe_ix ix_seq (pv 3) pe_int (fun _ _ => rfl)) (pa_cons (pv 4) pa_nil))) pe_int (nomark _)) (nomark _))))) (pss_one (ps_ret pe_bl)) pss_nil))))
    (pss_cons (ps_set (i := 6) sc_law.nd rfl (Or.inl rfl) (pe_call (ok_most_agree T) (hr.mono (by decide)) rfl T.m_most_agree T.F_most_agree.kp T.b_most_agree .nil passE0 (pa_cons (pe_lst pa_nil) pa_nil)))
    (pss_one (ps_ret (pe_and (pe_callB call_isiA (by rfl) T.n_isinstance b_isinstance (pa_cons (pv 6) (pa_cons (pe_bltn (v := .ty "tuple") rfl T.n_tuple b_tuple rfl) pa_nil))) (pe_and (pe_cmpR (op_eqD hr.units) (pv 6) (pe_tup (pa_cons pe_int (pa_cons (pe_lst (pa_cons (pe_tup (pa_cons pe_non (pa_cons pe_non pa_nil))) pa_nil)) pa_nil))) (nomark _)) (pe_one (pe_call (ok_law_whole T) (hr.mono (by decide)) rfl T.m_law_whole T.F_law_whole.kp T.b_law_whole .nil passE0 (pa_cons (pe_ix ix_seq (pv 6) pe_int (fun _ _ => rfl)) pa_nil)))))))))))))), ?_⟩
    walk_at "gzn"
    refine ⟨a, ns, rfl, hS, hn, fun l xs as H1 s1 L1 A1 ho hal => ?_⟩
    have hxl := A1.len
    walk_at "gzn"
    refine ⟨_, .inl (SqL.of L1), fun h hh => ?_⟩
    have s2 := same_upd (o := .lst xs) hh
    have B2 : upd H1 h (.lst xs) h = some (.lst xs) := upd_same
    generalize upd H1 h (.lst xs) = H2 at s2 B2 ⊢
    have L2 := s2 _ _ L1
    have A2 := A1.same s2
    refine ⟨h, xs, as, rfl, SqL.of B2, A2, by omega, fun p f fs gs m H3 s3 P3 F3 G3 hap hok hheld hgl htop hne hnil => ?_⟩
    have L3 := s3 _ _ L2
    have A3 := A2.same s3
    have hgl2 := G3.len
    have key : ∀ n : Int, decide ((cnt as n : Int) = m) = decide ((0 : Int) < (cnt gs n : Nat)) := fun n => by
      have h1 := hheld n
      have h2 := htop n
      rw [any_cnt] at h1
      by_cases z : 0 < cnt gs n
      · rw [decide_eq_true z] at h1
        have := of_decide_eq_true h1.symm
        rw [decide_eq_true (by omega), decide_eq_true (by omega)]
      · rw [decide_eq_false z] at h1
        have := of_decide_eq_false h1.symm
        rw [decide_eq_false (by omega), decide_eq_false (by omega)]
    walk_at "gzn"
    refine eq_Sts (neg := true) (x := .non) (y := .non) (SqL.of (s3 _ _ B2)) (SqL.of L3) A3 A3 ⟨_, rfl, ?_⟩
    walk_at "gzn"
    refine isi_tup P3 ?_
    walk_at "gzn"
    refine ⟨_, lenT (SqT.of P3), ?_⟩
    walk_at "gzn"
    refine ixT (SqT.of P3) rfl ⟨_, rfl, .inr ⟨_, rfl⟩, ?_⟩
    simp only [isWhole]
    walk_at "gzn"
    refine ixT (SqT.of P3) rfl ⟨f, fs, gs, rfl, F3, by omega, G3, hok, hap, hne, ?_⟩
    walk_at "gzn"
    refine ixT (SqT.of P3) rfl ?_
    walk_at "gzn"
    refine ⟨_, L3, _, F3, Nat.le_trans (by omega : xs.length + fs.length ≤ 100) (by decide), fun w hw => ?_⟩
    have s4 := same_upd (o := .lst (xs ++ fs)) hw
    refine ⟨w, _, as ++ gs, rfl, SqL.of upd_same, by rw [List.length_append]; omega, Sts.app (A3.same s4) (G3.same s4), fun u ms H5 s5 U5 _ => ?_⟩
    have S5 := s4.trans s5
    have L5 := S5 _ _ L3
    have P5 := S5 _ _ P3
    have F5 := S5 _ _ F3
    have A5 := A3.same S5
    have G5 := G3.same S5
    walk_at "gzn"
    refine ⟨⟨_, SqL.of U5⟩, by_list (xs := ms.map V.int) (inv_law H5 a l h p) ⟨_, _, _, rfl, rfl⟩ ?_ ?_ ?_⟩
    · rintro i σ H6 _ ⟨_, _, _, _, rfl⟩
      exact SqL.of U5
    · rintro i y σ H6 hy ⟨e1, e2, e3, rfl, rfl⟩
      obtain ⟨n, _, rfl⟩ := ints_get hy
      walk_at "gzn"
      refine ⟨l, xs, as, n, rfl, SqL.of L5, A5, ?_⟩
      walk_at "gzn"
      refine ixT (SqT.of P5) rfl ?_
      walk_at "gzn"
      rw [if_neg (by have := htop n; omega)]
      refine ixT (SqT.of P5) rfl ?_
      walk_at "gzn"
      refine ixT (SqT.of P5) rfl ⟨f, fs, gs, n, rfl, SqL.of F5, G5, ?_⟩
      walk_at "gzn"
      rw [if_neg (fun z => z (key n))]
      exact ⟨_, _, _, rfl, rfl⟩
    · rintro σ H6 ⟨e1, e2, e3, rfl, rfl⟩
      walk_at "gzn"
      refine ⟨by decide, fun b hb => ?_⟩
      refine ⟨b, [], [], rfl, SqL.of upd_same, trivial, by decide, fun p' f' fs' gs' m' H7 s7 P7 F7 G7 hap' hok' hheld' hgl' htop' hne' hnil' => ?_⟩
      obtain ⟨em, eg⟩ := hnil' rfl
      subst em eg
      walk_at "gzn"
      refine isi_tup P7 ?_
      walk_at "gzn"
      refine ⟨line2, fun t1 ht1 => ⟨by decide, fun t2 ht2 => ⟨line2, fun t3 ht3 => ?_⟩⟩⟩
      have s8 := (same_upd (o := .tup [.non, .non]) ht1).trans ((same_upd (o := .lst [.ref t1]) ht2).trans (same_upd (o := .tup [.int 0, .ref t2]) ht3))
      have T1 := ((same_upd (o := .lst [.ref t1]) ht2).trans (same_upd (o := .tup [.int 0, .ref t2]) ht3)) t1 _ (show upd H7 t1 (.tup [.non, .non]) t1 = some (.tup [.non, .non]) from upd_same)
      have T2 := (same_upd (o := .tup [.int 0, .ref t2]) ht3) t2 _ (show upd (upd H7 t1 (.tup [.non, .non])) t2 (.lst [.ref t1]) t2 = some (.lst [.ref t1]) from upd_same)
      have T3 : upd (upd (upd H7 t1 (.tup [.non, .non])) t2 (.lst [.ref t1])) t3 (.tup [.int 0, .ref t2]) t3 = some (.tup [.int 0, .ref t2]) := upd_same
      generalize upd (upd (upd H7 t1 (.tup [.non, .non])) t2 (.lst [.ref t1])) t3 (.tup [.int 0, .ref t2]) = H8 at s8 T1 T2 T3 ⊢
      have P8 := s8 _ _ P7
      have F8 := s8 _ _ F7
      obtain ⟨v, e0, hv⟩ : ∃ v, fs' = [v] ∧ IsS H8 v none none := by
        match fs', G7 with
        | [v], G => exact ⟨v, rfl, IsS.same G.1 s8⟩
      subst e0
      obtain ⟨vp, rfl, hvp⟩ := hv
      refine eq_dat (n := 3) (d := .tuple [.int 0, .list [.tuple [.none, .none]]]) (.tup (SqT.of P8) (.cons (.int 0) (.cons (.lst (SqL.of F8) (.cons (.tup (SqT.of hvp) (.cons .non (.cons .non .nil))) .nil)) .nil)))
        (.tup (SqT.of T3) (.cons (.int 0) (.cons (.lst (SqL.of T2) (.cons (.tup (SqT.of T1) (.cons .non (.cons .non .nil))) .nil)) .nil))) rfl (by decide) ⟨_, rfl, ?_⟩
      walk_at "gzn"
      refine ixT (SqT.of P8) rfl ⟨_, rfl, .inr ⟨_, rfl⟩, ?_⟩
      simp only [isWhole]
      walk_at "gzn"
      exact q _
end
theorem fin_mk {l : PySem.W.OpenLaw} {w : World} {K : PySem.W.Frag} {h : Heap} {mg : Str → Option Value} {fa : Addr} (X : K.In h) (G : h.Ns mainGlobals mg) (hfa : mg "law" = some (.ref fa))
    {f_is_crossed : Addr} {od_is_crossed an_is_crossed : Option Addr} {sl_is_crossed : Array (Option Value)} {oc_is_crossed kV_is_crossed dc_is_crossed pm_is_crossed cd_is_crossed ct_is_crossed : Value}
    {f_holds : Addr} {od_holds an_holds : Option Addr} {sl_holds : Array (Option Value)} {oc_holds kV_holds dc_holds pm_holds cd_holds ct_holds : Value}
    {f_hull : Addr} {od_hull an_hull : Option Addr} {sl_hull : Array (Option Value)} {oc_hull kV_hull dc_hull pm_hull cd_hull ct_hull : Value}
    {f_by_lo : Addr} {od_by_lo an_by_lo : Option Addr} {sl_by_lo : Array (Option Value)} {oc_by_lo kV_by_lo dc_by_lo pm_by_lo cd_by_lo ct_by_lo : Value}
    {f_leaves_gap : Addr} {od_leaves_gap an_leaves_gap : Option Addr} {sl_leaves_gap : Array (Option Value)} {oc_leaves_gap kV_leaves_gap dc_leaves_gap pm_leaves_gap cd_leaves_gap ct_leaves_gap : Value}
    {f_gathered : Addr} {od_gathered an_gathered : Option Addr} {sl_gathered : Array (Option Value)} {oc_gathered kV_gathered dc_gathered pm_gathered cd_gathered ct_gathered : Value}
    {f_cells : Addr} {od_cells an_cells : Option Addr} {sl_cells : Array (Option Value)} {oc_cells kV_cells dc_cells pm_cells cd_cells ct_cells : Value}
    {f_number_in : Addr} {od_number_in an_number_in : Option Addr} {sl_number_in : Array (Option Value)} {oc_number_in kV_number_in dc_number_in pm_number_in cd_number_in ct_number_in : Value}
    {f_votes_for : Addr} {od_votes_for an_votes_for : Option Addr} {sl_votes_for : Array (Option Value)} {oc_votes_for kV_votes_for dc_votes_for pm_votes_for cd_votes_for ct_votes_for : Value}
    {f_agree : Addr} {od_agree an_agree : Option Addr} {sl_agree : Array (Option Value)} {oc_agree kV_agree dc_agree pm_agree cd_agree ct_agree : Value}
    {f_most_agree : Addr} {od_most_agree an_most_agree : Option Addr} {sl_most_agree : Array (Option Value)} {oc_most_agree kV_most_agree dc_most_agree pm_most_agree cd_most_agree ct_most_agree : Value}
    {f_law_cell : Addr} {od_law_cell an_law_cell : Option Addr} {sl_law_cell : Array (Option Value)} {oc_law_cell kV_law_cell dc_law_cell pm_law_cell cd_law_cell ct_law_cell : Value}
    {f_law_whole : Addr} {od_law_whole an_law_whole : Option Addr} {sl_law_whole : Array (Option Value)} {oc_law_whole kV_law_whole dc_law_whole pm_law_whole cd_law_whole ct_law_whole : Value}
    {f_law_stretch_by : Addr} {od_law_stretch_by an_law_stretch_by : Option Addr} {sl_law_stretch_by : Array (Option Value)} {oc_law_stretch_by kV_law_stretch_by dc_law_stretch_by pm_law_stretch_by cd_law_stretch_by ct_law_stretch_by : Value}
    {f_law_some : Addr} {od_law_some an_law_some : Option Addr} {sl_law_some : Array (Option Value)} {oc_law_some kV_law_some dc_law_some pm_law_some cd_law_some ct_law_some : Value}
    {f_law_count : Addr} {od_law_count an_law_count : Option Addr} {sl_law_count : Array (Option Value)} {oc_law_count kV_law_count dc_law_count pm_law_count cd_law_count ct_law_count : Value}
    {f_law_form : Addr} {od_law_form an_law_form : Option Addr} {sl_law_form : Array (Option Value)} {oc_law_form kV_law_form dc_law_form pm_law_form cd_law_form ct_law_form : Value}
    {f_law_numbers : Addr} {od_law_numbers an_law_numbers : Option Addr} {sl_law_numbers : Array (Option Value)} {oc_law_numbers kV_law_numbers dc_law_numbers pm_law_numbers cd_law_numbers ct_law_numbers : Value}
    {f_law : Addr} {od_law an_law : Option Addr} {sl_law : Array (Option Value)} {oc_law kV_law dc_law pm_law cd_law ct_law : Value}
    (a_is_crossed : PySem.W.nsIn K mainGlobals "is_crossed" = some (some (.ref f_is_crossed))) (l_is_crossed : K.lookup f_is_crossed = some ⟨oc_is_crossed, od_is_crossed, .func (PySem.W.fnOf "is_crossed" "is_crossed" (defArgs s_is_crossed) (defBody s_is_crossed) (defScope s_is_crossed) .none kV_is_crossed dc_is_crossed pm_is_crossed an_is_crossed cd_is_crossed ct_is_crossed), sl_is_crossed⟩) (c_is_crossed : PySem.W.codeIn K cd_is_crossed "is_crossed" = true) (k_is_crossed : PySem.W.keepIn K (.ref f_is_crossed) = true)
    (a_holds : PySem.W.nsIn K mainGlobals "holds" = some (some (.ref f_holds))) (l_holds : K.lookup f_holds = some ⟨oc_holds, od_holds, .func (PySem.W.fnOf "holds" "holds" (defArgs s_holds) (defBody s_holds) (defScope s_holds) .none kV_holds dc_holds pm_holds an_holds cd_holds ct_holds), sl_holds⟩) (c_holds : PySem.W.codeIn K cd_holds "holds" = true) (k_holds : PySem.W.keepIn K (.ref f_holds) = true)
    (a_hull : PySem.W.nsIn K mainGlobals "hull" = some (some (.ref f_hull))) (l_hull : K.lookup f_hull = some ⟨oc_hull, od_hull, .func (PySem.W.fnOf "hull" "hull" (defArgs s_hull) (defBody s_hull) (defScope s_hull) .none kV_hull dc_hull pm_hull an_hull cd_hull ct_hull), sl_hull⟩) (c_hull : PySem.W.codeIn K cd_hull "hull" = true) (k_hull : PySem.W.keepIn K (.ref f_hull) = true)
    (a_by_lo : PySem.W.nsIn K mainGlobals "by_lo" = some (some (.ref f_by_lo))) (l_by_lo : K.lookup f_by_lo = some ⟨oc_by_lo, od_by_lo, .func (PySem.W.fnOf "by_lo" "by_lo" (defArgs s_by_lo) (defBody s_by_lo) (defScope s_by_lo) .none kV_by_lo dc_by_lo pm_by_lo an_by_lo cd_by_lo ct_by_lo), sl_by_lo⟩) (c_by_lo : PySem.W.codeIn K cd_by_lo "by_lo" = true) (k_by_lo : PySem.W.keepIn K (.ref f_by_lo) = true)
    (a_leaves_gap : PySem.W.nsIn K mainGlobals "leaves_gap" = some (some (.ref f_leaves_gap))) (l_leaves_gap : K.lookup f_leaves_gap = some ⟨oc_leaves_gap, od_leaves_gap, .func (PySem.W.fnOf "leaves_gap" "leaves_gap" (defArgs s_leaves_gap) (defBody s_leaves_gap) (defScope s_leaves_gap) .none kV_leaves_gap dc_leaves_gap pm_leaves_gap an_leaves_gap cd_leaves_gap ct_leaves_gap), sl_leaves_gap⟩) (c_leaves_gap : PySem.W.codeIn K cd_leaves_gap "leaves_gap" = true) (k_leaves_gap : PySem.W.keepIn K (.ref f_leaves_gap) = true)
    (a_gathered : PySem.W.nsIn K mainGlobals "gathered" = some (some (.ref f_gathered))) (l_gathered : K.lookup f_gathered = some ⟨oc_gathered, od_gathered, .func (PySem.W.fnOf "gathered" "gathered" (defArgs s_gathered) (defBody s_gathered) (defScope s_gathered) .none kV_gathered dc_gathered pm_gathered an_gathered cd_gathered ct_gathered), sl_gathered⟩) (c_gathered : PySem.W.codeIn K cd_gathered "gathered" = true) (k_gathered : PySem.W.keepIn K (.ref f_gathered) = true)
    (a_cells : PySem.W.nsIn K mainGlobals "cells" = some (some (.ref f_cells))) (l_cells : K.lookup f_cells = some ⟨oc_cells, od_cells, .func (PySem.W.fnOf "cells" "cells" (defArgs s_cells) (defBody s_cells) (defScope s_cells) .none kV_cells dc_cells pm_cells an_cells cd_cells ct_cells), sl_cells⟩) (c_cells : PySem.W.codeIn K cd_cells "cells" = true) (k_cells : PySem.W.keepIn K (.ref f_cells) = true)
    (a_number_in : PySem.W.nsIn K mainGlobals "number_in" = some (some (.ref f_number_in))) (l_number_in : K.lookup f_number_in = some ⟨oc_number_in, od_number_in, .func (PySem.W.fnOf "number_in" "number_in" (defArgs s_number_in) (defBody s_number_in) (defScope s_number_in) .none kV_number_in dc_number_in pm_number_in an_number_in cd_number_in ct_number_in), sl_number_in⟩) (c_number_in : PySem.W.codeIn K cd_number_in "number_in" = true) (k_number_in : PySem.W.keepIn K (.ref f_number_in) = true)
    (a_votes_for : PySem.W.nsIn K mainGlobals "votes_for" = some (some (.ref f_votes_for))) (l_votes_for : K.lookup f_votes_for = some ⟨oc_votes_for, od_votes_for, .func (PySem.W.fnOf "votes_for" "votes_for" (defArgs s_votes_for) (defBody s_votes_for) (defScope s_votes_for) .none kV_votes_for dc_votes_for pm_votes_for an_votes_for cd_votes_for ct_votes_for), sl_votes_for⟩) (c_votes_for : PySem.W.codeIn K cd_votes_for "votes_for" = true) (k_votes_for : PySem.W.keepIn K (.ref f_votes_for) = true)
    (a_agree : PySem.W.nsIn K mainGlobals "agree" = some (some (.ref f_agree))) (l_agree : K.lookup f_agree = some ⟨oc_agree, od_agree, .func (PySem.W.fnOf "agree" "agree" (defArgs s_agree) (defBody s_agree) (defScope s_agree) .none kV_agree dc_agree pm_agree an_agree cd_agree ct_agree), sl_agree⟩) (c_agree : PySem.W.codeIn K cd_agree "agree" = true) (k_agree : PySem.W.keepIn K (.ref f_agree) = true)
    (a_most_agree : PySem.W.nsIn K mainGlobals "most_agree" = some (some (.ref f_most_agree))) (l_most_agree : K.lookup f_most_agree = some ⟨oc_most_agree, od_most_agree, .func (PySem.W.fnOf "most_agree" "most_agree" (defArgs s_most_agree) (defBody s_most_agree) (defScope s_most_agree) .none kV_most_agree dc_most_agree pm_most_agree an_most_agree cd_most_agree ct_most_agree), sl_most_agree⟩) (c_most_agree : PySem.W.codeIn K cd_most_agree "most_agree" = true) (k_most_agree : PySem.W.keepIn K (.ref f_most_agree) = true)
    (a_law_cell : PySem.W.nsIn K mainGlobals "_law_cell" = some (some (.ref f_law_cell))) (l_law_cell : K.lookup f_law_cell = some ⟨oc_law_cell, od_law_cell, .func (PySem.W.fnOf "_law_cell" "_law_cell" (defArgs s_law_cell) (defBody s_law_cell) (defScope s_law_cell) .none kV_law_cell dc_law_cell pm_law_cell an_law_cell cd_law_cell ct_law_cell), sl_law_cell⟩) (c_law_cell : PySem.W.codeIn K cd_law_cell "_law_cell" = true) (k_law_cell : PySem.W.keepIn K (.ref f_law_cell) = true)
    (a_law_whole : PySem.W.nsIn K mainGlobals "_law_whole" = some (some (.ref f_law_whole))) (l_law_whole : K.lookup f_law_whole = some ⟨oc_law_whole, od_law_whole, .func (PySem.W.fnOf "_law_whole" "_law_whole" (defArgs s_law_whole) (defBody s_law_whole) (defScope s_law_whole) .none kV_law_whole dc_law_whole pm_law_whole an_law_whole cd_law_whole ct_law_whole), sl_law_whole⟩) (c_law_whole : PySem.W.codeIn K cd_law_whole "_law_whole" = true) (k_law_whole : PySem.W.keepIn K (.ref f_law_whole) = true)
    (a_law_stretch_by : PySem.W.nsIn K mainGlobals "_law_stretch_by" = some (some (.ref f_law_stretch_by))) (l_law_stretch_by : K.lookup f_law_stretch_by = some ⟨oc_law_stretch_by, od_law_stretch_by, .func (PySem.W.fnOf "_law_stretch_by" "_law_stretch_by" (defArgs s_law_stretch_by) (defBody s_law_stretch_by) (defScope s_law_stretch_by) .none kV_law_stretch_by dc_law_stretch_by pm_law_stretch_by an_law_stretch_by cd_law_stretch_by ct_law_stretch_by), sl_law_stretch_by⟩) (c_law_stretch_by : PySem.W.codeIn K cd_law_stretch_by "_law_stretch_by" = true) (k_law_stretch_by : PySem.W.keepIn K (.ref f_law_stretch_by) = true)
    (a_law_some : PySem.W.nsIn K mainGlobals "_law_some" = some (some (.ref f_law_some))) (l_law_some : K.lookup f_law_some = some ⟨oc_law_some, od_law_some, .func (PySem.W.fnOf "_law_some" "_law_some" (defArgs s_law_some) (defBody s_law_some) (defScope s_law_some) .none kV_law_some dc_law_some pm_law_some an_law_some cd_law_some ct_law_some), sl_law_some⟩) (c_law_some : PySem.W.codeIn K cd_law_some "_law_some" = true) (k_law_some : PySem.W.keepIn K (.ref f_law_some) = true)
    (a_law_count : PySem.W.nsIn K mainGlobals "_law_count" = some (some (.ref f_law_count))) (l_law_count : K.lookup f_law_count = some ⟨oc_law_count, od_law_count, .func (PySem.W.fnOf "_law_count" "_law_count" (defArgs s_law_count) (defBody s_law_count) (defScope s_law_count) .none kV_law_count dc_law_count pm_law_count an_law_count cd_law_count ct_law_count), sl_law_count⟩) (c_law_count : PySem.W.codeIn K cd_law_count "_law_count" = true) (k_law_count : PySem.W.keepIn K (.ref f_law_count) = true)
    (a_law_form : PySem.W.nsIn K mainGlobals "_law_form" = some (some (.ref f_law_form))) (l_law_form : K.lookup f_law_form = some ⟨oc_law_form, od_law_form, .func (PySem.W.fnOf "_law_form" "_law_form" (defArgs s_law_form) (defBody s_law_form) (defScope s_law_form) .none kV_law_form dc_law_form pm_law_form an_law_form cd_law_form ct_law_form), sl_law_form⟩) (c_law_form : PySem.W.codeIn K cd_law_form "_law_form" = true) (k_law_form : PySem.W.keepIn K (.ref f_law_form) = true)
    (a_law_numbers : PySem.W.nsIn K mainGlobals "_law_numbers" = some (some (.ref f_law_numbers))) (l_law_numbers : K.lookup f_law_numbers = some ⟨oc_law_numbers, od_law_numbers, .func (PySem.W.fnOf "_law_numbers" "_law_numbers" (defArgs s_law_numbers) (defBody s_law_numbers) (defScope s_law_numbers) .none kV_law_numbers dc_law_numbers pm_law_numbers an_law_numbers cd_law_numbers ct_law_numbers), sl_law_numbers⟩) (c_law_numbers : PySem.W.codeIn K cd_law_numbers "_law_numbers" = true) (k_law_numbers : PySem.W.keepIn K (.ref f_law_numbers) = true)
    (a_law : PySem.W.nsIn K mainGlobals "law" = some (some (.ref f_law))) (l_law : K.lookup f_law = some ⟨oc_law, od_law, .func (PySem.W.fnOf "law" "law" (defArgs s_law) (defBody s_law) (defScope s_law) .none kV_law dc_law pm_law an_law cd_law ct_law), sl_law⟩) (c_law : PySem.W.codeIn K cd_law "law" = true) (k_law : PySem.W.keepIn K (.ref f_law) = true)
    (z_bool : PySem.W.nsIn K mainGlobals "bool" = some none)
    (z_int : PySem.W.nsIn K mainGlobals "int" = some none)
    (z_isinstance : PySem.W.nsIn K mainGlobals "isinstance" = some none)
    (z_len : PySem.W.nsIn K mainGlobals "len" = some none)
    (z_list : PySem.W.nsIn K mainGlobals "list" = some none)
    (z_max : PySem.W.nsIn K mainGlobals "max" = some none)
    (z_min : PySem.W.nsIn K mainGlobals "min" = some none)
    (z_range : PySem.W.nsIn K mainGlobals "range" = some none)
    (z_sorted : PySem.W.nsIn K mainGlobals "sorted" = some none)
    (z_tuple : PySem.W.nsIn K mainGlobals "tuple" = some none)
    (z_zip : PySem.W.nsIn K mainGlobals "zip" = some none)
    : ∃ fd : FuncData, (∀ (s : Shared) (v : Value), BindsTo s fd ⟨[v], []⟩ [("_law_script", v)]) ∧ ∀ base : Heap, K.In base → base.Ns mainGlobals mg → FnOk l.prog w K mg base (CXX l.prog w) 7 fa fd ["_law_script"] (sp_law K) := by
  have e := hfa.symm.trans (PySem.W.mg_of X G a_law)
  cases e
  have F_is_crossed := fun_mk (st := s_is_crossed) l_is_crossed c_is_crossed k_is_crossed
  have b_is_crossed := F_is_crossed.binds (ps := ["lo", "hi"]) fun _ _ _ _ _ _ us hl => match us, hl with | [_, _], _ => rfl
  have F_holds := fun_mk (st := s_holds) l_holds c_holds k_holds
  have b_holds := F_holds.binds (ps := ["one", "number"]) fun _ _ _ _ _ _ us hl => match us, hl with | [_, _], _ => rfl
  have F_hull := fun_mk (st := s_hull) l_hull c_hull k_hull
  have b_hull := F_hull.binds (ps := ["some"]) fun _ _ _ _ _ _ us hl => match us, hl with | [_], _ => rfl
  have F_by_lo := fun_mk (st := s_by_lo) l_by_lo c_by_lo k_by_lo
  have b_by_lo := F_by_lo.binds (ps := ["one"]) fun _ _ _ _ _ _ us hl => match us, hl with | [_], _ => rfl
  have F_leaves_gap := fun_mk (st := s_leaves_gap) l_leaves_gap c_leaves_gap k_leaves_gap
  have b_leaves_gap := F_leaves_gap.binds (ps := ["one", "later"]) fun _ _ _ _ _ _ us hl => match us, hl with | [_, _], _ => rfl
  have F_gathered := fun_mk (st := s_gathered) l_gathered c_gathered k_gathered
  have b_gathered := F_gathered.binds (ps := ["some"]) fun _ _ _ _ _ _ us hl => match us, hl with | [_], _ => rfl
  have F_cells := fun_mk (st := s_cells) l_cells c_cells k_cells
  have b_cells := F_cells.binds (ps := ["some"]) fun _ _ _ _ _ _ us hl => match us, hl with | [_], _ => rfl
  have F_number_in := fun_mk (st := s_number_in) l_number_in c_number_in k_number_in
  have b_number_in := F_number_in.binds (ps := ["cell"]) fun _ _ _ _ _ _ us hl => match us, hl with | [_], _ => rfl
  have F_votes_for := fun_mk (st := s_votes_for) l_votes_for c_votes_for k_votes_for
  have b_votes_for := F_votes_for.binds (ps := ["some", "cell"]) fun _ _ _ _ _ _ us hl => match us, hl with | [_, _], _ => rfl
  have F_agree := fun_mk (st := s_agree) l_agree c_agree k_agree
  have b_agree := F_agree.binds (ps := ["some", "need"]) fun _ _ _ _ _ _ us hl => match us, hl with | [_, _], _ => rfl
  have F_most_agree := fun_mk (st := s_most_agree) l_most_agree c_most_agree k_most_agree
  have b_most_agree := F_most_agree.binds (ps := ["some"]) fun _ _ _ _ _ _ us hl => match us, hl with | [_], _ => rfl
  have F_law_cell := fun_mk (st := s_law_cell) l_law_cell c_law_cell k_law_cell
  have b_law_cell := F_law_cell.binds (ps := ["_law_script", "_law_k"]) fun _ _ _ _ _ _ us hl => match us, hl with | [_, _], _ => rfl
  have F_law_whole := fun_mk (st := s_law_whole) l_law_whole c_law_whole k_law_whole
  have b_law_whole := F_law_whole.binds (ps := ["_law_found"]) fun _ _ _ _ _ _ us hl => match us, hl with | [_], _ => rfl
  have F_law_stretch_by := fun_mk (st := s_law_stretch_by) l_law_stretch_by c_law_stretch_by k_law_stretch_by
  have b_law_stretch_by := F_law_stretch_by.binds (ps := ["_law_cell_here", "_law_more", "_law_base"]) fun _ _ _ _ _ _ us hl => match us, hl with | [_, _, _], _ => rfl
  have F_law_some := fun_mk (st := s_law_some) l_law_some c_law_some k_law_some
  have b_law_some := F_law_some.binds (ps := ["_law_script"]) fun _ _ _ _ _ _ us hl => match us, hl with | [_], _ => rfl
  have F_law_count := fun_mk (st := s_law_count) l_law_count c_law_count k_law_count
  have b_law_count := F_law_count.binds (ps := ["_law_some_here", "_law_number"]) fun _ _ _ _ _ _ us hl => match us, hl with | [_, _], _ => rfl
  have F_law_form := fun_mk (st := s_law_form) l_law_form c_law_form k_law_form
  have b_law_form := F_law_form.binds (ps := ["_law_told"]) fun _ _ _ _ _ _ us hl => match us, hl with | [_], _ => rfl
  have F_law_numbers := fun_mk (st := s_law_numbers) l_law_numbers c_law_numbers k_law_numbers
  have b_law_numbers := F_law_numbers.binds (ps := ["_law_some_here"]) fun _ _ _ _ _ _ us hl => match us, hl with | [_], _ => rfl
  have F_law := fun_mk (st := s_law) l_law c_law k_law
  have b_law := F_law.binds (ps := ["_law_script"]) fun _ _ _ _ _ _ us hl => match us, hl with | [_], _ => rfl
  have T : ∃ T : Tx K mg, T.a_law = fa ∧ T.fd_law = PySem.W.fnOf "law" "law" (defArgs s_law) (defBody s_law) (defScope s_law) .none kV_law dc_law pm_law an_law cd_law ct_law := ⟨{ a_is_crossed := f_is_crossed, fd_is_crossed := _, F_is_crossed := F_is_crossed, b_is_crossed := b_is_crossed, m_is_crossed := PySem.W.mg_of X G a_is_crossed, a_holds := f_holds, fd_holds := _, F_holds := F_holds, b_holds := b_holds, m_holds := PySem.W.mg_of X G a_holds, a_hull := f_hull, fd_hull := _, F_hull := F_hull, b_hull := b_hull, m_hull := PySem.W.mg_of X G a_hull, a_by_lo := f_by_lo, fd_by_lo := _, F_by_lo := F_by_lo, b_by_lo := b_by_lo, m_by_lo := PySem.W.mg_of X G a_by_lo, a_leaves_gap := f_leaves_gap, fd_leaves_gap := _, F_leaves_gap := F_leaves_gap, b_leaves_gap := b_leaves_gap, m_leaves_gap := PySem.W.mg_of X G a_leaves_gap, a_gathered := f_gathered, fd_gathered := _, F_gathered := F_gathered, b_gathered := b_gathered, m_gathered := PySem.W.mg_of X G a_gathered, a_cells := f_cells, fd_cells := _, F_cells := F_cells, b_cells := b_cells, m_cells := PySem.W.mg_of X G a_cells, a_number_in := f_number_in, fd_number_in := _, F_number_in := F_number_in, b_number_in := b_number_in, m_number_in := PySem.W.mg_of X G a_number_in, a_votes_for := f_votes_for, fd_votes_for := _, F_votes_for := F_votes_for, b_votes_for := b_votes_for, m_votes_for := PySem.W.mg_of X G a_votes_for, a_agree := f_agree, fd_agree := _, F_agree := F_agree, b_agree := b_agree, m_agree := PySem.W.mg_of X G a_agree, a_most_agree := f_most_agree, fd_most_agree := _, F_most_agree := F_most_agree, b_most_agree := b_most_agree, m_most_agree := PySem.W.mg_of X G a_most_agree, a_law_cell := f_law_cell, fd_law_cell := _, F_law_cell := F_law_cell, b_law_cell := b_law_cell, m_law_cell := PySem.W.mg_of X G a_law_cell, a_law_whole := f_law_whole, fd_law_whole := _, F_law_whole := F_law_whole, b_law_whole := b_law_whole, m_law_whole := PySem.W.mg_of X G a_law_whole, a_law_stretch_by := f_law_stretch_by, fd_law_stretch_by := _, F_law_stretch_by := F_law_stretch_by, b_law_stretch_by := b_law_stretch_by, m_law_stretch_by := PySem.W.mg_of X G a_law_stretch_by, a_law_some := f_law_some, fd_law_some := _, F_law_some := F_law_some, b_law_some := b_law_some, m_law_some := PySem.W.mg_of X G a_law_some, a_law_count := f_law_count, fd_law_count := _, F_law_count := F_law_count, b_law_count := b_law_count, m_law_count := PySem.W.mg_of X G a_law_count, a_law_form := f_law_form, fd_law_form := _, F_law_form := F_law_form, b_law_form := b_law_form, m_law_form := PySem.W.mg_of X G a_law_form, a_law_numbers := f_law_numbers, fd_law_numbers := _, F_law_numbers := F_law_numbers, b_law_numbers := b_law_numbers, m_law_numbers := PySem.W.mg_of X G a_law_numbers, a_law := fa, fd_law := _, F_law := F_law, b_law := b_law, m_law := PySem.W.mg_of X G a_law, n_bool := PySem.W.mg_none_of X G z_bool, n_int := PySem.W.mg_none_of X G z_int, n_isinstance := PySem.W.mg_none_of X G z_isinstance, n_len := PySem.W.mg_none_of X G z_len, n_list := PySem.W.mg_none_of X G z_list, n_max := PySem.W.mg_none_of X G z_max, n_min := PySem.W.mg_none_of X G z_min, n_range := PySem.W.mg_none_of X G z_range, n_sorted := PySem.W.mg_none_of X G z_sorted, n_tuple := PySem.W.mg_none_of X G z_tuple, n_zip := PySem.W.mg_none_of X G z_zip }, rfl, rfl⟩
  obtain ⟨T, e1, e2⟩ := T
  refine ⟨PySem.W.fnOf "law" "law" (defArgs s_law) (defBody s_law) (defScope s_law) .none kV_law dc_law pm_law an_law cd_law ct_law, fun s v => .of_eq rfl, fun base _ _ => ?_⟩
  rw [← e1, ← e2]
  exact ok_law T
theorem walk {l : PySem.W.OpenLaw} {q : Program} {loose : List Str} {XP : (Str → Option Value) → Heap → Prop} {YP : World → Heap → Prop} {d : DefRec} {K : Params → PySem.W.Frag} (hn : l.most = some 63) (hdf : d.params.defaults = [])
    (hY : ∀ (w : World) (h : Heap), YP w h → (K w.params).In h)
    (F : ∀ (w : World) (mg : Str → Option Value) (fa : Addr) (h : Heap), (K w.params).In h → h.Ns mainGlobals mg → mg d.name = some (.ref fa) →
      ∃ fd : FuncData, (∀ (s : Shared) (u : Value), BindsTo s fd ⟨[u], []⟩ [("_law_script", u)]) ∧ ∀ base : Heap, (K w.params).In base → base.Ns mainGlobals mg → FnOk l.prog w (K w.params) mg base (CXX l.prog w) 7 fa fd ["_law_script"] (sp_law (K w.params))) :
    PySem.W.WalkO q loose XP YP l.row.toRowW d [] (fun f vs => PySem.call f vs) :=
  L2.walk_of (n := 63) (k := 7) (x := "_law_script") (CX := fun w => CXX l.prog w) (sp := fun w => sp_law (K w.params)) hn (by decide) hdf ⟨rfl, by decide, by decide⟩ hY F (fun _ _ a ns hl _ hS => ⟨a, ns, rfl, hS, hl, fun _ => rfl⟩) fun _ _ _ _ _ z => noCXX z
end K16
open PySem PySem.W PyProof.Rows
set_option maxRecDepth 100000 in
set_option maxHeartbeats 0 in
theorem PySem.Challenge.cw_gaze_k16_most_agree_holds : PySem.Challenge.rw_gaze_k16_most_agree.Holds := by
  w_on; o_law; k_head; (case hw => w_witness2)
  k_fill
  refine K16.walk (l := PySem.Challenge.rw_gaze_k16_most_agree) rfl rfl (fun w h Y => PySem.W.kIn_of Y) ?F
  case F =>
    intro w mg fa h KX G hmg
    refine' K16.fin_mk KX G hmg ?a_is_crossed ?l_is_crossed ?c_is_crossed ?k_is_crossed ?a_holds ?l_holds ?c_holds ?k_holds ?a_hull ?l_hull ?c_hull ?k_hull ?a_by_lo ?l_by_lo ?c_by_lo ?k_by_lo ?a_leaves_gap ?l_leaves_gap ?c_leaves_gap ?k_leaves_gap ?a_gathered ?l_gathered ?c_gathered ?k_gathered ?a_cells ?l_cells ?c_cells ?k_cells ?a_number_in ?l_number_in ?c_number_in ?k_number_in ?a_votes_for ?l_votes_for ?c_votes_for ?k_votes_for ?a_agree ?l_agree ?c_agree ?k_agree ?a_most_agree ?l_most_agree ?c_most_agree ?k_most_agree ?a_law_cell ?l_law_cell ?c_law_cell ?k_law_cell ?a_law_whole ?l_law_whole ?c_law_whole ?k_law_whole ?a_law_stretch_by ?l_law_stretch_by ?c_law_stretch_by ?k_law_stretch_by ?a_law_some ?l_law_some ?c_law_some ?k_law_some ?a_law_count ?l_law_count ?c_law_count ?k_law_count ?a_law_form ?l_law_form ?c_law_form ?k_law_form ?a_law_numbers ?l_law_numbers ?c_law_numbers ?k_law_numbers ?a_law ?l_law ?c_law ?k_law ?z_bool ?z_int ?z_isinstance ?z_len ?z_list ?z_max ?z_min ?z_range ?z_sorted ?z_tuple ?z_zip
    (case a_is_crossed => k_is)
    (case l_is_crossed => k_is)
    (case c_is_crossed => k_is)
    (case k_is_crossed => k_is)
    (case a_holds => k_is)
    (case l_holds => k_is)
    (case c_holds => k_is)
    (case k_holds => k_is)
    (case a_hull => k_is)
    (case l_hull => k_is)
    (case c_hull => k_is)
    (case k_hull => k_is)
    (case a_by_lo => k_is)
    (case l_by_lo => k_is)
    (case c_by_lo => k_is)
    (case k_by_lo => k_is)
    (case a_leaves_gap => k_is)
    (case l_leaves_gap => k_is)
    (case c_leaves_gap => k_is)
    (case k_leaves_gap => k_is)
    (case a_gathered => k_is)
    (case l_gathered => k_is)
    (case c_gathered => k_is)
    (case k_gathered => k_is)
    (case a_cells => k_is)
    (case l_cells => k_is)
    (case c_cells => k_is)
    (case k_cells => k_is)
    (case a_number_in => k_is)
    (case l_number_in => k_is)
    (case c_number_in => k_is)
    (case k_number_in => k_is)
    (case a_votes_for => k_is)
    (case l_votes_for => k_is)
    (case c_votes_for => k_is)
    (case k_votes_for => k_is)
    (case a_agree => k_is)
    (case l_agree => k_is)
    (case c_agree => k_is)
    (case k_agree => k_is)
    (case a_most_agree => k_is)
    (case l_most_agree => k_is)
    (case c_most_agree => k_is)
    (case k_most_agree => k_is)
    (case a_law_cell => k_is)
    (case l_law_cell => k_is)
    (case c_law_cell => k_is)
    (case k_law_cell => k_is)
    (case a_law_whole => k_is)
    (case l_law_whole => k_is)
    (case c_law_whole => k_is)
    (case k_law_whole => k_is)
    (case a_law_stretch_by => k_is)
    (case l_law_stretch_by => k_is)
    (case c_law_stretch_by => k_is)
    (case k_law_stretch_by => k_is)
    (case a_law_some => k_is)
    (case l_law_some => k_is)
    (case c_law_some => k_is)
    (case k_law_some => k_is)
    (case a_law_count => k_is)
    (case l_law_count => k_is)
    (case c_law_count => k_is)
    (case k_law_count => k_is)
    (case a_law_form => k_is)
    (case l_law_form => k_is)
    (case c_law_form => k_is)
    (case k_law_form => k_is)
    (case a_law_numbers => k_is)
    (case l_law_numbers => k_is)
    (case c_law_numbers => k_is)
    (case k_law_numbers => k_is)
    (case a_law => k_is)
    (case l_law => k_is)
    (case c_law => k_is)
    (case k_law => k_is)
    (case z_bool => k_is)
    (case z_int => k_is)
    (case z_isinstance => k_is)
    (case z_len => k_is)
    (case z_list => k_is)
    (case z_max => k_is)
    (case z_min => k_is)
    (case z_range => k_is)
    (case z_sorted => k_is)
    (case z_tuple => k_is)
    (case z_zip => k_is)
#print axioms PySem.Challenge.cw_gaze_k16_most_agree_holds
