import PyProof.Rows.All
import Wide.All
import OpenK.AllK
import Wide.FinOn
import Lean
import PyProof.EqAt
import PyProof.EqKinds
import PyProof.TupleCall
import KE.KSortAsk
import KE.KSortTup
import KE.KRevIter
import KE.LcSums
import KE.KDictSum
import KE.KDictList
import PyProof.AttrMissHeap
import PySem.Challenge.RW_gaze_k61_ways_and_breaks
set_option Elab.async false
set_option linter.all false
set_option maxRecDepth 100000
namespace L2
open PySem PySem.Spec PyProof.Rows
abbrev Key := Sum Int Str
def keyIs : Key → Value → Bool
  | .inl k, v => Value.isInt k v
  | .inr x, v => Value.isStrOf x v
def keyH (w : World) : Key → Int
  | .inl k => hashInt k
  | .inr x => hashStr w x
theorem keyIs_shape : ∀ {k : Key} {v : Value}, keyIs k v = true → (∃ i t, k = Sum.inl i ∧ v = Value.int i t) ∨ (∃ x t, k = Sum.inr x ∧ v = Value.str x t)
  | .inl i, v, h => by
    obtain ⟨t, e⟩ := Value.isInt_shape (k := i) (v := v) h
    exact .inl ⟨i, t, rfl, e⟩
  | .inr x, v, h => by
    obtain ⟨t, e⟩ := Value.isStrOf_shape (x := x) (v := v) h
    exact .inr ⟨x, t, rfl, e⟩
theorem key_ll (a b : Int) : decide ((Sum.inl a : Key) = Sum.inl b) = (a == b) := by
  by_cases e : a = b
  · subst e; simp
  · have h : ¬ (Sum.inl a : Key) = Sum.inl b := fun q => e (Sum.inl.inj q)
    rw [decide_eq_false h]
    exact (beq_eq_false_iff_ne.mpr e).symm
theorem key_rr (a b : Str) : decide ((Sum.inr a : Key) = Sum.inr b) = decide (a = b) := by
  by_cases e : a = b
  · subst e; simp
  · have h : ¬ (Sum.inr a : Key) = Sum.inr b := fun q => e (Sum.inr.inj q)
    rw [decide_eq_false h, decide_eq_false e]
theorem key_lr (a : Int) (b : Str) : decide ((Sum.inl a : Key) = Sum.inr b) = false := decide_eq_false (fun q => nomatch q)
theorem key_rl (a : Str) (b : Int) : decide ((Sum.inr a : Key) = Sum.inl b) = false := decide_eq_false (fun q => nomatch q)
def mixKind (prog : Program) (w : World) : PySem.KeyKind prog w Key where
  is := keyIs
  hash := keyH w
  inj := fun v a b ha hb => by
    rcases keyIs_shape ha with ⟨i, t, rfl, rfl⟩ | ⟨x, t, rfl, rfl⟩
    · rcases keyIs_shape hb with ⟨j, u, rfl, e⟩ | ⟨y, u, rfl, e⟩
      · injection e with e1 _; rw [e1]
      · exact nomatch e
    · rcases keyIs_shape hb with ⟨j, u, rfl, e⟩ | ⟨y, u, rfl, e⟩
      · exact nomatch e
      · injection e with e1 _; rw [e1]
  byValue := fun k v h => by
    rcases keyIs_shape h with ⟨i, t, rfl, rfl⟩ | ⟨x, t, rfl, rfl⟩ <;> rfl
  pyHash := fun hv h => by
    rcases keyIs_shape hv with ⟨i, t, rfl, rfl⟩ | ⟨x, t, rfl, rfl⟩
    · exact wpAny_pyHash_int h
    · exact wpAny_pyHash_str h
  eqBool := fun hu hv h => by
    rcases keyIs_shape hu with ⟨i, t, rfl, rfl⟩ | ⟨x, t, rfl, rfl⟩
    · rcases keyIs_shape hv with ⟨j, u, rfl, rfl⟩ | ⟨y, u, rfl, rfl⟩
      · rw [key_ll] at h; exact wpAny_eqBool_int h
      · rw [key_lr] at h; exact SeqAt.EqAt.int_str i t y u _ _ _ _ h
    · rcases keyIs_shape hv with ⟨j, u, rfl, rfl⟩ | ⟨y, u, rfl, rfl⟩
      · rw [key_rl] at h; exact SeqAt.EqAt.str_int x t j u _ _ _ _ h
      · rw [key_rr] at h; exact wpAny_eqBool_str h
  «strs» := fun k x t v h => by
    rcases keyIs_shape h with ⟨i, u, rfl, e⟩ | ⟨y, u, rfl, e⟩
    · exact nomatch e
    · injection e with e1 _
      subst e1
      cases v <;> rfl
end L2
namespace L2
open PySem PySem.Spec PyProof.Rows
inductive V where
  | non | bl (b : Bool) | int (i : Int) | str (x : Str) | byt (b : Array UInt8) | flt (b : UInt64) | ref (a : Addr) | ty (n : String)
  deriving DecidableEq
def RelV : V → Value → Prop
  | .non, u => u = Value.none
  | .bl b, u => u = Value.bool b
  | .int i, u => ∃ t, u = Value.int i t
  | .str x, u => ∃ t, u = Value.str x t
  | .byt b, u => ∃ t, u = Value.bytes b t
  | .flt b, u => ∃ t, u = Value.float b t
  | .ref a, u => u = Value.ref a
  | .ty n, u => u = Value.type n
abbrev Vals : List V → List Value → Prop := Paired RelV
theorem Vals.length {xs : List V} {us : List Value} (r : Vals xs us) : xs.length = us.length := Paired.length r
theorem Vals.get : ∀ {xs : List V} {us : List Value} {i : Nat} {x : V}, Vals xs us → xs[i]? = some x → ∃ u, us[i]? = some u ∧ RelV x u
  | _, _, _, _, .nil, e => by simp at e
  | _, _, 0, _, .cons r _, e => by simp at e; subst e; exact ⟨_, rfl, r⟩
  | _, _, i + 1, x, .cons _ t, e => by
    obtain ⟨u, h1, h2⟩ := Vals.get (i := i) (x := x) t (by simpa using e)
    exact ⟨u, by simpa using h1, h2⟩
theorem Vals.set {x : V} {u : Value} (r : RelV x u) : ∀ {xs : List V} {us : List Value} (i : Nat), Vals xs us → Vals (xs.set i x) (us.set i u)
  | _, _, _, .nil => .nil
  | _, _, 0, .cons _ t => .cons r t
  | _, _, i + 1, .cons q t => .cons q (Vals.set r i t)
theorem Vals.append : ∀ {xs ys : List V} {us ws : List Value}, Vals xs us → Vals ys ws → Vals (xs ++ ys) (us ++ ws)
  | _, _, _, _, .nil, s => s
  | _, _, _, _, .cons r t, s => .cons r (Vals.append t s)
theorem Vals.take : ∀ {xs : List V} {us : List Value} (n : Nat), Vals xs us → Vals (xs.take n) (us.take n)
  | _, _, 0, _ => .nil
  | _, _, _ + 1, .nil => .nil
  | _, _, n + 1, .cons r t => .cons r (Vals.take n t)
theorem Vals.drop : ∀ {xs : List V} {us : List Value} (n : Nat), Vals xs us → Vals (xs.drop n) (us.drop n)
  | _, _, 0, r => r
  | _, _, _ + 1, .nil => .nil
  | _, _, n + 1, .cons _ t => Vals.drop n t
def RelO : Option V → Option Value → Prop
  | some v, some u => RelV v u
  | none, none => True
  | _, _ => False
def KV {κ : Type} : List (κ × V) → List (κ × Value) → Prop := Paired fun (p : κ × V) (q : κ × Value) => p.1 = q.1 ∧ RelV p.2 q.2
def kV : Key → V
  | .inl i => .int i
  | .inr x => .str x
inductive HO where
  | lst (xs : List V)
  | tup (xs : List V)
  | dK (kvs : List (Key × V)) | dT (kvs : List (List Key × V))
  | set (S : Int → Bool) (n : Nat)
  | ins (C dx : Addr) (fs : List (Str × V))
  | own (x : Addr)
  | xd (fs : List (Str × V))
  | met (f x : Addr)
  | rng (lo hi : Int)
  | frz (o : Obj) (u : HO)
  | tbl (ps : Array Value)
  | ext (φ : Heap → Prop)
abbrev Hp := Addr → Option HO
def upd (H : Hp) (a : Addr) (o : HO) : Hp := fun b => if b = a then some o else H b
theorem upd_same {H : Hp} {a : Addr} {o : HO} : upd H a o a = some o := by unfold upd; rw [if_pos rfl]
theorem upd_ne {H : Hp} {a b : Addr} {o : HO} (h : b ≠ a) : upd H a o b = H b := by unfold upd; rw [if_neg h]
theorem upd_upd {H : Hp} {a : Addr} {o u : HO} : upd (upd H a o) a u = upd H a u := by
  funext b; unfold upd; split <;> rfl
theorem ne_of_none {H : Hp} {a b : Addr} {o : HO} (h : H a = some o) (h' : H b = none) : a ≠ b := by
  intro e; subst e; rw [h] at h'; cases h'
section
variable (P : Program) (w : World)
def ObjOk (H : Hp) (h : Heap) (a : Addr) : HO → Prop
  | .lst xs => xs.length ≤ sizeLine ∧ ∃ (its : List Value) (n : Nat), Vals xs its ∧ h.get? a = some { cls := .type "list", data := .seq its.toArray n }
  | .tup xs => xs.length ≤ sizeLine ∧ ∃ its : List Value, Vals xs its ∧ IsTup h a its.toArray
  | .dK kvs => kvs.length ≤ sizeLine ∧ (a == sysModules) = false ∧ ∃ vs, KV kvs vs ∧ h.DictOf (mixKind P w) a vs
  | .dT kvs => kvs.length ≤ sizeLine ∧ (a == sysModules) = false ∧ ∃ xs : List (List Key × Addr × Value),
      Paired (fun (p : List Key × V) (q : List Key × Addr × Value) => p.1 = q.1 ∧ H q.2.1 = some (.tup (p.1.map kV)) ∧ RelV p.2 q.2.2) kvs xs ∧
      ∃ o es ep, h.get? a = some o ∧ o.ExactDict ∧ o.data = .dict es ep ∧ es.toList = xs.map (entryOfKey (tupleKind (mixKind P w))) ∧ (xs.map (·.1)).Nodup
  | .set S n => h.SetOf (intKind P w) a S n
  | .ins C dx fs => H dx = some (.own a) ∧ fs.length ≤ 1000 ∧ dx ≠ a ∧ h.get? a = some (PySem.W.instObj C dx) ∧
      ∃ mA, h.Ns1 dx mA ∧ (∀ f, RelO (fs.lookup f) (mA f)) ∧ PySem.Within mA (fs.map (·.1))
  | .own _ => ∃ o, h.get? a = some o
  | .xd fs => ∃ mA, h.Ns1 a mA ∧ ∀ f, RelO (fs.lookup f) (mA f)
  | .rng lo hi => ∃ t u v, h.get? a = some { cls := .type "range", data := .fields #[.int lo t, .int hi u, .int 1 v] }
  | .frz o u => h.get? a = some o ∧ ObjOk H h a u
  | .tbl ps => h.get? a = some { cls := .none, data := .fields ps }
  | .met f x => h.get? a = some (PySem.W.methodObj (.ref f) (.ref x))
  | .ext φ => φ h ∧ (∃ o, h.get? a = some o) ∧ ∀ h1 h2 : Heap, φ h1 → (∀ o, h1.get? a = some o → h2.get? a = some o) → φ h2
def HOk (H : Hp) (h : Heap) : Prop := ∀ a o, H a = some o → ObjOk P w H h a o
end
section
variable {P : Program} {w : World} {H H' : Hp} {h h' : Heap} {a : Addr} {o : HO}
theorem ObjOk.lt (x : ObjOk P w H h a o) : a < h.objs.size := by
  cases o with
  | lst xs => obtain ⟨_, _, _, _, e⟩ := x; exact Heap.lt_size e
  | tup xs => obtain ⟨_, _, _, p⟩ := x; exact p.lt
  | dK kvs => obtain ⟨_, _, _, _, o, _, _, e, _⟩ := x; exact Heap.lt_size e
  | dT kvs => obtain ⟨_, _, _, _, o, _, _, e, _⟩ := x; exact Heap.lt_size e
  | set S n => obtain ⟨o, _, _, _, e, _⟩ := x; exact Heap.lt_size e
  | ins C dx fs => obtain ⟨_, _, _, e, _⟩ := x; exact Heap.lt_size e
  | own y => obtain ⟨_, e⟩ := x; exact Heap.lt_size e
  | xd fs => obtain ⟨_, ⟨_, _, _, e, _⟩, _⟩ := x; exact Heap.lt_size e
  | rng lo hi => obtain ⟨_, _, _, e⟩ := x; exact Heap.lt_size e
  | frz ob u => obtain ⟨e, _⟩ := x; exact Heap.lt_size e
  | tbl ps => exact Heap.lt_size (show h.get? a = some _ from x)
  | met f y => exact Heap.lt_size (show h.get? a = some _ from x)
  | ext φ => obtain ⟨_, ⟨_, e⟩, _⟩ := x; exact Heap.lt_size e
theorem Paired.mapP {α β : Type} {F G : α → β → Prop} : ∀ {l₁ : List α} {l₂ : List β}, Paired F l₁ l₂ → (∀ a b, F a b → G a b) → Paired G l₁ l₂
  | _, _, .nil, _ => .nil
  | _, _, .cons r t, f => .cons (f _ _ r) (Paired.mapP t f)
theorem ObjOk.stay (x : ObjOk P w H h a o) (k : ∀ b u, (b = a ∨ H b = some (.own a)) → h.get? b = some u → h'.get? b = some u)
    (ho : ∀ b, H b = some (.own a) → H' b = some (.own a)) (ht : ∀ b xs, H b = some (.tup xs) → H' b = some (.tup xs)) : ObjOk P w H' h' a o := by
  induction o with
  | lst xs => obtain ⟨z, its, n, r, e⟩ := x; exact ⟨z, its, n, r, k _ _ (.inl rfl) e⟩
  | tup xs => obtain ⟨z, its, r, ob, e, c⟩ := x; exact ⟨z, its, r, ob, k _ _ (.inl rfl) e, c⟩
  | dK kvs => obtain ⟨z, y, vs, r, ob, es, ep, e, c⟩ := x; exact ⟨z, y, vs, r, ob, es, ep, k _ _ (.inl rfl) e, c⟩
  | dT kvs =>
    obtain ⟨z, y, xs, r, ob, es, ep, e, c⟩ := x
    exact ⟨z, y, xs, Paired.mapP r fun p q z => ⟨z.1, ht _ _ z.2.1, z.2.2⟩, ob, es, ep, k _ _ (.inl rfl) e, c⟩
  | set S n => obtain ⟨ob, es, ep, t, e, c⟩ := x; exact ⟨ob, es, ep, t, k _ _ (.inl rfl) e, c⟩
  | ins C dx fs =>
    obtain ⟨d, z, ne, e, mA, ⟨od, es, ep, e2, c⟩, r⟩ := x
    exact ⟨ho _ d, z, ne, k _ _ (.inl rfl) e, mA, ⟨od, es, ep, k _ _ (.inr d) e2, c⟩, r⟩
  | own y => obtain ⟨ob, e⟩ := x; exact ⟨ob, k _ _ (.inl rfl) e⟩
  | xd fs => obtain ⟨mA, ⟨od, es, ep, e, c⟩, r⟩ := x; exact ⟨mA, ⟨od, es, ep, k _ _ (.inl rfl) e, c⟩, r⟩
  | rng lo hi => obtain ⟨t, u, v, e⟩ := x; exact ⟨t, u, v, k _ _ (.inl rfl) e⟩
  | frz ob u ih => obtain ⟨e, q⟩ := x; exact ⟨k _ _ (.inl rfl) e, ih q⟩
  | tbl ps =>
    have e : h.get? a = some { cls := .none, data := .fields ps } := x
    show h'.get? a = some { cls := .none, data := .fields ps }
    exact k a _ (.inl rfl) e
  | met f y =>
    have e : h.get? a = some (PySem.W.methodObj (.ref f) (.ref y)) := x
    show h'.get? a = some (PySem.W.methodObj (.ref f) (.ref y))
    exact k a _ (.inl rfl) e
  | ext φ => obtain ⟨p, ⟨o, e⟩, st⟩ := x; exact ⟨st _ _ p fun o q => k _ _ (.inl rfl) q, ⟨o, k _ _ (.inl rfl) e⟩, st⟩
theorem HOk.lt (x : HOk P w H h) (e : H a = some o) : a < h.objs.size := (x a o e).lt
theorem HOk.fresh (x : HOk P w H h) (e : h.objs.size ≤ a) : H a = none := by
  cases q : H a with
  | none => rfl
  | some u => exact absurd (Nat.lt_of_lt_of_le (x.lt q) e) (Nat.lt_irrefl _)
theorem HOk.kept (x : HOk P w H h) (k : ∀ b u, h.get? b = some u → h'.get? b = some u) : HOk P w H h' := fun a o e =>
  (x a o e).stay (fun b u _ q => k b u q) (fun _ q => q) fun _ _ q => q
theorem HOk.laid (x : HOk P w H h) (k : ∀ b u, h.get? b = some u → h'.get? b = some u) (hp : h.objs.size ≤ a) (new : ObjOk P w (upd H a o) h' a o) : HOk P w (upd H a o) h' := fun b u e => by
  have hn := x.fresh hp
  by_cases hb : b = a
  · subst hb; rw [upd_same] at e; cases e; exact new
  · rw [upd_ne hb] at e
    exact (x b u e).stay (fun c v _ q => k c v q) (fun c q => by rw [upd_ne (ne_of_none q hn)]; exact q) fun c xs q => by rw [upd_ne (ne_of_none q hn)]; exact q
end
def Rd (H : Hp) (a : Addr) (u : HO) : Prop := H a = some u ∨ ∃ o, H a = some (.frz o u)
theorem Rd.of {H : Hp} {a : Addr} {u : HO} (h : H a = some u) : Rd H a u := .inl h
theorem Rd.ok {P : Program} {w : World} {H : Hp} {h : Heap} {a : Addr} {u : HO} (r : Rd H a u) (x : HOk P w H h) : ObjOk P w H h a u := by
  rcases r with r | ⟨o, r⟩
  · exact x a u r
  · obtain ⟨_, q⟩ := x a _ r
    exact q
def Mut : Option HO → Prop
  | some (.lst _) => True
  | some (.dK _) => True
  | some (.dT _) => True
  | some (.set _ _) => True
  | some (.ins _ _ _) => True
  | some (.ext _) => True
  | _ => False
section
variable {P : Program} {w : World} {H : Hp} {h h' : Heap} {x e : Addr} {o' : HO}
theorem HOk.write (ok : HOk P w H h) (mu : Mut (H x)) (he : e = x ∨ H e = some (.own x)) (k : ∀ b u, b ≠ e → h.get? b = some u → h'.get? b = some u) (heo : ∃ u, h'.get? e = some u)
    (new : ObjOk P w (upd H x o') h' x o') : HOk P w (upd H x o') h' := fun b u q => by
  have nown : ∀ c y, H c = some (.own y) → c ≠ x := fun c y r z => by subst z; rw [r] at mu; exact mu
  have ntup : ∀ c xs, H c = some (.tup xs) → c ≠ x := fun c xs r z => by subst z; rw [r] at mu; exact mu
  by_cases hb : b = x
  · subst hb; rw [upd_same] at q; cases q; exact new
  · rw [upd_ne hb] at q
    by_cases hbe : b = e
    · have q' : H b = some (.own x) := by
        rcases he with z | z
        · exact absurd (hbe.trans z) hb
        · rw [hbe]; exact z
      rw [q] at q'; cases q'
      obtain ⟨v, hv⟩ := heo
      exact ⟨v, by rw [hbe]; exact hv⟩
    · refine (ok b u q).stay (fun c v hc r => k c v ?_ r) (fun c r => by rw [upd_ne (nown c b r)]; exact r) fun c xs r => by rw [upd_ne (ntup c xs r)]; exact r
      rcases hc with rfl | hc
      · exact hbe
      · rintro rfl
        rcases he with z | z
        · exact nown c b hc z
        · rw [hc] at z; cases z; exact hb rfl
end
structure Un (fs ex : List Addr) (H H' : Hp) (h h' : Heap) : Prop where
  keep : ∀ b o, h.get? b = some o → H b = none → b ∉ fs → b ∉ ex → h'.get? b = some o
  slot : ∀ b o, h.get? b = some o → H b = none → b ∈ fs → b ∉ ex → ∃ sl, h'.get? b = some { o with slots := sl }
  free : ∀ b o, h.get? b = some o → H b = none → b ∉ ex → H' b = none
  there : ∀ b o, h.get? b = some o → b ∉ ex → ∃ o', h'.get? b = some o'
  tups : ∀ b xs, H b = some (.tup xs) → H' b = some (.tup xs)
  frzs : ∀ b o u, H b = some (.frz o u) → H' b = some (.frz o u)
  tbls : ∀ b ps, H b = some (.tbl ps) → ∃ more, H' b = some (.tbl (ps ++ more))
section
variable {fs fs' ex ex' : List Addr} {H H1 H2 : Hp} {h h1 h2 h' : Heap} {a x e : Addr} {o : HO}
theorem Un.any (u : Un fs ex H H1 h h1) {b : Addr} {ob : Obj} (q : h.get? b = some ob) (n : H b = none) (hx : b ∉ ex) : ∃ sl, h1.get? b = some { ob with slots := sl } := by
  by_cases hb : b ∈ fs
  · exact u.slot b ob q n hb hx
  · exact ⟨ob.slots, u.keep b ob q n hb hx⟩
theorem Un.trans (a : Un fs ex H H1 h h1) (b : Un fs ex H1 H2 h1 h2) : Un fs ex H H2 h h2 where
  keep := fun c ob q n hc hx => b.keep c ob (a.keep c ob q n hc hx) (a.free c ob q n hx) hc hx
  slot := fun c ob q n hc hx => by
    obtain ⟨sl, e1⟩ := a.slot c ob q n hc hx
    obtain ⟨sl', e2⟩ := b.slot c _ e1 (a.free c ob q n hx) hc hx
    exact ⟨sl', e2⟩
  free := fun c ob q n hx => by
    obtain ⟨o', e1⟩ := a.there c ob q hx
    exact b.free c o' e1 (a.free c ob q n hx) hx
  there := fun c ob q hx => by
    obtain ⟨o', e1⟩ := a.there c ob q hx
    exact b.there c o' e1 hx
  tups := fun c xs q => b.tups c xs (a.tups c xs q)
  frzs := fun c ob xs q => b.frzs c ob xs (a.frzs c ob xs q)
  tbls := fun c ps q => by
    obtain ⟨m1, e1⟩ := a.tbls c ps q
    obtain ⟨m2, e2⟩ := b.tbls c _ e1
    exact ⟨m1 ++ m2, by rw [e2, Array.append_assoc]⟩
theorem Un.kept (k : ∀ b u, h.get? b = some u → h'.get? b = some u) : Un fs ex H H h h' :=
  ⟨fun b ob q _ _ _ => k b ob q, fun b ob q _ _ _ => ⟨ob.slots, k b ob q⟩, fun _ _ _ n _ => n, fun b ob q _ => ⟨ob, k b ob q⟩, fun _ _ q => q, fun _ _ _ q => q, fun _ ps q => ⟨#[], by rw [q]; simp⟩⟩
theorem Un.refl : Un fs ex H H h h := Un.kept fun _ _ q => q
theorem Un.laid (k : ∀ b u, h.get? b = some u → h'.get? b = some u) (hp : h.objs.size ≤ a) (hn : H a = none) : Un fs ex H (upd H a o) h h' where
  keep := fun b u q _ _ _ => k b u q
  slot := fun b u q _ _ _ => ⟨u.slots, k b u q⟩
  free := fun b u q n _ => by rw [upd_ne (Nat.ne_of_lt (Nat.lt_of_lt_of_le (Heap.lt_size q) hp))]; exact n
  there := fun b u q _ => ⟨u, k b u q⟩
  tups := fun b xs q => by rw [upd_ne (ne_of_none q hn)]; exact q
  frzs := fun b u xs q => by rw [upd_ne (ne_of_none q hn)]; exact q
  tbls := fun b ps q => ⟨#[], by rw [upd_ne (ne_of_none q hn), q]; simp⟩
theorem Un.write (mu : Mut (H x)) (he : e = x ∨ H e = some (.own x)) (k : ∀ b u, b ≠ e → h.get? b = some u → h'.get? b = some u) (heo : ∃ u, h'.get? e = some u) : Un fs ex H (upd H x o) h h' := by
  have hx : ∀ b, H b = none → b ≠ x := fun b n z => by subst z; rw [n] at mu; exact mu
  have hb : ∀ b, H b = none → b ≠ e := fun b n z => by
    subst z
    rcases he with r | r
    · exact hx b n r
    · rw [n] at r; cases r
  have hm : ∀ b u, H b = some u → ¬ Mut (some u) → b ≠ x := fun b u q nm z => by subst z; rw [q] at mu; exact nm mu
  refine ⟨fun b u q n _ _ => k b u (hb b n) q, fun b u q n _ _ => ⟨u.slots, k b u (hb b n) q⟩, fun b u q n _ => by rw [upd_ne (hx b n)]; exact n, fun b u q _ => ?_,
    fun b xs q => by rw [upd_ne (hm b _ q fun z => z)]; exact q, fun b u xs q => by rw [upd_ne (hm b _ q fun z => z)]; exact q, fun b ps q => ⟨#[], by rw [upd_ne (hm b _ q fun z => z), q]; simp⟩⟩
  by_cases hbe : b = e
  · subst hbe; exact heo
  · exact ⟨u, k b u hbe q⟩
end
def trk (h : Heap) (H : Hp) : List Addr := (List.range h.objs.size).filter fun a => (H a).isSome
def hidT (h : Heap) (H : Hp) : Heap := PySem.W.hideAll h (trk h H)
theorem hidT_size (h : Heap) (H : Hp) : (hidT h H).objs.size = h.objs.size := PySem.W.hideAll_size _ _
theorem hidT_get {h : Heap} {H : Hp} {b : Addr} {o : Obj} (e : h.get? b = some o) (n : H b = none) : (hidT h H).get? b = some o :=
  PySem.W.hideAll_get _ e fun hm => by
    have q : (H b).isSome = true := (List.mem_filter.mp hm).2
    rw [n] at q; simp at q
theorem of_hidT {h : Heap} {H : Hp} {b : Addr} {o : Obj} (e : (hidT h H).get? b = some o) : h.get? b = some o ∧ H b = none := by
  have e' : h.get? b = some o := PySem.W.of_hideAll (trk h H) e
  refine ⟨e', ?_⟩
  cases q : H b with
  | none => rfl
  | some x =>
    have hm : b ∈ trk h H := List.mem_filter.mpr ⟨List.mem_range.mpr (Heap.lt_size e'), by simp [q]⟩
    have z : (hidT h H).get? b = none := PySem.W.hideAll_none (trk h H) hm
    rw [z] at e; cases e
def allNews (g h : Heap) (L : Addr) : List (Addr × Obj) := (List.range h.objs.size).filterMap fun a => if a = L ∨ (g.get? a).isSome = true then none else (h.get? a).map fun o => (a, o)
def rest (g h : Heap) (L d : Addr) : List (Addr × Obj) := (allNews g h L).filter fun p => decide (p.1 ≠ d)
end L2
namespace L2
open PySem PySem.Spec PyProof.Rows
structure Mod (K : PySem.W.Frag) (mg : Str → Option Value) (base : Heap) : Prop where
  kin : K.In base
  glob : base.Ns mainGlobals mg
  blt : ∃ mb, base.Ns builtinsNs mb ∧ ∀ x : Str, x ≠ "__name__" → mb x = bootBuiltins x
  nolimit : base.NoLimit
structure Cx where
  prog : Program
  w : World
  K : PySem.W.Frag
  mg : Str → Option Value
  base : Heap
  A : Around
  N : List Str
  s₀ : Shared
  H₀ : Hp
  env : Env
  outer : List Env
  stack : List Env
  ex : List Addr
  fn : Str → Bool
  calm : Bool
  pn : List (Addr × Obj)
  xe : Value → Shared → Prop
def frs (l : List Env) : List Addr := l.filterMap (·.frame)
abbrev Cx.fs (X : Cx) : List Addr := frs X.outer
def Vis (sc : Scope) (x : Str) : Prop := sc.names.lookup x = some .local ∨ sc.names.lookup x = some .cell ∨ sc.names.lookup x = some .free
def Loc (sc : Scope) (x : Str) : Prop := sc.names.lookup x = some .local ∨ sc.names.lookup x = some .cell
def Look (env : Env) (h : Heap) (m : Str → Option Value) (x : Str) (u : Value) : Prop :=
  (env.kindOf x = some .local ∧ m x = some u) ∨ ((env.kindOf x = some .cell ∨ env.kindOf x = some .free) ∧ ∃ c, env.cells.lookup x = some c ∧ h.IsCell c (some u))
structure Cx.Ok (X : Cx) : Prop where
  mod : Mod X.K X.mg X.base
  kind : X.env.scope.kind = .function
  glob : X.env.globals = mainGlobals
  blt : X.env.builtins = builtinsNs
  above : X.s₀.heap.objs.size ≤ X.env.locals
  inj : ∀ x y c, X.env.cells.lookup x = some c → X.env.cells.lookup y = some c → x = y
  has : ∀ x, (X.env.kindOf x = some .cell ∨ X.env.kindOf x = some .free) → ∃ c, X.env.cells.lookup x = some c
  cab : ∀ x c, X.fn x = true → X.env.cells.lookup x = some c → X.s₀.heap.objs.size ≤ c
  hd : X.calm = true → X.A.handled = none
  frames : X.A.frames = some X.stack
  stk : X.stack = X.outer ∨ (X.stack = X.env :: X.outer ∧ X.env.frame = some X.env.locals)
  exf : ∀ b ∈ X.ex, b ≠ X.env.locals ∧ ∀ x c, X.env.cells.lookup x = some c → c ≠ b
  bs : ∀ b o, X.base.get? b = some o → X.s₀.heap.get? b = some o ∧ X.H₀ b = none
  bsz : X.base.objs.size ≤ X.s₀.heap.objs.size
  noex : ∀ b o, X.base.get? b = some o → b ∉ X.ex
  exfs : ∀ b ∈ X.ex, b ∉ X.fs
  funs : X.s₀.heap.FunFrames X.base X.outer
  frf : ∀ b ∈ X.fs, X.H₀ b = none
structure Inv (X : Cx) (pins : List (Addr × Obj)) (σ : List (Option V)) (H : Hp) (s : Shared) : Prop where
  ok : X.Ok
  os : s.os = X.s₀.os
  bare : AllBare s.gens
  base : Un X.fs X.ex X.H₀ H X.s₀.heap s.heap
  loc : ∃ m, s.heap.Ns X.env.locals m ∧ ∀ (i : Nat) (x : Str) (v : V), X.N[i]? = some x → σ[i]? = some (some v) → Vis X.env.scope x → ∃ u, RelV v u ∧ Look X.env s.heap m x u
  cell : ∀ x c, X.env.cells.lookup x = some c → ∃ v, s.heap.IsCell c v
  free : H X.env.locals = none
  freeC : ∀ x c, X.env.cells.lookup x = some c → H c = none
  pin : ∀ p ∈ X.pn ++ pins, s.heap.get? p.1 = some p.2 ∧ H p.1 = none ∧ p.1 ≠ X.env.locals ∧ p.1 ∉ X.fs ∧ ∀ v, p.2.data ≠ .cell v
  hok : HOk X.prog X.w H s.heap
  len : σ.length = X.N.length
section
variable {X : Cx} {pins : List (Addr × Obj)} {σ : List (Option V)} {H H' : Hp} {s : Shared} {h' : Heap}
theorem Cx.Ok.nofr (ok : X.Ok) {b : Addr} {o : Obj} (e : X.base.get? b = some o) : b ∉ X.fs := fun hb => by
  have := (ok.funs.mem hb).1
  rw [e] at this; cases this
theorem Inv.bs (I : Inv X pins σ H s) : ∀ b o, X.base.get? b = some o → s.heap.get? b = some o ∧ H b = none := fun b o e =>
  ⟨I.base.keep b o (I.ok.bs b o e).1 (I.ok.bs b o e).2 (I.ok.nofr e) (I.ok.noex b o e), I.base.free b o (I.ok.bs b o e).1 (I.ok.bs b o e).2 (I.ok.noex b o e)⟩
theorem Inv.bk (I : Inv X pins σ H s) : ∀ b o, X.base.get? b = some o → s.heap.get? b = some o := fun b o e => (I.bs b o e).1
theorem Inv.mod (I : Inv X pins σ H s) : Mod X.K X.mg X.base := I.ok.mod
theorem Inv.kIn (I : Inv X pins σ H s) : X.K.In s.heap := I.ok.mod.kin.keeps I.bk
theorem Inv.fr (I : Inv X pins σ H s) : ∃ m, Fr X.base X.env.locals s.heap m :=
  let ⟨m, hn, _⟩ := I.loc
  ⟨m, hn, I.bk, Nat.le_trans I.ok.bsz I.ok.above⟩
theorem Inv.lt (I : Inv X pins σ H s) : X.env.locals < s.heap.objs.size := let ⟨_, hn, _⟩ := I.loc; hn.lt
theorem Inv.sz (I : Inv X pins σ H s) : X.s₀.heap.objs.size ≤ s.heap.objs.size := Nat.le_trans I.ok.above (Nat.le_of_lt I.lt)
theorem Inv.nofs (I : Inv X pins σ H s) {a : Addr} (h : s.heap.objs.size ≤ a) : a ∉ X.fs := fun hb => by
  obtain ⟨_, o, ho, _⟩ := I.ok.funs.mem hb
  exact absurd (Nat.lt_of_lt_of_le (Heap.lt_size ho) (Nat.le_trans I.sz h)) (Nat.lt_irrefl _)
theorem Inv.cne (I : Inv X pins σ H s) : ∀ x c, X.env.cells.lookup x = some c → c ≠ X.env.locals := fun x c e z => by
  obtain ⟨v, o, ho, hd⟩ := I.cell x c e
  obtain ⟨m, ⟨o', es, ep, ho', hd', _⟩, _⟩ := I.loc
  rw [z, ho'] at ho; cases ho; rw [hd'] at hd; cases hd
theorem Inv.funs (I : Inv X pins σ H s) : s.heap.FunFrames X.base X.outer := by
  have all : ∀ (l : List Env), (∀ b ∈ frs l, b ∈ X.fs) → X.s₀.heap.FunFrames X.base l → s.heap.FunFrames X.base l := by
    intro l
    induction l with
    | nil => intro _ _; trivial
    | cons env r ih =>
      intro hs hl
      obtain ⟨hk, ⟨L, o, hf, hn, ho, hd⟩, hr⟩ := hl
      have hL : L ∈ X.fs := hs L (by unfold frs; rw [List.filterMap_cons, hf]; exact List.mem_cons_self)
      obtain ⟨sl, e⟩ := I.base.slot L o ho (I.ok.frf L hL) hL fun z => I.ok.exfs L z hL
      exact ⟨hk, ⟨L, _, hf, hn, e, hd⟩, ih (fun b hb => hs b (by unfold frs; rw [List.filterMap_cons, hf]; exact List.mem_cons_of_mem _ hb)) hr⟩
  exact all X.outer (fun _ hb => hb) I.ok.funs
theorem Inv.stack (I : Inv X pins σ H s) : s.heap.FunFrames X.base X.stack := by
  rcases I.ok.stk with e | ⟨e, hf⟩
  · rw [e]; exact I.funs
  · rw [e]
    obtain ⟨m, hn, _⟩ := I.loc
    refine .cons (by rw [I.ok.kind]; decide) hf hn ?_ I.funs
    exact Heap.get?_none_of_le (Nat.le_trans I.ok.bsz I.ok.above)
theorem Inv.stkSub (I : Inv X pins σ H s) : ∀ b ∈ frs X.stack, b ∈ X.env.locals :: X.fs := fun b hb => by
  rcases I.ok.stk with e | ⟨e, hf⟩
  · rw [e] at hb; exact List.mem_cons_of_mem _ hb
  · rw [e] at hb
    unfold frs at hb
    rw [List.filterMap_cons, hf] at hb
    exact hb
theorem Inv.stkFree (I : Inv X pins σ H s) : ∀ b ∈ frs X.stack, H b = none := fun b hb => by
  rcases List.mem_cons.mp (I.stkSub b hb) with e | hb
  · rw [e]; exact I.free
  · obtain ⟨_, o, ho, _⟩ := I.ok.funs.mem hb
    exact I.base.free b o ho (I.ok.frf b hb) fun z => I.ok.exfs b z hb
theorem Inv.step {g' : Array GenState} {t' : Nat} {d' : Drawn} {ch : List Addr} (I : Inv X pins σ H s)
    (hch : ∀ b ∈ ch, (b ∈ X.ex ∨ X.s₀.heap.objs.size ≤ b) ∧ b ≠ X.env.locals ∧ (∀ x c, X.env.cells.lookup x = some c → c ≠ b) ∧ ∀ p ∈ X.pn ++ pins, p.1 ≠ b)
    (keep : ∀ b o, b ≠ X.env.locals → b ∉ X.fs → b ∉ ch → s.heap.get? b = some o → H b = none → h'.get? b = some o)
    (slot : ∀ b o, b ≠ X.env.locals → b ∈ X.fs → b ∉ ch → s.heap.get? b = some o → H b = none → ∃ sl, h'.get? b = some { o with slots := sl }) (free : ∀ b o, b ∉ ch → s.heap.get? b = some o → H b = none → H' b = none)
    (there : ∀ b o, b ∉ ch → s.heap.get? b = some o → ∃ o', h'.get? b = some o')
    (tups : ∀ b xs, H b = some (.tup xs) → H' b = some (.tup xs)) (frzs : ∀ b o u, H b = some (.frz o u) → H' b = some (.frz o u)) (tbls : ∀ b ps, H b = some (.tbl ps) → ∃ more, H' b = some (.tbl (ps ++ more)))
    (ns : ∀ m, s.heap.Ns X.env.locals m → h'.Ns X.env.locals m) (hok : HOk X.prog X.w H' h') (hg : AllBare g') :
    Inv X pins σ H' { s with heap := h', gens := g', drawn := d', toks := t' } := by
  have neL : ∀ b o, X.s₀.heap.get? b = some o → b ≠ X.env.locals := fun b o e => Nat.ne_of_lt (Nat.lt_of_lt_of_le (Heap.lt_size e) I.ok.above)
  have neC : ∀ b o, X.s₀.heap.get? b = some o → b ∉ X.ex → b ∉ ch := fun b o e hx hb => by
    rcases (hch b hb).1 with z | z
    · exact hx z
    · exact absurd (Nat.lt_of_lt_of_le (Heap.lt_size e) z) (Nat.lt_irrefl _)
  have cellK : ∀ x c, X.env.cells.lookup x = some c → ∀ v, s.heap.IsCell c v → h'.IsCell c v := fun x c e v ⟨o, ho, hd⟩ => by
    have nch : c ∉ ch := fun z => (hch c z).2.2.1 x c e rfl
    by_cases hc : c ∈ X.fs
    · obtain ⟨sl, q⟩ := slot c o (I.cne x c e) hc nch ho (I.freeC x c e)
      exact ⟨_, q, hd⟩
    · exact ⟨o, keep c o (I.cne x c e) hc nch ho (I.freeC x c e), hd⟩
  refine ⟨I.ok, I.os, hg, ⟨fun b o e n hb hx => ?_, fun b o e n hb hx => ?_, fun b o e n hx => ?_, fun b o e hx => ?_, fun b xs e => tups b xs (I.base.tups b xs e), fun b o xs e => frzs b o xs (I.base.frzs b o xs e), fun b ps e => ?_⟩, ?_, fun x c e => ?_, ?_, fun x c e => ?_, fun p hp => ?_, hok, I.len⟩
  · exact keep b o (neL b o e) hb (neC b o e hx) (I.base.keep b o e n hb hx) (I.base.free b o e n hx)
  · obtain ⟨sl, e1⟩ := I.base.slot b o e n hb hx
    obtain ⟨sl', e2⟩ := slot b _ (neL b o e) hb (neC b o e hx) e1 (I.base.free b o e n hx)
    exact ⟨sl', e2⟩
  · obtain ⟨o', e1⟩ := I.base.there b o e hx
    exact free b o' (neC b o e hx) e1 (I.base.free b o e n hx)
  · obtain ⟨o', e1⟩ := I.base.there b o e hx
    exact there b o' (neC b o e hx) e1
  · obtain ⟨m1, e1⟩ := I.base.tbls b ps e
    obtain ⟨m2, e2⟩ := tbls b _ e1
    exact ⟨m1 ++ m2, by rw [e2, Array.append_assoc]⟩
  · obtain ⟨m, hn, hl⟩ := I.loc
    refine ⟨m, ns m hn, fun i x v e1 e2 e3 => ?_⟩
    obtain ⟨u, r, l⟩ := hl i x v e1 e2 e3
    refine ⟨u, r, ?_⟩
    rcases l with l | ⟨k, c, e, z⟩
    · exact .inl l
    · exact .inr ⟨k, c, e, cellK x c e _ z⟩
  · obtain ⟨v, z⟩ := I.cell x c e
    exact ⟨v, cellK x c e v z⟩
  · obtain ⟨m, ⟨o, _, _, ho, _⟩, _⟩ := I.loc
    exact free _ o (fun z => (hch _ z).2.1 rfl) ho I.free
  · obtain ⟨v, o, ho, hd⟩ := I.cell x c e
    exact free c o (fun z => (hch c z).2.2.1 x c e rfl) ho (I.freeC x c e)
  · obtain ⟨e, n, ne, nf, d⟩ := I.pin p hp
    have nch : p.1 ∉ ch := fun z => (hch p.1 z).2.2.2 p hp rfl
    exact ⟨keep p.1 p.2 ne nf nch e n, free p.1 p.2 nch e n, ne, nf, d⟩
theorem Inv.un {t' : Nat} (I : Inv X pins σ H s) (u : Un X.fs [] H H' s.heap h') (hok : HOk X.prog X.w H' h') : Inv X pins σ H' { s with heap := h', toks := t' } := by
  obtain ⟨m, ⟨o, es, ep, ho, r⟩, _⟩ := id I.loc
  obtain ⟨sl, hL⟩ := u.any ho I.free (by simp)
  exact I.step (g' := s.gens) (d' := s.drawn) (ch := []) (fun _ z => nomatch z) (fun b o _ hb _ e n => u.keep b o e n hb (by simp)) (fun b o _ hb _ e n => u.slot b o e n hb (by simp)) (fun b o _ e n => u.free b o e n (by simp)) (fun b o _ e => u.there b o e (by simp)) u.tups u.frzs u.tbls (fun m' hm => by
    obtain ⟨o', es', ep', ho', r'⟩ := hm
    rw [ho] at ho'; cases ho'
    exact ⟨_, es', ep', hL, r'⟩) hok I.bare
theorem Inv.call {g' : Array GenState} {t' : Nat} {d' : Drawn} {ch : List Addr} (I : Inv X pins σ H s) (u : Un (frs X.stack) ch H H' s.heap h') (hok : HOk X.prog X.w H' h') (hg : AllBare g')
    (hch : ∀ b ∈ ch, (b ∈ X.ex ∨ X.s₀.heap.objs.size ≤ b) ∧ b ≠ X.env.locals ∧ (∀ x c, X.env.cells.lookup x = some c → c ≠ b) ∧ ∀ p ∈ X.pn ++ pins, p.1 ≠ b) :
    Inv X pins σ H' { s with heap := h', gens := g', drawn := d', toks := t' } := by
  obtain ⟨m, ⟨o, es, ep, ho, r⟩, _⟩ := id I.loc
  obtain ⟨sl, hL⟩ := u.any ho I.free fun z => (hch _ z).2.1 rfl
  exact I.step (ch := ch) hch (fun b o hL hb hc e n => u.keep b o e n (fun z => (List.mem_cons.mp (I.stkSub b z)).elim hL hb) hc) (fun b o _ _ hc e n => u.any e n hc) (fun b o hc e n => u.free b o e n hc) (fun b o hc e => u.there b o e hc) u.tups u.frzs u.tbls (fun m' hm => by
    obtain ⟨o', es', ep', ho', r'⟩ := hm
    rw [ho] at ho'; cases ho'
    exact ⟨_, es', ep', hL, r'⟩) hok hg
theorem Inv.turned {t' : Nat} {it : Addr} (I : Inv X pins σ H s) (k : ∀ b o, b ≠ it → s.heap.get? b = some o → h'.get? b = some o) (hn : H it = none) (hL : it ≠ X.env.locals)
    (h1 : it ∈ X.ex ∨ X.s₀.heap.objs.size ≤ it) (h2 : ∀ x c, X.env.cells.lookup x = some c → c ≠ it) (h3 : ∀ p ∈ X.pn ++ pins, p.1 ≠ it) : Inv X pins σ H { s with heap := h', toks := t' } := by
  have nit : ∀ b u, H b = some u → b ≠ it := fun b u e z => by rw [z, hn] at e; cases e
  refine I.step (g' := s.gens) (d' := s.drawn) (ch := [it]) (fun b hb => ?_) (fun b o _ _ hc e _ => k b o (fun z => hc (by simp [z])) e) (fun b o _ _ hc e _ => ⟨o.slots, k b o (fun z => hc (by simp [z])) e⟩) (fun _ _ _ _ n => n)
    (fun b o hc e => ⟨o, k b o (fun z => hc (by simp [z])) e⟩) (fun _ _ e => e) (fun _ _ _ e => e) (fun b ps e => ⟨#[], by rw [e]; simp⟩) (fun m hm => ?_) (fun b u e => ?_) I.bare
  · have e : b = it := by simpa using hb
    subst e
    exact ⟨h1, hL, h2, h3⟩
  · obtain ⟨o, es, ep, ho, r⟩ := hm
    exact ⟨o, es, ep, k _ o (Ne.symm hL) ho, r⟩
  · refine (I.hok b u e).stay (fun c v hc q => k c v ?_ q) (fun _ q => q) fun _ _ q => q
    rcases hc with z | z
    · rw [z]; exact nit b u e
    · exact nit c _ z
theorem Inv.tok (I : Inv X pins σ H s) (t : Nat) : Inv X pins σ H { s with toks := t } := I.un (h' := s.heap) (t' := t) Un.refl I.hok
theorem Inv.kept {t' : Nat} (I : Inv X pins σ H s) (k : ∀ b u, s.heap.get? b = some u → h'.get? b = some u) : Inv X pins σ H { s with heap := h', toks := t' } := I.un (Un.kept k) (I.hok.kept k)
theorem Inv.laid {a : Addr} {o : HO} {t' : Nat} (I : Inv X pins σ H s) (k : ∀ b u, s.heap.get? b = some u → h'.get? b = some u) (hp : s.heap.objs.size ≤ a) (new : ObjOk X.prog X.w (upd H a o) h' a o) :
    Inv X pins σ (upd H a o) { s with heap := h', toks := t' } := I.un (Un.laid k hp (I.hok.fresh hp)) (I.hok.laid k hp new)
theorem Inv.write {x e : Addr} {o : HO} {t' : Nat} (I : Inv X pins σ H s) (mu : Mut (H x)) (he : e = x ∨ H e = some (.own x)) (k : ∀ b u, b ≠ e → s.heap.get? b = some u → h'.get? b = some u) (heo : ∃ u, h'.get? e = some u)
    (new : ObjOk X.prog X.w (upd H x o) h' x o) : Inv X pins σ (upd H x o) { s with heap := h', toks := t' } := I.un (Un.write mu he k heo) (I.hok.write mu he k heo new)
theorem Inv.pins_of {pins' : List (Addr × Obj)} (I : Inv X pins σ H s) (h : ∀ p ∈ pins', s.heap.get? p.1 = some p.2 ∧ H p.1 = none ∧ p.1 ≠ X.env.locals ∧ p.1 ∉ X.fs ∧ ∀ v, p.2.data ≠ .cell v) : Inv X pins' σ H s :=
  ⟨I.ok, I.os, I.bare, I.base, I.loc, I.cell, I.free, I.freeC, fun p hp => (List.mem_append.mp hp).elim (fun z => I.pin p (List.mem_append_left _ z)) (h p), I.hok, I.len⟩
theorem nodup_ix {N : List Str} (hN : N.Nodup) {i j : Nat} {x : Str} (a : N[i]? = some x) (b : N[j]? = some x) : i = j := by
  obtain ⟨h1, e1⟩ := List.getElem?_eq_some_iff.mp a
  obtain ⟨h2, e2⟩ := List.getElem?_eq_some_iff.mp b
  exact (List.getElem_inj hN).mp (e1.trans e2.symm)
theorem store_ok2 {M : Model} {A : Around} {E : Value → Shared → Prop} {i : Nat} {x : Str} {v : V} {u : Value} {Q : Unit → Shared → Prop} (I : Inv X pins σ H s) (hN : X.N.Nodup) (hi : X.N[i]? = some x) (hx : Loc X.env.scope x) (r : RelV v u)
    (h : ∀ s', Inv X pins (σ.set i (some v)) H s' → (∃ a, Heap.SameBut a s.heap s'.heap ∧ (a = X.env.locals ∨ X.env.cells.lookup x = some a)) → Q () s') (hf : X.fn x = true ∨ X.env.scope.names.lookup x = some .local := by first | exact .inl rfl | exact .inr rfl | assumption) : wpAny M A (storeName X.env x u) Q E s := by
  obtain ⟨m, hn, hl⟩ := id I.loc
  have hcls : (X.env.scope.kind == .class || (X.env.scope.kind == .module && X.env.locals != X.env.globals)) = false := by rw [I.ok.kind]; rfl
  have hiσ : i < σ.length := by rw [I.len]; exact (List.getElem?_eq_some_iff.mp hi).1
  have cne := I.cne
  have tracked : ∀ {a : Addr} {h' : Heap}, (∃ o, s.heap.get? a = some o ∧ H a = none) → Heap.SameBut a s.heap h' → HOk X.prog X.w H h' := fun {a h'} ha hs b ob e => by
    obtain ⟨_, _, hfree⟩ := ha
    refine (I.hok b ob e).stay (fun c w' hc q => (hs.2 c ?_).trans q) (fun _ q => q) fun _ _ q => q
    rintro rfl
    rcases hc with rfl | hc
    · rw [hfree] at e; cases e
    · rw [hfree] at hc; cases hc
  rcases hx with hk | hk
  · refine wpAny_storeName_local hk hn (fun h' hn' hs => ?_) hcls
    obtain ⟨oL, _, _, hoL, _⟩ := id hn
    refine h _ ⟨I.ok, I.os, I.bare, ⟨fun b o e n hb hx => ?_, fun b o e n hb hx => ?_, I.base.free, fun b o e hx => ?_, I.base.tups, I.base.frzs, I.base.tbls⟩, ⟨_, hn', fun j y v' e1 e2 e3 => ?_⟩, fun y c e => ?_, I.free, I.freeC, fun p hp => ?_, tracked ⟨oL, hoL, I.free⟩ hs, by simpa using I.len⟩ ⟨_, hs, .inl rfl⟩
    · exact (hs.2 b (Nat.ne_of_lt (Nat.lt_of_lt_of_le (Heap.lt_size e) I.ok.above))).trans (I.base.keep b o e n hb hx)
    · obtain ⟨sl, e1⟩ := I.base.slot b o e n hb hx
      exact ⟨sl, (hs.2 b (Nat.ne_of_lt (Nat.lt_of_lt_of_le (Heap.lt_size e) I.ok.above))).trans e1⟩
    · obtain ⟨o', e1⟩ := I.base.there b o e hx
      exact ⟨o', (hs.2 b (Nat.ne_of_lt (Nat.lt_of_lt_of_le (Heap.lt_size e) I.ok.above))).trans e1⟩
    · by_cases hj : j = i
      · subst hj
        rw [hi] at e1; cases e1
        rw [List.getElem?_set_self hiσ] at e2
        cases e2
        exact ⟨u, r, .inl ⟨hk, by simp⟩⟩
      · rw [List.getElem?_set_ne (Ne.symm hj)] at e2
        obtain ⟨u', r', q⟩ := hl j y v' e1 e2 e3
        refine ⟨u', r', ?_⟩
        rcases q with ⟨k, e⟩ | ⟨k, c, e, z⟩
        · refine .inl ⟨k, ?_⟩
          have : y ≠ x := fun e => hj (nodup_ix hN e1 (e ▸ hi))
          simp [this, e]
        · exact .inr ⟨k, c, e, z.sameBut hs (cne y c e)⟩
    · obtain ⟨w', z⟩ := I.cell y c e
      exact ⟨w', z.sameBut hs (cne y c e)⟩
    · obtain ⟨e, n, ne, nf, d⟩ := I.pin p hp
      exact ⟨(hs.2 p.1 ne).trans e, n, ne, nf, d⟩
  · have hfn : X.fn x = true := by
      rcases hf with z | z
      · exact z
      · rw [z] at hk; cases hk
    obtain ⟨c, hc⟩ := I.ok.has x (.inl hk)
    obtain ⟨w', z⟩ := I.cell x c hc
    refine wpAny_storeName_cell I.ok.kind hk hc z (fun h' hc' hs => ?_)
    obtain ⟨oc, hoc, hocd⟩ := id z
    refine h { s with heap := h' } ⟨I.ok, I.os, I.bare, ⟨fun b o e n hb hx => ?_, fun b o e n hb hx => ?_, I.base.free, fun b o e hx => ?_, I.base.tups, I.base.frzs, I.base.tbls⟩, ⟨m, hn.sameBut hs (Ne.symm (cne x c hc)), fun j y v' e1 e2 e3 => ?_⟩, fun y c' e => ?_, I.free, I.freeC, fun p hp => ?_, tracked ⟨oc, hoc, I.freeC x c hc⟩ hs, by simpa using I.len⟩ ⟨c, hs, .inr hc⟩
    · exact (hs.2 b (Nat.ne_of_lt (Nat.lt_of_lt_of_le (Heap.lt_size e) (I.ok.cab x c hfn hc)))).trans (I.base.keep b o e n hb hx)
    · obtain ⟨sl, e1⟩ := I.base.slot b o e n hb hx
      exact ⟨sl, (hs.2 b (Nat.ne_of_lt (Nat.lt_of_lt_of_le (Heap.lt_size e) (I.ok.cab x c hfn hc)))).trans e1⟩
    · obtain ⟨o', e1⟩ := I.base.there b o e hx
      exact ⟨o', (hs.2 b (Nat.ne_of_lt (Nat.lt_of_lt_of_le (Heap.lt_size e) (I.ok.cab x c hfn hc)))).trans e1⟩
    · by_cases hj : j = i
      · subst hj
        rw [hi] at e1; cases e1
        rw [List.getElem?_set_self hiσ] at e2
        cases e2
        exact ⟨u, r, .inr ⟨.inl hk, c, hc, hc'⟩⟩
      · rw [List.getElem?_set_ne (Ne.symm hj)] at e2
        obtain ⟨u', r', q⟩ := hl j y v' e1 e2 e3
        refine ⟨u', r', ?_⟩
        rcases q with q | ⟨k, c', e, z'⟩
        · exact .inl q
        · refine .inr ⟨k, c', e, z'.sameBut hs ?_⟩
          rintro rfl
          exact hj (nodup_ix hN e1 (I.ok.inj _ _ _ e hc ▸ hi))
    · by_cases hcc : c' = c
      · subst hcc; exact ⟨_, hc'⟩
      · obtain ⟨w2, z2⟩ := I.cell y c' e
        exact ⟨w2, z2.sameBut hs hcc⟩
    · obtain ⟨e, n, ne, nf, d⟩ := I.pin p hp
      refine ⟨(hs.2 p.1 ?_).trans e, n, ne, nf, d⟩
      intro q
      rw [q, hoc] at e
      have q' : oc = p.2 := Option.some.inj e
      exact d w' (by rw [← q']; exact hocd)
theorem store_ok {M : Model} {A : Around} {E : Value → Shared → Prop} {i : Nat} {x : Str} {v : V} {u : Value} {Q : Unit → Shared → Prop} (I : Inv X pins σ H s) (hN : X.N.Nodup) (hi : X.N[i]? = some x) (hx : Loc X.env.scope x) (r : RelV v u)
    (h : ∀ s', Inv X pins (σ.set i (some v)) H s' → Q () s') (hf : X.fn x = true ∨ X.env.scope.names.lookup x = some .local := by first | exact .inl rfl | exact .inr rfl | assumption) : wpAny M A (storeName X.env x u) Q E s :=
  store_ok2 I hN hi hx r (fun s' I' _ => h s' I') hf
theorem Inv.call' {s' : Shared} {ch : List Addr} (I : Inv X pins σ H s) (ho : s'.os = s.os) (u : Un (frs X.stack) ch H H' s.heap s'.heap) (hok : HOk X.prog X.w H' s'.heap) (hg : AllBare s'.gens)
    (hch : ∀ b ∈ ch, (b ∈ X.ex ∨ X.s₀.heap.objs.size ≤ b) ∧ b ≠ X.env.locals ∧ (∀ x c, X.env.cells.lookup x = some c → c ≠ b) ∧ ∀ p ∈ X.pn ++ pins, p.1 ≠ b) : Inv X pins σ H' s' := by
  obtain ⟨h', g', d', t', o'⟩ := s'
  have e : o' = s.os := ho
  subst e
  exact I.call (g' := g') (t' := t') (d' := d') u hok hg hch
end
abbrev XK := Value → Option Addr → Hp → Prop
abbrev St := List (Option V)
abbrev VK := V → Hp → Prop
abbrev TE := St → Hp → VK → Prop
abbrev TT := St → Hp → (Bool → Hp → Prop) → Prop
abbrev TA := St → Hp → (List V → Hp → Prop) → Prop
structure Ends where
  nx : St → Hp → Prop
  rt : VK
  bk : St → Hp → Prop := fun _ _ => False
  ct : St → Hp → Prop := fun _ _ => False
abbrev TS := Ends → St → Hp → Prop
def EP (X : Cx) (pins : List (Addr × Obj)) (σ : St) (Q : VK) (u : Value) (s' : Shared) : Prop := ∃ v H', Inv X pins σ H' s' ∧ RelV v u ∧ Q v H'
def TP (X : Cx) (pins : List (Addr × Obj)) (σ : St) (Q : Bool → Hp → Prop) (b : Bool) (s' : Shared) : Prop := ∃ H', Inv X pins σ H' s' ∧ Q b H'
def AP (X : Cx) (pins : List (Addr × Obj)) (σ : St) (Q : List V → Hp → Prop) (us : List Value) (s' : Shared) : Prop := ∃ vs H', Inv X pins σ H' s' ∧ Vals vs us ∧ Q vs H'
def SP (X : Cx) (pins : List (Addr × Obj)) (D : Ends) (f : Flow) (s' : Shared) : Prop :=
  match f with
  | .next => ∃ σ' H', Inv X pins σ' H' s' ∧ D.nx σ' H'
  | .brk => ∃ σ' H', Inv X pins σ' H' s' ∧ D.bk σ' H'
  | .cont => ∃ σ' H', Inv X pins σ' H' s' ∧ D.ct σ' H'
  | .ret u => ∃ v σ' H', Inv X pins σ' H' s' ∧ RelV v u ∧ D.rt v H'
def PE (X : Cx) (e : Expr) (t : TE) : Prop :=
  ∀ (pins : List (Addr × Obj)) (s : Shared) (σ : St) (H : Hp) (Q : VK), Inv X pins σ H s → t σ H Q → wpAny (model X.prog X.w) X.A (eval e X.env) (EP X pins σ Q) X.xe s
def PT (X : Cx) (e : Expr) (t : TT) : Prop :=
  ∀ (pins : List (Addr × Obj)) (s : Shared) (σ : St) (H : Hp) (Q : Bool → Hp → Prop), Inv X pins σ H s → t σ H Q → wpAny (model X.prog X.w) X.A (isTrue e X.env (eval e X.env)) (TP X pins σ Q) X.xe s
def PW (X : Cx) (e : Expr) (t : TT) : Prop :=
  ∀ (whole : Sem Value) (pins : List (Addr × Obj)) (s : Shared) (σ : St) (H : Hp) (Q : Bool → Hp → Prop), Inv X pins σ H s → t σ H Q → wpAny (model X.prog X.w) X.A (isTrue e X.env whole) (TP X pins σ Q) X.xe s
theorem PW.pt {X : Cx} {e : Expr} {t : TT} (h : PW X e t) : PT X e t := h _
def PA (X : Cx) (es : List Expr) (t : TA) : Prop :=
  ∀ (pos : Pos) (pins : List (Addr × Obj)) (s : Shared) (σ : St) (H : Hp) (Q : List V → Hp → Prop), Inv X pins σ H s → t σ H Q → wpAny (model X.prog X.w) X.A (spliced (backTo pos (starEach es X.env))) (AP X pins σ Q) X.xe s
def PS (X : Cx) (st : Stmt) (t : TS) : Prop :=
  ∀ (pins : List (Addr × Obj)) (s : Shared) (σ : St) (H : Hp) (D : Ends), Inv X pins σ H s → t D σ H → wpAny (model X.prog X.w) X.A (exec st X.env) (SP X pins D) X.xe s
def PSs (X : Cx) (st : List Stmt) (t : TS) : Prop :=
  ∀ (pins : List (Addr × Obj)) (s : Shared) (σ : St) (H : Hp) (D : Ends), Inv X pins σ H s → t D σ H → wpAny (model X.prog X.w) X.A (execs st X.env) (SP X pins D) X.xe s
theorem thn {α : Type} {t : Sem α} {Q Q' : α → Shared → Prop} {M : Model} {A : Around} {E : Value → Shared → Prop} {s : Shared} (h : wpAny M A t Q E s) (hQ : ∀ a s, Q a s → Q' a s) : wpAny M A t Q' E s := wpAny_mono h hQ fun _ _ x => x
end L2
namespace L2
open PySem PySem.Spec PyProof.Rows
section
variable {X : Cx}
def tVar (i : Nat) : TE := fun σ H Q => ∃ v, σ[i]? = some (some v) ∧ Q v H
def tC (v : V) : TE := fun _ H Q => Q v H
theorem pe_var {i : Nat} {x : Str} {pos : Pos} (hN : X.N[i]? = some x) (hv : Vis X.env.scope x) (hd : (x == ("__debug__" : Str)) = false := by decide) (hcd : (x == ("__classdict__" : Str)) = false := by decide) : PE X (.Name x pos) (tVar i) := by
  intro pins s σ H Q I h
  obtain ⟨v, e, h⟩ := h
  obtain ⟨m, hn, hl⟩ := I.loc
  obtain ⟨u, r, l⟩ := hl i x v hN e hv
  have fin : EP X pins σ Q u s := ⟨v, H, I, r, h⟩
  rcases l with ⟨hk, hm⟩ | ⟨hk, c, hc, hcell⟩
  · exact wpAny_Name (wpAny_loadName_local I.ok.kind hk hn hm fin) hd
  · rcases hk with hk | hk
    · exact wpAny_Name (wpAny_loadName_cell I.ok.kind hk hc hcell fin) hd
    · exact wpAny_Name (wpAny_loadName_free I.ok.kind hk hc hcell fin hcd) hd
theorem pe_int {i j pos} : PE X (.Constant (.int i) j pos) (tC (.int i)) := fun _ _ _ H _ I h => wpAny_Constant_int ⟨.int i, H, I.tok _, ⟨_, rfl⟩, h⟩
theorem pe_bl {b j pos} : PE X (.Constant (.bool b) j pos) (tC (.bl b)) := fun _ _ _ H _ I h => Constant_bool ⟨.bl b, H, I, rfl, h⟩
theorem pe_non {j pos} : PE X (.Constant .none j pos) (tC .non) := fun _ _ _ H _ I h => Constant_none ⟨.non, H, I, rfl, h⟩
theorem pe_str {x j pos} : PE X (.Constant (.str x) j pos) (tC (.str x)) := fun _ _ _ H _ I h => Calls.Constant_str ⟨.str x, H, I.tok _, ⟨_, rfl⟩, h⟩
def Gl (X : Cx) (x : Str) : Prop := X.env.kindOf x = some .globalImplicit
theorem ld_glob {E : Value → Shared → Prop} {pins : List (Addr × Obj)} {s : Shared} {σ : St} {H : Hp} {x : Str} {u : Value} {pos : Pos} {Q : Value → Shared → Prop} (I : Inv X pins σ H s) (hg : Gl X x) (hm : X.mg x = some u) (h : Q u s)
    (hd : (x == ("__debug__" : Str)) = false := by decide) : wpAny (model X.prog X.w) X.A (eval (.Name x pos) X.env) Q E s :=
  Calls.Name_function_global I.ok.kind hg (Calls.loadGlobal_global (by rw [I.ok.glob]; exact I.mod.glob.keeps I.bk) hm h) hd
theorem ld_blt {E : Value → Shared → Prop} {pins : List (Addr × Obj)} {s : Shared} {σ : St} {H : Hp} {x : Str} {u : Value} {pos : Pos} {Q : Value → Shared → Prop} (I : Inv X pins σ H s) (hg : Gl X x) (hm : X.mg x = none) (hv : bootBuiltins x = some u) (h : Q u s)
    (hn : x ≠ "__name__" := by decide) (hd : (x == ("__debug__" : Str)) = false := by decide) : wpAny (model X.prog X.w) X.A (eval (.Name x pos) X.env) Q E s := by
  obtain ⟨mb, h1, h2⟩ := I.mod.blt
  exact Calls.Name_function_global I.ok.kind hg (Calls.loadGlobal_builtin (by rw [I.ok.glob]; exact I.mod.glob.keeps I.bk) hm (by rw [I.ok.blt]; exact h1.keeps I.bk) ((h2 x hn).trans hv) h) hd
theorem pe_glob {x : Str} {v : V} {u : Value} {pos : Pos} (hg : Gl X x) (hm : X.mg x = some u) (r : RelV v u) (hd : (x == ("__debug__" : Str)) = false := by decide) : PE X (.Name x pos) (tC v) :=
  fun _ _ _ H _ I h => ld_glob I hg hm ⟨v, H, I, r, h⟩ hd
theorem pe_bltn {x : Str} {v : V} {u : Value} {pos : Pos} (hg : Gl X x) (hm : X.mg x = none) (hv : bootBuiltins x = some u) (r : RelV v u) (hn : x ≠ "__name__" := by decide) (hd : (x == ("__debug__" : Str)) = false := by decide) : PE X (.Name x pos) (tC v) :=
  fun _ _ _ H _ I h => ld_blt I hg hm hv ⟨v, H, I, r, h⟩ hn hd
variable {a b : Expr} {ta tb : TE} {pos : Pos}
def PC (X : Cx) (op : CmpOp) (a b : Expr) (t : TE) : Prop :=
  ∀ (pins : List (Addr × Obj)) (s : Shared) (σ : St) (H : Hp) (Q : VK), Inv X pins σ H s → t σ H Q →
    wpAny (model X.prog X.w) X.A (eval a X.env) (fun v s₁ => wpAny (model X.prog X.w) X.A (eval b X.env) (fun u s₂ => wpAny (model X.prog X.w) X.A (compareOp op v u) (EP X pins σ Q) X.xe s₂) X.xe s₁) X.xe s
theorem nobehind (b : Expr) {op : CmpOp} (h : op ≠ .In) (h2 : op ≠ .NotIn) : behindInMarks op b = false := by
  have e1 : (op == CmpOp.In) = false := by cases op <;> first | rfl | exact absurd rfl h
  have e2 : (op == CmpOp.NotIn) = false := by cases op <;> first | rfl | exact absurd rfl h2
  cases b <;> simp [behindInMarks, e1, e2]
def tIsN (ta : TE) : TE := fun σ H Q => ta σ H fun x H1 => Q (.bl (decide (x = .non))) H1
def tNotN (ta : TE) : TE := fun σ H Q => ta σ H fun x H1 => Q (.bl (!decide (x = .non))) H1
theorem RelV.none_iff {x : V} {v : Value} (r : RelV x v) : (v == Value.none) = decide (x = .non) := by
  cases x with
  | non => cases r; rfl
  | bl _ => cases r; rfl
  | int _ => obtain ⟨t, rfl⟩ := r; rfl
  | str _ => obtain ⟨t, rfl⟩ := r; rfl
  | byt _ => obtain ⟨t, rfl⟩ := r; rfl
  | flt _ => obtain ⟨t, rfl⟩ := r; rfl
  | ref _ => cases r; rfl
  | ty _ => cases r; rfl
theorem pc_isN {j pos'} (ha : PE X a ta) : PC X .Is a (.Constant .none j pos') (tIsN ta) := by
  intro pins s σ H Q I h
  refine thn (ha pins s σ H _ I h) fun v s1 ⟨x, H1, I1, r1, q1⟩ => ?_
  exact Constant_none (is_none_gen ⟨.bl _, H1, I1, by rw [r1.none_iff]; rfl, q1⟩)
theorem pc_notN {j pos'} (ha : PE X a ta) : PC X .IsNot a (.Constant .none j pos') (tNotN ta) := by
  intro pins s σ H Q I h
  refine thn (ha pins s σ H _ I h) fun v s1 ⟨x, H1, I1, r1, q1⟩ => ?_
  exact Constant_none (isnot_none_gen ⟨.bl _, H1, I1, by rw [r1.none_iff]; rfl, q1⟩)
def tB (t : TE) : TT := fun σ H Q => t σ H fun x H1 => ∃ c, x = .bl c ∧ Q c H1
theorem pe_cmp {op : CmpOp} {t : TE} (h : PC X op a b t) (h1 : behindInMarks op b = false := by first | exact nobehind _ (by decide) (by decide) | rfl) : PE X (.Compare a [op] [b] pos) t := fun pins s σ H Q I hw => wpAny_Compare1 (h pins s σ H Q I hw) h1
theorem pt_cmp {op : CmpOp} {t : TE} (h : PC X op a b t) (h1 : behindInMarks op b = false := by first | exact nobehind _ (by decide) (by decide) | rfl) : PT X (.Compare a [op] [b] pos) (tB t) := by
  intro pins s σ H Q I hw
  refine wpAny_isTrue_Compare1 (thn (h pins s σ H _ I hw) fun v s1 h1 => thn h1 fun u s2 h2 => thn h2 fun c s3 ⟨x, H1, I1, r1, q1⟩ => ?_) h1
  obtain ⟨d, rfl, q⟩ := q1
  cases r1
  exact wpAny_truthy_bool ⟨H1, I1, q⟩
theorem pt_val {e : Expr} {t : TE} (h : PE X e t) (he : ∀ whole, isTrue e X.env whole = (do let v ← whole; standAt e.pos; holding [v] (truthy v)) := by intro _; rfl) : PT X e (tB t) := by
  intro pins s σ H Q I hw
  refine isTrue_plain (thn (h pins s σ H _ I hw) fun v s1 ⟨x, H1, I1, r1, q1⟩ => ?_) (he _)
  obtain ⟨d, rfl, q⟩ := q1
  cases r1
  exact wpAny_truthy_bool ⟨H1, I1, q⟩
variable {tA tB' : TT} {rest : List Expr}
def tAnd (t u : TT) : TT := fun σ H Q => t σ H fun c H1 => if c = true then u σ H1 Q else Q false H1
def tOr (t u : TT) : TT := fun σ H Q => t σ H fun c H1 => if c = true then Q true H1 else u σ H1 Q
def tNot (t : TT) : TT := fun σ H Q => t σ H fun c H1 => Q (!c) H1
theorem pw_and1 (ha : PT X a tA) : PW X (.BoolOp .And [a] pos) tA := by
  intro wh pins s σ H Q I h
  refine isTrue_and (thn (ha pins s σ H Q I h) fun c s1 e => ?_)
  cases c with
  | true => exact isTrue_and_nil e
  | false => exact e
theorem pw_or1 (ha : PT X a tA) : PW X (.BoolOp .Or [a] pos) tA := by
  intro wh pins s σ H Q I h
  refine isTrue_or (thn (ha pins s σ H Q I h) fun c s1 e => ?_)
  cases c with
  | false => exact isTrue_or_nil e
  | true => exact e
theorem pw_and (ha : PT X a tA) (hb : PW X (.BoolOp .And (b :: rest) pos) tB') : PW X (.BoolOp .And (a :: b :: rest) pos) (tAnd tA tB') := by
  intro wh pins s σ H Q I h
  refine isTrue_and (thn (ha pins s σ H _ I h) fun c s1 ⟨H1, I1, q1⟩ => ?_)
  cases c with
  | true => exact hb wh pins s1 σ H1 Q I1 q1
  | false => exact ⟨H1, I1, q1⟩
theorem pw_or (ha : PT X a tA) (hb : PW X (.BoolOp .Or (b :: rest) pos) tB') : PW X (.BoolOp .Or (a :: b :: rest) pos) (tOr tA tB') := by
  intro wh pins s σ H Q I h
  refine isTrue_or (thn (ha pins s σ H _ I h) fun c s1 ⟨H1, I1, q1⟩ => ?_)
  cases c with
  | true => exact ⟨H1, I1, q1⟩
  | false => exact hb wh pins s1 σ H1 Q I1 q1
theorem pt_not (ha : PT X a tA) : PT X (.UnaryOp .Not a pos) (tNot tA) := by
  intro pins s σ H Q I h
  exact isTrue_not (ha pins s σ H (fun c H1 => Q (!c) H1) I h)
def tAndV (ta tb : TE) : TE := fun σ H Q => ta σ H fun x H1 => ∃ c, x = .bl c ∧ if c = true then tb σ H1 Q else Q (.bl false) H1
def tOrV (ta tb : TE) : TE := fun σ H Q => ta σ H fun x H1 => ∃ c, x = .bl c ∧ if c = true then Q (.bl true) H1 else tb σ H1 Q
def tNotV (ta : TE) : TE := fun σ H Q => ta σ H fun x H1 => ∃ c, x = .bl c ∧ Q (.bl (!c)) H1
theorem pe_one {op} {t : TE} (h : PE X a t) : PE X (.BoolOp op [a] pos) t := fun pins s σ H Q I hw => BoolOp_one (h pins s σ H Q I hw)
theorem pe_and (ha : PE X a ta) (hb : PE X (.BoolOp .And (b :: rest) pos) tb) : PE X (.BoolOp .And (a :: b :: rest) pos) (tAndV ta tb) := by
  intro pins s σ H Q I h
  refine BoolOp_and (thn (ha pins s σ H _ I h) fun v s1 ⟨x, H1, I1, r1, q1⟩ => ?_)
  obtain ⟨c, rfl, q1⟩ := q1
  cases r1
  refine wpAny_truthy_bool ?_
  cases c with
  | true => exact hb pins s1 σ H1 Q I1 q1
  | false => exact ⟨.bl false, H1, I1, rfl, q1⟩
theorem pe_or (ha : PE X a ta) (hb : PE X (.BoolOp .Or (b :: rest) pos) tb) : PE X (.BoolOp .Or (a :: b :: rest) pos) (tOrV ta tb) := by
  intro pins s σ H Q I h
  refine BoolOp_or (thn (ha pins s σ H _ I h) fun v s1 ⟨x, H1, I1, r1, q1⟩ => ?_)
  obtain ⟨c, rfl, q1⟩ := q1
  cases r1
  refine wpAny_truthy_bool ?_
  cases c with
  | false => exact hb pins s1 σ H1 Q I1 q1
  | true => exact ⟨.bl true, H1, I1, rfl, q1⟩
theorem pe_not (ha : PE X a ta) : PE X (.UnaryOp .Not a pos) (tNotV ta) := by
  intro pins s σ H Q I h
  refine UnaryOp_ (thn (ha pins s σ H _ I h) fun v s1 ⟨x, H1, I1, r1, q1⟩ => ?_)
  obtain ⟨c, rfl, q1⟩ := q1
  cases r1
  exact not_of (wpAny_truthy_bool ⟨.bl (!c), H1, I1, rfl, q1⟩)
def tIf (t : TT) (ta tb : TE) : TE := fun σ H Q => t σ H fun c H1 => if c = true then ta σ H1 Q else tb σ H1 Q
theorem pe_ifExp {c : Expr} (hc : PT X c tA) (ha : PE X a ta) (hb : PE X b tb) : PE X (.IfExp c a b pos) (tIf tA ta tb) := by
  intro pins s σ H Q I h
  refine wpAny_IfExp (thn (hc pins s σ H _ I h) fun d s1 ⟨H1, I1, q1⟩ => ?_)
  cases d with
  | true => exact ha pins s1 σ H1 Q I1 q1
  | false => exact hb pins s1 σ H1 Q I1 q1
end
end L2
namespace L2
open PySem PySem.Spec PyProof.Rows
def SqL (K : PySem.W.Frag) (H : Hp) (a : Addr) (xs : List V) : Prop :=
  Rd H a (.lst xs) ∨
    ∃ (o : Obj) (its : Array Value) (n : Nat), K.lookup a = some o ∧ o.cls = .type "list" ∧ o.dict = none ∧ o.data = .seq its n ∧ its.size ≤ sizeLine ∧ Vals xs its.toList
def SqT (K : PySem.W.Frag) (H : Hp) (a : Addr) (xs : List V) : Prop :=
  Rd H a (.tup xs) ∨
    ∃ (o : Obj) (its : Array Value) (n : Nat), K.lookup a = some o ∧ o.cls = .type "tuple" ∧ o.data = .seq its n ∧ its.size ≤ sizeLine ∧ Vals xs its.toList
def absV : Value → Option V
  | .none => some .non
  | .bool b => some (.bl b)
  | .int i _ => some (.int i)
  | .str x _ => some (.str x)
  | .bytes b _ => some (.byt b)
  | .float b _ => some (.flt b)
  | .ref a => some (.ref a)
  | .type n => some (.ty n)
  | _ => none
theorem RelV.abs {x : V} {u : Value} (r : RelV x u) : absV u = some x := by
  cases x with
  | non => cases r; rfl
  | bl _ => cases r; rfl
  | int _ => obtain ⟨t, rfl⟩ := r; rfl
  | str _ => obtain ⟨t, rfl⟩ := r; rfl
  | byt _ => obtain ⟨t, rfl⟩ := r; rfl
  | flt _ => obtain ⟨t, rfl⟩ := r; rfl
  | ref _ => cases r; rfl
  | ty _ => cases r; rfl
theorem RelV.inj {x y : V} {u : Value} (r : RelV x u) (q : RelV y u) : x = y := Option.some.inj (r.abs.symm.trans q.abs)
theorem Vals.inj : ∀ {xs ys : List V} {us : List Value}, Vals xs us → Vals ys us → xs = ys
  | _, _, _, .nil, .nil => rfl
  | _, _, _, .cons r t, .cons r' t' => by rw [r.inj r', Vals.inj t t']
section
variable {X : Cx} {pins : List (Addr × Obj)} {σ : St} {H : Hp} {s : Shared} {a : Addr} {xs ys : List V}
theorem SqL.of {K : PySem.W.Frag} (h : H a = some (.lst xs)) : SqL K H a xs := .inl (.inl h)
theorem SqT.of {K : PySem.W.Frag} (h : H a = some (.tup xs)) : SqT K H a xs := .inl (.inl h)
theorem Inv.list (I : Inv X pins σ H s) (h : SqL X.K H a xs) : ∃ its : List Value, Vals xs its ∧ PlainL s.heap a its.toArray ∧ xs.length ≤ sizeLine := by
  rcases h with h | ⟨o, its, n, hk, hc, hd, hs, hz, r⟩
  · obtain ⟨z, its, n, r, e⟩ := h.ok I.hok
    exact ⟨its, r, ⟨_, n, e, rfl, rfl, rfl⟩, z⟩
  · refine ⟨its.toList, r, ⟨o, n, I.kIn a o hk, hc, hd, by simpa using hs⟩, ?_⟩
    have e := r.length
    simp only [Array.length_toList] at e
    omega
theorem Inv.tuple (I : Inv X pins σ H s) (h : SqT X.K H a xs) : ∃ its : List Value, Vals xs its ∧ IsTup s.heap a its.toArray ∧ xs.length ≤ sizeLine := by
  rcases h with h | ⟨o, its, n, hk, hc, hs, hz, r⟩
  · obtain ⟨z, its, r, p⟩ := h.ok I.hok
    exact ⟨its, r, p, z⟩
  · refine ⟨its.toList, r, ⟨o, I.kIn a o hk, hc, n, by simpa using hs⟩, ?_⟩
    have e := r.length
    simp only [Array.length_toList] at e
    omega
theorem Inv.list_inj (I : Inv X pins σ H s) (h : SqL X.K H a xs) (h' : SqL X.K H a ys) : xs = ys := by
  obtain ⟨its, r, ⟨o, n, e, _, _, d⟩, _⟩ := I.list h
  obtain ⟨its', r', ⟨o', n', e', _, _, d'⟩, _⟩ := I.list h'
  rw [e] at e'; cases e'
  rw [d] at d'
  injection d' with d1 _
  have : its = its' := by simpa using congrArg Array.toList d1
  subst this
  exact r.inj r'
theorem Inv.tuple_inj (I : Inv X pins σ H s) (h : SqT X.K H a xs) (h' : SqT X.K H a ys) : xs = ys := by
  obtain ⟨its, r, ⟨o, e, _, n, d⟩, _⟩ := I.tuple h
  obtain ⟨its', r', ⟨o', e', _, n', d'⟩, _⟩ := I.tuple h'
  rw [e] at e'; cases e'
  rw [d] at d'
  injection d' with d1 _
  have : its = its' := by simpa using congrArg Array.toList d1
  subst this
  exact r.inj r'
end
abbrev Cx.wish (X : Cx) (E : Value → Shared → Prop) : Cx := { X with xe := E }
abbrev Cx.nox (X : Cx) : Cx := X.wish fun _ _ => False
theorem Cx.Ok.wish {X : Cx} (ok : X.Ok) (E : Value → Shared → Prop) : (X.wish E).Ok :=
  ⟨ok.mod, ok.kind, ok.glob, ok.blt, ok.above, ok.inj, ok.has, ok.cab, ok.hd, ok.frames, ok.stk, ok.exf, ok.bs, ok.bsz, ok.noex, ok.exfs, ok.funs, ok.frf⟩
theorem Cx.Ok.unwish {X : Cx} {E : Value → Shared → Prop} (ok : (X.wish E).Ok) : X.Ok :=
  ⟨ok.mod, ok.kind, ok.glob, ok.blt, ok.above, ok.inj, ok.has, ok.cab, ok.hd, ok.frames, ok.stk, ok.exf, ok.bs, ok.bsz, ok.noex, ok.exfs, ok.funs, ok.frf⟩
section
variable {X : Cx} {pins : List (Addr × Obj)} {σ : St} {H : Hp} {s : Shared} {E : Value → Shared → Prop}
theorem Inv.wish (I : Inv X pins σ H s) (E : Value → Shared → Prop) : Inv (X.wish E) pins σ H s := ⟨I.ok.wish E, I.os, I.bare, I.base, I.loc, I.cell, I.free, I.freeC, I.pin, I.hok, I.len⟩
theorem Inv.unwish (I : Inv (X.wish E) pins σ H s) : Inv X pins σ H s := ⟨I.ok.unwish, I.os, I.bare, I.base, I.loc, I.cell, I.free, I.freeC, I.pin, I.hok, I.len⟩
theorem SP.unwish {D : Ends} {f : Flow} {s' : Shared} (h : SP (X.wish E) pins D f s') : SP X pins D f s' := by
  cases f with
  | next => obtain ⟨σ', H', I, q⟩ := h; exact ⟨σ', H', I.unwish, q⟩
  | brk => obtain ⟨σ', H', I, q⟩ := h; exact ⟨σ', H', I.unwish, q⟩
  | cont => obtain ⟨σ', H', I, q⟩ := h; exact ⟨σ', H', I.unwish, q⟩
  | ret u => obtain ⟨v, σ', H', I, r, q⟩ := h; exact ⟨v, σ', H', I.unwish, r, q⟩
theorem PE.nox {e : Expr} {t : TE} (h : PE X.nox e t) : PE X e t := fun pins s σ H Q I hw =>
  wpAny_mono (h pins s σ H Q (I.wish _) hw) (fun _ _ ⟨v, H', I', r, q⟩ => ⟨v, H', I'.unwish, r, q⟩) fun _ _ z => False.elim z
theorem PT.nox {e : Expr} {t : TT} (h : PT X.nox e t) : PT X e t := fun pins s σ H Q I hw =>
  wpAny_mono (h pins s σ H Q (I.wish _) hw) (fun _ _ ⟨H', I', q⟩ => ⟨H', I'.unwish, q⟩) fun _ _ z => False.elim z
theorem PSs.nox {st : List Stmt} {t : TS} (h : PSs X.nox st t) : PSs X st t := fun pins s σ H D I hw =>
  wpAny_mono (h pins s σ H D (I.wish _) hw) (fun _ _ q => q.unwish) fun _ _ z => False.elim z
end
section
variable {X : Cx} {st : Stmt} {rest : List Stmt} {t u : TS} {e : Expr} {te : TE} {pos : Pos}
def tNext : TS := fun D σ H => D.nx σ H
def tSeq (t u : TS) : TS := fun D σ H => t { D with nx := u D } σ H
theorem pss_nil : PSs X [] tNext := fun _ _ σ H _ I h => wpAny_execs_nil ⟨σ, H, I, h⟩
theorem pss_cons (h1 : PS X st t) (h2 : PSs X rest u) : PSs X (st :: rest) (tSeq t u) := by
  intro pins s σ H D I h
  refine wpAny_execs_cons (thn (h1 pins s σ H { D with nx := u D } I h) fun f s1 q => ?_)
  cases f with
  | next =>
    obtain ⟨σ', H', I', q⟩ := q
    exact h2 pins s1 σ' H' D I' q
  | ret v => exact q
  | brk => exact q
  | cont => exact q
theorem pss_one (h1 : PS X st t) : PSs X [st] t := by
  intro pins s σ H D I h
  refine wpAny_execs_cons (thn (h1 pins s σ H D I h) fun f s1 q => ?_)
  cases f with
  | next => exact wpAny_execs_nil q
  | ret v => exact q
  | brk => exact q
  | cont => exact q
theorem Inv.quiet {pins : List (Addr × Obj)} {σ : St} {H : Hp} {s : Shared} (I : Inv X pins σ H s) : interactive X.env = false := by simp [interactive, I.ok.kind]
def tDrop (te : TE) : TS := fun D σ H => te σ H fun _ H1 => D.nx σ H1
theorem ps_expr (he : PE X e te) (hs : swapsWith e none pos.line X.env = pure false := by rfl) : PS X (.Expr e pos) (tDrop te) := by
  intro pins s σ H D I h
  exact wpAny_Expr_any (thn (he pins s σ H _ I h) fun v s1 ⟨x, H1, I1, r1, q1⟩ => ⟨σ, H1, I1, q1⟩) I.quiet hs
def tRet (te : TE) : TS := fun D σ H => te σ H D.rt
theorem ps_ret (he : PE X e te) : PS X (.Return (some e) pos) (tRet te) := by
  intro pins s σ H D I h
  exact wpAny_Return_some (thn (he pins s σ H _ I h) fun v s1 ⟨x, H1, I1, r1, q1⟩ => ⟨x, σ, H1, I1, r1, q1⟩)
def tIfS (c : TT) (t u : TS) : TS := fun D σ H => c σ H fun b H1 => if b = true then t D σ H1 else u D σ H1
theorem ps_if {c : Expr} {a b : List Stmt} {tc : TT} (hc : PT X c tc) (ha : PSs X a t) (hb : PSs X b u) : PS X (.If c a b pos) (tIfS tc t u) := by
  intro pins s σ H D I h
  refine wpAny_If (thn (hc pins s σ H _ I h) fun d s1 ⟨H1, I1, q1⟩ => ?_)
  cases d with
  | true => exact ha pins s1 σ H1 D I1 q1
  | false => exact hb pins s1 σ H1 D I1 q1
end
abbrev TG := V → St → Hp → (St → Hp → Prop) → Prop
def PG (X : Cx) (target : Expr) (t : TG) : Prop :=
  ∀ (pins : List (Addr × Obj)) (s : Shared) (σ : St) (H : Hp) (v : V) (u : Value) (Q : St → Hp → Prop), Inv X pins σ H s → RelV v u → t v σ H Q →
    wpAny (model X.prog X.w) X.A (assign target X.env u) (fun _ s' => ∃ σ' H', Inv X pins σ' H' s' ∧ Q σ' H') X.xe s
abbrev TSet := V → V → V → Hp → (Hp → Prop) → Prop
section
variable {X : Cx} {pos : Pos}
def gName (i : Nat) : TG := fun v σ H Q => Q (σ.set i (some v)) H
theorem pg_name {i : Nat} {x : Str} (hN : X.N.Nodup) (hi : X.N[i]? = some x) (hx : Loc X.env.scope x) (hf : X.fn x = true ∨ X.env.scope.names.lookup x = some .local := by first | exact .inl rfl | exact .inr rfl | assumption) : PG X (.Name x pos) (gName i) := by
  intro pins s σ H v u Q I r h
  exact wpAny_assign_Name (store_ok I hN hi hx r (fun s' I' => ⟨_, H, I', h⟩) hf)
def gSub (to ti : TE) (t : TSet) : TG := fun v σ H Q => to σ H fun o H1 => ti σ H1 fun i H2 => t o i v H2 fun H3 => Q σ H3
def tAsg (te : TE) (g : TG) : TS := fun D σ H => te σ H fun x H1 => g x σ H1 D.nx
theorem ps_set {i : Nat} {x : Str} {e : Expr} {te : TE} {pos' : Pos} (hN : X.N.Nodup) (hi : X.N[i]? = some x) (hx : Loc X.env.scope x) (he : PE X e te) (hs : swapsWith e (some (.Name x pos')) pos.line X.env = pure false := by rfl) (hf : X.fn x = true ∨ X.env.scope.names.lookup x = some .local := by first | exact .inl rfl | exact .inr rfl | assumption) :
    PS X (.Assign [.Name x pos'] e pos) (tAsg te (gName i)) := by
  intro pins s σ H D I h
  refine wpAny_Assign_Name (thn (he pins s σ H _ I h) fun v s1 ⟨y, H1, I1, r1, q1⟩ => ?_) hs
  exact store_ok I1 hN hi hx r1 (fun s2 I2 => ⟨_, H1, I2, q1⟩) hf
end
section
variable {X : Cx} {pos : Pos}
end
structure It where
  go : Nat → Hp → Prop
  yld : Nat → Hp → V → Hp → Prop
  stop : Nat → Hp → Prop
def FpOk (X : Cx) (pins : List (Addr × Obj)) (H : Hp) (b : Addr) : Prop :=
  H b = none ∧ b ≠ X.env.locals ∧ b ∉ X.fs ∧ (b ∈ X.ex ∨ X.s₀.heap.objs.size ≤ b) ∧ (∀ x c, X.env.cells.lookup x = some c → c ≠ b) ∧ ∀ p ∈ X.pn ++ pins, p.1 ≠ b
theorem Inv.fpOk {X : Cx} {pins : List (Addr × Obj)} {σ : St} {H H' : Hp} {s : Shared} {b : Addr} (I : Inv X pins σ H s) (hb : s.heap.objs.size ≤ b) (hn : H' b = none) : FpOk X pins H' b := by
  refine ⟨hn, Nat.ne_of_gt (Nat.lt_of_lt_of_le I.lt hb), I.nofs hb, .inr (Nat.le_trans I.sz hb), fun x c e z => ?_, fun p hp z => ?_⟩
  · obtain ⟨v, q⟩ := I.cell x c e
    exact absurd (Nat.lt_of_lt_of_le q.lt (by rw [z]; exact hb)) (Nat.lt_irrefl _)
  · exact absurd (Nat.lt_of_lt_of_le (Heap.lt_size (I.pin p hp).1) (by rw [z]; exact hb)) (Nat.lt_irrefl _)
structure Turn (P : Program) (w : World) (K : PySem.W.Frag) (tg : Expr) (J : It) (fp : List Addr) (it : Addr) (tn : Nat → Heap → Prop) : Prop where
  mem : it ∈ fp
  obj : ∀ i h, tn i h → ∀ b ∈ fp, ∃ o, h.get? b = some o ∧ ∀ v, o.data ≠ .cell v
  keep : ∀ i h h', tn i h → (∀ b ∈ fp, ∀ o, h.get? b = some o → h'.get? b = some o) → tn i h'
  item : ∀ (X : Cx), X.prog = P → X.w = w → X.K = K → X.calm = true → ∀ (i : Nat) (pins : List (Addr × Obj)) (s : Shared) (σ : St) (H : Hp) (E : Value → Shared → Prop), Inv X pins σ H s → (∀ b ∈ fp, FpOk X pins H b) → tn i s.heap → J.go i H →
    wpAny (model P w) X.A (pyNext (.ref it)) (fun r s1 => ∃ u, r = some u ∧
      wpAny (model P w) X.A (letOwnedTupleGo tg (.ref it) u) (fun _ s2 => ∃ x H', Inv X pins σ H' s2 ∧ RelV x u ∧ J.yld i H x H' ∧ tn (i + 1) s2.heap ∧ ∀ b ∈ fp, H' b = none) E s1) E s
  done : ∀ (X : Cx), X.prog = P → X.w = w → X.K = K → X.calm = true → ∀ (i : Nat) (pins : List (Addr × Obj)) (s : Shared) (σ : St) (H : Hp) (E : Value → Shared → Prop), Inv X pins σ H s → (∀ b ∈ fp, FpOk X pins H b) → tn i s.heap → J.stop i H →
    wpAny (model P w) X.A (pyNext (.ref it)) (fun r s1 => r = none ∧ Inv X pins σ H s1) E s
  self : ∀ (A : Around) (i : Nat) (s : Shared) (Q : Value → Shared → Prop) (E : Value → Shared → Prop), tn i s.heap → Q (.ref it) s → wpAny (model P w) A (pyIter (.ref it)) Q E s
abbrev TI := St → Hp → (It → Hp → Prop) → Prop
def PIE (X : Cx) (pins : List (Addr × Obj)) (σ : St) (tg : Expr) (R : It → Hp → Prop) (itv : Value) (s2 : Shared) : Prop :=
  ∃ (it : Addr) (fp : List Addr) (tn : Nat → Heap → Prop) (J : It) (H' : Hp), itv = .ref it ∧ Inv X pins σ H' s2 ∧ Turn X.prog X.w X.K tg J fp it tn ∧ tn 0 s2.heap ∧ (∀ b ∈ fp, FpOk X pins H' b) ∧ R J H'
def PI (X : Cx) (tg iter : Expr) (wi : TI) : Prop :=
  ∀ (pins : List (Addr × Obj)) (s : Shared) (σ : St) (H : Hp) (R : It → Hp → Prop), Inv X pins σ H s → wi σ H R →
    wpAny (model X.prog X.w) X.A (eval iter X.env) (fun v s1 => wpAny (model X.prog X.w) X.A (pyIter v) (PIE X pins σ tg R) X.xe s1) X.xe s
theorem go_of {M : Model} {A : Around} {E : Value → Shared → Prop} {s : Shared} {tg : Expr} {it : Addr} {u : Value} {o : Obj} {n : String} {vs : Array Value} {Q : Unit → Shared → Prop} (ho : s.heap.get? it = some o) (hc : o.cls = .type n) (hd : o.data = .fields vs)
    (hn : ["enumerate", "zip", "dict_itemiterator", "dict_reverseitemiterator", "odict_iterator", "itertools.zip_longest", "itertools.pairwise"].contains n = false) (hQ : Q () s) : wpAny M A (letOwnedTupleGo tg (.ref it) u) Q E s := by
  unfold letOwnedTupleGo
  cases tg <;> first
    | exact wpAny_pure hQ
    | (cases u <;> first
        | exact wpAny_pure hQ
        | (refine wpAny_bind (wpAny_load ho ?_)
           rw [hc, hd]
           show wpAny M A (if (["enumerate", "zip", "dict_itemiterator", "dict_reverseitemiterator", "odict_iterator", "itertools.zip_longest", "itertools.pairwise"].contains n && vs[0]? == some (rawInt _)) = true then _ else _) Q E s
           rw [if_neg (by intro h; rw [hn, Bool.false_and] at h; cases h)]
           exact wpAny_pure hQ))
def Itl (K : PySem.W.Frag) (a : Addr) : It :=
  ⟨fun i H => ∃ xs x, SqL K H a xs ∧ xs[i]? = some x, fun i H x H' => H' = H ∧ ∀ xs, SqL K H a xs → xs[i]? = some x, fun i H => ∃ xs, SqL K H a xs ∧ xs.length ≤ i⟩
def Itt (K : PySem.W.Frag) (a : Addr) : It :=
  ⟨fun i H => ∃ xs x, SqT K H a xs ∧ xs[i]? = some x, fun i H x H' => H' = H ∧ ∀ xs, SqT K H a xs → xs[i]? = some x, fun i H => ∃ xs, SqT K H a xs ∧ xs.length ≤ i⟩
def Itr (lo : Int) (n : Nat) : It := ⟨fun i _ => i < n, fun i H x H' => H' = H ∧ x = .int (lo + i), fun i _ => n ≤ i⟩
theorem turn_list {P : Program} {w : World} {K : PySem.W.Frag} {tg : Expr} (a it : Addr) : Turn P w K tg (Itl K a) [it] it (fun i h => h.IsListIter it a i) where
  mem := by simp
  obj := fun i h st b hb => by
    have e : b = it := by simpa using hb
    subst e
    obtain ⟨o, e, c, d⟩ := st
    exact ⟨o, e, fun v z => by rw [d] at z; cases z⟩
  keep := fun i h h' st k => st.at fun o e => k it (by simp) o e
  item := by
    intro X hP hw hK hc i pins s σ H E I hf st hg
    subst hP hw hK
    obtain ⟨xs, x, hq, hx⟩ := hg
    obtain ⟨its, rv, p, hz⟩ := I.list hq
    obtain ⟨u, hu, ru⟩ := rv.get hx
    obtain ⟨f0, f1, f2, f3, f4, f5⟩ := hf it (by simp)
    refine wpAny_pyNext_list_item st p.isList (x := u) (by simpa using hu) fun h' st' sb => ?_
    have I1 : Inv X pins σ H { s with heap := h' } := I.turned (t' := s.toks) (fun b o hb e => (sb.2 b hb).trans e) f0 f1 f3 f4 f5
    obtain ⟨o, e, c, d⟩ := id st'
    exact ⟨u, rfl, go_of (s := { s with heap := h' }) e c d (by decide) ⟨x, H, I1, ru, ⟨rfl, fun ys hy => by rw [I.list_inj hy hq]; exact hx⟩, st', fun b hb => (hf b hb).1⟩⟩
  done := by
    intro X hP hw hK hc i pins s σ H E I hf st hg
    subst hP hw hK
    obtain ⟨xs, hq, hx⟩ := hg
    obtain ⟨its, rv, p, hz⟩ := I.list hq
    obtain ⟨f0, f1, f2, f3, f4, f5⟩ := hf it (by simp)
    have hl := rv.length
    exact wpAny_pyNext_list_end (I.ok.hd hc) st p.isList (by simp; omega) fun h' eb => ⟨rfl, I.turned (t' := s.toks) (fun b o hb e => eb b o hb e) f0 f1 f3 f4 f5⟩
  self := fun _ _ _ _ _ st h => wpAny_pyIter_listiter st h
theorem turn_tuple {P : Program} {w : World} {K : PySem.W.Frag} {tg : Expr} (a it : Addr) : Turn P w K tg (Itt K a) [it] it (fun i h => h.IsTupleIter it a i) where
  mem := by simp
  obj := fun i h st b hb => by
    have e : b = it := by simpa using hb
    subst e
    obtain ⟨o, e, c, d⟩ := st
    exact ⟨o, e, fun v z => by rw [d] at z; cases z⟩
  keep := fun i h h' st k => st.at fun o e => k it (by simp) o e
  item := by
    intro X hP hw hK hc i pins s σ H E I hf st hg
    subst hP hw hK
    obtain ⟨xs, x, hq, hx⟩ := hg
    obtain ⟨its, rv, p, hz⟩ := I.tuple hq
    obtain ⟨u, hu, ru⟩ := rv.get hx
    obtain ⟨f0, f1, f2, f3, f4, f5⟩ := hf it (by simp)
    refine wpAny_pyNext_tuple_item st (show s.heap.IsTuple a its.toArray from p) (x := u) (by simpa using hu) fun h' st' sb => ?_
    have I1 : Inv X pins σ H { s with heap := h' } := I.turned (t' := s.toks) (fun b o hb e => (sb.2 b hb).trans e) f0 f1 f3 f4 f5
    obtain ⟨o, e, c, d⟩ := id st'
    exact ⟨u, rfl, go_of (s := { s with heap := h' }) e c d (by decide) ⟨x, H, I1, ru, ⟨rfl, fun ys hy => by rw [I.tuple_inj hy hq]; exact hx⟩, st', fun b hb => (hf b hb).1⟩⟩
  done := by
    intro X hP hw hK hc i pins s σ H E I hf st hg
    subst hP hw hK
    obtain ⟨xs, hq, hx⟩ := hg
    obtain ⟨its, rv, p, hz⟩ := I.tuple hq
    obtain ⟨f0, f1, f2, f3, f4, f5⟩ := hf it (by simp)
    have hl := rv.length
    exact wpAny_pyNext_tuple_end (I.ok.hd hc) st (show s.heap.IsTuple a its.toArray from p) (by simp; omega) fun h' eb => ⟨rfl, I.turned (t' := s.toks) (fun b o hb e => eb b o hb e) f0 f1 f3 f4 f5⟩
  self := fun _ _ _ _ _ st h => wpAny_pyIter_tupleiter st h
theorem turn_range {P : Program} {w : World} {K : PySem.W.Frag} {tg : Expr} (it : Addr) (lo : Int) (n : Nat) : Turn P w K tg (Itr lo n) [it] it (fun i h => IsRangeIter h it (lo + (i : Nat) * 1) ((n : Int) - (i : Nat)) 1) where
  mem := by simp
  obj := fun i h st b hb => by
    have e : b = it := by simpa using hb
    subst e
    exact ⟨_, st, fun v z => by
      have z' : Data.fields _ = Data.cell v := z
      cases z'⟩
  keep := fun i h h' st k => k it (by simp) _ st
  item := by
    intro X hP hw hK hc i pins s σ H E I hf st hg
    subst hP hw hK
    obtain ⟨f0, f1, f2, f3, f4, f5⟩ := hf it (by simp)
    have W := Walks.range (prog := X.prog) (w := X.w) (I.ok.hd hc) it lo 1 n
    refine W.item i s _ _ hg st fun v h' tk hv st' kk => ?_
    obtain ⟨t, rfl⟩ := hv
    have I1 : Inv X pins σ H { s with heap := h', toks := tk } := I.turned (fun b o hb e => kk b o (by simpa using hb) e) f0 f1 f3 f4 f5
    refine ⟨_, rfl, go_of (s := { s with heap := h', toks := tk }) (n := "range_iterator") st' rfl rfl (by decide) ⟨.int (lo + i), H, I1, ⟨t, ?_⟩, ⟨rfl, rfl⟩, st', fun b hb => (hf b hb).1⟩⟩
    rw [Int.mul_one]
  done := by
    intro X hP hw hK hc i pins s σ H E I hf st hg
    subst hP hw hK
    obtain ⟨f0, f1, f2, f3, f4, f5⟩ := hf it (by simp)
    exact wpAny_pyNext_range_end (I.ok.hd hc) st (by have : n ≤ i := hg; omega) fun h' eb => ⟨rfl, I.turned (t' := s.toks) (fun b o hb e => eb b o hb e) f0 f1 f3 f4 f5⟩
  self := fun _ _ _ _ _ st h => wpAny_pyIter_rangeiter st h
end L2
namespace L2
open PySem PySem.Spec PyProof.Rows
section
variable {X : Cx} {tg : Expr}
def iList (K : PySem.W.Frag) (tl : TE) : TI := fun σ H R => tl σ H fun x H1 => ∃ a, x = .ref a ∧ (∃ xs, SqL K H1 a xs) ∧ R (Itl K a) H1
def iTup (K : PySem.W.Frag) (tl : TE) : TI := fun σ H R => tl σ H fun x H1 => ∃ a, x = .ref a ∧ (∃ xs, SqT K H1 a xs) ∧ R (Itt K a) H1
theorem pi_list {l : Expr} {tl : TE} (hl : PE X l tl) : PI X tg l (iList X.K tl) := by
  intro pins s σ H R I h
  refine thn (hl pins s σ H _ I h) fun v s1 ⟨x, H1, I1, r1, q1⟩ => ?_
  obtain ⟨a, e, ⟨xs, hq⟩, q⟩ := q1
  subst e
  cases r1
  obtain ⟨its, rv, p, hz⟩ := I1.list hq
  refine wpAny_pyIter_list p.isList ?_
  refine ⟨s1.heap.objs.size, [s1.heap.objs.size], _, _, H1, rfl, I1.kept (t' := s1.toks) fun b o e => Heap.get?_push_of_some _ e, turn_list a _, ⟨_, Heap.get?_push_size _ rfl, rfl, rfl⟩, fun b hb => ?_, q⟩
  have e : b = s1.heap.objs.size := by simpa using hb
  subst e
  exact I1.fpOk (Nat.le_refl _) (I1.hok.fresh (Nat.le_refl _))
theorem pi_tup {l : Expr} {tl : TE} (hl : PE X l tl) : PI X tg l (iTup X.K tl) := by
  intro pins s σ H R I h
  refine thn (hl pins s σ H _ I h) fun v s1 ⟨x, H1, I1, r1, q1⟩ => ?_
  obtain ⟨a, e, ⟨xs, hq⟩, q⟩ := q1
  subst e
  cases r1
  obtain ⟨its, rv, p, hz⟩ := I1.tuple hq
  refine wpAny_pyIter_tuple (show s1.heap.IsTuple a its.toArray from p) ?_
  refine ⟨s1.heap.objs.size, [s1.heap.objs.size], _, _, H1, rfl, I1.kept (t' := s1.toks) fun b o e => Heap.get?_push_of_some _ e, turn_tuple a _, ⟨_, Heap.get?_push_size _ rfl, rfl, rfl⟩, fun b hb => ?_, q⟩
  have e : b = s1.heap.objs.size := by simpa using hb
  subst e
  exact I1.fpOk (Nat.le_refl _) (I1.hok.fresh (Nat.le_refl _))
theorem range_it {pins : List (Addr × Obj)} {σ : St} {H : Hp} {s : Shared} {R : It → Hp → Prop} {E : Value → Shared → Prop} {lo hi : Int} {t u v : Tok} {tk : Nat} (I : Inv X pins σ H s) (h1 : -(2 ^ 62) ≤ lo) (h2 : lo < 2 ^ 62) (h3 : -(2 ^ 62) ≤ hi) (h4 : hi < 2 ^ 62)
    (q : R (Itr lo (hi - lo).toNat) H) : wpAny (model X.prog X.w) X.A (pyIter (.ref s.heap.objs.size)) (PIE X pins σ tg R) E { s with heap := s.heap.push { cls := .type "range", data := .fields #[.int lo t, .int hi u, .int 1 v] }, toks := tk } := by
  refine wpAny_pyIter_range (IsRange.new ..) (small_one h1 h2 h3 h4) ?_
  have I1 : Inv X pins σ H { s with heap := s.heap.push { cls := .type "range", data := .fields #[.int lo t, .int hi u, .int 1 v] }, toks := tk } := I.kept fun b o e => Heap.get?_push_of_some _ e
  refine ⟨(s.heap.push { cls := .type "range", data := .fields #[.int lo t, .int hi u, .int 1 v] }).objs.size, [(s.heap.push { cls := .type "range", data := .fields #[.int lo t, .int hi u, .int 1 v] }).objs.size], _, _, H, rfl,
    I1.kept (t' := tk) fun b o e => Heap.get?_push_of_some _ e, turn_range _ lo (hi - lo).toNat, ?_, fun b hb => ?_, q⟩
  · have e1 : lo + ((0 : Nat) : Int) * 1 = lo := by simp
    have e2 : (((hi - lo).toNat : Nat) : Int) - ((0 : Nat) : Int) = Builtin.Range.rangeSize lo hi 1 := by rw [rangeSize_one]; split <;> omega
    show IsRangeIter _ _ (lo + ((0 : Nat) : Int) * 1) ((((hi - lo).toNat : Nat) : Int) - ((0 : Nat) : Int)) 1
    rw [e1, e2]
    exact Heap.get?_push_size _ rfl
  · have e : b = (s.heap.push { cls := .type "range", data := .fields #[.int lo t, .int hi u, .int 1 v] }).objs.size := by simpa using hb
    subst e
    exact I1.fpOk (Nat.le_refl _) (I1.hok.fresh (Nat.le_refl _))
def iRng1 (ta : TA) : TI := fun σ H R => ta σ H fun vs H1 => ∃ j : Int, vs = [.int j] ∧ -(2 ^ 62) ≤ j ∧ j < 2 ^ 62 ∧ R (Itr 0 j.toNat) H1
def iRng2 (ta : TA) : TI := fun σ H R => ta σ H fun vs H1 => ∃ i j : Int, vs = [.int i, .int j] ∧ (-(2 ^ 62) ≤ i ∧ i < 2 ^ 62 ∧ -(2 ^ 62) ≤ j ∧ j < 2 ^ 62) ∧ R (Itr i (j - i).toNat) H1
theorem pi_range1 {a : Expr} {ta : TA} {p pos : Pos} (hg : Gl X "range") (hm : X.mg "range" = none) (ha : PA X [a] ta) (hs : starEach [a] X.env = [(false, eval a X.env)] := by rfl) : PI X tg (.Call (.Name "range" p) [a] [] pos) (iRng1 ta) := by
  intro pins s σ H R I h
  refine Call_ (ld_blt I hg hm boot_range (PyProof.Rows.callWith_type1 (thn (ha pos pins s σ H _ I h) fun us s1 ⟨vs, H1, I1, r1, q1⟩ => ?_) hs rfl))
  obtain ⟨j, e, q1, q2, q⟩ := q1
  subst e
  cases r1 with
  | cons r rr =>
    cases rr
    obtain ⟨t, rfl⟩ := r
    exact call_range_1 (range_it I1 (by omega) (by omega) q1 q2 (by simpa using q))
theorem pi_range2 {a b : Expr} {ta : TA} {p pos : Pos} (hg : Gl X "range") (hm : X.mg "range" = none) (ha : PA X [a, b] ta) (hs : starEach [a, b] X.env = [(false, eval a X.env), (false, eval b X.env)] := by rfl) (hs2 : starEach [b] X.env = [(false, eval b X.env)] := by rfl) :
    PI X tg (.Call (.Name "range" p) [a, b] [] pos) (iRng2 ta) := by
  intro pins s σ H R I h
  refine Call_ (ld_blt I hg hm boot_range (PyProof.Rows.callWith_type1 (thn (ha pos pins s σ H _ I h) fun us s1 ⟨vs, H1, I1, r1, q1⟩ => ?_) (by rw [hs, hs2]) (by rw [hs2]; rfl)))
  obtain ⟨i, j, e, ⟨q1, q2, q3, q4⟩, q⟩ := q1
  subst e
  cases r1 with
  | cons r rr =>
    cases rr with
    | cons r' rr =>
      cases rr
      obtain ⟨t, rfl⟩ := r
      obtain ⟨t', rfl⟩ := r'
      exact call_range_2 (range_it I1 q1 q2 q3 q4 q)
def tFor (wi : TI) (g : TG) (tb : TS) : TS := fun D σ H => wi σ H fun J H1 => ∃ W : Nat → Nat → St → Hp → Prop, (∃ m, W 0 m σ H1) ∧ ∀ i m σ H, W i m σ H →
  (J.stop i H ∧ D.nx σ H) ∨ (J.go i H ∧ ∃ N : St → Hp → Prop, (∀ σ' H', N σ' H' → ∃ m', m' < m ∧ W (i + 1) m' σ' H') ∧ ∀ x H', J.yld i H x H' → g x σ H' fun σ2 H2 => tb { D with nx := N, ct := N, bk := D.nx } σ2 H2)
def pinsAt (fp : List Addr) (h : Heap) : List (Addr × Obj) := fp.filterMap fun b => (h.get? b).map fun o => (b, o)
theorem mem_pinsAt {fp : List Addr} {h : Heap} {b : Addr} {o : Obj} (hb : b ∈ fp) (e : h.get? b = some o) : (b, o) ∈ pinsAt fp h := List.mem_filterMap.mpr ⟨b, hb, by rw [e]; rfl⟩
theorem of_pinsAt {fp : List Addr} {h : Heap} {p : Addr × Obj} (hp : p ∈ pinsAt fp h) : p.1 ∈ fp ∧ h.get? p.1 = some p.2 := by
  obtain ⟨b, hb, e⟩ := List.mem_filterMap.mp hp
  cases q : h.get? b with
  | none => rw [q] at e; cases e
  | some o =>
    rw [q] at e
    have e' : (b, o) = p := Option.some.inj e
    subst e'
    exact ⟨hb, q⟩
theorem Inv.pinned {pins : List (Addr × Obj)} {σ : St} {H : Hp} {s : Shared} {fp : List Addr} (I : Inv X pins σ H s) (hf : ∀ b ∈ fp, FpOk X pins H b) (ho : ∀ b ∈ fp, ∃ o, s.heap.get? b = some o ∧ ∀ v, o.data ≠ .cell v) : Inv X (pins ++ pinsAt fp s.heap) σ H s :=
  I.pins_of fun p hp => (List.mem_append.mp hp).elim (fun z => I.pin p (List.mem_append_right _ z)) fun z => by
    obtain ⟨hb, e⟩ := of_pinsAt z
    obtain ⟨f0, f1, f2, _⟩ := hf p.1 hb
    obtain ⟨o, e', d⟩ := ho p.1 hb
    rw [e] at e'; cases e'
    exact ⟨e, f0, f1, f2, d⟩
theorem Inv.unpinned {pins pl : List (Addr × Obj)} {σ : St} {H : Hp} {s : Shared} (I : Inv X (pins ++ pl) σ H s) : Inv X pins σ H s := I.pins_of fun p hp => I.pin p (List.mem_append_right _ (List.mem_append_left _ hp))
theorem ps_for {iter : Expr} {body : List Stmt} {wi : TI} {g : TG} {tb : TS} {pos : Pos} (hp : PassesOwn (model X.prog X.w) X.A X.env X.xe) (hc : X.calm = true) (hi : PI X tg iter wi) (hg : PG X tg g) (hb : PSs X body tb)
    (hs : ∀ x, foldedSetIterable iter X.env x = pure x := by intro _; rfl) : PS X (.For tg iter body [] pos) (tFor wi g tb) := by
  intro pins s σ H D I h
  refine wpAny_For (thn (hi pins s σ H _ I h) fun v s1 h1 => thn h1 fun itv s2 h2 => ?_) hs
  obtain ⟨it, fp, tn, J, H2, e, I2, T, st2, f2, W, ⟨m0, w0⟩, turn⟩ := h2
  subst e
  have stat : ∀ {H' : Hp}, (∀ b ∈ fp, H' b = none) → ∀ b ∈ fp, FpOk X pins H' b := fun hn b hb => ⟨hn b hb, (f2 b hb).2⟩
  refine codeAny_forLoop_any (fun n s' => ∃ i σ' H', Inv X pins σ' H' s' ∧ tn i s'.heap ∧ (∀ b ∈ fp, H' b = none) ∧ W i n σ' H') ?_ m0 ⟨0, σ, H2, I2, st2, fun b hb => (f2 b hb).1, w0⟩
  rintro n s3 ⟨i, σ3, H3, I3, st3, fr3, w3⟩
  rcases turn i n σ3 H3 w3 with ⟨stop, qn⟩ | ⟨go, N, hN, step⟩
  · refine wpAny_passesOwn hp (thn (T.done X rfl rfl rfl hc i pins s3 σ3 H3 X.xe I3 (stat fr3) st3 stop) fun r s4 ⟨hr, I4⟩ => ?_)
    subst hr
    exact wpAny_execs_nil ⟨σ3, H3, I4, qn⟩
  · refine wpAny_passesOwn hp (thn (T.item X rfl rfl rfl hc i pins s3 σ3 H3 X.xe I3 (stat fr3) st3 go) fun r s4 ⟨u, hr, h4⟩ => ?_)
    subst hr
    refine wpAny_passesOwn hp (thn h4 fun _ s5 ⟨x, H5, I5, r5, y5, st5, fr5⟩ => ?_)
    have I5' := I5.pinned (stat fr5) (T.obj _ _ st5)
    refine wpAny_passesOwn hp (thn (hg _ s5 σ3 H5 x u _ I5' r5 (step x H5 y5)) fun _ s6 ⟨σ6, H6, I6, q6⟩ => ?_)
    refine wpAny_passesOwn hp (thn (hb _ s6 σ6 H6 _ I6 q6) fun f s7 q7 => ?_)
    have again : ∀ {σ7 : St} {H7 : Hp}, Inv X (pins ++ pinsAt fp s5.heap) σ7 H7 s7 → N σ7 H7 → ∃ m, m < n ∧ ∃ i σ' H', Inv X pins σ' H' s7 ∧ tn i s7.heap ∧ (∀ b ∈ fp, H' b = none) ∧ W i m σ' H' := fun {σ7 H7} I7 n7 => by
      obtain ⟨m', hm, w7⟩ := hN σ7 H7 n7
      refine ⟨m', hm, i + 1, σ7, H7, I7.unpinned, T.keep _ _ _ st5 fun b hb o e => (I7.pin (b, o) (List.mem_append_right _ (List.mem_append_right _ (mem_pinsAt hb e)))).1, fun b hb => ?_, w7⟩
      obtain ⟨o, e, d⟩ := T.obj _ _ st5 b hb
      exact (I7.pin (b, o) (List.mem_append_right _ (List.mem_append_right _ (mem_pinsAt hb e)))).2.1
    cases f with
    | next => obtain ⟨σ7, H7, I7, n7⟩ := q7; exact again I7 n7
    | cont => obtain ⟨σ7, H7, I7, n7⟩ := q7; exact again I7 n7
    | brk => obtain ⟨σ7, H7, I7, q7⟩ := q7; exact ⟨σ7, H7, I7.unpinned, q7⟩
    | ret v => obtain ⟨x7, σ7, H7, I7, r7, q7⟩ := q7; exact ⟨x7, σ7, H7, I7.unpinned, r7, q7⟩
end
theorem for_list {K : PySem.W.Frag} {a : Addr} {xs : List V} {g : TG} {tb : TS} {D : Ends} {σ : St} {H : Hp} (Pv : Nat → St → Hp → Prop) (h0 : Pv 0 σ H) (hl : ∀ i σ H, i ≤ xs.length → Pv i σ H → SqL K H a xs)
    (hs : ∀ i x σ H, xs[i]? = some x → Pv i σ H → g x σ H fun σ2 H2 => tb { D with nx := Pv (i + 1), ct := Pv (i + 1), bk := D.nx } σ2 H2) (hd : ∀ σ H, Pv xs.length σ H → D.nx σ H) :
    ∃ W : Nat → Nat → St → Hp → Prop, (∃ m, W 0 m σ H) ∧ ∀ i m σ H, W i m σ H →
      ((Itl K a).stop i H ∧ D.nx σ H) ∨ ((Itl K a).go i H ∧ ∃ N : St → Hp → Prop, (∀ σ' H', N σ' H' → ∃ m', m' < m ∧ W (i + 1) m' σ' H') ∧ ∀ x H', (Itl K a).yld i H x H' → g x σ H' fun σ2 H2 => tb { D with nx := N, ct := N, bk := D.nx } σ2 H2) := by
  refine ⟨fun i m σ H => m = xs.length - i ∧ i ≤ xs.length ∧ Pv i σ H, ⟨xs.length, by simp, Nat.zero_le _, h0⟩, ?_⟩
  rintro i m σ H ⟨rfl, hi, p⟩
  have q := hl i σ H hi p
  by_cases hlt : i < xs.length
  · refine .inr ⟨⟨xs, xs[i], q, by simp [hlt]⟩, Pv (i + 1), fun σ' H' p' => ⟨xs.length - (i + 1), by omega, rfl, hlt, p'⟩, fun x H' y => ?_⟩
    obtain ⟨e, y⟩ := y
    subst e
    exact hs i x σ _ (y xs q) p
  · have e : i = xs.length := by omega
    subst e
    exact .inl ⟨⟨xs, q, Nat.le_refl _⟩, hd σ H p⟩
theorem for_tup {K : PySem.W.Frag} {a : Addr} {xs : List V} {g : TG} {tb : TS} {D : Ends} {σ : St} {H : Hp} (Pv : Nat → St → Hp → Prop) (h0 : Pv 0 σ H) (hl : ∀ i σ H, i ≤ xs.length → Pv i σ H → SqT K H a xs)
    (hs : ∀ i x σ H, xs[i]? = some x → Pv i σ H → g x σ H fun σ2 H2 => tb { D with nx := Pv (i + 1), ct := Pv (i + 1), bk := D.nx } σ2 H2) (hd : ∀ σ H, Pv xs.length σ H → D.nx σ H) :
    ∃ W : Nat → Nat → St → Hp → Prop, (∃ m, W 0 m σ H) ∧ ∀ i m σ H, W i m σ H →
      ((Itt K a).stop i H ∧ D.nx σ H) ∨ ((Itt K a).go i H ∧ ∃ N : St → Hp → Prop, (∀ σ' H', N σ' H' → ∃ m', m' < m ∧ W (i + 1) m' σ' H') ∧ ∀ x H', (Itt K a).yld i H x H' → g x σ H' fun σ2 H2 => tb { D with nx := N, ct := N, bk := D.nx } σ2 H2) := by
  refine ⟨fun i m σ H => m = xs.length - i ∧ i ≤ xs.length ∧ Pv i σ H, ⟨xs.length, by simp, Nat.zero_le _, h0⟩, ?_⟩
  rintro i m σ H ⟨rfl, hi, p⟩
  have q := hl i σ H hi p
  by_cases hlt : i < xs.length
  · refine .inr ⟨⟨xs, xs[i], q, by simp [hlt]⟩, Pv (i + 1), fun σ' H' p' => ⟨xs.length - (i + 1), by omega, rfl, hlt, p'⟩, fun x H' y => ?_⟩
    obtain ⟨e, y⟩ := y
    subst e
    exact hs i x σ _ (y xs q) p
  · have e : i = xs.length := by omega
    subst e
    exact .inl ⟨⟨xs, q, Nat.le_refl _⟩, hd σ H p⟩
theorem for_range {lo : Int} {n : Nat} {g : TG} {tb : TS} {D : Ends} {σ : St} {H : Hp} (Pv : Nat → St → Hp → Prop) (h0 : Pv 0 σ H)
    (hs : ∀ i σ H, i < n → Pv i σ H → g (.int (lo + i)) σ H fun σ2 H2 => tb { D with nx := Pv (i + 1), ct := Pv (i + 1), bk := D.nx } σ2 H2) (hd : ∀ σ H, Pv n σ H → D.nx σ H) :
    ∃ W : Nat → Nat → St → Hp → Prop, (∃ m, W 0 m σ H) ∧ ∀ i m σ H, W i m σ H →
      ((Itr lo n).stop i H ∧ D.nx σ H) ∨ ((Itr lo n).go i H ∧ ∃ N : St → Hp → Prop, (∀ σ' H', N σ' H' → ∃ m', m' < m ∧ W (i + 1) m' σ' H') ∧ ∀ x H', (Itr lo n).yld i H x H' → g x σ H' fun σ2 H2 => tb { D with nx := N, ct := N, bk := D.nx } σ2 H2) := by
  refine ⟨fun i m σ H => m = n - i ∧ i ≤ n ∧ Pv i σ H, ⟨n, by simp, Nat.zero_le _, h0⟩, ?_⟩
  rintro i m σ H ⟨rfl, hi, p⟩
  by_cases hlt : i < n
  · refine .inr ⟨hlt, Pv (i + 1), fun σ' H' p' => ⟨n - (i + 1), by omega, rfl, hlt, p'⟩, fun x H' y => ?_⟩
    obtain ⟨e, y⟩ := y
    subst e y
    exact hs i σ _ hlt p
  · have e : i = n := by omega
    subst e
    exact .inl ⟨Nat.le_refl _, hd σ H p⟩
end L2
namespace L2
open PySem PySem.Spec PyProof.Rows
abbrev R2 := V → V → Hp → VK → Prop
def OpR (X : Cx) (f : Value → Value → Sem Value) (r : R2) : Prop :=
  ∀ (pins : List (Addr × Obj)) (s : Shared) (σ : St) (H : Hp) (x y : V) (v u : Value) (Q : VK), Inv X pins σ H s → RelV x v → RelV y u → r x y H Q →
    wpAny (model X.prog X.w) X.A (f v u) (EP X pins σ Q) X.xe s
def UnR (X : Cx) (f : Value → Sem Value) (r : V → Hp → VK → Prop) : Prop :=
  ∀ (pins : List (Addr × Obj)) (s : Shared) (σ : St) (H : Hp) (x : V) (v : Value) (Q : VK), Inv X pins σ H s → RelV x v → r x H Q →
    wpAny (model X.prog X.w) X.A (f v) (EP X pins σ Q) X.xe s
def CallR (X : Cx) (f : Value) (r : List V → Hp → VK → Prop) : Prop :=
  ∀ (pins : List (Addr × Obj)) (s : Shared) (σ : St) (H : Hp) (xs : List V) (us : List Value) (Q : VK), Inv X pins σ H s → Vals xs us → r xs H Q →
    wpAny (model X.prog X.w) X.A (call f us) (EP X pins σ Q) X.xe s
def tOp (r : R2) (ta tb : TE) : TE := fun σ H Q => ta σ H fun x H1 => tb σ H1 fun y H2 => r x y H2 Q
def tUn (r : V → Hp → VK → Prop) (ta : TE) : TE := fun σ H Q => ta σ H fun x H1 => r x H1 Q
def rI (C : Int → Int → Prop) (g : Int → Int → V) : R2 := fun x y H Q => ∃ i j, x = .int i ∧ y = .int j ∧ C i j ∧ Q (g i j) H
def rI0 (g : Int → Int → V) : R2 := fun x y H Q => ∃ i j, x = .int i ∧ y = .int j ∧ Q (g i j) H
def rU (g : Int → V) : V → Hp → VK → Prop := fun x H Q => ∃ i, x = .int i ∧ Q (g i) H
section
variable {X : Cx} {a b c : Expr} {ta tb tc : TE} {pos : Pos}
theorem binT (ha : PE X a ta) (hb : PE X b tb) {pins : List (Addr × Obj)} {s : Shared} {σ : St} {H : Hp} {R : V → V → Hp → Prop} (I : Inv X pins σ H s)
    (h : ta σ H fun x H1 => tb σ H1 fun y H2 => R x y H2) {Q : Value → Shared → Prop} {f : Value → Value → Sem Value}
    (hf : ∀ v u s2 x y H2, Inv X pins σ H2 s2 → RelV x v → RelV y u → R x y H2 → wpAny (model X.prog X.w) X.A (f v u) Q X.xe s2) :
    wpAny (model X.prog X.w) X.A (eval a X.env) (fun v s₁ => wpAny (model X.prog X.w) X.A (eval b X.env) (fun u s₂ => wpAny (model X.prog X.w) X.A (f v u) Q X.xe s₂) X.xe s₁) X.xe s := by
  refine thn (ha pins s σ H _ I h) fun v s1 ⟨x, H1, I1, r1, q1⟩ => ?_
  refine thn (hb pins s1 σ H1 _ I1 q1) fun u s2 ⟨y, H2, I2, r2, q2⟩ => ?_
  exact hf v u s2 x y H2 I2 r1 r2 q2
theorem pe_op {op : Operator} {r : R2} (ho : OpR X (binaryOp op) r) (ha : PE X a ta) (hb : PE X b tb) : PE X (.BinOp a op b pos) (tOp r ta tb) := by
  intro pins s σ H Q I h
  exact wpAny_BinOp (binT ha hb I h fun v u s2 x y H2 I2 rx ry q => ho pins s2 σ H2 x y v u Q I2 rx ry q)
theorem pe_un {op : UnaryOp} {r : V → Hp → VK → Prop} (ho : UnR X (unaryOp op) r) (ha : PE X a ta) : PE X (.UnaryOp op a pos) (tUn r ta) := by
  intro pins s σ H Q I h
  exact UnaryOp_ (thn (ha pins s σ H _ I h) fun v s1 ⟨x, H1, I1, r1, q1⟩ => ho pins s1 σ H1 x v Q I1 r1 q1)
theorem opI {f : Value → Value → Sem Value} {C : Int → Int → Prop} {g : Int → Int → Int}
    (rule : ∀ (i j : Int) (t u : Tok) (s : Shared) (Q : Value → Shared → Prop) (E : Value → Shared → Prop), C i j → Q (.int (g i j) s.toks) { s with toks := s.toks + 1 } → wpAny (model X.prog X.w) X.A (f (.int i t) (.int j u)) Q E s) :
    OpR X f (rI C fun i j => .int (g i j)) := by
  intro pins s σ H x y v u Q I rx ry h
  obtain ⟨i, j, rfl, rfl, hc, q⟩ := h
  obtain ⟨t, rfl⟩ := rx
  obtain ⟨t', rfl⟩ := ry
  exact rule i j t t' s _ _ hc ⟨.int (g i j), H, I.tok _, ⟨_, rfl⟩, q⟩
theorem opI0 {f : Value → Value → Sem Value} {g : Int → Int → Int}
    (rule : ∀ (i j : Int) (t u : Tok) (s : Shared) (Q : Value → Shared → Prop) (E : Value → Shared → Prop), Q (.int (g i j) s.toks) { s with toks := s.toks + 1 } → wpAny (model X.prog X.w) X.A (f (.int i t) (.int j u)) Q E s) :
    OpR X f (rI0 fun i j => .int (g i j)) := by
  intro pins s σ H x y v u Q I rx ry h
  obtain ⟨i, j, rfl, rfl, q⟩ := h
  obtain ⟨t, rfl⟩ := rx
  obtain ⟨t', rfl⟩ := ry
  exact rule i j t t' s _ _ ⟨.int (g i j), H, I.tok _, ⟨_, rfl⟩, q⟩
theorem opB0 {f : Value → Value → Sem Value} {g : Int → Int → Bool}
    (rule : ∀ (i j : Int) (t u : Tok) (s : Shared) (Q : Value → Shared → Prop) (E : Value → Shared → Prop), Q (.bool (g i j)) s → wpAny (model X.prog X.w) X.A (f (.int i t) (.int j u)) Q E s) :
    OpR X f (rI0 fun i j => .bl (g i j)) := by
  intro pins s σ H x y v u Q I rx ry h
  obtain ⟨i, j, rfl, rfl, q⟩ := h
  obtain ⟨t, rfl⟩ := rx
  obtain ⟨t', rfl⟩ := ry
  exact rule i j t t' s _ _ ⟨.bl (g i j), H, I, rfl, q⟩
def CPow (i j : Int) : Prop := 0 ≤ j ∧ j ≤ 1000000 ∧ i.natAbs < 2 ^ 64
def CMul (i j : Int) : Prop := (-(2 ^ 64) < i ∧ i < 2 ^ 64) ∨ (-(2 ^ 64) < j ∧ j < 2 ^ 64)
theorem CMul.ok {i j : Int} (h : CMul i j) : IntMulOk i j := by
  rcases h with ⟨h1, h2⟩ | ⟨h1, h2⟩
  · exact .of_left (intBits_le_64 h1 h2)
  · exact .of_right (intBits_le_64 h1 h2)
theorem op_add : OpR X (binaryOp .Add) (rI0 fun i j => .int (i + j)) := opI0 fun _ _ _ _ _ _ _ q => add_int q
theorem op_sub : OpR X (binaryOp .Sub) (rI0 fun i j => .int (i - j)) := opI0 fun _ _ _ _ _ _ _ q => sub_int q
theorem op_mod : OpR X (binaryOp .Mod) (rI (fun _ j => 0 < j) fun i j => .int (i % j)) := opI fun i j _ _ _ _ _ hc q => by
  have h1 : (0 : Int) < j := hc
  exact mod_int' (by omega) (by rw [Int.fmod_eq_emod_of_nonneg i (by omega)]; exact q)
theorem op_pow : OpR X (binaryOp .Pow) (rI CPow fun i j => .int (i ^ j.toNat)) := opI fun _ _ _ _ _ _ _ hc q => pow_int_small hc.1 hc.2.1 hc.2.2 q
theorem unI {f : Value → Sem Value} {g : Int → Int}
    (rule : ∀ (i : Int) (t : Tok) (s : Shared) (Q : Value → Shared → Prop) (E : Value → Shared → Prop), Q (.int (g i) s.toks) { s with toks := s.toks + 1 } → wpAny (model X.prog X.w) X.A (f (.int i t)) Q E s) :
    UnR X f (rU fun i => .int (g i)) := by
  intro pins s σ H x v Q I rx h
  obtain ⟨i, rfl, q⟩ := h
  obtain ⟨t, rfl⟩ := rx
  exact rule i t s _ _ ⟨.int (g i), H, I.tok _, ⟨_, rfl⟩, q⟩
theorem un_neg : UnR X (unaryOp .USub) (rU fun i => .int (-i)) := unI fun _ _ _ _ _ q => neg_int q
end
def scal : V → V → Bool
  | .non, .non => true | .non, .int _ => true | .int _, .non => true | .non, .bl _ => true | .bl _, .non => true | .non, .str _ => true | .str _, .non => true
  | .int _, .int _ => true | .bl _, .bl _ => true | .str _, .str _ => true | .byt _, .byt _ => true
  | .int _, .str _ => true | .str _, .int _ => true | .bl _, .str _ => true | .str _, .bl _ => true
  | _, _ => false
def rEq : R2 := fun x y H Q => scal x y = true ∧ Q (.bl (decide (x = y))) H
def rNe : R2 := fun x y H Q => scal x y = true ∧ Q (.bl (!decide (x = y))) H
theorem dec_int {i j : Int} : decide (V.int i = V.int j) = (i == j) := by
  rw [Bool.eq_iff_iff]
  simp
theorem dec_bl {i j : Bool} : decide (V.bl i = V.bl j) = (i == j) := by
  rw [Bool.eq_iff_iff]
  simp
theorem dec_str {i j : Str} : decide (V.str i = V.str j) = (i == j) := by
  rw [Bool.eq_iff_iff]
  simp
theorem dec_byt {i j : Array UInt8} : decide (V.byt i = V.byt j) = (i.toList == j.toList) := by
  rw [Bool.eq_iff_iff]
  cases i
  cases j
  simp
section
variable {X : Cx} {a b c : Expr} {ta tb tc : TE} {pos : Pos}
theorem fin_bl {pins : List (Addr × Obj)} {σ : St} {H : Hp} {s : Shared} {Q : VK} {k k' : Bool} (I : Inv X pins σ H s) (q : Q (.bl k) H) (e : k = k') : EP X pins σ Q (.bool k') s := by
  subst e
  exact ⟨.bl k, H, I, rfl, q⟩
theorem op_eq : OpR X (compareOp .Eq) rEq := by
  intro pins s σ H x y v u Q I rx ry h
  obtain ⟨hs, q⟩ := h
  cases x with
  | non =>
    cases rx
    cases y with
    | non => cases ry; exact PySem.EqNone.eq_none_none (fin_bl I q (by simp))
    | bl j => cases ry; exact PySem.EqNone.eq_none_bool (fin_bl I q (by simp))
    | int j => obtain ⟨t', rfl⟩ := ry; exact PySem.EqNone.eq_none_int (fin_bl I q (by simp))
    | str j => obtain ⟨t', rfl⟩ := ry; exact PySem.EqNone.eq_none_str (fin_bl I q (by simp))
    | _ => exact absurd (show false = true from hs) Bool.false_ne_true
  | bl i =>
    cases rx
    cases y with
    | non => cases ry; exact PySem.EqNone.eq_bool_none (fin_bl I q (by simp))
    | bl j => cases ry; exact eq_bool (fin_bl I q dec_bl)
    | str j => obtain ⟨t', rfl⟩ := ry; exact PySem.EqMixed.eq_bool_str (fin_bl I q (by simp))
    | _ => exact absurd (show false = true from hs) Bool.false_ne_true
  | int i =>
    obtain ⟨t, rfl⟩ := rx
    cases y with
    | non => cases ry; exact PySem.EqNone.eq_int_none (fin_bl I q (by simp))
    | int j => obtain ⟨t', rfl⟩ := ry; exact eq_int (fin_bl I q dec_int)
    | str j => obtain ⟨t', rfl⟩ := ry; exact PySem.EqMixed.eq_int_str (fin_bl I q (by simp))
    | _ => exact absurd (show false = true from hs) Bool.false_ne_true
  | str i =>
    obtain ⟨t, rfl⟩ := rx
    cases y with
    | non => cases ry; exact PySem.EqNone.eq_str_none (fin_bl I q (by simp))
    | bl j => cases ry; exact PySem.EqMixed.eq_str_bool (fin_bl I q (by simp))
    | int j => obtain ⟨t', rfl⟩ := ry; exact PySem.EqMixed.eq_str_int (fin_bl I q (by simp))
    | str j => obtain ⟨t', rfl⟩ := ry; exact eq_str (fin_bl I q dec_str)
    | _ => exact absurd (show false = true from hs) Bool.false_ne_true
  | byt i =>
    obtain ⟨t, rfl⟩ := rx
    cases y with
    | byt j => obtain ⟨t', rfl⟩ := ry; exact PySem.W.eq_bytes (fin_bl I q dec_byt)
    | _ => exact absurd (show false = true from hs) Bool.false_ne_true
  | _ => cases y <;> exact absurd (show false = true from hs) Bool.false_ne_true
theorem op_ne : OpR X (compareOp .NotEq) rNe := by
  intro pins s σ H x y v u Q I rx ry h
  obtain ⟨hs, q⟩ := h
  cases x with
  | non =>
    cases rx
    cases y with
    | non => cases ry; exact PySem.EqNone.ne_none_none (fin_bl I q (by simp))
    | bl j => cases ry; exact PySem.EqNone.ne_none_bool (fin_bl I q (by simp))
    | int j => obtain ⟨t', rfl⟩ := ry; exact PySem.EqNone.ne_none_int (fin_bl I q (by simp))
    | str j => obtain ⟨t', rfl⟩ := ry; exact PySem.EqNone.ne_none_str (fin_bl I q (by simp))
    | _ => exact absurd (show false = true from hs) Bool.false_ne_true
  | bl i =>
    cases rx
    cases y with
    | non => cases ry; exact PySem.EqNone.ne_bool_none (fin_bl I q (by simp))
    | bl j => cases ry; exact ne_bool (fin_bl I q (congrArg not dec_bl))
    | str j => obtain ⟨t', rfl⟩ := ry; exact PySem.EqMixed.ne_bool_str (fin_bl I q (by simp))
    | _ => exact absurd (show false = true from hs) Bool.false_ne_true
  | int i =>
    obtain ⟨t, rfl⟩ := rx
    cases y with
    | non => cases ry; exact PySem.EqNone.ne_int_none (fin_bl I q (by simp))
    | int j => obtain ⟨t', rfl⟩ := ry; exact ne_int (fin_bl I q (congrArg not dec_int))
    | str j => obtain ⟨t', rfl⟩ := ry; exact PySem.EqMixed.ne_int_str (fin_bl I q (by simp))
    | _ => exact absurd (show false = true from hs) Bool.false_ne_true
  | str i =>
    obtain ⟨t, rfl⟩ := rx
    cases y with
    | non => cases ry; exact PySem.EqNone.ne_str_none (fin_bl I q (by simp))
    | bl j => cases ry; exact PySem.EqMixed.ne_str_bool (fin_bl I q (by simp))
    | int j => obtain ⟨t', rfl⟩ := ry; exact PySem.EqMixed.ne_str_int (fin_bl I q (by simp))
    | str j => obtain ⟨t', rfl⟩ := ry; exact ne_str (fin_bl I q (congrArg not dec_str))
    | _ => exact absurd (show false = true from hs) Bool.false_ne_true
  | byt i =>
    obtain ⟨t, rfl⟩ := rx
    cases y with
    | byt j => obtain ⟨t', rfl⟩ := ry; exact PySem.W.ne_bytes (fin_bl I q (congrArg not dec_byt))
    | _ => exact absurd (show false = true from hs) Bool.false_ne_true
  | _ => cases y <;> exact absurd (show false = true from hs) Bool.false_ne_true
theorem op_lt : OpR X (compareOp .Lt) (rI0 fun i j => .bl (decide (i < j))) := opB0 fun _ _ _ _ _ _ _ q => lt_int q
theorem op_le : OpR X (compareOp .LtE) (rI0 fun i j => .bl (decide (i ≤ j))) := opB0 fun _ _ _ _ _ _ _ q => le_int q
theorem op_gt : OpR X (compareOp .Gt) (rI0 fun i j => .bl (decide (j < i))) := opB0 fun _ _ _ _ _ _ _ q => gt_int q
theorem op_ge : OpR X (compareOp .GtE) (rI0 fun i j => .bl (decide (j ≤ i))) := opB0 fun _ _ _ _ _ _ _ q => ge_int q
theorem nomark (b : Expr) {op : CmpOp} (h : op ≠ .In := by decide) (h2 : op ≠ .NotIn := by decide) : behindInMarks op b = false := by
  have e1 : (op == CmpOp.In) = false := by cases op <;> first | rfl | exact absurd rfl h
  have e2 : (op == CmpOp.NotIn) = false := by cases op <;> first | rfl | exact absurd rfl h2
  cases b <;> simp [behindInMarks, e1, e2]
theorem pe_cmpR {op : CmpOp} {r : R2} (ho : OpR X (compareOp op) r) (ha : PE X a ta) (hb : PE X b tb) (hm : behindInMarks op b = false) : PE X (.Compare a [op] [b] pos) (tOp r ta tb) := by
  intro pins s σ H Q I h
  exact wpAny_Compare1 (binT ha hb I h fun v u s2 x y H2 I2 rx ry q => ho pins s2 σ H2 x y v u Q I2 rx ry q) hm
def tTest (t : TE) : TT := fun σ H Q => t σ H fun x H' => ∃ k, x = .bl k ∧ Q k H'
theorem pt_cmpR {op : CmpOp} {r : R2} (ho : OpR X (compareOp op) r) (ha : PE X a ta) (hb : PE X b tb) (hm : behindInMarks op b = false) : PT X (.Compare a [op] [b] pos) (tTest (tOp r ta tb)) := by
  intro pins s σ H Q I h
  refine wpAny_isTrue_Compare1 (thn (ha pins s σ H _ I h) fun v s1 ⟨x, H1, I1, r1, q1⟩ => thn (hb pins s1 σ H1 _ I1 q1) fun u s2 ⟨y, H2, I2, r2, q2⟩ =>
    thn (ho pins s2 σ H2 x y v u _ I2 r1 r2 q2) fun c s3 ⟨z, H3, I3, r3, k, e, q3⟩ => ?_) hm
  subst e
  cases r3
  exact wpAny_truthy_bool ⟨H3, I3, q3⟩
def tChain (r r' : R2) (ta tb tc : TE) : TE := fun σ H Q => ta σ H fun x H1 => tb σ H1 fun y H2 => r x y H2 fun z H3 => ∃ k, z = .bl k ∧
  (if k = true then tc σ H3 fun w' H4 => r' y w' H4 Q else Q (.bl false) H3)
theorem pt_chain {op op' : CmpOp} {r r' : R2} (ho : OpR X (compareOp op) r) (ho' : OpR X (compareOp op') r') (ha : PE X a ta) (hb : PE X b tb) (hc : PE X c tc)
    (hm : lastMarks [op, op'] [b, c] = false := by with_unfolding_all rfl) : PT X (.Compare a [op, op'] [b, c] pos) (tTest (tChain r r' ta tb tc)) := by
  intro pins s σ H Q I h
  refine isTrue_chain (thn (ha pins s σ H _ I h) fun v s1 ⟨x, H1, I1, r1, q1⟩ => test_link (thn (hb pins s1 σ H1 _ I1 q1) fun u s2 ⟨y, H2, I2, r2, q2⟩ =>
    thn (ho pins s2 σ H2 x y v u _ I2 r1 r2 q2) fun d s3 ⟨z, H3, I3, r3, k, e, q3⟩ => ?_)) hm
  subst e
  cases r3
  refine wpAny_truthy_bool ?_
  cases k with
  | false =>
    obtain ⟨k', e', q'⟩ := q3
    cases e'
    exact ite_ff ⟨H3, I3, q'⟩
  | true =>
    refine ite_tt (test_last (thn (hc pins s3 σ H3 _ I3 q3) fun w' s4 ⟨z', H4, I4, r4, q4⟩ => thn (ho' pins s4 σ H4 y z' u w' _ I4 r2 r4 q4) fun d' s5 ⟨z2, H5, I5, r5, k2, e2, q5⟩ => ?_))
    subst e2
    cases r5
    exact wpAny_truthy_bool ⟨H5, I5, q5⟩
theorem line63 : (sizeLine : Nat) < 2 ^ 63 := by rw [sizeLine_eq]; decide
theorem vals1 {x : V} {us : List Value} (r : Vals [x] us) : ∃ u, us = [u] ∧ RelV x u := by
  cases r with
  | cons r1 r2 => cases r2; exact ⟨_, rfl, r1⟩
theorem vals2 {x y : V} {us : List Value} (r : Vals [x, y] us) : ∃ u w', us = [u, w'] ∧ RelV x u ∧ RelV y w' := by
  cases r with
  | cons r1 r2 =>
    cases r2 with
    | cons r3 r4 => cases r4; exact ⟨_, _, rfl, r1, r3⟩
theorem call_min2 (hc : X.calm = true) : CallR X (.builtin "min") (fun xs H Q => ∃ i j, xs = [.int i, .int j] ∧ Q (.int (if j < i then j else i)) H) := by
  intro pins s σ H xs us Q I r h
  obtain ⟨i, j, rfl, q⟩ := h
  obtain ⟨u, w', rfl, ⟨t, rfl⟩, ⟨t', rfl⟩⟩ := vals2 r
  refine min_two_ints (I.ok.hd hc) fun h' tk k => ⟨_, H, I.kept k, ?_, q⟩
  by_cases hj : j < i
  · rw [if_pos hj, if_pos hj]; exact ⟨_, rfl⟩
  · rw [if_neg hj, if_neg hj]; exact ⟨_, rfl⟩
theorem call_int1 : CallR X (.type "int") (fun xs H Q => (∃ i, xs = [.int i] ∧ Q (.int i) H) ∨ ∃ k, xs = [.bl k] ∧ Q (.int (if k then 1 else 0)) H) := by
  intro pins s σ H xs us Q I r h
  rcases h with ⟨i, rfl, q⟩ | ⟨k, rfl, q⟩
  · obtain ⟨u, rfl, t, rfl⟩ := vals1 r
    exact call_int_int ⟨.int i, H, I, ⟨_, rfl⟩, q⟩
  · obtain ⟨u, rfl, r1⟩ := vals1 r
    cases r1
    exact call_int_bool ⟨.int (if k then 1 else 0), H, I.tok _, ⟨_, rfl⟩, q⟩
def LenV (K : PySem.W.Frag) (x : V) (H : Hp) (n : Nat) : Prop :=
  match x with
  | .str y => y.length ≤ sizeLine ∧ n = y.length
  | .byt y => y.size ≤ sizeLine ∧ n = y.size
  | .ref p => (∃ xs, SqL K H p xs ∧ n = xs.length) ∨ ∃ xs, SqT K H p xs ∧ n = xs.length
  | _ => False
theorem call_len : CallR X (.builtin "len") (fun xs H Q => ∃ x n, xs = [x] ∧ LenV X.K x H n ∧ Q (.int n) H) := by
  intro pins s σ H xs us Q I r h
  obtain ⟨x, n, rfl, e, q⟩ := h
  obtain ⟨u, rfl, rx⟩ := vals1 r
  have hl := line63
  have hs : sizeLine = 16777216 := sizeLine_eq
  cases x with
  | str y =>
    obtain ⟨t, rfl⟩ := rx
    obtain ⟨hy, e'⟩ : y.length ≤ sizeLine ∧ n = y.length := e
    subst e'
    exact len_str (by omega) ⟨.int _, H, I.tok _, ⟨_, rfl⟩, q⟩
  | byt y =>
    obtain ⟨t, rfl⟩ := rx
    obtain ⟨hy, e'⟩ : y.size ≤ sizeLine ∧ n = y.size := e
    subst e'
    exact PySem.W.len_bytes (by omega) ⟨.int _, H, I.tok _, ⟨_, rfl⟩, q⟩
  | ref p =>
    cases rx
    have e' : (∃ xs, SqL X.K H p xs ∧ n = xs.length) ∨ ∃ xs, SqT X.K H p xs ∧ n = xs.length := e
    rcases e' with ⟨xs, hx, e'⟩ | ⟨xs, hx, e'⟩
    · subst e'
      obtain ⟨its, r', pl, hz⟩ := I.list hx
      have hlen := r'.length
      exact Calls.call_len_list pl.isList (by simp only [List.size_toArray]; omega) ⟨.int xs.length, H, I.tok _, ⟨_, by simp only [List.size_toArray]; rw [hlen]⟩, q⟩
    · subst e'
      obtain ⟨its, r', pl, hz⟩ := I.tuple hx
      have hlen := r'.length
      exact len_tuple pl (by simp only [List.size_toArray]; omega) ⟨.int xs.length, H, I.tok _, ⟨_, by simp only [List.size_toArray]; rw [hlen]⟩, q⟩
  | _ => exact (show False from e).elim
end
end L2
namespace L2
open PySem PySem.Spec PyProof.Rows
structure ObjM (h : Heap) (x dx C : Addr) (mA : Str → Option Value) : Prop where
  obj : h.get? x = some (PySem.W.instObj C dx)
  ns : h.Ns1 dx mA
  ne : dx ≠ x
theorem lookIn_ns {h : Heap} {dx : Addr} {mA : Str → Option Value} (n : h.Ns1 dx mA) : ∃ od, h.get? dx = some od ∧ ∀ name, PySem.W.lookIn name od = some (mA name) := by
  obtain ⟨o, es, ep, ho, hd, hk, _, hm⟩ := n
  refine ⟨o, ho, fun name => ?_⟩
  have e := hm name
  unfold nsFind findBy at e
  rw [← Array.find?_toList] at e
  unfold PySem.W.lookIn
  rw [hd]
  dsimp only
  split
  · rename_i y q
    rw [q] at e
    exact congrArg some e
  · rename_i q
    rw [q] at e
    have a : es.toList.any (·.refKey) = false := by
      rw [List.any_eq_false]
      intro y hy
      obtain ⟨z, t, hkey⟩ := hk y (Array.mem_toList_iff.mp hy)
      simp [DictEntry.refKey, hkey]
    have a' : ¬ es.toList.any (·.refKey) = true := by rw [a]; exact Bool.false_ne_true
    rw [if_neg a']
    exact congrArg some e
theorem ObjM.look {h : Heap} {x dx C : Addr} {mA : Str → Option Value} (I : ObjM h x dx C mA) : ∃ od, PySem.W.InstAt h x (PySem.W.instObj C dx) C (some od) ∧ ∀ name, PySem.W.lookIn name od = some (mA name) :=
  let ⟨od, ho, hl⟩ := lookIn_ns I.ns
  ⟨od, ⟨I.obj, rfl, rfl, ho⟩, hl⟩
section
variable {prog : Program} {w : World} {A : Around} {E : Value → Shared → Prop} {s : Shared} {K : PySem.W.Frag} {x dx C f : Addr} {mA : Str → Option Value} {name : Str} {v : Value}
theorem get_map {expr : Bool} {Q : Value → Shared → Prop} (X : K.In s.heap) (I : ObjM s.heap x dx C mA) (hg : PySem.W.plainGet K C name = true) (hh : PySem.W.hasDictIn K C = true)
    (ha : PySem.W.findIn K (.ref C) name = some none) (hv : mA name = some v) (hv' : PySem.W.handedIn v = true) (h : Q v { s with toks := s.toks + 1 }) :
    wpAny (model prog w) A (getAttr (.ref x) name expr) Q E s := by
  obtain ⟨od, J, hl⟩ := I.look
  exact PySem.W.get_value X J (PySem.W.plainGet_of hg).1 (PySem.W.findObj_own hh ha rfl (by rw [hl, hv])) hv' h
theorem get_meth {pl : Sem Bool} {Q : Value × List Value → Shared → Prop} (X : K.In s.heap) (I : ObjM s.heap x dx C mA) (hg : PySem.W.plainGet K C name = true)
    (hf : PySem.W.findIn K (.ref C) name = some (some (.ref f))) (ht : PySem.W.isFn K (.ref f) = true) (hv : mA name = none) (h : Q (.ref f, [.ref x]) s) :
    wpAny (model prog w) A (getMethod (.ref x) name pl) Q E s := by
  obtain ⟨od, J, hl⟩ := I.look
  exact PySem.W.method_fn X J (PySem.W.plainGet_of hg).1 (PySem.W.plainGet_of hg).2 hf (beq_iff_eq.mp ht) (by show (PySem.W.lookIn name od).map (·.isSome) = some false; rw [hl, hv]; rfl) h
theorem set_map {ns : List Str} {Q : Unit → Shared → Prop} (X : K.In s.heap) (I : ObjM s.heap x dx C mA)
    (hs : PySem.W.findIn K (.ref C) "__setattr__" = some (some (.builtin "object.__setattr__"))) (hp : PySem.W.plainOver K C = true) (ht : PySem.W.takerIn K C name = some none) (hh : PySem.W.hasDictIn K C = true)
    (hw : PySem.Within mA ns) (hsz : ns.length ≤ sizeLine)
    (h : ∀ h', ObjM h' x dx C (fun y => if y = name then some v else mA y) → Heap.SameBut dx s.heap h' → Q () { s with heap := h', toks := s.toks + 2 }) :
    wpAny (model prog w) A (setAttr (.ref x) name v) Q E s := by
  obtain ⟨od, J, hl⟩ := I.look
  refine PySem.W.set_plain X J hs (PySem.W.osa_open (s := { s with toks := s.toks + 1 }) (r := none) X J hp ht fun b => ?_)
  obtain ⟨cd, hc, hd'⟩ := PySem.W.any_some hh
  have hx : s.heap.get? x = some ⟨.ref C, some dx, .plain, #[]⟩ := I.obj
  refine wpAny_bind (wpAny_pure (wpAny_bind (wpAny_bind (wpAny_loadPart hx (wpAny_bind (PySem.W.Looks.here (s := { s with toks := s.toks + 1 }) (PySem.W.looks_clsIn X hc) ?_))))))
  rw [hd']
  refine wpAny_pure (a := some dx) (wpAny_bind (wpAny_pure (wpAny_bind ?_)))
  refine wpAny_nsSet1 (s := { s with toks := s.toks + 1 }) I.ns fun h' hn2 hs2 => ?_
  obtain ⟨oD, esD, epD, hoD, hdD, hcD⟩ := hn2.count (PySem.Within.cons name v hw)
  refine wpAny_bind (wpAny_lookBehind hoD (by rw [hdD]; exact pastItsLine_dict (Nat.le_trans hcD (by rw [List.length_cons]; omega))) ?_)
  exact wpAny_pure (h _ ⟨(hs2.2 _ (Ne.symm I.ne)).trans I.obj, hn2, I.ne⟩ hs2)
theorem make_map {R : Result → Shared → Prop} {vs : List Value} {kw : List (Str × Value)} (X : K.In s.heap) (hm : PySem.W.makesIn K C = true)
    (hi : PySem.W.findIn K (.ref C) "__init__" = some (some (.ref f))) (hf : PySem.W.typeIn K (.ref f) = some (.type "function"))
    (h : codeAny (model prog w) (A.under (.builtin "type.__call__" ⟨.ref C :: vs, kw⟩)) (.call (.ref f) ⟨.ref (s.heap.objs.size + 1) :: vs, kw⟩) (PySem.W.InitBack (s.heap.objs.size + 1) R)
      { s with heap := (s.heap.push PySem.W.emptyDict).push (PySem.W.instObj C s.heap.objs.size) }) :
    codeAny (model prog w) A (.call (.ref C) ⟨vs, kw⟩) R s := by
  obtain ⟨hh, g, d, t, os⟩ := s
  exact PySem.W.make_core (PySem.W.makes_of X hm) (PySem.W.looks_findIn X hi) (fun self => PySem.W.bind_fn X self hf) (.inl rfl) h
end
def putF (f : Str) (v : V) : List (Str × V) → List (Str × V)
  | [] => [(f, v)]
  | (g, x) :: r => if g = f then (g, v) :: r else (g, x) :: putF f v r
theorem lookup_putF (f g : Str) (v : V) : ∀ fs : List (Str × V), (putF f v fs).lookup g = if g = f then some v else fs.lookup g
  | [] => by
    show List.lookup g [(f, v)] = _
    by_cases h : g = f
    · have hb : (g == f) = true := beq_iff_eq.mpr h
      simp only [List.lookup, hb, if_pos h]
    · have hb : (g == f) = false := beq_eq_false_iff_ne.mpr h
      simp only [List.lookup, hb, if_neg h]
  | (k, x) :: r => by
    have ih := lookup_putF f g v r
    rw [show putF f v ((k, x) :: r) = (if k = f then (k, v) :: r else (k, x) :: putF f v r) from rfl]
    by_cases hk : k = f
    · rw [if_pos hk]
      by_cases h : g = k
      · have hb : (g == k) = true := beq_iff_eq.mpr h
        simp only [List.lookup, hb, if_pos (h.trans hk)]
      · have hb : (g == k) = false := beq_eq_false_iff_ne.mpr h
        simp only [List.lookup, hb, if_neg (fun e : g = f => h (e.trans hk.symm))]
    · rw [if_neg hk]
      by_cases h : g = k
      · have hb : (g == k) = true := beq_iff_eq.mpr h
        simp only [List.lookup, hb, if_neg (fun e : g = f => hk (h.symm.trans e))]
      · have hb : (g == k) = false := beq_eq_false_iff_ne.mpr h
        simp only [List.lookup, hb]
        exact ih
theorem keys_putF (f : Str) (v : V) : ∀ fs : List (Str × V), f ∈ (putF f v fs).map (·.1) ∧ ∀ g, g ∈ fs.map (·.1) → g ∈ (putF f v fs).map (·.1)
  | [] => ⟨by simp [putF], fun g h => by simp at h⟩
  | (k, x) :: r => by
    obtain ⟨i1, i2⟩ := keys_putF f v r
    rw [show putF f v ((k, x) :: r) = (if k = f then (k, v) :: r else (k, x) :: putF f v r) from rfl]
    by_cases hk : k = f
    · rw [if_pos hk]
      subst hk
      exact ⟨by simp, fun g h => by simpa using h⟩
    · rw [if_neg hk]
      refine ⟨?_, fun g h => ?_⟩
      · rw [List.map_cons]
        exact List.mem_cons_of_mem _ i1
      · rw [List.map_cons] at h ⊢
        rcases List.mem_cons.mp h with e | e
        · exact List.mem_cons.mpr (.inl e)
        · exact List.mem_cons_of_mem _ (i2 g e)
theorem length_putF (f : Str) (v : V) : ∀ fs : List (Str × V), (putF f v fs).length ≤ fs.length + 1
  | [] => by simp [putF]
  | (k, x) :: r => by
    have ih := length_putF f v r
    rw [show putF f v ((k, x) :: r) = (if k = f then (k, v) :: r else (k, x) :: putF f v r) from rfl]
    by_cases hk : k = f
    · rw [if_pos hk, List.length_cons, List.length_cons]; omega
    · rw [if_neg hk, List.length_cons, List.length_cons]; omega
theorem RelO.some_of {v : V} {o : Option Value} (r : RelO (some v) o) : ∃ u, o = some u ∧ RelV v u := by
  cases o with
  | none => exact (show False from r).elim
  | some u => exact ⟨u, rfl, r⟩
theorem RelO.none_of {o : Option Value} (r : RelO none o) : o = none := by
  cases o with
  | none => rfl
  | some u => exact (show False from r).elim
theorem handed_of {v : V} {u : Value} (r : RelV v u) : PySem.W.handedIn u = true := by
  cases v with
  | non => cases (show u = Value.none from r); rfl
  | bl b => cases (show u = Value.bool b from r); rfl
  | int i => obtain ⟨t, e⟩ := (show ∃ t, u = Value.int i t from r); cases e; rfl
  | str x => obtain ⟨t, e⟩ := (show ∃ t, u = Value.str x t from r); cases e; rfl
  | byt b => obtain ⟨t, e⟩ := (show ∃ t, u = Value.bytes b t from r); cases e; rfl
  | flt b => obtain ⟨t, e⟩ := (show ∃ t, u = Value.float b t from r); cases e; rfl
  | ref a => cases (show u = Value.ref a from r); rfl
  | ty n => cases (show u = Value.type n from r); rfl
section
variable {P : Program} {w : World} {H H' : Hp} {h h' : Heap} {a C dx : Addr} {fs fs' : List (Str × V)}
theorem ins_get (hok : HOk P w H h) (e : H a = some (.ins C dx fs)) : ∃ mA, ObjM h a dx C mA ∧ (∀ f, RelO (fs.lookup f) (mA f)) ∧ PySem.Within mA (fs.map (·.1)) ∧ fs.length ≤ 1000 ∧ H dx = some (.own a) := by
  obtain ⟨d, z, ne, ob, mA, n, r, q⟩ := (show ObjOk P w H h a (.ins C dx fs) from hok a _ e)
  exact ⟨mA, ⟨ob, n, ne⟩, r, q, z, d⟩
end
structure Cls (K : PySem.W.Frag) (C : Addr) : Prop where
  pg : PySem.W.plainGet K C Str.empty = true
  hd : PySem.W.hasDictIn K C = true
  po : PySem.W.plainOver K C = true
  sa : PySem.W.findIn K (.ref C) "__setattr__" = some (some (.builtin "object.__setattr__"))
theorem Cls.get {K : PySem.W.Frag} {C : Addr} (c : Cls K C) (f : Str) : PySem.W.plainGet K C f = true := c.pg
def NoAttr (K : PySem.W.Frag) (C : Addr) (f : Str) : Prop := PySem.W.findIn K (.ref C) f = some none
theorem NoAttr.taker {K : PySem.W.Frag} {C : Addr} {f : Str} (n : NoAttr K C f) : PySem.W.takerIn K C f = some none := by
  unfold PySem.W.takerIn
  rw [show PySem.W.findIn K (.ref C) f = some none from n]
  rfl
structure Meth (K : PySem.W.Frag) (C : Addr) (m : Str) (f : Addr) : Prop where
  at_ : PySem.W.findIn K (.ref C) m = some (some (.ref f))
  fn : PySem.W.isFn K (.ref f) = true
  kp : PySem.W.keepIn K (.ref f) = true
section
variable {X : Cx} {pins : List (Addr × Obj)} {σ : St} {H : Hp} {s : Shared} {a C dx : Addr} {fs : List (Str × V)} {f : Str} {v : V} {A : Around} {E : Value → Shared → Prop}
theorem getattr_ok {b : Bool} {Q : Value → Shared → Prop} (I : Inv X pins σ H s) (e : H a = some (.ins C dx fs)) (c : Cls X.K C) (n : NoAttr X.K C f) (l : fs.lookup f = some v)
    (h : ∀ u s', Inv X pins σ H s' → RelV v u → Q u s') : wpAny (model X.prog X.w) A (getAttr (.ref a) f b) Q E s := by
  obtain ⟨mA, O, r, _, _, _⟩ := ins_get I.hok e
  obtain ⟨u, hu, ru⟩ := RelO.some_of (v := v) (o := mA f) (by rw [← l]; exact r f)
  exact get_map I.kIn O (c.get f) c.hd n hu (handed_of ru) (h u _ (I.tok _) ru)
theorem getmeth_ok {m : Str} {g : Addr} {pl : Sem Bool} {Q : Value × List Value → Shared → Prop} (I : Inv X pins σ H s) (e : H a = some (.ins C dx fs)) (c : Cls X.K C) (k : Meth X.K C m g) (l : fs.lookup m = none)
    (h : Q (.ref g, [.ref a]) s) : wpAny (model X.prog X.w) A (getMethod (.ref a) m pl) Q E s := by
  obtain ⟨mA, O, r, _, _, _⟩ := ins_get I.hok e
  have hn : mA m = none := RelO.none_of (by rw [← l]; exact r m)
  exact get_meth I.kIn O (c.get m) k.at_ k.fn hn h
theorem setattr_ok {y : V} {u : Value} {Q : Unit → Shared → Prop} (I : Inv X pins σ H s) (e : H a = some (.ins C dx fs)) (c : Cls X.K C) (n : NoAttr X.K C f) (hl : fs.length < 1000) (ry : RelV y u)
    (h : ∀ s', Inv X pins σ (upd H a (.ins C dx (putF f y fs))) s' → Q () s') : wpAny (model X.prog X.w) A (setAttr (.ref a) f u) Q E s := by
  obtain ⟨mA, O, r, wi, _, ho⟩ := ins_get I.hok e
  have hz : (fs.map (·.1)).length ≤ sizeLine := by rw [List.length_map, sizeLine_eq]; omega
  refine set_map I.kIn O c.sa c.po n.taker c.hd wi hz fun h' O' sb => h _ ?_
  have hd : ∃ o, h'.get? dx = some o := let ⟨o, _, _, e', _⟩ := O'.ns; ⟨o, e'⟩
  refine I.write (x := a) (e := dx) (by rw [e]; exact True.intro) (.inr ho) (fun b q hb z => (sb.2 b hb).trans z) hd ?_
  refine ⟨by rw [upd_ne O.ne]; exact ho, ?_, O.ne, O'.obj, _, O'.ns, fun g => ?_, fun g hg => ?_⟩
  · have := length_putF f y fs; omega
  · show RelO ((putF f y fs).lookup g) (if g = f then some u else mA g)
    rw [lookup_putF]
    by_cases q : g = f
    · rw [if_pos q, if_pos q]; exact ry
    · rw [if_neg q, if_neg q]; exact r g
  · by_cases q : g = f
    · rw [q]; exact (keys_putF f y fs).1
    · refine (keys_putF f y fs).2 g (wi g fun z => hg ?_)
      show (if g = f then some u else mA g) = none
      rw [if_neg q]; exact z
theorem Inv.made (I : Inv X pins σ H s) : Inv X pins σ (upd (upd H s.heap.objs.size (.own (s.heap.objs.size + 1))) (s.heap.objs.size + 1) (.ins C s.heap.objs.size []))
    { s with heap := (s.heap.push PySem.W.emptyDict).push (PySem.W.instObj C s.heap.objs.size) } := by
  have e1 : (s.heap.push PySem.W.emptyDict).get? s.heap.objs.size = some PySem.W.emptyDict := Heap.get?_push_size s.heap rfl
  have e2 : ((s.heap.push PySem.W.emptyDict).push (PySem.W.instObj C s.heap.objs.size)).get? (s.heap.objs.size + 1) = some (PySem.W.instObj C s.heap.objs.size) := by
    have := Heap.get?_push_size (s.heap.push PySem.W.emptyDict) (o := PySem.W.instObj C s.heap.objs.size) rfl
    rwa [Heap.size_push] at this
  have e3 : (s.heap.push PySem.W.emptyDict).Ns s.heap.objs.size (fun _ => none) := ⟨PySem.W.emptyDict, #[], _, e1, rfl, (fun e he => absurd he (by simp)), fun _ => rfl⟩
  have I1 := I.laid (a := s.heap.objs.size) (o := .own (s.heap.objs.size + 1)) (h' := s.heap.push PySem.W.emptyDict) (t' := s.toks) (fun b u q => Heap.get?_push_of_some _ q) (Nat.le_refl _) ⟨_, e1⟩
  refine I1.laid (a := s.heap.objs.size + 1) (o := .ins C s.heap.objs.size []) (t' := s.toks) (fun b u q => Heap.get?_push_of_some _ q) (Nat.le_of_eq (Heap.size_push _ _)) ?_
  have ne : s.heap.objs.size ≠ s.heap.objs.size + 1 := Nat.ne_of_lt (Nat.lt_succ_self _)
  refine ⟨by rw [upd_ne ne, upd_same], Nat.zero_le _, ne, e2, fun _ => none, (Heap.Ns1.of_empty e3).at fun o q => Heap.get?_push_of_some _ q, fun _ => True.intro, fun y hy => absurd rfl hy⟩
theorem attr_of {prog : Program} {w : World} {env : Env} {e : Expr} {f : Str} {pos : Pos} {s : Shared} {Q : Value → Shared → Prop} (hb : attributeBase e f env (eval e env) = eval e env)
    (h : wpAny (model prog w) A (eval e env) (fun o s₁ => wpAny (model prog w) A (getAttr o f true) Q E s₁) E s) : wpAny (model prog w) A (eval (.Attribute e f pos) env) Q E s :=
  Attribute_any_ h (by rw [arm_eval_Attribute, hb])
end
def tFld (K : PySem.W.Frag) (ta : TE) (f : Str) : TE := fun σ H Q => ta σ H fun x H1 => ∃ a C dx fs v, x = .ref a ∧ H1 a = some (.ins C dx fs) ∧ Cls K C ∧ NoAttr K C f ∧ fs.lookup f = some v ∧ Q v H1
def sFld (K : PySem.W.Frag) (ta tv : TE) (f : Str) : TS := fun D σ H => tv σ H fun y H1 => ta σ H1 fun x H2 => ∃ a C dx fs, x = .ref a ∧ H2 a = some (.ins C dx fs) ∧ Cls K C ∧ NoAttr K C f ∧ fs.length < 1000 ∧
  D.nx σ (upd H2 a (.ins C dx (putF f y fs)))
section
variable {X : Cx} {o e value : Expr} {f : Str} {pos pos' tpos : Pos} {ta tv : TE}
theorem pe_fld (he : PE X e ta) (hb : attributeBase e f X.env (eval e X.env) = eval e X.env) : PE X (.Attribute e f pos) (tFld X.K ta f) := by
  intro pins s σ H Q I h
  refine attr_of hb (thn (he pins s σ H _ I h) fun u s1 ⟨x, H1, I1, rx, a, C, dx, fs, v, ex, ea, c, n, l, q⟩ => ?_)
  subst ex
  obtain rfl : u = Value.ref a := rx
  exact getattr_ok I1 ea c n l fun u' s2 I2 ru => ⟨v, H1, I2, ru, q⟩
theorem ps_fld (ha : PE X o ta) (hv : PE X value tv) (hs : swapsWith value (some (.Attribute o f pos')) pos.line X.env = pure false) : PS X (.Assign [.Attribute o f pos'] value pos) (sFld X.K ta tv f) := by
  intro pins s σ H D I h
  refine plainObj_wpAny_Assign_Attribute (thn (hv pins s σ H _ I h) fun u s1 ⟨y, H1, I1, ry, q⟩ => thn (ha pins s1 σ H1 _ I1 q) fun ov s2 ⟨x, H2, I2, rx, a, C, dx, fs, ex, ea, c, n, l, q2⟩ => ?_) hs
  subst ex
  obtain rfl : ov = Value.ref a := rx
  exact setattr_ok I2 ea c n l ry fun s3 I3 => ⟨σ, _, I3, q2⟩
end
section
variable {X : Cx} {pins : List (Addr × Obj)} {σ : St} {H : Hp} {s : Shared} {A : Around} {E : Value → Shared → Prop} {Q : Value → Shared → Prop} {c : Value} {b : Bool}
inductive TyOf (K : PySem.W.Frag) (H : Hp) : V → Value → Prop where
  | non : TyOf K H .non (.type "NoneType")
  | bl (x : Bool) : TyOf K H (.bl x) (.type "bool")
  | int (i : Int) : TyOf K H (.int i) (.type "int")
  | str (x : Str) : TyOf K H (.str x) (.type "str")
  | flt (x : UInt64) : TyOf K H (.flt x) (.type "float")
  | lst {a : Addr} {xs : List V} (e : H a = some (.lst xs)) : TyOf K H (.ref a) (.type "list")
  | frz {a : Addr} {o : Obj} {xs : List V} (e : H a = some (.frz o (.lst xs))) : TyOf K H (.ref a) (.type "list")
  | tup {a : Addr} {xs : List V} (e : H a = some (.tup xs)) : TyOf K H (.ref a) (.type "tuple")
  | dK {a : Addr} {kvs : List (Key × V)} (e : H a = some (.dK kvs)) : TyOf K H (.ref a) (.type "dict")
  | dT {a : Addr} {kvs : List (List Key × V)} (e : H a = some (.dT kvs)) : TyOf K H (.ref a) (.type "dict")
  | ins {a C dx : Addr} {fs : List (Str × V)} (e : H a = some (.ins C dx fs)) (cl : Cls K C) (ha : PySem.W.findIn K (.ref C) "__class__" = some (some (.builtin "object.__class__")))
      (hn : PySem.W.specialIn K (.builtin "object.__class__") "__get__" = some (some (.builtin "getset_descriptor.__get__"))) (htk : PySem.W.takesIn K (.builtin "object.__class__") = some true)
      (hm : PySem.W.mroIn K C (.type "object") = some true) : TyOf K H (.ref a) (.ref C)
theorem isinst_ok {x : V} {u t : Value} (I : Inv X pins σ H s) (rx : RelV x u) (ty : TyOf X.K H x t) (e : PySem.W.kitOne X.K t c = some b) (h : ∀ tk, Q (.bool b) { s with toks := tk }) :
    wpAny (model X.prog X.w) A (call (.builtin "isinstance") [u, c]) Q E s := by
  cases ty with
  | non => cases (show u = Value.none from rx); exact PySem.W.kia_one PySem.W.kitx_none I.kIn True.intro e (fun z => nomatch z) h
  | bl y => cases (show u = Value.bool y from rx); exact PySem.W.kia_one PySem.W.kitx_bool I.kIn True.intro e (fun z => nomatch z) h
  | int i => obtain ⟨t, q⟩ := (show ∃ t, u = Value.int i t from rx); cases q; exact PySem.W.kia_one PySem.W.kitx_int I.kIn True.intro e (fun z => nomatch z) h
  | str y => obtain ⟨t, q⟩ := (show ∃ t, u = Value.str y t from rx); cases q; exact PySem.W.kia_one PySem.W.kitx_str I.kIn True.intro e (fun z => nomatch z) h
  | flt y => obtain ⟨t, q⟩ := (show ∃ t, u = Value.float y t from rx); cases q; exact PySem.W.kia_one PySem.W.kitx_float I.kIn True.intro e (fun z => nomatch z) h
  | @lst a xs ea =>
    cases (show u = Value.ref a from rx)
    obtain ⟨_, _, n, _, h1⟩ := (show ObjOk X.prog X.w H s.heap a (.lst xs) from I.hok a _ ea)
    exact PySem.W.kia_one PySem.W.kitx_list I.kIn ⟨_, h1, rfl⟩ e (fun z => nomatch z) h
  | @frz a ob xs ea =>
    cases (show u = Value.ref a from rx)
    obtain ⟨_, _, _, n, _, h1⟩ := (show ObjOk X.prog X.w H s.heap a (.frz ob (.lst xs)) from I.hok a _ ea)
    exact PySem.W.kia_one PySem.W.kitx_list I.kIn ⟨_, h1, rfl⟩ e (fun z => nomatch z) h
  | @tup a xs ea =>
    cases (show u = Value.ref a from rx)
    obtain ⟨_, _, _, p⟩ := (show ObjOk X.prog X.w H s.heap a (.tup xs) from I.hok a _ ea)
    obtain ⟨o, h1, h2, _⟩ := p
    exact PySem.W.kia_one PySem.W.kitx_tuple I.kIn ⟨o, h1, h2⟩ e (fun z => nomatch z) h
  | @dK a kvs ea =>
    cases (show u = Value.ref a from rx)
    obtain ⟨_, _, vs, _, p⟩ := (show ObjOk X.prog X.w H s.heap a (.dK kvs) from I.hok a _ ea)
    obtain ⟨o, es, ep, h1, h2, _⟩ := p
    exact PySem.W.kia_one PySem.W.kitx_dict I.kIn ⟨o, h1, h2.1⟩ e (fun z => nomatch z) h
  | @dT a kvs ea =>
    cases (show u = Value.ref a from rx)
    obtain ⟨_, _, xs, _, o, es, ep, h1, h2, _⟩ := (show ObjOk X.prog X.w H s.heap a (.dT kvs) from I.hok a _ ea)
    exact PySem.W.kia_one PySem.W.kitx_dict I.kIn ⟨o, h1, h2.1⟩ e (fun z => nomatch z) h
  | @ins a C dx fs ea cl ha hn htk hm =>
    cases (show u = Value.ref a from rx)
    obtain ⟨mA, O, _⟩ := ins_get I.hok ea
    obtain ⟨od, J, _⟩ := O.look
    exact PySem.W.kia_one (PySem.W.kitx_own (cl.get _) cl.hd ha hn htk hm) I.kIn J e (fun z => nomatch z) h
end
end L2
namespace L2
open PySem PySem.Spec PyProof.Rows
structure Room (k : Nat) (A : Around) : Prop where
  hd : A.handled = none
  dp : A.depth + 3 * k + 5 < recursionLimit
  un : A.units + 16 * k + 200 < cLine
theorem Room.mono {j k : Nat} {A : Around} (r : Room k A) (h : j ≤ k) : Room j A := ⟨r.hd, by have := r.dp; omega, by have := r.un; omega⟩
theorem Room.deeper {k : Nat} {A : Around} (r : Room (k + 1) A) (env : Env) : Room k (A.deeper env) :=
  ⟨r.hd, by have := r.dp; show A.depth + 1 + 3 * k + 5 < _; omega, by have := r.un; show A.units + 3 + 16 * k + 200 < _; omega⟩
theorem make_depth {A : Around} {C : Addr} {us : List Value} {kw : List (Str × Value)} : (A.under (.builtin "type.__call__" ⟨.ref C :: us, kw⟩)).depth = A.depth + 1 := by
  first | rfl | simp [Around.under, Code.weight, Code.isCreation, Code.isGuard, Code.isCaller, Code.frames, Code.isFrame, guardIds]
theorem make_units {A : Around} {C : Addr} {us : List Value} {kw : List (Str × Value)} : (A.under (.builtin "type.__call__" ⟨.ref C :: us, kw⟩)).units = A.units + 1 := by
  first | rfl | simp [Around.under, Code.cUnits, Code.frames, Code.isFrame]
theorem Room.make {k : Nat} {A : Around} (r : Room (k + 1) A) (C : Addr) (us : List Value) (kw : List (Str × Value)) : Room k (A.under (.builtin "type.__call__" ⟨.ref C :: us, kw⟩)) :=
  ⟨r.hd, by have := r.dp; rw [make_depth]; omega, by have := r.un; rw [make_units]; omega⟩
theorem Room.depth {k : Nat} {A : Around} (r : Room k A) : A.depth < recursionLimit := by have := r.dp; omega
theorem Room.units {k : Nat} {A : Around} (r : Room k A) : A.units + 64 < cLine := by have := r.un; omega
def tNil : TA := fun _ H Q => Q [] H
def tCons (ta : TE) (tr : TA) : TA := fun σ H Q => ta σ H fun x H1 => tr σ H1 fun xs H2 => Q (x :: xs) H2
section
variable {X : Cx} {e : Expr} {es : List Expr} {te : TE} {t : TA} {pos : Pos}
theorem pa_nil : PA X [] tNil := fun _ _ _ _ H Q I h => Calls.spliced_nil ⟨[], H, I, .nil, h⟩
theorem pa_cons (ha : PE X e te) (hr : PA X es t) (hs : starEach (e :: es) X.env = (false, eval e X.env) :: starEach es X.env := by rfl) : PA X (e :: es) (tCons te t) := by
  intro pos pins s σ H Q I h
  rw [hs]
  show wpAny _ _ (spliced ((false, eval e X.env) :: backTo pos (starEach es X.env))) _ _ s
  refine Calls.spliced_cons (thn (ha pins s σ H _ I h) fun u s1 ⟨x, H1, I1, r1, q1⟩ => ?_)
  exact thn (hr pos pins s1 σ H1 _ I1 q1) fun us s2 ⟨xs, H2, I2, r2, q2⟩ => ⟨x :: xs, H2, I2, .cons r1 r2, q2⟩
def tTup (t : TA) : TE := fun σ H Q => t σ H fun xs H1 => xs.length ≤ sizeLine ∧ ∀ p, H1 p = none → Q (.ref p) (upd H1 p (.tup xs))
def tLst (t : TA) : TE := fun σ H Q => t σ H fun xs H1 => xs.length ≤ sizeLine ∧ ∀ p, H1 p = none → Q (.ref p) (upd H1 p (.lst xs))
theorem pe_tup {x1} (h : PA X es t) : PE X (.Tuple es x1 pos) (tTup t) := by
  intro pins s σ H Q I hq
  refine wpAny_Tuple_spliced (thn (h pos pins s σ H _ I hq) fun us s1 ⟨xs, H1, I1, r, z, q⟩ => ⟨by rw [← r.length]; exact z, ?_⟩)
  have hf : H1 s1.heap.objs.size = none := I1.hok.fresh (Nat.le_refl _)
  refine ⟨.ref s1.heap.objs.size, upd H1 s1.heap.objs.size (.tup xs), I1.laid (t' := s1.toks) (fun b u e => Heap.get?_push_of_some _ e) (Nat.le_refl _) ?_, rfl, q _ hf⟩
  exact ⟨z, us, r, ⟨_, Heap.get?_push_size _ rfl, rfl, _, rfl⟩⟩
theorem pe_lst (h : PA X es t) : PE X (.List es pos) (tLst t) := by
  intro pins s σ H Q I hq
  refine wpAny_List_spliced (thn (h pos pins s σ H _ I hq) fun us s1 ⟨xs, H1, I1, r, z, q⟩ => ⟨by rw [← r.length]; exact z, ?_⟩)
  have hf : H1 s1.heap.objs.size = none := I1.hok.fresh (Nat.le_refl _)
  refine ⟨.ref s1.heap.objs.size, upd H1 s1.heap.objs.size (.lst xs), I1.laid (t' := s1.toks) (fun b u e => Heap.get?_push_of_some _ e) (Nat.le_refl _) ?_, rfl, q _ hf⟩
  exact ⟨z, us, 0, r, Heap.get?_push_size _ rfl⟩
end
abbrev Sp := List V → Hp → VK → XK → Prop
abbrev CXT := List Env → Hp → Shared → XK → Value → Shared → Prop
structure Env0 (P : Program) (w : World) (K : PySem.W.Frag) (mg : Str → Option Value) (base : Heap) (A : Around) (outer : List Env) (s : Shared) (H : Hp) : Prop where
  frames : A.frames = some outer
  mod : Mod K mg base
  bs : ∀ b o, base.get? b = some o → s.heap.get? b = some o ∧ H b = none
  bsz : base.objs.size ≤ s.heap.objs.size
  funs : s.heap.FunFrames base outer
  frf : ∀ b ∈ frs outer, H b = none
  hok : HOk P w H s.heap
  bare : AllBare s.gens
def CE (outer : List Env) (P : Program) (w : World) (H : Hp) (s : Shared) (Q : VK) (u : Value) (s' : Shared) : Prop :=
  ∃ v H', s'.os = s.os ∧ AllBare s'.gens ∧ Un (frs outer) [] H H' s.heap s'.heap ∧ HOk P w H' s'.heap ∧ RelV v u ∧ Q v H'
def CR (CX : CXT) (outer : List Env) (P : Program) (w : World) (H : Hp) (s : Shared) (Q : VK) (E : XK) (r : Result) (s' : Shared) : Prop :=
  match r with
  | .ok (.ret u) => CE outer P w H s Q u s'
  | .ok _ => False
  | .error e => CX outer H s E e s'
structure FnOk (P : Program) (w : World) (K : PySem.W.Frag) (mg : Str → Option Value) (base : Heap) (CX : CXT) (k : Nat) (f : Addr) (fd : FuncData) (ps : List Str) (sp : Sp) : Prop where
  len : ∀ vs H Q E, sp vs H Q E → vs.length = ps.length
  run : ∀ (A : Around) (outer : List Env) (s : Shared) (H : Hp) (args : Args) (us : List Value) (vs : List V) (Q : VK) (E : XK), Room k A → Env0 P w K mg base A outer s H → BindsTo s fd args (ps.zip us) → Vals vs us → sp vs H Q E →
    codeAny (model P w) A (.call (.ref f) args) (CR CX outer P w H s Q E) s
theorem FnOk.imp {P : Program} {w : World} {K : PySem.W.Frag} {mg : Str → Option Value} {base : Heap} {CX : CXT} {k : Nat} {f : Addr} {fd : FuncData} {ps : List Str} {sp sp' : Sp} (F : FnOk P w K mg base CX k f fd ps sp)
    (h : ∀ vs H Q E, sp' vs H Q E → sp vs H Q E) : FnOk P w K mg base CX k f fd ps sp' :=
  ⟨fun vs H Q E q => F.len vs H Q E (h _ _ _ _ q), fun A outer s H args us vs Q E hr he hb hv hs => F.run A outer s H args us vs Q E hr he hb hv (h _ _ _ _ hs)⟩
theorem Env0.make {P : Program} {w : World} {K : PySem.W.Frag} {mg : Str → Option Value} {base : Heap} {A : Around} {outer : List Env} {s : Shared} {H : Hp} (e : Env0 P w K mg base A outer s H) (C : Addr) (us : List Value) (kw : List (Str × Value)) :
    Env0 P w K mg base (A.under (.builtin "type.__call__" ⟨.ref C :: us, kw⟩)) outer s H := ⟨by first | exact e.frames | (simpa [Around.under, Code.envs, Code.isFrame, pushEnvs] using e.frames), e.mod, e.bs, e.bsz, e.funs, e.frf, e.hok, e.bare⟩
section
variable {X : Cx} {pins : List (Addr × Obj)} {σ : St} {H : Hp} {s s' : Shared}
theorem Inv.env0 (I : Inv X pins σ H s) : Env0 X.prog X.w X.K X.mg X.base X.A X.stack s H :=
  ⟨I.ok.frames, I.ok.mod, I.bs, Nat.le_trans I.ok.bsz I.sz, I.stack, I.stkFree, I.hok, I.bare⟩
theorem Inv.after {Q : VK} {u : Value} (I : Inv X pins σ H s) (h : CE X.stack X.prog X.w H s Q u s') : EP X pins σ Q u s' := by
  obtain ⟨v, H', os, bare, un, hok, r, q⟩ := h
  obtain ⟨hh, g, d, t, os'⟩ := s'
  obtain rfl : os' = s.os := os
  exact ⟨v, H', I.call (h' := hh) (g' := g) (d' := d) (t' := t) (ch := []) un hok bare (fun b z => absurd z (by simp)), r, q⟩
end
def tCall (sp : Sp) (dvs : List V) (E : XK) (t : TA) : TE := fun σ H Q => t σ H fun vs H1 => sp (vs ++ dvs) H1 Q E
def tMeth (C : Addr) (m : Str) (sp : Sp) (dvs : List V) (E : XK) (ta : TE) (t : TA) : TE := fun σ H Q => ta σ H fun x H1 => ∃ a dx fs, x = .ref a ∧ H1 a = some (.ins C dx fs) ∧ fs.lookup m = none ∧
  t σ H1 fun vs H2 => sp (x :: (vs ++ dvs)) H2 Q E
def tMake (C : Addr) (sp : Sp) (dvs : List V) (E : XK) (t : TA) : TE := fun σ H Q => t σ H fun vs H1 => ∀ x dx, H1 x = none → H1 dx = none → dx ≠ x →
  sp (.ref x :: (vs ++ dvs)) (upd (upd H1 dx (.own x)) x (.ins C dx [])) (fun v H2 => v = .non ∧ Q (.ref x) H2) E
def Binds (K : PySem.W.Frag) (fd : FuncData) (ps : List Str) (ds : List Value) : Prop :=
  ∀ (s : Shared) (us : List Value), K.In s.heap → (us ++ ds).length = ps.length → BindsTo s fd ⟨us, []⟩ (ps.zip (us ++ ds))
theorem Binds.all {K : PySem.W.Frag} {fd : FuncData} {ps : List Str} (h : ∀ us : List Value, us.length = ps.length → bindArgs fd ⟨us, []⟩ = pure (ps.zip us)) : Binds K fd ps [] := fun s us _ hl => by
  rw [List.append_nil] at hl ⊢
  exact .of_eq (h us hl)
def Passes (CX : CXT) (X : Cx) (E : XK) : Prop := ∀ (pins : List (Addr × Obj)) (σ : St) (H : Hp) (s : Shared) (e : Value) (s' : Shared), Inv X pins σ H s → CX X.stack H s E e s' → X.xe e s'
section
variable {X : Cx} {CX : CXT} {k : Nat} {f C : Addr} {fd : FuncData} {ps : List Str} {sp : Sp} {dvs : List V} {ds : List Value} {E : XK} {x m : Str} {p pos apos : Pos} {e o : Expr} {es : List Expr} {ta : TE} {t : TA}
theorem run_fn {pins : List (Addr × Obj)} {σ : St} {H : Hp} {s : Shared} {Q : VK} {us : List Value} {vs : List V} (F : FnOk X.prog X.w X.K X.mg X.base CX k f fd ps sp) (hr : Room k X.A) (hb : Binds X.K fd ps ds) (hd : Vals dvs ds) (hx : Passes CX X E)
    (I : Inv X pins σ H s) (r : Vals vs us) (h : sp (vs ++ dvs) H Q E) : wpAny (model X.prog X.w) X.A (call (.ref f) us) (EP X pins σ Q) X.xe s := by
  have r2 : Vals (vs ++ dvs) (us ++ ds) := r.append hd
  have hl : (us ++ ds).length = ps.length := by rw [← r2.length]; exact F.len _ _ _ _ h
  refine wpAny_call (codeAny_mono (F.run X.A X.stack s H ⟨us, []⟩ (us ++ ds) (vs ++ dvs) Q E hr I.env0 (hb s us I.kIn hl) r2 h) fun r s' hq => ?_)
  cases r with
  | error e => exact hx pins σ H s e s' I hq
  | ok fl =>
    cases fl with
    | ret u => exact I.after hq
    | next => exact False.elim hq
    | brk => exact False.elim hq
    | cont => exact False.elim hq
theorem pe_call (F : FnOk X.prog X.w X.K X.mg X.base CX k f fd ps sp) (hr : Room k X.A) (hg : Gl X x) (hm : X.mg x = some (.ref f)) (hk : PySem.W.keepIn X.K (.ref f) = true) (hb : Binds X.K fd ps ds) (hd : Vals dvs ds) (hx : Passes CX X E)
    (ha : PA X (e :: es) t) (hdb : (x == ("__debug__" : Str)) = false := by decide) (he : starEach (e :: es) X.env = (false, eval e X.env) :: starEach es X.env := by rfl) (hpl : (backTo pos (starEach es X.env)).any (·.1) = false := by rfl) :
    PE X (.Call (.Name x p) (e :: es) [] pos) (tCall sp dvs E t) := by
  intro pins s σ H Q I h
  refine wpAny_Call_Name_kw (ld_glob I hg hm ?_ hdb)
  refine PySem.W.callWith_K (h₀ := X.base) I.ok.mod.kin hk (thn (ha pos pins s σ H _ I h) fun us s1 ⟨vs, H1, I1, r, q⟩ => ⟨I1.kIn, ?_⟩) he hpl
  exact run_fn F hr hb hd hx I1 r q
theorem pe_meth {pl : Sem Bool} (he : PE X o ta) (c : Cls X.K C) (hm : Meth X.K C m f) (F : FnOk X.prog X.w X.K X.mg X.base CX k f fd ps sp) (hr : Room k X.A) (hb : Binds X.K fd ps ds) (hd : Vals dvs ds) (hx : Passes CX X E) (ha : PA X (e :: es) t)
    (hst : starEach (e :: es) X.env = (false, eval e X.env) :: starEach es X.env := by rfl) (hpl : (backTo pos (starEach es X.env)).any (·.1) = false := by rfl)
    (ht : eval (.Call (.Attribute o m apos) (e :: es) [] pos) X.env = (do
      let ov ← eval o X.env
      standAt apos.atName
      let (f, first) ← holding [ov] (getMethod ov m pl)
      callWith pos f first (backTo pos (starEach (e :: es) X.env)) (backToKw pos (keywordEach [] X.env))) := by rfl) :
    PE X (.Call (.Attribute o m apos) (e :: es) [] pos) (tMeth C m sp dvs E ta t) := by
  intro pins s σ H Q I h
  refine PySem.W.methodCall_KW (pl := pl) (thn (he pins s σ H _ I h) fun u s1 ⟨x, H1, I1, rx, a, dx, fs, ex, ea, l, q⟩ => ?_) ht
  subst ex
  obtain rfl : u = Value.ref a := rx
  refine getmeth_ok I1 ea c hm l ?_
  refine PySem.W.callWith_K (first := [.ref a]) (h₀ := X.base) I.ok.mod.kin hm.kp (thn (ha pos pins s1 σ H1 _ I1 q) fun us s2 ⟨vs, H2, I2, r, q2⟩ => ⟨I2.kIn, ?_⟩) hst hpl
  exact run_fn (us := .ref a :: us) (vs := .ref a :: vs) F hr hb hd hx I2 (.cons rfl r) q2
theorem pe_meth0 {pl : Sem Bool} (he : PE X o ta) (c : Cls X.K C) (hm : Meth X.K C m f) (F : FnOk X.prog X.w X.K X.mg X.base CX k f fd ps sp) (hr : Room k X.A) (hb : Binds X.K fd ps ds) (hd : Vals dvs ds) (hx : Passes CX X E)
    (ht : eval (.Call (.Attribute o m apos) [] [] pos) X.env = (do
      let ov ← eval o X.env
      standAt apos.atName
      let (f, first) ← holding [ov] (getMethod ov m pl)
      callWith pos f first (backTo pos (starEach [] X.env)) (backToKw pos (keywordEach [] X.env))) := by rfl) :
    PE X (.Call (.Attribute o m apos) [] [] pos) (tMeth C m sp dvs E ta tNil) := by
  intro pins s σ H Q I h
  refine PySem.W.methodCall_KW (pl := pl) (thn (he pins s σ H _ I h) fun u s1 ⟨x, H1, I1, rx, a, dx, fs, ex, ea, l, q⟩ => ?_) ht
  subst ex
  obtain rfl : u = Value.ref a := rx
  refine getmeth_ok I1 ea c hm l ?_
  exact PySem.W.callWith_K0 (first := [.ref a]) I1.kIn hm.kp (run_fn (us := [.ref a]) (vs := [.ref a]) F hr hb hd hx I1 (.cons rfl .nil) q)
structure Mk (K : PySem.W.Frag) (C f : Addr) : Prop where
  makes : PySem.W.makesIn K C = true
  init : PySem.W.findIn K (.ref C) "__init__" = some (some (.ref f))
  fn : PySem.W.isFn K (.ref f) = true
  kp : PySem.W.keepIn K (.ref C) = true
theorem run_make {pins : List (Addr × Obj)} {σ : St} {H : Hp} {s : Shared} {Q : VK} {us : List Value} {vs : List V} (M : Mk X.K C f) (F : FnOk X.prog X.w X.K X.mg X.base CX k f fd ps sp) (hr : Room (k + 1) X.A) (hb : Binds X.K fd ps ds) (hd : Vals dvs ds)
    (hx : Passes CX X E) (I : Inv X pins σ H s) (r : Vals vs us)
    (h : ∀ x dx, H x = none → H dx = none → dx ≠ x → sp (.ref x :: (vs ++ dvs)) (upd (upd H dx (.own x)) x (.ins C dx [])) (fun v H2 => v = .non ∧ Q (.ref x) H2) E) :
    wpAny (model X.prog X.w) X.A (call (.ref C) us) (EP X pins σ Q) X.xe s := by
  have hq := h (s.heap.objs.size + 1) s.heap.objs.size (I.hok.fresh (Nat.le_succ _)) (I.hok.fresh (Nat.le_refl _)) (Nat.ne_of_lt (Nat.lt_succ_self _))
  have I2 := Inv.made (C := C) I
  have r2 : Vals (V.ref (s.heap.objs.size + 1) :: (vs ++ dvs)) (Value.ref (s.heap.objs.size + 1) :: (us ++ ds)) := .cons rfl (r.append hd)
  have hl : (Value.ref (s.heap.objs.size + 1) :: us ++ ds).length = ps.length := by
    have e := r2.length
    rw [F.len _ _ _ _ hq] at e
    exact e.symm
  refine wpAny_call (make_map (f := f) I.kIn M.makes M.init (beq_iff_eq.mp M.fn) (codeAny_mono (F.run _ X.stack _ _ ⟨Value.ref (s.heap.objs.size + 1) :: us, []⟩ (Value.ref (s.heap.objs.size + 1) :: (us ++ ds)) _ _ E (hr.make C us [])
    (I2.env0.make C us []) (hb _ (Value.ref (s.heap.objs.size + 1) :: us) I2.kIn hl) r2 hq) fun r s' hq' => ?_))
  cases r with
  | error e => exact hx pins σ _ _ e s' I2 hq'
  | ok fl =>
    cases fl with
    | ret u =>
      obtain ⟨v, H', I3, rv, ev, q3⟩ := I2.after hq'
      subst ev
      exact ⟨rv, ⟨V.ref (s.heap.objs.size + 1), H', I3, rfl, q3⟩⟩
    | next => exact False.elim hq'
    | brk => exact False.elim hq'
    | cont => exact False.elim hq'
theorem pe_make (M : Mk X.K C f) (F : FnOk X.prog X.w X.K X.mg X.base CX k f fd ps sp) (hr : Room (k + 1) X.A) (hg : Gl X x) (hm : X.mg x = some (.ref C)) (hb : Binds X.K fd ps ds) (hd : Vals dvs ds) (hx : Passes CX X E)
    (ha : PA X (e :: es) t) (hdb : (x == ("__debug__" : Str)) = false := by decide) (he : starEach (e :: es) X.env = (false, eval e X.env) :: starEach es X.env := by rfl) (hpl : (backTo pos (starEach es X.env)).any (·.1) = false := by rfl) :
    PE X (.Call (.Name x p) (e :: es) [] pos) (tMake C sp dvs E t) := by
  intro pins s σ H Q I h
  refine wpAny_Call_Name_kw (ld_glob I hg hm ?_ hdb)
  refine PySem.W.callWith_K (h₀ := X.base) I.ok.mod.kin M.kp (thn (ha pos pins s σ H _ I h) fun us s1 ⟨vs, H1, I1, r, q⟩ => ⟨I1.kIn, ?_⟩) he hpl
  exact run_make M F hr hb hd hx I1 r q
end
section
variable {X : Cx} {CX : CXT} {k : Nat} {f C : Addr} {fd : FuncData} {ps ks : List Str} {sp : Sp} {E : XK} {x m : Str} {p pos apos kpos : Pos} {e o : Expr} {es : List Expr} {kws : List Keyword} {te ta : TE} {t tk : TA} {nm : Option Str}
variable {g : List Value → List Value → List Value} {gV : List V → List V → List V}
end
structure FnScope (N P : List Str) (sc : Scope) : Prop where
  kind : sc.kind = .function
  co : sc.isCoroutine = false
  gen : sc.isGenerator = false
  nd : N.Nodup
  pre : N.take P.length = P
  par : ∀ x ∈ P, sc.names.lookup x = some .local ∨ sc.names.lookup x = some .cell
  nofree : ∀ y ∈ sc.names, y.2 ≠ .free
theorem bindL_out {kindOf : Str → Option NameKind} {x : Str} : ∀ {binds : List (Str × Value)} {m : Str → Option Value}, (∀ v, (x, v) ∉ binds) → bindL kindOf binds m x = m x
  | [], _, _ => rfl
  | (n, v) :: r, m, h => by
    unfold bindL
    rw [bindL_out fun w hw => h w (List.mem_cons_of_mem _ hw)]
    split
    · have : x ≠ n := by rintro rfl; exact h v List.mem_cons_self
      simp [this]
    · rfl
theorem bindC_out {kindOf : Str → Option NameKind} {x : Str} : ∀ {binds : List (Str × Value)} {m : Str → Option Value}, (∀ v, (x, v) ∉ binds) → bindC kindOf binds m x = m x
  | [], _, _ => rfl
  | (n, v) :: r, m, h => by
    unfold bindC
    rw [bindC_out fun w hw => h w (List.mem_cons_of_mem _ hw)]
    split
    · rfl
    · have : x ≠ n := by rintro rfl; exact h v List.mem_cons_self
      simp [this]
theorem bindL_get {kindOf : Str → Option NameKind} {x : Str} {v : Value} : ∀ {P : List Str} {vs : List Value} {i : Nat} {m : Str → Option Value}, P.Nodup → P[i]? = some x → vs[i]? = some v → kindOf x = some .local →
    bindL kindOf (P.zip vs) m x = some v
  | [], _, _, _, _, h, _, _ => by simp at h
  | _ :: _, [], _, _, _, _, h, _ => by simp at h
  | p :: P, w :: vs, 0, m, nd, h1, h2, hk => by
    simp at h1 h2; subst h1; subst h2
    show bindL kindOf ((p, w) :: P.zip vs) m p = _
    unfold bindL
    rw [bindL_out fun v hv => (List.nodup_cons.mp nd).1 (List.of_mem_zip hv).1, if_pos hk]
    simp
  | p :: P, w :: vs, i + 1, m, nd, h1, h2, hk => by
    show bindL kindOf ((p, w) :: P.zip vs) m x = _
    unfold bindL
    exact bindL_get (i := i) (List.nodup_cons.mp nd).2 (by simpa using h1) (by simpa using h2) hk
theorem bindC_get {kindOf : Str → Option NameKind} {x : Str} {v : Value} : ∀ {P : List Str} {vs : List Value} {i : Nat} {m : Str → Option Value}, P.Nodup → P[i]? = some x → vs[i]? = some v → kindOf x ≠ some .local →
    bindC kindOf (P.zip vs) m x = some v
  | [], _, _, _, _, h, _, _ => by simp at h
  | _ :: _, [], _, _, _, _, h, _ => by simp at h
  | p :: P, w :: vs, 0, m, nd, h1, h2, hk => by
    simp at h1 h2; subst h1; subst h2
    show bindC kindOf ((p, w) :: P.zip vs) m p = _
    unfold bindC
    rw [bindC_out fun v hv => (List.nodup_cons.mp nd).1 (List.of_mem_zip hv).1, if_neg hk]
    simp
  | p :: P, w :: vs, i + 1, m, nd, h1, h2, hk => by
    show bindC kindOf ((p, w) :: P.zip vs) m x = _
    unfold bindC
    exact bindC_get (i := i) (List.nodup_cons.mp nd).2 (by simpa using h1) (by simpa using h2) hk
def start (N : List Str) (vs : List V) : St := vs.map some ++ List.replicate (N.length - vs.length) none
def cxOf (CX : CXT) (P : Program) (w : World) (K : PySem.W.Frag) (mg : Str → Option Value) (base : Heap) (N : List Str) (qual : Str) (scope : Scope) (f : Addr) (cd : Value) (A : Around) (outer : List Env) (s : Shared) (H : Hp) (E : XK) : Cx where
  prog := P
  w := w
  K := K
  mg := mg
  base := base
  A := A.deeper (envOfC qual scope s.heap.objs.size f cd)
  N := N
  s₀ := s
  H₀ := H
  env := envOfC qual scope s.heap.objs.size f cd
  outer := outer
  stack := envOfC qual scope s.heap.objs.size f cd :: outer
  ex := []
  calm := true
  fn := fun _ => true
  pn := []
  xe := fun e s' => wpAny (model P w) (A.deeper (envOfC qual scope s.heap.objs.size f cd)) (leaving (envOfC qual scope s.heap.objs.size f cd) e) (fun _ s'' => CX outer H s E e s'') (fun e' s'' => CX outer H s E e' s'') s'
theorem cell_has {sc : Scope} {n : Nat} {x : Str} (h : sc.names.lookup x = some .cell) : ∃ c, (cellsFrom n sc.names []).lookup x = some c := by
  have q := PySem.W.cellsFrom_some sc.names n [] (.inl h)
  exact Option.isSome_iff_exists.mp q
theorem inv_start {CX : CXT} {P : Program} {w : World} {K : PySem.W.Frag} {mg : Str → Option Value} {base : Heap} {N ps : List Str} {qual : Str} {scope : Scope} {f : Addr} {cd : Value} {A : Around} {outer : List Env} {s s1 : Shared} {H : Hp} {E : XK} {us : List Value} {vs : List V}
    (S : FnScope N ps scope) (hd : A.handled = none) (e0 : Env0 P w K mg base A outer s H) (hl : vs.length = ps.length) (r : Vals vs us)
    (x : InCallC s s.heap.objs.size (bindL (envOfC qual scope s.heap.objs.size f cd).kindOf (ps.zip us) fun _ => none) (cellsFrom (s.heap.objs.size + 1) scope.names []) (bindC (envOfC qual scope s.heap.objs.size f cd).kindOf (ps.zip us) fun _ => none) s1) :
    Inv (cxOf CX P w K mg base N qual scope f cd A outer s H E) [] (start N vs) H s1 := by
  have hpl : ps.length ≤ N.length := by have := congrArg List.length S.pre; rw [List.length_take] at this; omega
  obtain ⟨h1, tk, rfl, hk⟩ := x.done
  have noA : ∀ b : Addr, b ∉ (cxOf CX P w K mg base N qual scope f cd A outer s H E).ex := fun b z => absurd (show b ∈ ([] : List Addr) from z) (by simp)
  refine ⟨⟨e0.mod, S.kind, rfl, rfl, Nat.le_refl _, fun y z c h1 h2 => ?_, fun y hy => ?_, fun y c _ h => ?_, fun _ => hd, Around.frames_deeper e0.frames, .inr ⟨rfl, rfl⟩, fun b z => absurd z (noA b), e0.bs, e0.bsz, fun b _ _ => noA b, fun b z => absurd z (noA b), e0.funs, e0.frf⟩,
    rfl, e0.bare, Un.kept hk, ⟨_, x.toInCall.ns, fun i y v h1 h2 h3 => ?_⟩, fun y c h => ⟨_, x.cell y c h⟩, e0.hok.fresh (Nat.le_refl _), fun y c h => ?_, fun p hp => absurd (show p ∈ ([] : List (Addr × Obj)) from hp) (by simp), e0.hok.kept hk, ?_⟩
  · exact name_of_addr x.apart (PySem.mem_of_lookup h1) (PySem.mem_of_lookup h2)
  · have hy : scope.names.lookup y = some .cell ∨ scope.names.lookup y = some .free := hy
    rcases hy with hy | hy
    · exact cell_has hy
    · exact absurd rfl (S.nofree _ (PySem.mem_of_lookup hy))
  · exact Nat.le_of_lt (x.above y c (PySem.mem_of_lookup h))
  · have hi : i < vs.length := by
      unfold start at h2
      by_cases hi : i < vs.length
      · exact hi
      · rw [List.getElem?_append_right (by simpa using hi)] at h2
        rw [List.getElem?_replicate] at h2
        split at h2 <;> cases h2
    have ha : vs[i]? = some v := by
      unfold start at h2
      rw [List.getElem?_append_left (by simpa using hi), List.getElem?_map] at h2
      cases e : vs[i]? with
      | none => rw [e] at h2; cases h2
      | some a => rw [e] at h2; cases h2; rfl
    obtain ⟨u, hu, rv⟩ := r.get ha
    have hp : ps[i]? = some y := by
      rw [← S.pre, List.getElem?_take_of_lt (by omega)]; exact h1
    have ndP : ps.Nodup := by rw [← S.pre]; exact S.nd.sublist (List.take_sublist _ _)
    refine ⟨u, rv, ?_⟩
    rcases S.par y (List.mem_of_getElem? hp) with k | k
    · exact .inl ⟨k, bindL_get ndP hp hu k⟩
    · obtain ⟨c, e⟩ := cell_has (n := s.heap.objs.size + 1) k
      refine .inr ⟨.inl k, c, e, ?_⟩
      have q := x.cell y c e
      rw [bindC_get ndP hp hu (by show scope.names.lookup y ≠ _; rw [k]; decide)] at q
      exact q
  · exact e0.hok.fresh (Nat.le_of_lt (x.above y c (PySem.mem_of_lookup h)))
  · unfold start
    show _ = N.length
    rw [List.length_append, List.length_map, List.length_replicate]
    omega
theorem fn_of {CX : CXT} {P : Program} {w : World} {K : PySem.W.Frag} {mg : Str → Option Value} {base : Heap} {k : Nat} {f : Addr} {name qual : Str} {params : Arguments} {body : List Stmt} {scope : Scope} {dV kV doc pm cdv ct oc : Value} {an od : Option Addr}
    {osl : Array (Option Value)} {N ps : List Str} {sp : Sp} (lk : K.lookup f = some ⟨oc, od, .func (PySem.W.fnOf name qual params body scope dV kV doc pm an cdv ct), osl⟩) (hcd : PySem.W.codeIn K cdv qual = true) (S : FnScope N ps scope)
    (len : ∀ vs H Q E, sp vs H Q E → vs.length = ps.length)
    (hbody : ∀ (A : Around) (outer : List Env) (s : Shared) (H : Hp) (vs : List V) (Q : VK) (E : XK), Room k (A.deeper (envOfC qual scope s.heap.objs.size f cdv)) → sp vs H Q E →
      ∃ t, PSs (cxOf CX P w K mg base N qual scope f cdv A outer s H E) body t ∧ t { nx := fun _ H' => Q .non H', rt := Q } (start N vs) H) :
    FnOk P w K mg base CX (k + 1) f (PySem.W.fnOf name qual params body scope dV kV doc pm an cdv ct) ps sp := by
  refine ⟨len, fun A outer s H args us vs Q E hr e0 hb r hsp => ?_⟩
  have hl := len _ _ _ _ hsp
  have KX : K.In s.heap := e0.mod.kin.keeps fun b o e => (e0.bs b o e).1
  have lim : s.heap.NoLimit := e0.mod.nolimit.keeps fun b o e => (e0.bs b o e).1
  have hkind : ∀ y ∈ ps.zip us, scope.names.lookup y.1 = some .local ∨ (scope.names.lookup y.1 = some .cell ∧ ((cellsFrom (s.heap.objs.size + 1) scope.names []).lookup y.1).isSome = true) := fun ⟨n, v⟩ hy => by
    rcases S.par n (List.of_mem_zip hy).1 with q | q
    · exact .inl q
    · exact .inr ⟨q, PySem.W.cellsFrom_some _ _ _ (.inl q)⟩
  refine codeAny_call_function hr.depth (KX _ _ lk) rfl S.co S.gen rfl (PySem.W.codeRec_of KX hcd) (hb _ _ _ _ ?_)
  refine wpAny_newFunctionEnv_cells S.kind hkind fun env he s1 x => ?_
  subst he
  refine ⟨lim.keeps x.toInCall.keep, codeAny_func ?_⟩
  obtain ⟨t, ht, hq⟩ := hbody A outer s H vs Q E (hr.deeper _) hsp
  have I : Inv (cxOf CX P w K mg base N qual scope f cdv A outer s H E) [] (start N vs) H s1 := inv_start S hr.hd e0 hl r x
  refine wpAny_mono (ht [] s1 (start N vs) H _ I hq) (fun fl s' hs => ?_) fun e s' hs => hs
  have fin : ∀ {σ' : St} {H' : Hp} {v : V} {u : Value}, Inv (cxOf CX P w K mg base N qual scope f cdv A outer s H E) [] σ' H' s' → RelV v u → Q v H' → CE outer P w H s Q u s' :=
    fun {σ' H' v u} J rv q => ⟨v, H', J.os, J.bare, J.base, J.hok, rv, q⟩
  cases fl with
  | ret u =>
    obtain ⟨v, σ', H', J, rv, q⟩ := hs
    exact fin J rv q
  | next =>
    obtain ⟨σ', H', J, q⟩ := hs
    exact fin (v := V.non) (u := Value.none) J rfl q
  | brk =>
    obtain ⟨_, _, _, q⟩ := hs
    exact False.elim q
  | cont =>
    obtain ⟨_, _, _, q⟩ := hs
    exact False.elim q
end L2
namespace L2
open PySem PySem.Spec PyProof.Rows
section
variable {X : Cx} {x : Str} {p pos : Pos} {e : Expr} {es : List Expr} {t : TA} {id T : String} {r : List V → Hp → VK → Prop}
def tCB (r : List V → Hp → VK → Prop) (t : TA) : TE := fun σ H Q => t σ H fun vs H1 => r vs H1 Q
theorem pe_callB (hc : CallR X (.builtin id) r) (hg : Gl X x) (hm : X.mg x = none) (hv : bootBuiltins x = some (.builtin id)) (ha : PA X (e :: es) t) (hn : x ≠ "__name__" := by decide) (hdb : (x == ("__debug__" : Str)) = false := by decide)
    (he : starEach (e :: es) X.env = (false, eval e X.env) :: starEach es X.env := by rfl) (hpl : (backTo pos (starEach es X.env)).any (·.1) = false := by rfl) : PE X (.Call (.Name x p) (e :: es) [] pos) (tCB r t) := by
  intro pins s σ H Q I h
  refine wpAny_Call_Name_kw (ld_blt I hg hm hv ?_ hn hdb)
  exact PyProof.Rows.callWith_builtin1 (thn (ha pos pins s σ H _ I h) fun us s1 ⟨vs, H1, I1, r1, q1⟩ => hc pins s1 σ H1 vs us Q I1 r1 q1) he hpl
theorem pe_callTy (hc : CallR X (.type T) r) (hg : Gl X x) (hm : X.mg x = none) (hv : bootBuiltins x = some (.type T)) (ha : PA X (e :: es) t) (hn : x ≠ "__name__" := by decide) (hdb : (x == ("__debug__" : Str)) = false := by decide)
    (he : starEach (e :: es) X.env = (false, eval e X.env) :: starEach es X.env := by rfl) (hpl : (backTo pos (starEach es X.env)).any (·.1) = false := by rfl) : PE X (.Call (.Name x p) (e :: es) [] pos) (tCB r t) := by
  intro pins s σ H Q I h
  refine wpAny_Call_Name_kw (ld_blt I hg hm hv ?_ hn hdb)
  exact PyProof.Rows.callWith_type1 (thn (ha pos pins s σ H _ I h) fun us s1 ⟨vs, H1, I1, r1, q1⟩ => hc pins s1 σ H1 vs us Q I1 r1 q1) he hpl
end
end L2
namespace HT
open PySem PyProof.Rows
def lexLt : List Int → List Int → Bool
  | [], [] => false
  | [], _ :: _ => true
  | _ :: _, [] => false
  | x :: xs, y :: ys => if x = y then lexLt xs ys else decide (x < y)
section
open PySem.SeqAt
open PySem.AutoSeq1 (wpAny_loadPart')
open PySem.MeetsSeq PySem.MeetsSeq2 PySem.MeetsSeq3
end
section
variable {prog : Program} {w : World} {A : Around} {E : Value → Shared → Prop} {s : Shared}
def sIx (n d : Nat) : Option Int → Nat
  | none => d
  | some v => if v < 0 then (v + (n : Int)).toNat else min v.toNat n
theorem sIx_none (n d : Nat) : sIx n d none = d := rfl
theorem sIx_nat (n d k : Nat) : sIx n d (some (k : Int)) = min k n := by
  show (if (k : Int) < 0 then ((k : Int) + (n : Int)).toNat else min (k : Int).toNat n) = min k n
  rw [if_neg (by omega), Int.toNat_natCast]
end
end HT
namespace L2
open PySem PySem.Spec PyProof.Rows
abbrev TO := St → Hp → (Option Int → Hp → Prop) → Prop
def PO (X : Cx) (e : Option Expr) (t : TO) : Prop :=
  ∀ (pins : List (Addr × Obj)) (s : Shared) (σ : St) (H : Hp) (Q : Option Int → Hp → Prop), Inv X pins σ H s → t σ H Q →
    wpAny (model X.prog X.w) X.A (evalPart e X.env) (fun u s' => ∃ o H', Inv X pins σ H' s' ∧ IsPart u o ∧ Q o H') X.xe s
def tNoPart : TO := fun _ H Q => Q none H
def tPart (t : TE) : TO := fun σ H Q => t σ H fun x H1 => ∃ i, x = .int i ∧ Q (some i) H1
section
variable {X : Cx} {e : Expr} {te : TE} {lo hi : Option Expr} {tl th : TO} {pos p2 : Pos}
theorem po_none : PO X none tNoPart := by
  intro pins s σ H Q I h
  rw [evalPart_none]
  exact wpAny_pure ⟨none, H, I, .none, h⟩
theorem po_some (h : PE X e te) : PO X (some e) (tPart te) := by
  intro pins s σ H Q I hw
  rw [evalPart_some]
  refine thn (h pins s σ H _ I hw) fun u s1 ⟨x, H1, I1, r1, q1⟩ => ?_
  obtain ⟨i, rfl, q⟩ := q1
  obtain ⟨t, rfl⟩ := r1
  exact ⟨some i, H1, I1, .int i t, q⟩
def SlR (X : Cx) (r : V → Option Int → Option Int → Hp → VK → Prop) : Prop :=
  ∀ (pins : List (Addr × Obj)) (s : Shared) (σ : St) (H : Hp) (x : V) (v vl vu : Value) (lo hi : Option Int) (sl : Addr) (Q : VK), Inv X pins σ H s → RelV x v → s.heap.IsSliceOf sl vl vu .none → IsPart vl lo → IsPart vu hi → r x lo hi H Q →
    ∃ T id, typeLookup (.type T) "__getitem__" = pure (some (.builtin id)) ∧ s.TypeIs v T ∧ wpAny (model X.prog X.w) X.A (getItem v (.ref sl)) (EP X pins σ Q) X.xe s
def tSl (r : V → Option Int → Option Int → Hp → VK → Prop) (te : TE) (tl th : TO) : TE := fun σ H Q => te σ H fun x H1 => tl σ H1 fun l H2 => th σ H2 fun u H3 => r x l u H3 Q
theorem pe_slice {r : V → Option Int → Option Int → Hp → VK → Prop} (hr : SlR X r) (he : PE X e te) (hl : PO X lo tl) (hu : PO X hi th) : PE X (.Subscript e (.Slice lo hi none p2) pos) (tSl r te tl th) := by
  intro pins s σ H Q I h
  refine Subscript_ (thn (he pins s σ H _ I h) fun v s1 ⟨x, H1, I1, r1, q1⟩ => ?_)
  refine wpAny_Slice (thn (hl pins s1 σ H1 _ I1 q1) fun vl s2 ⟨l, H2, I2, pl, q2⟩ => thn (hu pins s2 σ H2 _ I2 q2) fun vu s3 ⟨u, H3, I3, pu, q3⟩ => ?_)
  rw [evalPart_none]
  refine wpAny_pure ?_
  have I4 : Inv X pins σ H3 { s3 with heap := s3.heap.push { cls := .type "slice", data := .fields #[vl, vu, .none] } } := I3.kept (t' := s3.toks) fun b ob q => Heap.get?_push_of_some _ q
  obtain ⟨T, id, hT, ht, hg⟩ := hr pins { s3 with heap := s3.heap.push { cls := .type "slice", data := .fields #[vl, vu, .none] } } σ H3 x v vl vu l u s3.heap.objs.size Q I4 r1 (Heap.IsSliceOf.new ..) pl pu q3
  show wpAny (model X.prog X.w) X.A (subscriptTail e (.Slice lo hi none p2) v (.ref s3.heap.objs.size)) (EP X pins σ Q) X.xe { s3 with heap := s3.heap.push { cls := .type "slice", data := .fields #[vl, vu, .none] } }
  exact tail_any (ops := [.ref s3.heap.objs.size, v]) ht hT hg (by with_unfolding_all rfl)
def cutV (xs : List V) (lo hi : Option Int) : List V := (xs.drop (HT.sIx xs.length 0 lo)).take (HT.sIx xs.length xs.length hi - HT.sIx xs.length 0 lo)
theorem cutV_length (xs : List V) (lo hi : Option Int) : (cutV xs lo hi).length ≤ xs.length := by
  unfold cutV
  rw [List.length_take, List.length_drop]
  omega
end
end L2
namespace L2
open PySem PySem.Spec PyProof.Rows
def ixN (n : Nat) (i : Int) : Option Nat := if 0 ≤ i then (if i < n then some i.toNat else none) else if -(n : Int) ≤ i then some (i + n).toNat else none
def atI {α : Type} (xs : List α) (i : Int) : Option α := (ixN xs.length i).bind fun j => xs[j]?
theorem ixN_seq {n : Nat} {i : Int} {j : Nat} (h : ixN n i = some j) : seqIndex? i n = some j ∧ j < n ∧ -(n : Int) ≤ i ∧ i < n := by
  unfold ixN at h
  by_cases h0 : 0 ≤ i
  · rw [if_pos h0] at h
    by_cases h1 : i < n
    · rw [if_pos h1] at h
      have e : i.toNat = j := Option.some.inj h
      exact ⟨by rw [seqIndex_of h0 h1, e], by omega, by omega, h1⟩
    · rw [if_neg h1] at h; cases h
  · rw [if_neg h0] at h
    by_cases h1 : -(n : Int) ≤ i
    · rw [if_pos h1] at h
      have e : (i + n).toNat = j := Option.some.inj h
      exact ⟨by rw [seqIndex_neg (by omega) h1, e], by omega, h1, by omega⟩
    · rw [if_neg h1] at h; cases h
theorem atI_get {α : Type} {xs : List α} {i : Int} {v : α} (h : atI xs i = some v) : ∃ j, seqIndex? i xs.length = some j ∧ xs[j]? = some v ∧ j < xs.length ∧ -(xs.length : Int) ≤ i ∧ i < xs.length := by
  unfold atI at h
  cases e : ixN xs.length i with
  | none => rw [e] at h; cases h
  | some j =>
    rw [e] at h
    obtain ⟨h1, h2, h3, h4⟩ := ixN_seq e
    exact ⟨j, h1, h, h2, h3, h4⟩
theorem atI_nat {α : Type} {xs : List α} {j : Nat} {v : α} (h : xs[j]? = some v) : atI xs (j : Int) = some v := by
  have hj : j < xs.length := (List.getElem?_eq_some_iff.mp h).1
  have e : ixN xs.length (j : Int) = some j := by
    unfold ixN
    rw [if_pos (by omega), if_pos (by omega)]; simp
  unfold atI; rw [e]; exact h
def PlainIx (b : Expr) : Prop := ∀ o i, subscripted b false o i = operate [o, i] (getItem o i)
def IxR (X : Cx) (r : R2) : Prop :=
  ∀ (value slice : Expr) (pins : List (Addr × Obj)) (s : Shared) (σ : St) (H : Hp) (x y : V) (v u : Value) (Q : VK), Inv X pins σ H s → RelV x v → RelV y u → r x y H Q →
    subscripted slice false v u = operate [v, u] (getItem v u) → wpAny (model X.prog X.w) X.A (subscriptTail value slice v u) (EP X pins σ Q) X.xe s
def MtR (X : Cx) (id : String) (r : V → List V → Hp → VK → Prop) : Prop :=
  ∀ (pins : List (Addr × Obj)) (s : Shared) (σ : St) (H : Hp) (x : V) (xs : List V) (v : Value) (us : List Value) (Q : VK), Inv X pins σ H s → RelV x v → Vals xs us → r x xs H Q →
    wpAny (model X.prog X.w) X.A (call (.builtin id) (v :: us)) (EP X pins σ Q) X.xe s
section
variable {X : Cx} {a b : Expr} {ta tb : TE} {pos : Pos}
theorem IxR.or {r r' : R2} (h : IxR X r) (h' : IxR X r') : IxR X (fun x y H Q => r x y H Q ∨ r' x y H Q) := by
  intro value slice pins s σ H x y v u Q I rx ry q hs
  rcases q with q | q
  · exact h value slice pins s σ H x y v u Q I rx ry q hs
  · exact h' value slice pins s σ H x y v u Q I rx ry q hs
theorem pe_ix {r : R2} (hr : IxR X r) (ha : PE X a ta) (hb : PE X b tb) (hs : PlainIx b) : PE X (.Subscript a b pos) (tOp r ta tb) := by
  intro pins s σ H Q I h
  exact Subscript_ (binT ha hb I h fun v u s2 x y H2 I2 rx ry q => hr a b pins s2 σ H2 x y v u Q I2 rx ry q (hs _ _))
def rIxL (K : PySem.W.Frag) : R2 := fun x y H Q => ∃ p xs i v, x = .ref p ∧ y = .int i ∧ SqL K H p xs ∧ atI xs i = some v ∧ Q v H
def rIxT (K : PySem.W.Frag) : R2 := fun x y H Q => ∃ p xs i v, x = .ref p ∧ y = .int i ∧ SqT K H p xs ∧ atI xs i = some v ∧ Q v H
def rIxS : R2 := fun x y H Q => ∃ z i c, x = .str z ∧ y = .int i ∧ z.length ≤ sizeLine ∧ atI z.cps.toList i = some c ∧ Q (.str ⟨#[c]⟩) H
theorem ix_list : IxR X (rIxL X.K) := by
  intro value slice pins s σ H x y v u Q I rx ry h hs
  obtain ⟨p, xs, i, z, rfl, rfl, hq, he, q⟩ := h
  cases rx
  obtain ⟨t, rfl⟩ := ry
  obtain ⟨its, r, pl, hz⟩ := I.list hq
  obtain ⟨j, h1, h2, h3, h4, h5⟩ := atI_get he
  obtain ⟨w, ew, rw'⟩ := r.get h2
  have hl := r.length
  have hn := line63
  have fin : EP X pins σ Q w s := ⟨z, H, I, rw', q⟩
  by_cases h0 : 0 ≤ i
  · have hj : i.toNat = j := by
      rw [seqIndex_of h0 h5] at h1
      exact Option.some.inj h1
    exact item_listR pl.isList h0 (by omega) (by rw [hj]; simpa using ew) fin hs
  · have hj : (i + (its.toArray.size : Int)).toNat = j := by
      rw [seqIndex_neg (by omega) h4] at h1
      rw [List.size_toArray, ← hl]
      exact Option.some.inj h1
    exact subscriptTail_builtinR (x := w) pl.isList.typeIs slot_list_getitem.lookup
      (wpAny_getItem_list_neg (Q := fun r s' => r = w ∧ EP X pins σ Q r s') pl.isList (by omega) (by rw [List.size_toArray] <;> omega) (by omega) (by rw [hj]; simpa using ew) ⟨rfl, fin⟩) hs
theorem ix_tup : IxR X (rIxT X.K) := by
  intro value slice pins s σ H x y v u Q I rx ry h hs
  obtain ⟨p, xs, i, z, rfl, rfl, hq, he, q⟩ := h
  cases rx
  obtain ⟨t, rfl⟩ := ry
  obtain ⟨its, r, pl, hz⟩ := I.tuple hq
  obtain ⟨j, h1, h2, h3, h4, h5⟩ := atI_get he
  obtain ⟨w, ew, rw'⟩ := r.get h2
  have hl := r.length
  have hn := line63
  have fin : EP X pins σ Q w s := ⟨z, H, I, rw', q⟩
  exact subscriptTail_builtinR (x := w) pl.typeIs slot_tuple_getitem.lookup
    (getItem_tuple (j := j) (Q := fun r s' => r = w ∧ EP X pins σ Q r s') pl (by omega) (by omega) (by rw [List.size_toArray, ← hl]; exact h1) (by simpa using ew) ⟨rfl, fin⟩) hs
theorem ix_str : IxR X rIxS := by
  intro value slice pins s σ H x y v u Q I rx ry h hs
  obtain ⟨z, i, c, rfl, rfl, hz, he, q⟩ := h
  obtain ⟨t, rfl⟩ := rx
  obtain ⟨t', rfl⟩ := ry
  obtain ⟨j, h1, h2, h3, h4, h5⟩ := atI_get he
  have hl : z.cps.toList.length = z.length := by simp [Str.length]
  rw [hl] at h1 h4 h5
  have hn := line63
  exact tail_any (typeIs_str s z t) slot_str_getitem.lookup (getItem_str (c := c) (by
    have e1 : decide (i < -(2 ^ 63 : Int)) = false := decide_eq_false (by omega)
    have e2 : decide (i ≥ 2 ^ 63) = false := decide_eq_false (by omega)
    rw [e1, e2, Bool.or_false]) (by rw [h1]; simpa using h2) ⟨.str ⟨#[c]⟩, H, I.tok _, ⟨_, rfl⟩, q⟩) hs
def rIx (K : PySem.W.Frag) : R2 := fun x y H Q => rIxL K x y H Q ∨ rIxT K x y H Q ∨ rIxS x y H Q
theorem ix_seq : IxR X (rIx X.K) := ix_list.or (ix_tup.or ix_str)
theorem Inv.lst {pins : List (Addr × Obj)} {σ : St} {H : Hp} {s : Shared} {p : Addr} {xs : List V} (I : Inv X pins σ H s) (h : H p = some (.lst xs)) :
    ∃ (its : List Value) (n : Nat), Vals xs its ∧ s.heap.get? p = some { cls := .type "list", data := .seq its.toArray n } ∧ xs.length ≤ sizeLine := by
  obtain ⟨z, its, n, r, e⟩ := I.hok p _ h
  exact ⟨its, n, r, e, z⟩
def rSetL : V → V → V → Hp → (Hp → Prop) → Prop := fun o i v H Q => ∃ p xs k j, o = .ref p ∧ i = .int k ∧ H p = some (.lst xs) ∧ ixN xs.length k = some j ∧ Q (upd H p (.lst (xs.set j v)))
theorem slice_bounds (lo hi : Option Int) (n : Nat) : (sliceBounds lo hi none n).1 = ((HT.sIx n 0 lo : Nat) : Int) ∧ (sliceBounds lo hi none n).2.1 = ((HT.sIx n n hi : Nat) : Int) ∧ (sliceBounds lo hi none n).2.2 = 1 := by
  refine ⟨?_, ?_, rfl⟩
  · cases lo with
    | none => simp [sliceBounds, HT.sIx]
    | some i =>
      simp only [sliceBounds, HT.sIx, Option.getD_none, show (1 : Int) > 0 by decide, if_true]
      by_cases h : i < 0
      · simp only [h, if_true] <;> omega
      · simp only [h, if_false] <;> omega
  · cases hi with
    | none => simp [sliceBounds, HT.sIx]
    | some i =>
      simp only [sliceBounds, HT.sIx, Option.getD_none, show (1 : Int) > 0 by decide, if_true]
      by_cases h : i < 0
      · simp only [h, if_true] <;> omega
      · simp only [h, if_false] <;> omega
theorem slicePick_cut (its : List Value) (lo hi : Option Int) : slicePick its.toArray lo hi none = ((its.drop (HT.sIx its.length 0 lo)).take (HT.sIx its.length its.length hi - HT.sIx its.length 0 lo)).toArray := by
  obtain ⟨h1, h2, h3⟩ := slice_bounds lo hi its.toArray.size
  unfold slicePick
  rw [h1, h2, h3]
  simp only [sliceRange_one, pick_run, List.size_toArray] <;> rfl
def rSlL (K : PySem.W.Frag) : V → Option Int → Option Int → Hp → VK → Prop := fun x lo hi H Q => ∃ a xs, x = .ref a ∧ SqL K H a xs ∧ ∀ p, H p = none → Q (.ref p) (upd H p (.lst (cutV xs lo hi)))
theorem sl_list : SlR X (rSlL X.K) := by
  intro pins s σ H x v vl vu lo hi sl Q I rx hs pl pu h
  obtain ⟨a, xs, rfl, hx, q⟩ := h
  cases rx
  obtain ⟨its, r, ht, hz⟩ := I.list hx
  have hlen := r.length
  refine ⟨"list", _, slot_list_getitem.lookup, ht.isList.typeIs, ?_⟩
  refine wpAny_getItem_list_slice ht.isList hs pl pu .none (by simp) ?_ (by rw [List.size_toArray] <;> omega)
  rw [slicePick_cut, ← hlen]
  refine ⟨.ref s.heap.objs.size, _, I.laid (t' := s.toks) (o := .lst (cutV xs lo hi)) (fun b ob q => Heap.get?_push_of_some _ q) (Nat.le_refl _) ?_, rfl, q _ (I.hok.fresh (Nat.le_refl _))⟩
  exact ⟨Nat.le_trans (cutV_length xs lo hi) hz, _, 0, (r.drop (HT.sIx xs.length 0 lo)).take (HT.sIx xs.length xs.length hi - HT.sIx xs.length 0 lo), Heap.get?_push_size _ rfl⟩
def flatV : V → Bool
  | .non => true
  | .bl _ => true
  | .int _ => true
  | .str _ => true
  | _ => false
def eqV : V → V → Bool
  | .non, .non => true
  | .bl a, .bl b => a == b
  | .bl a, .int b => (if a then 1 else 0) == b
  | .int a, .bl b => a == (if b then 1 else 0)
  | .int a, .int b => a == b
  | .str a, .str b => a == b
  | _, _ => false
theorem eqAt_V {A : Around} {s : Shared} {y x : V} {u v : Value} (ry : RelV y u) (rx : RelV x v) (fy : flatV y = true) (fx : flatV x = true) : SeqAt.EqAt A s u v (eqV y x) := by
  cases y with
  | non =>
    cases ry
    cases x with
    | non => cases rx; exact SeqAt.EqAt.same _
    | bl b => cases rx; exact SeqAt.EqAt.none_bool b
    | int b => obtain ⟨t, rfl⟩ := rx; exact SeqAt.EqAt.none_int b t
    | str b => obtain ⟨t, rfl⟩ := rx; exact SeqAt.EqAt.none_str b t
    | _ => exact absurd (show false = true from fx) Bool.false_ne_true
  | bl a =>
    cases ry
    cases x with
    | non => cases rx; exact SeqAt.EqAt.bool_none a
    | bl b => cases rx; exact SeqAt.EqAt.bool_bool a b
    | int b => obtain ⟨t, rfl⟩ := rx; exact SeqAt.EqAt.bool_int a b t
    | str b => obtain ⟨t, rfl⟩ := rx; exact SeqAt.EqAt.bool_str a b t
    | _ => exact absurd (show false = true from fx) Bool.false_ne_true
  | int a =>
    obtain ⟨t', rfl⟩ := ry
    cases x with
    | non => cases rx; exact SeqAt.EqAt.int_none a t'
    | bl b => cases rx; exact SeqAt.EqAt.int_bool a t' b
    | int b => obtain ⟨t, rfl⟩ := rx; exact SeqAt.EqAt.int_int a t' b t
    | str b => obtain ⟨t, rfl⟩ := rx; exact SeqAt.EqAt.int_str a t' b t
    | _ => exact absurd (show false = true from fx) Bool.false_ne_true
  | str a =>
    obtain ⟨t', rfl⟩ := ry
    cases x with
    | non => cases rx; exact SeqAt.EqAt.str_none a t'
    | bl b => cases rx; exact SeqAt.EqAt.str_bool a t' b
    | int b => obtain ⟨t, rfl⟩ := rx; exact SeqAt.EqAt.str_int a t' b t
    | str b => obtain ⟨t, rfl⟩ := rx; exact SeqAt.EqAt.str_str a t' b t
    | _ => exact absurd (show false = true from fx) Bool.false_ne_true
  | _ => exact absurd (show false = true from fy) Bool.false_ne_true
def eqU (x : V) (u : Value) : Bool := match u with
  | .none => eqV .non x
  | .bool b => eqV (.bl b) x
  | .int i _ => eqV (.int i) x
  | .str z _ => eqV (.str z) x
  | _ => false
theorem eqU_of {x y : V} {u : Value} (r : RelV y u) (f : flatV y = true) : eqU x u = eqV y x := by
  cases y with
  | non => cases r; rfl
  | bl b => cases r; rfl
  | int i => obtain ⟨t, rfl⟩ := r; rfl
  | str z => obtain ⟨t, rfl⟩ := r; rfl
  | _ => exact absurd (show false = true from f) Bool.false_ne_true
theorem any_eqU {x : V} : ∀ {xs : List V} {us : List Value}, Vals xs us → xs.all flatV = true → us.any (eqU x) = xs.any fun y => eqV y x
  | _, _, .nil, _ => rfl
  | y :: xs, u :: us, .cons r t, f => by
    rw [List.all_cons, Bool.and_eq_true] at f
    rw [List.any_cons, List.any_cons, eqU_of r f.1, any_eqU t f.2]
theorem mem_eqAt {A : Around} {s : Shared} {x : V} {v : Value} (rx : RelV x v) (fx : flatV x = true) : ∀ {xs : List V} {us : List Value}, Vals xs us → xs.all flatV = true → ∀ u ∈ us, SeqAt.EqAt A s u v (eqU x u)
  | _, _, .nil, _ => fun u hu => by cases hu
  | y :: xs, u :: us, .cons r t, f => fun u' hu => by
    rw [List.all_cons, Bool.and_eq_true] at f
    rcases List.mem_cons.mp hu with rfl | hu
    · rw [eqU_of r f.1]; exact eqAt_V r rx f.1 fx
    · exact mem_eqAt rx fx t f.2 u' hu
def inV (x : V) (xs : List V) : Bool := xs.any fun y => eqV y x
def rIn (K : PySem.W.Frag) (neg : Bool) : R2 := fun x y H Q => ∃ p xs, y = .ref p ∧ (SqL K H p xs ∨ SqT K H p xs) ∧ flatV x = true ∧ xs.all flatV = true ∧ Q (.bl (if neg then !inV x xs else inV x xs)) H
theorem op_notIn_seq : OpR X (compareOp .NotIn) (rIn X.K true) := by
  intro pins s σ H x y v u Q I rx ry h
  obtain ⟨p, xs, rfl, hq, fx, fs, q⟩ := h
  cases ry
  rcases hq with hq | hq
  · obtain ⟨its, r, pl, hz⟩ := I.list hq
    refine SeqAt.notIn_listAt (eqU x) pl.isList (fun w hw => mem_eqAt rx fx r fs w (by simpa using hw)) ⟨.bl _, H, I, rfl, ?_⟩
    rw [show its.toArray.any (eqU x) = its.any (eqU x) by simp, any_eqU r fs]
    exact q
  · obtain ⟨its, r, pl, hz⟩ := I.tuple hq
    refine SeqAt.notIn_tupleAt (eqU x) pl (fun w hw => mem_eqAt rx fx r fs w (by simpa using hw)) ⟨.bl _, H, I, rfl, ?_⟩
    rw [show its.toArray.any (eqU x) = its.any (eqU x) by simp, any_eqU r fs]
    exact q
theorem call_list_of : CallR X (.type "list") (fun xs H Q => ∃ p ys, xs = [.ref p] ∧ (SqL X.K H p ys ∨ SqT X.K H p ys) ∧ ∀ l, H l = none → Q (.ref l) (upd H l (.lst ys))) := by
  intro pins s σ H xs us Q I r h
  obtain ⟨p, ys, rfl, hq, q⟩ := h
  obtain ⟨u, rfl, rx⟩ := vals1 r
  cases rx
  have fin : ∀ (its : List Value), Vals ys its → ys.length ≤ sizeLine → ∀ (h' : Heap) (c' : Nat), (∀ b o', s.heap.get? b = some o' → h'.get? b = some o') →
      h'.get? s.heap.objs.size = some { cls := .type "list", dict := none, data := .seq its.toArray c', slots := #[] } → EP X pins σ Q (.ref s.heap.objs.size) { s with heap := h' } := fun its r' hz h' c' kp e =>
    ⟨.ref s.heap.objs.size, _, I.laid (t' := s.toks) kp (Nat.le_refl _) (show ObjOk X.prog X.w _ h' _ (.lst ys) from ⟨hz, its, c', r', e⟩), rfl, q _ (I.hok.fresh (Nat.le_refl _))⟩
  rcases hq with hq | hq
  · obtain ⟨its, r', pl, hz⟩ := I.list hq
    have hlen := r'.length
    obtain ⟨o, ho, hc, n, hd⟩ := pl.isList
    exact call_list_seq p (.inl rfl) ho hc hd (fun h' c' kp e => fin its r' hz h' c' kp e) (by simp only [List.size_toArray] <;> omega)
  · obtain ⟨its, r', pl, hz⟩ := I.tuple hq
    have hlen := r'.length
    obtain ⟨o, ho, hc, n, hd⟩ := pl
    exact call_list_seq p (.inr rfl) ho hc hd (fun h' c' kp e => fin its r' hz h' c' kp e) (by simp only [List.size_toArray] <;> omega)
def tyV (K : PySem.W.Frag) (T : String) (x : V) (H : Hp) : Prop := match x with
  | .str _ => T = "str"
  | .int _ => T = "int"
  | .ref p => (T = "list" ∧ ∃ xs, SqL K H p xs) ∨ (T = "tuple" ∧ ∃ o, K.lookup p = some o ∧ o.cls = .type "tuple" ∧ o.dict = none) ∨
      (T = "dict" ∧ ((∃ kvs, H p = some (.dK kvs)) ∨ ∃ kvs, H p = some (.dT kvs))) ∨ (T = "set" ∧ ∃ S n, H p = some (.set S n))
  | _ => False
theorem tyV_is {pins : List (Addr × Obj)} {σ : St} {H : Hp} {s : Shared} {T : String} {x : V} {v : Value} (I : Inv X pins σ H s) (r : RelV x v) (ty : tyV X.K T x H) :
    s.TypeIs v T ∧ ∀ a, v = .ref a → ∃ ob, s.heap.get? a = some ob ∧ ob.dict = none := by
  cases x with
  | str z =>
    obtain ⟨t, rfl⟩ := r
    cases (show T = "str" from ty)
    exact ⟨typeIs_str s z t, fun _ e => nomatch e⟩
  | int i =>
    obtain ⟨t, rfl⟩ := r
    cases (show T = "int" from ty)
    exact ⟨typeIs_int s i t, fun _ e => nomatch e⟩
  | ref p =>
    cases r
    rcases ty with ⟨rfl, xs, hq⟩ | ⟨rfl, o, hk, hc, hd⟩ | ⟨rfl, hk⟩ | ⟨rfl, S, n, hk⟩
    · obtain ⟨its, _, pl, _⟩ := I.list hq
      refine ⟨pl.isList.typeIs, fun a e => ?_⟩
      cases e
      obtain ⟨o, n, e, c, hd, _⟩ := pl
      exact ⟨o, e, hd⟩
    · refine ⟨⟨o, I.kIn p o hk, hc⟩, fun a e => ?_⟩
      cases e
      exact ⟨o, I.kIn _ o hk, hd⟩
    · have z : ∃ o, s.heap.get? p = some o ∧ o.ExactDict := by
        rcases hk with ⟨kvs, hk⟩ | ⟨kvs, hk⟩
        · obtain ⟨_, _, _, _, o, _, _, e, ex, _⟩ := I.hok p _ hk
          exact ⟨o, e, ex⟩
        · obtain ⟨_, _, _, _, o, _, _, e, ex, _⟩ := I.hok p _ hk
          exact ⟨o, e, ex⟩
      obtain ⟨o, e, ex⟩ := z
      refine ⟨⟨o, e, ex.1⟩, fun a e2 => ?_⟩
      cases e2
      exact ⟨o, e, ex.2.1⟩
    · obtain ⟨o, _, _, _, e, ex, _⟩ := I.hok p _ hk
      refine ⟨⟨o, e, ex.1⟩, fun a e2 => ?_⟩
      cases e2
      exact ⟨o, e, ex.2.1⟩
  | _ => exact False.elim ty
def tBM0 (K : PySem.W.Frag) (T : String) (r : V → List V → Hp → VK → Prop) (to : TE) : TE := fun σ H Q => to σ H fun x H1 => tyV K T x H1 ∧ r x [] H1 Q
def tBM (K : PySem.W.Frag) (T : String) (r : V → List V → Hp → VK → Prop) (to : TE) (t : TA) : TE := fun σ H Q => to σ H fun x H1 => tyV K T x H1 ∧ t σ H1 fun xs H2 => r x xs H2 Q
variable {o e : Expr} {es : List Expr} {to : TE} {t : TA} {name : Str} {apos cpos : Pos} {T id : String} {r : V → List V → Hp → VK → Prop}
theorem pe_bm (pa : PlainAttrs T) (slot : Slot T name id) (hty : typeOf (.builtin id) = pure (.type "method_descriptor")) (hm : MtR X id r) (ho : PE X o to) (ha : PA X (e :: es) t)
    (hbase : attributeBase o name X.env (eval o X.env) = eval o X.env := by rfl)
    (hfew : ((backTo cpos (starEach (e :: es) X.env)).all (fun x => !x.1) && (backToKw cpos (keywordEach [] X.env)).all (fun x => x.1.isSome)
      && decide ((e :: es).length + ([] : List Keyword).length + (if ([] : List Keyword).isEmpty then 0 else 1) < 30)) = true := by rfl)
    (hline : (apos.endLine == cpos.line) = true := by rfl) (hs : starEach (e :: es) X.env = (false, eval e X.env) :: starEach es X.env := by rfl) (hplain : (backTo cpos (starEach es X.env)).any (·.1) = false := by rfl) :
    PE X (.Call (.Attribute o name apos) (e :: es) [] cpos) (tBM X.K T r to t) := by
  intro pins s σ H Q I h
  refine wpAny_Call_method_late hbase hfew hline rfl (thn (ho pins s σ H _ I h) fun v s1 ⟨x, H1, I1, r1, ty, q1⟩ => ?_)
  obtain ⟨h1, h2⟩ := tyV_is I1 r1 ty
  refine ⟨T, id, pa, slot, hty, h1, h2, ?_⟩
  have hA := ha cpos pins s1 σ H1 _ I1 q1
  rw [hs] at hA ⊢
  refine Calls.callWith_builtin (by show (false || (backTo cpos (starEach es X.env)).any (·.1)) = false; rw [hplain] <;> rfl) (Calls.evalArgs_plain ?_)
  exact thn hA fun us s2 ⟨vs, H2, I2, r2, q2⟩ => hm pins s2 σ H2 x vs v us Q I2 r1 r2 q2
end
end L2
namespace L2
open PySem PySem.Spec PyProof.Rows
def MtM (X : Cx) (id : String) (r : V → List V → Hp → VK → Prop) : Prop :=
  ∀ (pins : List (Addr × Obj)) (s : Shared) (σ : St) (H : Hp) (x : V) (xs : List V) (v : Value) (us : List Value) (Q : VK), Inv X pins σ H s → RelV x v → Vals xs us → r x xs H Q →
    wpAny (model X.prog X.w) X.A (call (.builtin id) (v :: us)) (EP X pins σ Q) X.xe s
theorem Vals.one : ∀ {x : V} {us : List Value}, Vals [x] us → ∃ u, us = [u] ∧ RelV x u
  | _, _, .cons r .nil => ⟨_, rfl, r⟩
theorem Vals.zero : ∀ {us : List Value}, Vals [] us → us = []
  | _, .nil => rfl
theorem Vals.reverse {xs : List V} {us : List Value} (h : Vals xs us) : Vals xs.reverse us.reverse := by
  induction h with
  | nil => exact .nil
  | cons r t ih => rw [List.reverse_cons, List.reverse_cons]; exact Vals.append ih (.cons r .nil)
section
variable {X : Cx} {pins : List (Addr × Obj)} {σ : St} {H : Hp} {s : Shared} {l b : Addr} {xs ys zs : List V}
theorem Inv.lset {its its' : List Value} {n : Nat} {f : Array Value → Array Value} {t' : Nat} (I : Inv X pins σ H s) (hH : H l = some (.lst xs))
    (e : s.heap.get? l = some { cls := .type "list", data := .seq its.toArray n }) (hf : f its.toArray = its'.toArray) (hv : Vals ys its') (hz : ys.length ≤ sizeLine) :
    Inv X pins σ (upd H l (.lst ys)) { s with heap := s.heap.update l (Obj.mapSeq f), toks := t' } := by
  have q := PySem.IsL.update e f
  rw [hf] at q
  refine I.write (x := l) (e := l) (by rw [hH]; exact trivial) (.inl rfl) (fun b' u hb hu => (Heap.get?_update_other s.heap (Obj.mapSeq f) (Ne.symm hb)).trans hu) ⟨_, q⟩ ?_
  exact ⟨hz, its', _, hv, q⟩
theorem Inv.lnew {its : List Value} {t' : Nat} (I : Inv X pins σ H s) (hv : Vals ys its) (hz : ys.length ≤ sizeLine) :
    Inv X pins σ (upd H s.heap.objs.size (.lst ys)) { s with heap := s.heap.push { cls := .type "list", data := .seq its.toArray }, toks := t' } :=
  I.laid (fun _ _ q => Heap.get?_push_of_some _ q) (Nat.le_refl _) ⟨hz, its, 0, hv, Heap.get?_push_size _ rfl⟩
theorem Inv.fresh (I : Inv X pins σ H s) : H s.heap.objs.size = none := I.hok.fresh (Nat.le_refl _)
theorem Inv.lstM (I : Inv X pins σ H s) (hH : H l = some (.lst xs)) : xs.length ≤ sizeLine ∧ ∃ (its : List Value) (n : Nat), Vals xs its ∧ xs.length = its.length ∧ s.heap.get? l = some { cls := .type "list", data := .seq its.toArray n } := by
  obtain ⟨z, its, n, r, e⟩ := I.hok l _ hH
  exact ⟨z, its, n, r, r.length, e⟩
theorem notLongL {n : Nat} (h : n ≤ sizeLine) : Builtin.List.listTooLong n = false := by
  unfold Builtin.List.listTooLong
  exact decide_eq_false (by omega)
end
section
variable {X : Cx}
def rAppend : V → List V → Hp → VK → Prop := fun x vs H Q => ∃ l xs y, x = .ref l ∧ vs = [y] ∧ H l = some (.lst xs) ∧ xs.length < sizeLine ∧ Q .non (upd H l (.lst (xs ++ [y])))
theorem mt_append : MtM X "list.append" rAppend := by
  intro pins s σ H x vs v us Q I rx rv h
  obtain ⟨l, xs, y, rfl, rfl, hH, hz, q⟩ := h
  cases rx
  obtain ⟨u, rfl, ru⟩ := rv.one
  obtain ⟨z, its, n, r, hl, e⟩ := I.lstM hH
  refine call_meets F.slot_list_append ⟨_, e, rfl⟩ F.entry_list_append (F.args_list_append_2 _ _) (PySem.list_append l its.toArray n u (by rw [List.size_toArray]; omega)) ⟨e, ?_⟩
  refine ⟨.non, _, I.lset (its' := its ++ [u]) hH e (by simp) (r.append (.cons ru .nil)) ?_, rfl, q⟩
  rw [List.length_append, List.length_singleton]
  omega
def rExtend : V → List V → Hp → VK → Prop := fun x vs H Q => ∃ l b xs zs, x = .ref l ∧ vs = [.ref b] ∧ H l = some (.lst xs) ∧ H b = some (.lst zs) ∧ xs.length + zs.length ≤ sizeLine ∧ Q .non (upd H l (.lst (xs ++ zs)))
theorem mt_extend : MtM X "list.extend" rExtend := by
  intro pins s σ H x vs v us Q I rx rv h
  obtain ⟨l, b, xs, zs, rfl, rfl, hH, hB, hz, q⟩ := h
  cases rx
  obtain ⟨u, rfl, ru⟩ := rv.one
  cases ru
  obtain ⟨z, its, n, r, hl, e⟩ := I.lstM hH
  obtain ⟨z2, its2, n2, r2, hl2, e2⟩ := I.lstM hB
  have hsz : its.toArray.size + its2.toArray.size ≤ sizeLine := by rw [List.size_toArray, List.size_toArray]; omega
  have hlong : ¬ (!its.toArray.isEmpty && Builtin.List.listTooLong (its.toArray.size + its2.toArray.size)) = true := by
    rw [notLongL hsz, Bool.and_false]
    exact Bool.false_ne_true
  refine call_meets F.slot_list_extend ⟨_, e, rfl⟩ F.entry_list_extend (F.args_list_extend_2 _ _)
    (AutoSeq1.list_extend_list_list_0 l its.toArray n b its2.toArray n2 hlong (by rw [List.size_toArray]; omega) (by omega)) ⟨e, e2, ?_⟩
  refine ⟨.non, _, I.lset (its' := its ++ its2) hH e (by simp) (r.append r2) ?_, rfl, q⟩
  rw [List.length_append]
  omega
def rCat : R2 := fun x y H Q => ∃ l b xs zs, x = .ref l ∧ y = .ref b ∧ H l = some (.lst xs) ∧ H b = some (.lst zs) ∧ xs.length + zs.length ≤ sizeLine ∧ ∀ p, H p = none → Q (.ref p) (upd H p (.lst (xs ++ zs)))
theorem op_cat : OpR X (binaryOp .Add) rCat := by
  intro pins s σ H x y v u Q I rx ry h
  obtain ⟨l, b, xs, zs, rfl, rfl, hH, hB, hz, q⟩ := h
  cases rx
  cases ry
  obtain ⟨z, its, n, r, hl, e⟩ := I.lstM hH
  obtain ⟨z2, its2, n2, r2, hl2, e2⟩ := I.lstM hB
  refine PySem.P.add_list e e2 ?_ (by rw [List.size_toArray, List.size_toArray]; omega)
  have ea : its.toArray ++ its2.toArray = (its ++ its2).toArray := by simp
  rw [ea]
  exact ⟨.ref _, _, I.lnew (t' := s.toks) (r.append r2) (by rw [List.length_append]; omega), rfl, q _ I.fresh⟩
end
section
variable {prog : Program} {w : World} {A : Around} {E : Value → Shared → Prop} {s : Shared}
set_option maxRecDepth 100000 in
end
section
variable {X : Cx}
end
end L2
namespace Att
open PySem PySem.W PySem.Calls PyProof.Rows
theorem ints_of_wellAll {P : Params} {h : Heap} : ∀ (ns : List Int) (vs : List Value), WellAll P h vs (ns.map WData.int) → IntsAre vs ns := by
  intro ns
  induction ns with
  | nil =>
    intro vs w
    rw [List.map_nil] at w
    cases w
    exact .nil
  | cons n ns ih =>
    intro vs w
    rw [List.map_cons] at w
    cases w with
    | cons a b =>
      cases a
      exact .cons _ _ (ih _ b)
theorem script_of {l : OpenLaw} {n : Nat} (hn : l.most = some n) {P : Params} {h : Heap} {args : List WData} {vals : List Value}
    (hpre : l.row.toRowW.claim.pre args = true) (hwl : WellAll P h vals args) :
    ∃ a vs ns, vals = [Value.ref a] ∧ args = [WData.list (ns.map WData.int)] ∧ h.get? a = some { cls := .type "list", data := .seq vs.toArray } ∧ IntsAre vs ns ∧ ns.length ≤ n := by
  have hsh : WShape.hasAll [] args [.list .int] = true := (pre_splitW hpre).1
  have hc : l.pre.holds [] { args := args } = true := (pre_splitW hpre).2
  obtain ⟨d, r, rfl, h1, h2⟩ := hasAllW_cons hsh
  obtain rfl := hasAllW_nil h2
  obtain ⟨xs, rfl, h3⟩ := hasW_list h1
  obtain ⟨ns, rfl⟩ := items_int h3
  have hlen : ns.length ≤ n := by
    unfold OpenLaw.pre at hc
    have h4 : (WTm.not (.lt (.lit (.int (n : Int))) (.len (.arg 0)))).holds [] { args := [.list (ns.map .int)] } = true := by
      have h4 := (holds_andW hc).1
      rw [hn] at h4
      exact h4
    have h5 := condW_of h4 (w_not (w_lt w_lit (w_len_list (w_arg rfl))))
    rw [List.length_map] at h5
    refine Nat.le_of_not_lt fun q => ?_
    have q' : (n : Int) < ((ns.length : Nat) : Int) := by omega
    first
      | (rw [decide_eq_true q'] at h5; exact absurd h5 (by decide))
      | (simp at h5; omega)
  cases hwl with
  | cons w1 w2 =>
    cases w2
    cases w1 with
    | list ho hall => exact ⟨_, _, ns, rfl, rfl, ho, ints_of_wellAll ns _ hall, hlen⟩
theorem post_true (l : OpenLaw) (args : List WData) : l.row.toRowW.claim.post args (.bool true) args = true :=
  postW_of (r := l.row.toRowW) (X := (true == true))
    (show WShape.has [] (.bool true) .bool = true by first | rfl | decide | simp [WShape.has, WShape.arms, WShape.armsAll])
    (show (WTm.eq .res (.lit (.bool true))).value [] { args := args, res := some (.bool true), after := args } = some (.bool (true == true)) from w_eq_bool (w_res rfl) w_lit) rfl
section
variable {prog : Program} {w : World} {A : Around} {E : Value → Shared → Prop} {s : Shared} {K : Frag}
end
end Att
namespace L2
open PySem PySem.Spec PyProof.Rows
theorem vals_ints : ∀ {vs : List Value} {ns : List Int}, IntsAre vs ns → Vals (ns.map V.int) vs
  | _, _, .nil => .nil
  | _, _, .cons n t h => .cons ⟨t, rfl⟩ (vals_ints h)
def Only (H : Hp) : Prop := ∀ b, H b = none ∨ ∃ o xs, H b = some (.frz o (.lst xs))
theorem law_call {P : Program} {w : World} {K : PySem.W.Frag} {mg mb : Str → Option Value} {CX : CXT} {k : Nat} {fa a : Addr} {fd : FuncData} {x : Str} {sp : Sp} {s₁ : Shared} {vs : List Value} {ns : List Int}
    (KX : K.In s₁.heap) (hns : s₁.heap.Ns mainGlobals mg) (hb : s₁.heap.Ns builtinsNs mb) (hbb : ∀ x : Str, x ≠ "__name__" → mb x = bootBuiltins x) (hlim : s₁.heap.NoLimit) (hg : s₁.gens = #[])
    (ha : s₁.heap.get? a = some { cls := .type "list", data := .seq vs.toArray }) (hi : IntsAre vs ns) (hl : ns.length ≤ sizeLine) (hr : Room k callerA)
    (F : ∀ base : Heap, K.In base → base.Ns mainGlobals mg → FnOk P w K mg base CX k fa fd [x] sp) (hbind : ∀ (s : Shared) (u : Value), BindsTo s fd ⟨[u], []⟩ [(x, u)])
    (hsp : ∀ H : Hp, Only H → SqL K H a (ns.map V.int) → sp [.ref a] H (fun v _ => v = .bl true) fun _ _ _ => False)
    (hCX : ∀ H e s', CX [] H s₁ (fun _ _ _ => False) e s' → False) :
    codeAny (model P w) callerA (.call (.ref fa) ⟨[.ref a], []⟩) (fun r s' => r = .ok (.ret (.bool true)) ∧ OldK s₁.heap s'.heap ∧ s'.os = s₁.os ∧ AllBare s'.gens) s₁ := by
  have rv := vals_ints hi
  have lenV := hi.length
  have core : ∀ H : Hp, Only H → SqL K H a (ns.map V.int) → HOk P w H s₁.heap → (∀ b, H b ≠ none → b = a) → (H a ≠ none → K.lookup a = none) →
      codeAny (model P w) callerA (.call (.ref fa) ⟨[.ref a], []⟩) (fun r s' => r = .ok (.ret (.bool true)) ∧ OldK s₁.heap s'.heap ∧ s'.os = s₁.os ∧ AllBare s'.gens) s₁ := by
    intro H hO hS hok hA hK
    have base_of : ∀ {b : Addr} {o : Obj}, s₁.heap.get? b = some o → H b = none → (hidT s₁.heap H).get? b = some o := fun e n => hidT_get e n
    have noA : ∀ {b : Addr} {o : Obj} {es : Array DictEntry} {ep : Nat}, s₁.heap.get? b = some o → o.data = .dict es ep → H b = none := fun {b o es ep} e d => by
      cases q : H b with
      | none => rfl
      | some u =>
        have e' : b = a := hA b (by rw [q]; simp)
        subst e'
        rw [ha] at e; cases e
        have d' : Data.seq vs.toArray _ = Data.dict es ep := d
        cases d'
    have nsK : ∀ {b : Addr} {m : Str → Option Value}, s₁.heap.Ns b m → (hidT s₁.heap H).Ns b m := fun {b m} ⟨o, es, ep, e, d, r⟩ => ⟨o, es, ep, base_of e (noA e d), d, r⟩
    have hKb : K.In (hidT s₁.heap H) := fun b o e => base_of (KX b o e) (by
      cases q : H b with
      | none => rfl
      | some u =>
        have e' : b = a := hA b (by rw [q]; simp)
        subst e'
        rw [hK (by rw [q]; simp)] at e; cases e)
    have hM : Mod K mg (hidT s₁.heap H) := ⟨hKb, nsK hns, ⟨mb, nsK hb, hbb⟩, let ⟨mc, h1, h2⟩ := hlim; ⟨mc, nsK h1, h2⟩⟩
    have e0 : Env0 P w K mg (hidT s₁.heap H) callerA [] s₁ H := ⟨rfl, hM, fun b o e => of_hidT e, Nat.le_of_eq (hidT_size _ _), trivial, fun b hb => absurd (show b ∈ ([] : List Addr) from hb) (by simp), hok, .of_eq hg⟩
    refine codeAny_mono ((F _ hKb (nsK hns)).run callerA [] s₁ H ⟨[.ref a], []⟩ [.ref a] [.ref a] _ _ hr e0 (hbind s₁ (.ref a)) (.cons rfl .nil) (hsp H hO hS)) fun r s' h => ?_
    cases r with
    | error e => exact (hCX H e s' h).elim
    | ok fl =>
      cases fl with
      | next => exact False.elim h
      | brk => exact False.elim h
      | cont => exact False.elim h
      | ret u =>
        obtain ⟨v, H', os, bare, un, hok', r', q⟩ := h
        have q' : v = .bl true := q
        subst q'
        obtain rfl : u = Value.bool true := r'
        refine ⟨rfl, OldK.of_keep fun b o e => ?_, os, bare⟩
        cases q : H b with
        | none => exact un.keep b o e q (by intro z; exact absurd (show b ∈ ([] : List Addr) from z) (by simp)) (by simp)
        | some u =>
          rcases hO b with z | ⟨ob, xs, z⟩
          · rw [q] at z; cases z
          · have z2 := un.frzs b ob _ z
            obtain ⟨e1, _⟩ := hok b _ z
            obtain ⟨e2, _⟩ := hok' b _ z2
            rw [e] at e1; cases e1
            exact e2
  cases hk : K.lookup a with
  | some o =>
    have e := KX a o hk
    rw [ha] at e
    cases e
    refine core (fun _ => none) (fun _ => .inl rfl) (.inr ⟨_, vs.toArray, _, hk, rfl, rfl, rfl, by rw [List.size_toArray, lenV]; exact hl, by simpa using rv⟩) (fun b u z => by have z' : (none : Option HO) = some u := z; cases z') (fun b z => absurd rfl z) fun z => absurd rfl z
  | none =>
    refine core (fun b => if b = a then some (.frz { cls := .type "list", data := .seq vs.toArray } (.lst (ns.map V.int))) else none) (fun b => ?_) (.inl (.inr ⟨{ cls := .type "list", data := .seq vs.toArray }, if_pos rfl⟩)) (fun b u z => ?_) (fun b z => ?_) fun _ => hk
    · by_cases hb : b = a
      · exact .inr ⟨_, _, if_pos hb⟩
      · exact .inl (if_neg hb)
    · by_cases hb : b = a
      · have z' := (if_pos hb).symm.trans z
        cases z'
        subst hb
        exact ⟨ha, by rw [List.length_map]; exact hl, vs, _, rv, ha⟩
      · have z' := (if_neg hb).symm.trans z
        cases z'
    · by_cases hb : b = a
      · exact hb
      · exact absurd (if_neg hb) z
end L2
namespace L2
open PySem PySem.Spec PyProof.Rows
end L2
namespace L2
open PySem PySem.Spec PyProof.Rows
def inClass (s : Stmt) (j : Nat) : Stmt := match s with
  | .ClassDef _ _ _ body _ _ _ _ _ _ _ => body.getD j (.Pass ⟨0, 0, 0, 0⟩)
  | _ => .Pass ⟨0, 0, 0, 0⟩
def defArgs (s : Stmt) : Arguments := match s with
  | .FunctionDef _ a _ _ _ _ _ _ _ _ => a
  | _ => { posonlyargs := [], args := [], vararg := none, kwonlyargs := [], kw_defaults := [], kwarg := none, defaults := [] }
def defBody (s : Stmt) : List Stmt := match s with
  | .FunctionDef _ _ b _ _ _ _ _ _ _ => b
  | _ => []
def defScope (s : Stmt) : Scope := match s with
  | .FunctionDef _ _ _ _ _ _ sc _ _ _ => sc
  | _ => { kind := .function, names := [], isGenerator := false, isCoroutine := false }
abbrev CX0 : CXT := fun _ _ _ _ _ _ => False
abbrev E0 : XK := fun _ _ _ => False
structure Fun (K : PySem.W.Frag) (x qual : Str) (st : Stmt) (f : Addr) (fd : FuncData) : Prop where
  ex : ∃ (oc : Value) (od : Option Addr) (kV doc pm : Value) (an : Option Addr) (cdv ct : Value) (osl : Array (Option Value)),
    fd = PySem.W.fnOf x qual (defArgs st) (defBody st) (defScope st) .none kV doc pm an cdv ct ∧ K.lookup f = some ⟨oc, od, .func fd, osl⟩ ∧ PySem.W.codeIn K cdv qual = true
  kp : PySem.W.keepIn K (.ref f) = true
section
variable {P : Program} {w : World} {K : PySem.W.Frag} {mg : Str → Option Value} {base : Heap}
theorem Fun.ok {x qual : Str} {st : Stmt} {f : Addr} {fd : FuncData} {N ps : List Str} {k : Nat} {sp : Sp} (F : Fun K x qual st f fd) (S : FnScope N ps (defScope st)) (len : ∀ vs H Q E, sp vs H Q E → vs.length = ps.length)
    (hbody : ∀ (cdv : Value) (A : Around) (outer : List Env) (s : Shared) (H : Hp) (vs : List V) (Q : VK) (E : XK), Room k (A.deeper (envOfC qual (defScope st) s.heap.objs.size f cdv)) → sp vs H Q E →
      ∃ t, PSs (cxOf CX0 P w K mg base N qual (defScope st) f cdv A outer s H E).nox (defBody st) t ∧ t { nx := fun _ H' => Q .non H', rt := Q } (start N vs) H) : FnOk P w K mg base CX0 (k + 1) f fd ps sp := by
  obtain ⟨oc, od, kV, doc, pm, an, cdv, ct, osl, rfl, lk, hcd⟩ := F.ex
  refine fn_of lk hcd S len fun A outer s H vs Q E hr hsp => ?_
  obtain ⟨t, h, q⟩ := hbody cdv A outer s H vs Q E hr hsp
  exact ⟨t, h.nox, q⟩
theorem Fun.binds {x qual : Str} {st : Stmt} {f : Addr} {fd : FuncData} {ps : List Str} (F : Fun K x qual st f fd)
    (h : ∀ (kV doc pm : Value) (an : Option Addr) (cdv ct : Value) (us : List Value), us.length = ps.length → bindArgs (PySem.W.fnOf x qual (defArgs st) (defBody st) (defScope st) .none kV doc pm an cdv ct) ⟨us, []⟩ = pure (ps.zip us)) : Binds K fd ps [] := by
  obtain ⟨oc, od, kV, doc, pm, an, cdv, ct, osl, rfl, lk, hcd⟩ := F.ex
  exact .all (h kV doc pm an cdv ct)
theorem fun_mk {x qual : Str} {st : Stmt} {f : Addr} {oc : Value} {od an : Option Addr} {osl : Array (Option Value)} {kV doc pm cdv ct : Value} (l : K.lookup f = some ⟨oc, od, .func (PySem.W.fnOf x qual (defArgs st) (defBody st) (defScope st) .none kV doc pm an cdv ct), osl⟩)
    (c : PySem.W.codeIn K cdv qual = true) (k : PySem.W.keepIn K (.ref f) = true) : Fun K x qual st f (PySem.W.fnOf x qual (defArgs st) (defBody st) (defScope st) .none kV doc pm an cdv ct) := ⟨⟨oc, od, kV, doc, pm, an, cdv, ct, osl, rfl, l, c⟩, k⟩
end
section
variable {X : Cx}
theorem pv (i : Nat) {x : Str} {pos : Pos} (hN : X.N[i]? = some x := by rfl) (hv : Vis X.env.scope x := by first | exact Or.inl rfl | exact Or.inr (Or.inl rfl) | exact Or.inr (Or.inr rfl)) (hd : (x == ("__debug__" : Str)) = false := by decide)
    (hcd : (x == ("__classdict__" : Str)) = false := by decide) : PE X (.Name x pos) (tVar i) := pe_var hN hv hd hcd
end
def Same (H H' : Hp) : Prop := ∀ b o, H b = some o → H' b = some o
theorem Same.refl (H : Hp) : Same H H := fun _ _ h => h
theorem Same.trans {H H1 H2 : Hp} (a : Same H H1) (b : Same H1 H2) : Same H H2 := fun c o h => b c o (a c o h)
theorem Same.free {H H' : Hp} (e : Same H H') {l : Addr} (h : H' l = Option.none) : H l = Option.none := by
  cases q : H l with
  | none => rfl
  | some o =>
    rw [e l o q] at h
    cases h
theorem Same.seq {K : PySem.W.Frag} {H H' : Hp} {a : Addr} {xs : List V} (e : Same H H') (h : SqL K H a xs) : SqL K H' a xs := by
  rcases h with (h | ⟨o, h⟩) | h
  · exact .inl (.inl (e _ _ h))
  · exact .inl (.inr ⟨o, e _ _ h⟩)
  · exact .inr h
end L2
set_option Elab.async false
set_option linter.all false
set_option maxRecDepth 100000
namespace L2
open PySem PySem.Spec PyProof.Rows
section
variable {κ : Type} [DecidableEq κ]
def valV (kvs : List (κ × V)) (k : κ) : Option V := (kvs.find? fun kv => decide (kv.1 = k)).map (·.2)
def putK (kvs : List (κ × V)) (k : κ) (v : V) : List (κ × V) :=
  if (kvs.any fun kv => decide (kv.1 = k)) = true then kvs.map (fun kv => if kv.1 = k then (kv.1, v) else kv) else kvs ++ [(k, v)]
def dropK (kvs : List (κ × V)) (k : κ) : List (κ × V) := kvs.filter fun kv => decide (kv.1 ≠ k)
theorem RelO.getD {o : Option V} {u : Option Value} {d : V} {d' : Value} (r : RelO o u) (rd : RelV d d') : RelV (o.getD d) (u.getD d') := by
  cases o with
  | none => cases u with
    | none => exact rd
    | some _ => exact (show False from r).elim
  | some _ => cases u with
    | none => exact (show False from r).elim
    | some _ => exact r
theorem KV.any {kvs : List (κ × V)} {vs : List (κ × Value)} (r : KV kvs vs) (k : κ) : (kvs.any fun kv => decide (kv.1 = k)) = vs.any fun kv => decide (kv.1 = k) := by
  unfold KV at r
  induction r with
  | nil => rfl
  | cons h t ih => rw [List.any_cons, List.any_cons, ih, h.1]
theorem KV.drop {kvs : List (κ × V)} {vs : List (κ × Value)} (r : KV kvs vs) (k : κ) : KV (dropK kvs k) (without vs k) := by
  unfold KV at r ⊢
  unfold dropK without
  induction r with
  | nil => exact .nil
  | @cons p q ps qs h t ih =>
    obtain ⟨h1, h2⟩ := h
    rw [List.filter_cons, List.filter_cons]
    by_cases e : p.1 = k
    · have a : ¬ decide (p.1 ≠ k) = true := by simp [e]
      have b : ¬ decide (q.1 ≠ k) = true := by simp [h1.symm.trans e]
      rw [if_neg a, if_neg b]; exact ih
    · have e' : ¬ q.1 = k := fun z => e (h1.trans z)
      have a : decide (p.1 ≠ k) = true := by simp [e]
      have b : decide (q.1 ≠ k) = true := by simp [e']
      rw [if_pos a, if_pos b]; exact .cons ⟨h1, h2⟩ ih
theorem KV.length {kvs : List (κ × V)} {vs : List (κ × Value)} (r : KV kvs vs) : kvs.length = vs.length := Paired.length r
end
section
variable {P : Program} {w : World} {H : Hp} {h : Heap} {a : Addr}
end
def DGet (H : Hp) (a : Addr) (y : V) (r : Option V) : Prop :=
  (∃ kvs k, Rd H a (.dK kvs) ∧ y = kV k ∧ r = valV kvs k) ∨ ∃ kvs k b, Rd H a (.dT kvs) ∧ y = .ref b ∧ H b = some (.tup (k.map kV)) ∧ r = valV kvs k
def DPut (H : Hp) (a : Addr) (y v : V) (H' : Hp) : Prop :=
  (∃ kvs k, H a = some (.dK kvs) ∧ y = kV k ∧ kvs.length < sizeLine ∧ H' = upd H a (.dK (putK kvs k v))) ∨
  ∃ kvs k b, H a = some (.dT kvs) ∧ y = .ref b ∧ H b = some (.tup (k.map kV)) ∧ kvs.length < sizeLine ∧ H' = upd H a (.dT (putK kvs k v))
theorem DGet.k {H : Hp} {a : Addr} {kvs : List (Key × V)} {k : Key} (e : H a = some (.dK kvs)) : DGet H a (kV k) (valV kvs k) := .inl ⟨kvs, k, .inl e, rfl, rfl⟩
theorem DGet.t {H : Hp} {a b : Addr} {kvs : List (List Key × V)} {k : List Key} (e : H a = some (.dT kvs)) (eb : H b = some (.tup (k.map kV))) : DGet H a (.ref b) (valV kvs k) := .inr ⟨kvs, k, b, .inl e, rfl, eb, rfl⟩
theorem DPut.k {H : Hp} {a : Addr} {kvs : List (Key × V)} {k : Key} {v : V} (e : H a = some (.dK kvs)) (hl : kvs.length < sizeLine) : DPut H a (kV k) v (upd H a (.dK (putK kvs k v))) := .inl ⟨kvs, k, e, rfl, hl, rfl⟩
theorem DPut.t {H : Hp} {a b : Addr} {kvs : List (List Key × V)} {k : List Key} {v : V} (e : H a = some (.dT kvs)) (eb : H b = some (.tup (k.map kV))) (hl : kvs.length < sizeLine) :
    DPut H a (.ref b) v (upd H a (.dT (putK kvs k v))) := .inr ⟨kvs, k, b, e, rfl, eb, hl, rfl⟩
section
variable {X : Cx} {pins : List (Addr × Obj)} {σ : St} {H : Hp} {s : Shared} {a : Addr} {y v : V} {u r : Value} {o : Option V} {A : Around} {E : Value → Shared → Prop}
end
section
variable {X : Cx} {pins : List (Addr × Obj)} {σ : St} {H : Hp} {s : Shared} {a : Addr} {kvs : List (Key × V)} {k : Key} {u : Value} {A : Around} {E : Value → Shared → Prop}
end
section
variable {X : Cx} {o i e value : Expr} {pos pos' tpos : Pos} {td ty tv : TE}
end
section
variable {X : Cx} {pos : Pos}
end
section
variable {X : Cx} {pins : List (Addr × Obj)} {σ : St} {H : Hp} {s : Shared} {a : Addr} {y d : V} {u r : Value} {o : Option V} {A : Around} {E : Value → Shared → Prop}
end
section
variable {X : Cx} {o e f : Expr} {apos cpos : Pos} {td ty tx : TE}
end
section
variable {X : Cx} {pins : List (Addr × Obj)} {σ : St} {H : Hp} {s : Shared} {a : Addr} {kvs : List (Key × V)} {A : Around} {E : Value → Shared → Prop}
end
section
variable {X : Cx} {pins : List (Addr × Obj)} {σ : St} {H : Hp} {s : Shared} {a : Addr} {y : V} {u : Value} {A : Around} {E : Value → Shared → Prop}
end
end L2
namespace L2
open PySem PySem.Spec PyProof.Rows
section
variable {κ : Type} [DecidableEq κ]
end
end L2
set_option Elab.async false
set_option linter.all false
set_option maxRecDepth 100000
set_option maxHeartbeats 4000000
namespace Gz
open PySem PySem.Spec PyProof.Rows L2
def Bd (n : Nat) (x : Int) : Prop := x.natAbs < 2 ^ n
theorem Bd.of {n : Nat} {x : Int} (h1 : -((2 ^ n : Nat) : Int) < x) (h2 : x < ((2 ^ n : Nat) : Int)) : Bd n x := by
  unfold Bd; omega
theorem Bd.up {n m : Nat} {x : Int} (h : Bd n x) (hm : n ≤ m) : Bd m x := Nat.lt_of_lt_of_le h (Nat.pow_le_pow_right (by decide) hm)
theorem Bd.bits {n : Nat} {x : Int} (h : Bd n x) : Builtin.Int.intBits x ≤ n := by
  unfold Builtin.Int.intBits
  by_cases e : x = 0
  · subst e; simp
  · have e0 : ¬ ((x == 0) = true) := by simpa using e
    rw [if_neg e0]
    have hn : x.natAbs ≠ 0 := by omega
    have := (Nat.log2_lt hn).mpr h
    omega
theorem Bd.log {n : Nat} {x : Int} (h : Bd n x) (hn : n ≤ 9000) (h0 : 0 < n) : x.natAbs.log2 < 9000 := by
  by_cases e : x.natAbs = 0
  · rw [e]; decide
  · have := (Nat.log2_lt e).mpr h
    omega
def MulB (i j : Int) : Prop := Bd 4000 i ∧ Bd 4000 j
theorem MulB.ok {i j : Int} (h : MulB i j) : IntMulOk i j :=
  IntMulOk.of_bits (Nat.le_trans h.1.bits (by decide)) (Nat.le_trans h.2.bits (by decide))
section
variable {X : Cx}
theorem op_mulB : OpR X (binaryOp .Mult) (rI MulB fun i j => .int (i * j)) := opI fun _ _ _ _ _ _ _ hc q => mul_int q hc.ok
theorem op_fdivB : OpR X (binaryOp .FloorDiv) (rI (fun _ j => 0 < j ∧ Bd 4000 j) fun i j => .int (i / j)) := opI fun i j _ _ _ _ _ hc q => by
  have h1 : (0 : Int) < j := hc.1
  exact floordiv_int (by omega) (by rw [Int.fdiv_eq_ediv_of_nonneg i (by omega)]; exact q) (.inl (PyProof.noPylong_of_log2 (hc.2.log (by decide) (by decide))))
def clsVal : V → Value
  | .ref a => .ref a
  | .ty n => .type n
  | _ => .none
theorem call_isi : CallR X (.builtin "isinstance") (fun xs H Q => ∃ x c t b, xs = [x, c] ∧ TyOf X.K H x t ∧ clsVal c ≠ .none ∧ PySem.W.kitOne X.K t (clsVal c) = some b ∧ Q (.bl b) H) := by
  intro pins s σ H xs us Q I r h
  obtain ⟨x, c, t, b, rfl, ty, hc, e, q⟩ := h
  obtain ⟨u, v, rfl, rx, rc⟩ := vals2 r
  have ev : v = clsVal c := by
    cases c with
    | ref a => exact rc
    | ty n => exact rc
    | non => exact absurd rfl hc
    | bl _ => exact absurd rfl hc
    | int _ => exact absurd rfl hc
    | str _ => exact absurd rfl hc
    | byt _ => exact absurd rfl hc
    | flt _ => exact absurd rfl hc
  subst ev
  exact isinst_ok I rx ty e fun tk => ⟨.bl b, H, I.tok tk, rfl, q⟩
end
theorem kit_same {K : PySem.W.Frag} {t : Value} : PySem.W.kitOne K t t = some true := by
  unfold PySem.W.kitOne
  rw [if_pos (by simp)]
theorem kit_ty {K : PySem.W.Frag} {a c : String} {b : Bool} (h : PySem.W.kitMeta c = true) (h2 : (PySem.fastBuiltinMro a).map (·.contains (.type c)) = some b) (h3 : (a == c) = false) : PySem.W.kitOne K (.type a) (.type c) = some b := by
  unfold PySem.W.kitOne
  have e : ¬ ((Value.type a == Value.type c) = true) := by
    simp only [beq_iff_eq, Value.type.injEq]
    simpa using h3
  rw [if_neg e]
  show (if PySem.W.kitMeta c = true then PySem.W.subIn K (.type a) (.type c) else none) = some b
  rw [if_pos h]
  exact h2
theorem kit_int_bool {K : PySem.W.Frag} : PySem.W.kitOne K (.type "int") (.type "bool") = some false := kit_ty (by decide +kernel) (by decide +kernel) (by decide)
theorem kit_bool_int {K : PySem.W.Frag} : PySem.W.kitOne K (.type "bool") (.type "int") = some true := kit_ty (by decide +kernel) (by decide +kernel) (by decide)
theorem kit_none_int {K : PySem.W.Frag} : PySem.W.kitOne K (.type "NoneType") (.type "int") = some false := kit_ty (by decide +kernel) (by decide +kernel) (by decide)
theorem kit_none_tuple {K : PySem.W.Frag} : PySem.W.kitOne K (.type "NoneType") (.type "tuple") = some false := kit_ty (by decide +kernel) (by decide +kernel) (by decide)
theorem b_len : bootBuiltins "len" = some (.builtin "len") := by decide +kernel
theorem b_min : bootBuiltins "min" = some (.builtin "min") := by decide +kernel
theorem b_max : bootBuiltins "max" = some (.builtin "max") := by decide +kernel
theorem b_isinstance : bootBuiltins "isinstance" = some (.builtin "isinstance") := by decide +kernel
theorem b_any : bootBuiltins "any" = some (.builtin "any") := by decide +kernel
theorem b_all : bootBuiltins "all" = some (.builtin "all") := by decide +kernel
theorem b_int : bootBuiltins "int" = some (.type "int") := by decide +kernel
theorem b_bool : bootBuiltins "bool" = some (.type "bool") := by decide +kernel
theorem b_list : bootBuiltins "list" = some (.type "list") := by decide +kernel
theorem b_tuple : bootBuiltins "tuple" = some (.type "tuple") := by decide +kernel
def isiS : V → V → Option Bool
  | .int _, .ty n => if n = "int" then some true else if n = "bool" then some false else none
  | .bl _, .ty n => if n = "int" then some true else if n = "bool" then some true else none
  | .non, .ty n => if n = "int" then some false else if n = "tuple" then some false else none
  | _, _ => none
def rIsi (K : PySem.W.Frag) (x c : V) (H : Hp) (Q : VK) : Prop := match isiS x c with
  | some b => Q (.bl b) H
  | none => ∃ t b, TyOf K H x t ∧ clsVal c ≠ .none ∧ PySem.W.kitOne K t (clsVal c) = some b ∧ Q (.bl b) H
section
variable {X : Cx}
theorem call_isiA : CallR X (.builtin "isinstance") (fun xs H Q => ∃ x c, xs = [x, c] ∧ rIsi X.K x c H Q) := by
  intro pins s σ H xs us Q I r h
  obtain ⟨x, c, rfl, h⟩ := h
  refine call_isi pins s σ H _ us Q I r ?_
  cases e : isiS x c with
  | none =>
    unfold rIsi at h
    rw [e] at h
    obtain ⟨t, b, h1, h2, h3, h4⟩ := h
    exact ⟨x, c, t, b, rfl, h1, h2, h3, h4⟩
  | some b =>
    unfold rIsi at h
    rw [e] at h
    unfold isiS at e
    split at e
    · rename_i i n
      split at e
      · rename_i z; subst z; cases e
        exact ⟨_, _, _, _, rfl, TyOf.int i, (fun z => nomatch z), kit_same, h⟩
      · split at e
        · rename_i z; subst z; cases e
          exact ⟨_, _, _, _, rfl, TyOf.int i, (fun z => nomatch z), kit_int_bool, h⟩
        · cases e
    · rename_i i n
      split at e
      · rename_i z; subst z; cases e
        exact ⟨_, _, _, _, rfl, TyOf.bl i, (fun z => nomatch z), kit_bool_int, h⟩
      · split at e
        · rename_i z; subst z; cases e
          exact ⟨_, _, _, _, rfl, TyOf.bl i, (fun z => nomatch z), kit_same, h⟩
        · cases e
    · rename_i n
      split at e
      · rename_i z; subst z; cases e
        exact ⟨_, _, _, _, rfl, TyOf.non, (fun z => nomatch z), kit_none_int, h⟩
      · split at e
        · rename_i z; subst z; cases e
          exact ⟨_, _, _, _, rfl, TyOf.non, (fun z => nomatch z), kit_none_tuple, h⟩
        · cases e
    · cases e
end
section
variable {K : PySem.W.Frag} {H : Hp} {Q : VK} {i : Int} {b : Bool} {p : Addr} {xs : List V}
theorem isi_ii : rIsi K (.int i) (.ty "int") H Q = Q (.bl true) H := rfl
theorem isi_ib : rIsi K (.int i) (.ty "bool") H Q = Q (.bl false) H := rfl
theorem isi_bi : rIsi K (.bl b) (.ty "int") H Q = Q (.bl true) H := rfl
theorem isi_bb : rIsi K (.bl b) (.ty "bool") H Q = Q (.bl true) H := rfl
theorem isi_ni : rIsi K .non (.ty "int") H Q = Q (.bl false) H := rfl
theorem isi_nt : rIsi K .non (.ty "tuple") H Q = Q (.bl false) H := rfl
theorem isi_tup (h : H p = some (.tup xs)) (q : Q (.bl true) H) : rIsi K (.ref p) (.ty "tuple") H Q := ⟨_, _, TyOf.tup h, (fun z => nomatch z), kit_same, q⟩
theorem isi_lst (h : H p = some (.lst xs)) (q : Q (.bl true) H) : rIsi K (.ref p) (.ty "list") H Q := ⟨_, _, TyOf.lst h, (fun z => nomatch z), kit_same, q⟩
end
end Gz
set_option Elab.async false
set_option linter.all false
set_option maxRecDepth 100000
set_option maxHeartbeats 4000000
namespace Gz
open PySem PySem.Spec PyProof.Rows L2
def CXX (P : Program) (w : World) : CXT := fun outer H s E e s' =>
  ∃ (x : Addr) (cls a0 : Value) (H' : Hp) (B : Heap), e = .ref x ∧ s'.os = s.os ∧ AllBare s'.gens ∧ Un (frs outer) [] H H' s.heap s'.heap ∧
    (∀ b o, s.heap.get? b = some o → H b = none → b ∉ frs outer → B.get? b = some o) ∧ (∀ b o, s.heap.get? b = some o → b ∉ frs outer → ∃ o', B.get? b = some o') ∧ HOk P w H' B ∧ H' x = none ∧ s.heap.get? x = none ∧
    Heap.FlyingW B outer x cls a0 s'.heap ∧ E cls none H'
theorem passE0 {P : Program} {w : World} {X : Cx} : Passes (CXX P w) X E0 := fun _ _ _ _ _ _ _ ⟨_, _, _, _, _, _, _, _, _, _, _, _, _, _, _, h⟩ => h.elim
theorem noCXX {P : Program} {w : World} {outer : List Env} {H : Hp} {s s' : Shared} {e : Value} (h : CXX P w outer H s (fun _ _ _ => False) e s') : False := by
  obtain ⟨_, _, _, _, _, _, _, _, _, _, _, _, _, _, _, h⟩ := h
  exact h
section
variable {P : Program} {w : World} {K : PySem.W.Frag} {mg : Str → Option Value} {base : Heap}
theorem okN {x qual : Str} {st : Stmt} {f : Addr} {fd : FuncData} {N ps : List Str} {k : Nat} {sp : Sp} (F : Fun K x qual st f fd) (S : FnScope N ps (defScope st)) (len : ∀ vs H Q E, sp vs H Q E → vs.length = ps.length)
    (hbody : ∀ (cdv : Value) (A : Around) (outer : List Env) (s : Shared) (H : Hp) (vs : List V) (Q : VK) (E : XK), Room k (A.deeper (envOfC qual (defScope st) s.heap.objs.size f cdv)) → sp vs H Q E →
      ∃ t, PSs (cxOf (CXX P w) P w K mg base N qual (defScope st) f cdv A outer s H E).nox (defBody st) t ∧ t { nx := fun _ H' => Q .non H', rt := Q } (start N vs) H) : FnOk P w K mg base (CXX P w) (k + 1) f fd ps sp := by
  obtain ⟨oc, od, kV, doc, pm, an, cdv, ct, osl, rfl, lk, hcd⟩ := F.ex
  refine fn_of lk hcd S len fun A outer s H vs Q E hr hsp => ?_
  obtain ⟨t, h, q⟩ := hbody cdv A outer s H vs Q E hr hsp
  exact ⟨t, h.nox, q⟩
end
theorem scal_ii (a b : Int) : scal (.int a) (.int b) = true := rfl
theorem scal_bb (a b : Bool) : scal (.bl a) (.bl b) = true := rfl
theorem scal_in (a : Int) : scal (.int a) .non = true := rfl
theorem scal_ni (a : Int) : scal .non (.int a) = true := rfl
theorem scal_nn : scal .non .non = true := rfl
theorem ite_tt {A B : Prop} : (if true = true then A else B) = A := if_pos rfl
theorem ite_ff {A B : Prop} : (if false = true then A else B) = B := if_neg Bool.false_ne_true
end Gz
namespace Gz
open PySem PySem.Spec PyProof.Rows L2
theorem cxK {CX : CXT} {P : Program} {w : World} {K : PySem.W.Frag} {mg : Str → Option Value} {base : Heap} {N : List Str} {qual : Str} {scope : Scope} {f : Addr} {cd : Value} {A : Around} {outer : List Env} {s : Shared} {H : Hp} {E : XK} :
    (cxOf CX P w K mg base N qual scope f cd A outer s H E).K = K := rfl
theorem cxN {CX : CXT} {P : Program} {w : World} {K : PySem.W.Frag} {mg : Str → Option Value} {base : Heap} {N : List Str} {qual : Str} {scope : Scope} {f : Addr} {cd : Value} {A : Around} {outer : List Env} {s : Shared} {H : Hp} {E : XK} :
    (cxOf CX P w K mg base N qual scope f cd A outer s H E).N = N := rfl
section
variable {K : PySem.W.Frag} {H H' : Hp} {a p : Addr} {xs ys : List V} {i : Int} {v : V} {Q : VK}
theorem same_upd {o : HO} (h : H p = none) : Same H (upd H p o) := fun b u e => by rw [upd_ne (ne_of_none e h)]; exact e
theorem ixT (h : SqT K H p xs) (e : atI xs i = some v) (q : Q v H) : rIx K (.ref p) (.int i) H Q := .inr (.inl ⟨p, xs, i, v, rfl, rfl, h, e, q⟩)
theorem ixL (h : SqL K H p xs) (e : atI xs i = some v) (q : Q v H) : rIx K (.ref p) (.int i) H Q := .inl ⟨p, xs, i, v, rfl, rfl, h, e, q⟩
theorem lenL (h : SqL K H p xs) : LenV K (.ref p) H xs.length := .inl ⟨xs, h, rfl⟩
theorem lenT (h : SqT K H p xs) : LenV K (.ref p) H xs.length := .inr ⟨xs, h, rfl⟩
end
def isWhole : V → Bool
  | .int _ => true
  | _ => false
end Gz
namespace Gz
open PySem PySem.Spec PyProof.Rows L2
def FJ (J : It) (g : TG) (tb : TS) (D : Ends) (σ : L2.St) (H : Hp) : Prop := ∃ W : Nat → Nat → L2.St → Hp → Prop, (∃ m, W 0 m σ H) ∧ ∀ i m σ H, W i m σ H →
      (J.stop i H ∧ D.nx σ H) ∨ (J.go i H ∧ ∃ N : L2.St → Hp → Prop, (∀ σ' H', N σ' H' → ∃ m', m' < m ∧ W (i + 1) m' σ' H') ∧ ∀ x H', J.yld i H x H' → g x σ H' fun σ2 H2 => tb { D with nx := N, ct := N, bk := D.nx } σ2 H2)
section
variable {K : PySem.W.Frag} {g : TG} {tb : TS} {D : Ends} {σ : L2.St} {H : Hp} {a : Addr} {xs : List V} {lo : Int} {n : Nat}
theorem for_rng1 {ta : TA} : tFor (iRng1 ta) g tb D σ H = ta σ H (fun vs H1 => ∃ j : Int, vs = [.int j] ∧ -(2 ^ 62) ≤ j ∧ j < 2 ^ 62 ∧ FJ (Itr 0 j.toNat) g tb D σ H1) := rfl
theorem for_lst {tl : TE} : tFor (iList K tl) g tb D σ H = tl σ H (fun x H1 => ∃ a, x = .ref a ∧ (∃ xs, SqL K H1 a xs) ∧ FJ (Itl K a) g tb D σ H1) := rfl
theorem for_tpl {tl : TE} : tFor (iTup K tl) g tb D σ H = tl σ H (fun x H1 => ∃ a, x = .ref a ∧ (∃ xs, SqT K H1 a xs) ∧ FJ (Itt K a) g tb D σ H1) := rfl
theorem by_range (Pv : Nat → L2.St → Hp → Prop) (h0 : Pv 0 σ H)
    (hs : ∀ i σ H, i < n → Pv i σ H → g (.int (lo + i)) σ H fun σ2 H2 => tb { D with nx := Pv (i + 1), ct := Pv (i + 1), bk := D.nx } σ2 H2) (hd : ∀ σ H, Pv n σ H → D.nx σ H) : FJ (Itr lo n) g tb D σ H := for_range Pv h0 hs hd
theorem by_list (Pv : Nat → L2.St → Hp → Prop) (h0 : Pv 0 σ H) (hl : ∀ i σ H, i ≤ xs.length → Pv i σ H → SqL K H a xs)
    (hs : ∀ i x σ H, xs[i]? = some x → Pv i σ H → g x σ H fun σ2 H2 => tb { D with nx := Pv (i + 1), ct := Pv (i + 1), bk := D.nx } σ2 H2) (hd : ∀ σ H, Pv xs.length σ H → D.nx σ H) : FJ (Itl K a) g tb D σ H := for_list Pv h0 hl hs hd
theorem by_tup (Pv : Nat → L2.St → Hp → Prop) (h0 : Pv 0 σ H) (hl : ∀ i σ H, i ≤ xs.length → Pv i σ H → SqT K H a xs)
    (hs : ∀ i x σ H, xs[i]? = some x → Pv i σ H → g x σ H fun σ2 H2 => tb { D with nx := Pv (i + 1), ct := Pv (i + 1), bk := D.nx } σ2 H2) (hd : ∀ σ H, Pv xs.length σ H → D.nx σ H) : FJ (Itt K a) g tb D σ H := for_tup Pv h0 hl hs hd
end
theorem line2 : (2 : Nat) ≤ sizeLine := by decide
theorem bd200 {x : Int} (h : x.natAbs < 2 ^ 200) : Bd 4000 x := Bd.up (n := 200) h (by decide)
theorem mul200 {x y : Int} (h : x.natAbs < 2 ^ 200) (h' : y.natAbs < 2 ^ 200) : MulB x y := ⟨bd200 h, bd200 h'⟩
end Gz
namespace Gz
open PySem PySem.Spec PyProof.Rows L2
section
variable {X : Cx}
end
section
variable {K : PySem.W.Frag} {H H1 : Hp} {l p : Addr} {xs ys : List V} {o : HO}
theorem same_put (hl : H l = none) (s : Same H H1) : Same H (upd H1 l o) := fun b u e => by
  rw [upd_ne (ne_of_none e hl)]; exact s b u e
def IsP (K : PySem.W.Frag) (H : Hp) (v : V) (a b : Int) : Prop := ∃ p, v = .ref p ∧ SqT K H p [.int a, .int b]
end
end Gz
set_option Elab.async false
set_option linter.all false
set_option maxRecDepth 100000
set_option maxHeartbeats 4000000
namespace Gz
open PySem PySem.W PySem.Spec PySem.Calls PyProof.Rows Builtin Builtin.ObjectAttr Builtin.Getset_descriptor
section
variable {prog : Program} {w : World} {A : Around} {E : Value → Shared → Prop} {s : Shared} {K : Frag} {x C : Addr} {oe : Obj} {R : Result → Shared → Prop}
end
structure XC (K : Frag) (C : Addr) : Prop where
  ex : excIn K C [.type "ValueError", .type "Exception", .type "BaseException", .type "object"] "ValueError.__new__" = true
  mo : mroIn K C (.type "object") = some true
  mb : mroIn K C (.type "BaseException") = some true
  ga : findIn K (.ref C) "__getattribute__" = some (some (.builtin "BaseException.__getattribute__"))
  gr : findIn K (.ref C) "__getattr__" = some none
  gc : findIn K (.ref C) "__class__" = some (some (.builtin "object.__class__"))
theorem XC.cls {K : Frag} {C : Addr} (x : XC K C) : ∃ c d cd sl, K.lookup C = some ⟨c, d, .cls cd, sl⟩ := by
  have q := x.ex
  unfold excIn at q
  split at q
  · rename_i dd cd sl ho
    exact ⟨_, _, _, _, ho⟩
  · cases q
theorem exc_obj {K : Frag} {h : Heap} {C : Addr} (X : K.In h) (c : XC K C) :
    ∃ bm N nm q bs hdct sn sub ab col dd k0 k1 k2 k3 k5 mN, h.get? C = some (excClassObj nm q C N bs bm hdct sn sub ab col dd k0 k1 k2 k3 k5 "ValueError.__new__") ∧ h.Ns N mN ∧ mN "__init__" = none ∧
      OwnTail h [.type "ValueError", .type "Exception", .type "BaseException", .type "object"] bm := by
  have q := c.ex
  unfold excIn at q
  split at q
  · rename_i dd cd sl ho
    split at q
    · rename_i C' bm k0 k1 k2 k3 n k5 hm hs
      simp only [Bool.and_eq_true, beq_iff_eq, Bool.not_eq_true'] at q
      obtain ⟨⟨⟨⟨⟨rfl, rfl⟩, hdel⟩, ht⟩, hok⟩, hni⟩ := q
      obtain ⟨nm, bs, mro, ns, qn, hd, sn, sub, ab, col, del⟩ := cd
      dsimp only at hm hdel hok hni
      subst hm hdel
      have hsl : sl = #[k0, k1, k2, k3, some (.builtin "ValueError.__new__"), k5] := by
        obtain ⟨l⟩ := sl
        simp only at hs
        rw [hs]
      subst hsl
      exact ⟨bm, ns, nm, qn, bs, hd, sn, sub, ab, col, dd, k0, k1, k2, k3, k5, _, X _ _ ho, .of_isNs (isNs_of_in X hok), nsMap_none_of_in X hok hni, tail_of_in X ht⟩
    · cases q
  · cases q
end Gz
namespace Gz
open PySem PySem.Spec PyProof.Rows L2
section
variable {X : Cx}
end
end Gz
set_option Elab.async false
set_option linter.all false
set_option maxRecDepth 100000
set_option maxHeartbeats 4000000
namespace Gz
open PySem PySem.Spec PyProof.Rows L2
theorem ObjOk.some {P : Program} {w : World} {H : Hp} {h : Heap} {a : Addr} {o : HO} (x : ObjOk P w H h a o) : ∃ ob, h.get? a = some ob := by
  cases o with
  | lst xs => obtain ⟨_, _, _, _, e⟩ := x; exact ⟨_, e⟩
  | tup xs => obtain ⟨_, _, _, o, e, _⟩ := x; exact ⟨_, e⟩
  | dK kvs => obtain ⟨_, _, _, _, o, _, _, e, _⟩ := x; exact ⟨_, e⟩
  | dT kvs => obtain ⟨_, _, _, _, o, _, _, e, _⟩ := x; exact ⟨_, e⟩
  | set S n => obtain ⟨o, _, _, _, e, _⟩ := x; exact ⟨_, e⟩
  | ins C dx fs => obtain ⟨_, _, _, e, _⟩ := x; exact ⟨_, e⟩
  | own y => exact x
  | xd fs => obtain ⟨_, ⟨_, _, _, e, _⟩, _⟩ := x; exact ⟨_, e⟩
  | rng lo hi => obtain ⟨_, _, _, e⟩ := x; exact ⟨_, e⟩
  | frz ob u => obtain ⟨e, _⟩ := x; exact ⟨_, e⟩
  | tbl ps => exact ⟨_, x⟩
  | met f y => exact ⟨_, x⟩
  | ext φ => exact x.2.1
def RaiseTo (X : Cx) (E : XK) : Prop := ∀ (pins : List (Addr × Obj)) (σ : L2.St) (H : Hp) (s : Shared) (e C : Addr) (vs : List Value) (h' : Heap), Inv X pins σ H s → Heap.MadeExcOf s.heap h' e (.ref C) vs → E (.ref C) none H → X.xe (.ref e) { s with heap := h' }
def tRaise (C : Addr) (E : XK) (ta : TA) : TS := fun D σ H => ta σ H fun vs H1 => vs.length ≤ sizeLine ∧ E (.ref C) none H1
section
variable {X : Cx}
theorem ps_raise {x : Str} {np cpos pos : Pos} {e₀ : Expr} {rest : List Expr} {ta : TA} {C : Addr} {E : XK} (hx : RaiseTo X E) (hg : Gl X x) (hm : X.mg x = some (.ref C)) (xc : XC X.K C) (hc : X.calm = true) (ha : PA X (e₀ :: rest) ta)
    (hd : (x == ("__debug__" : Str)) = false := by decide) (he : starEach (e₀ :: rest) X.env = (false, eval e₀ X.env) :: starEach rest X.env := by rfl)
    (hpl : (backTo cpos (starEach rest X.env)).any (·.1) = false := by rfl) :
    PS X (.Raise (some (.Call (.Name x np) (e₀ :: rest) [] cpos)) none pos) (tRaise C E ta) := by
  intro pins s σ H D I h
  obtain ⟨tl, N, nm, q, bs, hdct, sn, sub, ab, col, dd, k0, k1, k2, k3, k5, mN, hC, hN, hni, T⟩ := exc_obj I.ok.mod.kin xc
  refine wpAny_Raise_call_subU (C := C) (nm := nm) (q := q) (N := N) (bs := bs) (bm := tl) (hdct := hdct) (sn := sn) (sub := sub) (ab := ab) (col := col) (dd := dd) (k0 := k0) (k1 := k1) (k2 := k2) (k3 := k3) (k5 := k5)
    PySem.F.excBase_ValueError (by decide +kernel) PySem.F.excBase_ValueError (mN := mN) (T.hasType PySem.F.excBase_ValueError.hasBase) (I.ok.hd hc) (by rw [he]; show (false || (backTo cpos (starEach rest X.env)).any (·.1)) = false; rw [hpl]; rfl) hni (ld_glob I hg hm ⟨rfl, ?_⟩ hd)
  have ha' := ha cpos pins s σ H _ I h
  rw [he] at ha' ⊢
  refine Calls.evalArgs_plain (wpAny_mono ha' (fun us s₂ h₂ => ?_) fun _ _ y => y)
  obtain ⟨vs, H1, I1, r, hl, hE⟩ := h₂
  exact ⟨rfl, by rw [← r.length]; exact hl, I1.bk _ _ hC, hN.keeps I1.bk, T.keeps I1.bk, fun h' e hm => hx pins σ H1 s₂ e C us h' I1 hm hE⟩
end
section
variable {P : Program} {w : World} {K : PySem.W.Frag} {mg : Str → Option Value} {base : Heap} {N : List Str} {qual : Str} {scope : Scope} {f : Addr} {cd : Value} {A : Around} {outer : List Env} {s : Shared} {H : Hp} {E : XK}
theorem frs_mem {env : Env} {b L : Addr} (hf : env.frame = some L) (h : b ∈ frs (env :: outer)) : b = L ∨ b ∈ frs outer := by
  unfold frs at h
  rw [List.filterMap_cons, hf] at h
  exact List.mem_cons.mp h
theorem raise_up : RaiseTo (cxOf (CXX P w) P w K mg base N qual scope f cd A outer s H E) E := by
  intro pins σ H1 s1 e C vs h1 I hx hE
  have hfr : (cxOf (CXX P w) P w K mg base N qual scope f cd A outer s H E).A.frames = some (envOfC qual scope s.heap.objs.size f cd :: outer) := I.ok.frames
  have hF : s1.heap.FunFrames base (envOfC qual scope s.heap.objs.size f cd :: outer) := I.stack
  have hin : ∀ env ∈ (envOfC qual scope s.heap.objs.size f cd :: outer), ∀ b, env.frame = some b → b ∈ frs (envOfC qual scope s.heap.objs.size f cd :: outer) := fun env he b hb => List.mem_filterMap.mpr ⟨env, he, hb⟩
  have fr0 : ∀ b ∈ frs (envOfC qual scope s.heap.objs.size f cd :: outer), H1 b = none := I.stkFree
  have neL : ∀ b o, s.heap.get? b = some o → b ≠ s.heap.objs.size := fun b o e => Nat.ne_of_lt (Heap.lt_size e)
  have nofr : ∀ b o, s.heap.get? b = some o → b ∉ frs outer → b ∉ frs (envOfC qual scope s.heap.objs.size f cd :: outer) := fun b o e hb z => by
    rcases frs_mem rfl z with z | z
    · exact neL b o e z
    · exact hb z
  have ub : Un (frs outer) [] H H1 s.heap s1.heap := I.base
  refine wpAny_leaves_madeW (base := PySem.W.hideAll s1.heap (frs (envOfC qual scope s.heap.objs.size f cd :: outer))) hfr rfl (fun b o q => PySem.W.of_hideAll _ q) (PySem.W.funFrames_hide hF hin) hx fun h' t fl tup bt up => ?_
  have stays := fl.1
  have inB : ∀ b o, s1.heap.get? b = some o → b ∉ frs (envOfC qual scope s.heap.objs.size f cd :: outer) → (PySem.W.hideAll s1.heap (frs (envOfC qual scope s.heap.objs.size f cd :: outer))).get? b = some o := fun b o q hb => PySem.W.hideAll_get _ q hb
  have frUp : ∀ b ∈ frs (envOfC qual scope s.heap.objs.size f cd :: outer), ∀ o, s1.heap.get? b = some o → ∃ sl, h'.get? b = some { o with slots := sl } := fun b hb o q => by
    obtain ⟨_, o', ho', hnf⟩ := hF.mem hb
    rw [q] at ho'; cases ho'
    exact up b o (hx.keeps b o q) hnf
  refine ⟨e, .ref C, .ref t, H1, _, rfl, I.os, I.bare, ⟨fun b o q n hb hx' => ?_, fun b o q n hb hx' => ?_, ub.free, fun b o q hx' => ?_, ub.tups, ub.frzs, ub.tbls⟩, fun b o q n hb => ?_, fun b o q hb => ?_, fun a o q => ?_, ?_, ?_, fl, hE⟩
  · exact stays b o (inB b o (ub.keep b o q n hb hx') (nofr b o q hb))
  · obtain ⟨sl, e1⟩ := ub.slot b o q n hb hx'
    obtain ⟨sl', e2⟩ := frUp b (by unfold frs; rw [List.filterMap_cons]; exact List.mem_cons_of_mem _ hb) _ e1
    exact ⟨sl', e2⟩
  · obtain ⟨o', e1⟩ := ub.there b o q hx'
    by_cases hb : b ∈ frs (envOfC qual scope s.heap.objs.size f cd :: outer)
    · obtain ⟨sl, e2⟩ := frUp b hb o' e1
      exact ⟨_, e2⟩
    · exact ⟨o', stays b o' (inB b o' e1 hb)⟩
  · exact inB b o (ub.keep b o q n hb (by simp)) (nofr b o q hb)
  · obtain ⟨o', e1⟩ := ub.there b o q (by simp)
    exact ⟨o', inB b o' e1 (nofr b o q hb)⟩
  · refine (I.hok a o q).stay (fun b u hb z => inB b u z fun hm => ?_) (fun _ z => z) fun _ _ z => z
    have := fr0 b hm
    rcases hb with hb | hb
    · rw [hb, q] at this; cases this
    · rw [hb] at this; cases this
  · cases q : H1 e with
    | none => rfl
    | some u =>
      obtain ⟨ob, z⟩ := ObjOk.some (I.hok e u q)
      rw [hx.new] at z; cases z
  · cases q : s.heap.get? e with
    | none => rfl
    | some u =>
      obtain ⟨o', z⟩ := ub.there e u q (by simp)
      rw [hx.new] at z; cases z
theorem pass_up : Passes (CXX P w) (cxOf (CXX P w) P w K mg base N qual scope f cd A outer s H E) E := by
  intro pins σ H1 s1 ev s2 I cx
  obtain ⟨x, cls, a0, H', B, rfl, os, bare, un, kb, tb, hok, hx, hn, fl, hE⟩ := cx
  have hfr : (cxOf (CXX P w) P w K mg base N qual scope f cd A outer s H E).A.frames = some (envOfC qual scope s.heap.objs.size f cd :: outer) := I.ok.frames
  have hF : s1.heap.FunFrames base (envOfC qual scope s.heap.objs.size f cd :: outer) := I.stack
  have neL : ∀ b o, s.heap.get? b = some o → b ≠ s.heap.objs.size := fun b o e => Nat.ne_of_lt (Heap.lt_size e)
  have nofr : ∀ b o, s.heap.get? b = some o → b ∉ frs outer → b ∉ frs (envOfC qual scope s.heap.objs.size f cd :: outer) := fun b o e hb z => by
    rcases frs_mem rfl z with z | z
    · exact neL b o e z
    · exact hb z
  have infr : ∀ b, b ∈ frs outer → b ∈ frs (envOfC qual scope s.heap.objs.size f cd :: outer) := fun b hb => by
    unfold frs; rw [List.filterMap_cons]; exact List.mem_cons_of_mem _ hb
  have ub : Un (frs outer) [] H H1 s.heap s1.heap := I.base
  have un' : Un (frs (envOfC qual scope s.heap.objs.size f cd :: outer)) [] H1 H' s1.heap s2.heap := un
  have kb' : ∀ b o, s1.heap.get? b = some o → H1 b = none → b ∉ frs (envOfC qual scope s.heap.objs.size f cd :: outer) → B.get? b = some o := kb
  have tb' : ∀ b o, s1.heap.get? b = some o → b ∉ frs (envOfC qual scope s.heap.objs.size f cd :: outer) → ∃ o', B.get? b = some o' := tb
  have frfree : ∀ b ∈ frs (envOfC qual scope s.heap.objs.size f cd :: outer), H1 b = none := I.stkFree
  refine wpAny_leaves_onW hfr rfl fl fun h' fl' up => ?_
  have stays := fl'.1
  have frUp : ∀ b ∈ frs (envOfC qual scope s.heap.objs.size f cd :: outer), ∀ o, s1.heap.get? b = some o → ∃ sl, h'.get? b = some { o with slots := sl } := fun b hb o q => by
    obtain ⟨_, o', ho', hnf⟩ := hF.mem hb
    rw [q] at ho'; cases ho'
    obtain ⟨sl, e1⟩ := un'.slot b o q (frfree b hb) hb (by simp)
    obtain ⟨sl', e2⟩ := up b _ e1 hnf
    exact ⟨sl', e2⟩
  refine ⟨x, cls, a0, H', B, rfl, os.trans I.os, bare, ⟨fun b o q n hb hx' => ?_, fun b o q n hb hx' => ?_, fun b o q n hx' => ?_, fun b o q hx' => ?_, fun b xs q => un.tups _ _ (ub.tups _ _ q), fun b o u q => un.frzs _ _ _ (ub.frzs _ _ _ q), fun b ps q => ?_⟩, fun b o q n hb => ?_, fun b o q hb => ?_, hok, hx, ?_, fl', hE⟩
  · exact stays b o (kb' b o (ub.keep b o q n hb hx') (ub.free b o q n hx') (nofr b o q hb))
  · obtain ⟨sl, e1⟩ := ub.slot b o q n hb hx'
    obtain ⟨sl', e2⟩ := frUp b (infr b hb) _ e1
    exact ⟨sl', e2⟩
  · obtain ⟨o', e1⟩ := ub.there b o q hx'
    exact un'.free b o' e1 (ub.free b o q n hx') (by simp)
  · obtain ⟨o', e1⟩ := ub.there b o q hx'
    by_cases hb : b ∈ frs (envOfC qual scope s.heap.objs.size f cd :: outer)
    · obtain ⟨sl, e2⟩ := frUp b hb o' e1
      exact ⟨_, e2⟩
    · obtain ⟨o2, e2⟩ := tb' b o' e1 hb
      exact ⟨o2, stays b o2 e2⟩
  · obtain ⟨m1, e1⟩ := ub.tbls b ps q
    obtain ⟨m2, e2⟩ := un.tbls b _ e1
    exact ⟨m1 ++ m2, by rw [e2, Array.append_assoc]⟩
  · exact kb' b o (ub.keep b o q n hb (by simp)) (ub.free b o q n (by simp)) (nofr b o q hb)
  · obtain ⟨o', e1⟩ := ub.there b o q (by simp)
    exact tb' b o' e1 (nofr b o q hb)
  · cases q : s.heap.get? x with
    | none => rfl
    | some u =>
      obtain ⟨o', z⟩ := ub.there x u q (by simp)
      rw [hn] at z; cases z
theorem okX {x qual : Str} {st : Stmt} {f : Addr} {fd : FuncData} {N ps : List Str} {k : Nat} {sp : Sp} (F : Fun K x qual st f fd) (S : FnScope N ps (defScope st)) (len : ∀ vs H Q E, sp vs H Q E → vs.length = ps.length)
    (hbody : ∀ (cdv : Value) (A : Around) (outer : List Env) (s : Shared) (H : Hp) (vs : List V) (Q : VK) (E : XK), Room k (A.deeper (envOfC qual (defScope st) s.heap.objs.size f cdv)) → sp vs H Q E →
      ∃ t, PSs (cxOf (CXX P w) P w K mg base N qual (defScope st) f cdv A outer s H E) (defBody st) t ∧ t { nx := fun _ H' => Q .non H', rt := Q } (start N vs) H) : FnOk P w K mg base (CXX P w) (k + 1) f fd ps sp := by
  obtain ⟨oc, od, kV, doc, pm, an, cdv, ct, osl, rfl, lk, hcd⟩ := F.ex
  refine fn_of lk hcd S len fun A outer s H vs Q E hr hsp => ?_
  exact hbody cdv A outer s H vs Q E hr hsp
end
end Gz
namespace Gz
open PySem PySem.Spec PyProof.Rows L2
section
variable {X : Cx} {F : Value → Shared → Prop} {pins pn : List (Addr × Obj)} {σ : L2.St} {H : Hp} {s : Shared} {A' : Around}
end
end Gz
set_option linter.all false
namespace Gz
def gcdI (a b : Int) : Int := ((Nat.gcd a.natAbs b.natAbs : Nat) : Int)
def sg (t b : Int) : Int := if b < 0 then -gcdI t b else gcdI t b
def rt (t b : Int) : Int := t.fdiv (sg t b)
def rb (t b : Int) : Int := b.fdiv (sg t b)
theorem em30 (x : Int) : (x % 1000000000000000000000000000000).natAbs < 2 ^ 200 := by
  have h1 := Int.emod_nonneg x (show (1000000000000000000000000000000 : Int) ≠ 0 by decide)
  have h2 := Int.emod_lt_of_pos x (show (0 : Int) < 1000000000000000000000000000000 by decide)
  omega
end Gz
set_option Elab.async false
set_option linter.all false
set_option maxRecDepth 100000
set_option maxHeartbeats 4000000
namespace Gz
open PySem PySem.W PyProof.Rows
section
variable {lt : Nat → Nat → Bool} {n : Nat}
structure Ord (lt : Nat → Nat → Bool) : Prop where
  asym : ∀ {a b}, lt a b = true → lt b a = false
  tr : ∀ {a b c}, lt b a = false → lt c b = false → lt c a = false
theorem Ord.rfl' (O : Ord lt) (a : Nat) : lt a a = false := by
  cases h : lt a a with
  | false => rfl
  | true => rw [O.asym h] at h; cases h
def Srt (lt : Nat → Nat → Bool) (p : Array Nat) (k : Nat) : Prop := ∀ i j, i ≤ j → j < k → lt (p.getD j 0) (p.getD i 0) = false
def Dsc (lt : Nat → Nat → Bool) (p : Array Nat) (k : Nat) : Prop := ∀ i j, i ≤ j → j < k → lt (p.getD i 0) (p.getD j 0) = false
def Prm (n : Nat) (p : Array Nat) : Prop := p.toList.Perm (List.range n)
theorem Prm.size {p : Array Nat} (h : Prm n p) : p.size = n := by
  have := h.length_eq
  simpa using this
theorem Prm.of {p q : Array Nat} (h : Prm n p) (hq : q.Perm p) : Prm n q := (Array.perm_iff_toList_perm.mp hq).trans h
theorem Srt.succ (O : Ord lt) {p : Array Nat} {k : Nat} (h : Srt lt p k) (hk : 1 ≤ k) (hn : lt (p.getD k 0) (p.getD (k - 1) 0) = false) : Srt lt p (k + 1) := fun i j hij hj => by
  by_cases e : j = k
  · subst e
    by_cases ei : i = j
    · subst ei; exact O.rfl' _
    · exact O.tr (h i (j - 1) (by omega) (by omega)) hn
  · exact h i j hij (by omega)
theorem Dsc.succ (O : Ord lt) {p : Array Nat} {k : Nat} (h : Dsc lt p k) (hk : 1 ≤ k) (hn : lt (p.getD (k - 1) 0) (p.getD k 0) = false) : Dsc lt p (k + 1) := fun i j hij hj => by
  by_cases e : j = k
  · subst e
    by_cases ei : i = j
    · subst ei; exact O.rfl' _
    · exact O.tr hn (h i (j - 1) (by omega) (by omega))
  · exact h i j hij (by omega)
def kasV {α : Type} (lt : Nat → Nat → Bool) : KasT α → α
  | .ret a => a
  | .ask i j k => kasV lt (k (lt i j))
def sortIx (lt : Nat → Nat → Bool) (n : Nat) : Array Nat := if n < 2 then List.toArray (List.range n) else kasV lt (kas_sort n)
end
end Gz
set_option Elab.async false
set_option linter.all false
set_option maxRecDepth 100000
set_option maxHeartbeats 4000000
namespace Gz
open PySem PySem.Spec PyProof.Rows L2
local macro_rules | `(tactic| walk_at "om") => `(tactic| ((try simp only [PySem.Addr] at *); omega))
def maxL : List Int → Int
  | [] => 0
  | x :: r => r.foldl (fun b y => if y > b then y else b) x
def minL : List Int → Int
  | [] => 0
  | x :: r => r.foldl (fun b y => if y < b then y else b) x
theorem maxF_le : ∀ (r : List Int) (b : Int), b ≤ r.foldl (fun b y => if y > b then y else b) b ∧ (∀ y ∈ r, y ≤ r.foldl (fun b y => if y > b then y else b) b) ∧ (r.foldl (fun b y => if y > b then y else b) b = b ∨ r.foldl (fun b y => if y > b then y else b) b ∈ r)
  | [], b => ⟨Int.le_refl _, fun _ z => (nomatch z), .inl rfl⟩
  | x :: r, b => by
    simp only [List.foldl_cons]
    obtain ⟨h1, h2, h3⟩ := maxF_le r (if x > b then x else b)
    refine ⟨?_, fun y hy => ?_, ?_⟩
    · refine Int.le_trans ?_ h1; split <;> omega
    · rcases List.mem_cons.mp hy with rfl | hy
      · refine Int.le_trans ?_ h1; split <;> omega
      · exact h2 y hy
    · rcases h3 with h3 | h3
      · rw [h3]; split
        · right; simp
        · left; rfl
      · right; exact List.mem_cons_of_mem _ h3
theorem minF_le : ∀ (r : List Int) (b : Int), r.foldl (fun b y => if y < b then y else b) b ≤ b ∧ (∀ y ∈ r, r.foldl (fun b y => if y < b then y else b) b ≤ y) ∧ (r.foldl (fun b y => if y < b then y else b) b = b ∨ r.foldl (fun b y => if y < b then y else b) b ∈ r)
  | [], b => ⟨Int.le_refl _, fun _ z => (nomatch z), .inl rfl⟩
  | x :: r, b => by
    simp only [List.foldl_cons]
    obtain ⟨h1, h2, h3⟩ := minF_le r (if x < b then x else b)
    refine ⟨?_, fun y hy => ?_, ?_⟩
    · refine Int.le_trans h1 ?_; split <;> omega
    · rcases List.mem_cons.mp hy with rfl | hy
      · refine Int.le_trans h1 ?_; split <;> omega
      · exact h2 y hy
    · rcases h3 with h3 | h3
      · rw [h3]; split
        · right; simp
        · left; rfl
      · right; exact List.mem_cons_of_mem _ h3
theorem maxL_mem {ns : List Int} (h : ns ≠ []) : maxL ns ∈ ns ∧ ∀ y ∈ ns, y ≤ maxL ns := by
  cases ns with
  | nil => exact absurd rfl h
  | cons x r =>
    obtain ⟨h1, h2, h3⟩ := maxF_le r x
    refine ⟨?_, fun y hy => ?_⟩
    · rcases h3 with h3 | h3
      · show r.foldl _ x ∈ _
        rw [h3]; exact .head _
      · exact .tail _ h3
    · rcases List.mem_cons.mp hy with rfl | hy
      · exact h1
      · exact h2 y hy
theorem minL_mem {ns : List Int} (h : ns ≠ []) : minL ns ∈ ns ∧ ∀ y ∈ ns, minL ns ≤ y := by
  cases ns with
  | nil => exact absurd rfl h
  | cons x r =>
    obtain ⟨h1, h2, h3⟩ := minF_le r x
    refine ⟨?_, fun y hy => ?_⟩
    · rcases h3 with h3 | h3
      · show r.foldl _ x ∈ _
        rw [h3]; exact .head _
      · exact .tail _ h3
    · rcases List.mem_cons.mp hy with rfl | hy
      · exact h1
      · exact h2 y hy
theorem ints_items : ∀ {ns : List Int} {its : List Value}, Vals (ns.map V.int) its → ∃ xs : Array (Int × Tok), its.toArray = intItems xs ∧ xs.toList.map (·.1) = ns
  | [], _, .nil => ⟨#[], by simp [intItems], rfl⟩
  | n :: ns, _, .cons (l₂ := its) r t => by
    obtain ⟨xs, e1, e2⟩ := ints_items (ns := ns) t
    obtain ⟨tk, rfl⟩ := r
    refine ⟨((n, tk) :: xs.toList).toArray, ?_, ?_⟩
    · have : its = xs.toList.map (fun p => Value.int p.1 p.2) := by
        have := congrArg Array.toList e1
        simpa [intItems] using this
      simp [intItems, this]
    · simp [e2]
theorem numAt_get {xs : Array (Int × Tok)} {ns : List Int} (e : xs.toList.map (·.1) = ns) {i : Nat} (hi : i < xs.size) : numAt xs i ∈ ns ∧ numAt xs i = ns.getD i 0 := by
  subst e
  unfold numAt
  rw [Array.getElem?_eq_getElem hi]
  refine ⟨List.mem_map.mpr ⟨xs[i], by simp, rfl⟩, ?_⟩
  simp [hi]
theorem mem_numAt {xs : Array (Int × Tok)} {ns : List Int} (e : xs.toList.map (·.1) = ns) {y : Int} (hy : y ∈ ns) : ∃ i, i < xs.size ∧ numAt xs i = y := by
  subst e
  obtain ⟨p, hp, rfl⟩ := List.mem_map.mp hy
  obtain ⟨i, hi, e⟩ := List.mem_iff_getElem.mp hp
  refine ⟨i, by simpa using hi, ?_⟩
  unfold numAt
  have hi' : i < xs.size := by simpa using hi
  rw [Array.getElem?_eq_getElem hi']
  have : xs[i] = p := by simpa using e
  rw [this]; rfl
theorem best_max {xs : Array (Int × Tok)} {ns : List Int} (e : xs.toList.map (·.1) = ns) (h : 0 < xs.size) : numAt xs (argBest (fun i j => decide (numAt xs i > numAt xs j)) (xs.size - 1)) = maxL ns := by
  obtain ⟨h1, h2⟩ := argBest_gt (numAt xs) (xs.size - 1)
  have hne : ns ≠ [] := by
    intro z; subst z
    have q := congrArg List.length e
    rw [List.length_map, Array.length_toList, List.length_nil] at q
    omega
  obtain ⟨m1, m2⟩ := maxL_mem hne
  refine Int.le_antisymm (m2 _ (numAt_get e (by omega)).1) ?_
  obtain ⟨i, hi, ei⟩ := mem_numAt e m1
  rw [← ei]; exact h2 i (by omega)
theorem best_min {xs : Array (Int × Tok)} {ns : List Int} (e : xs.toList.map (·.1) = ns) (h : 0 < xs.size) : numAt xs (argBest (fun i j => decide (numAt xs i < numAt xs j)) (xs.size - 1)) = minL ns := by
  obtain ⟨h1, h2⟩ := argBest_lt (numAt xs) (xs.size - 1)
  have hne : ns ≠ [] := by
    intro z; subst z
    have q := congrArg List.length e
    rw [List.length_map, Array.length_toList, List.length_nil] at q
    omega
  obtain ⟨m1, m2⟩ := minL_mem hne
  refine Int.le_antisymm ?_ (m2 _ (numAt_get e (by omega)).1)
  obtain ⟨i, hi, ei⟩ := mem_numAt e m1
  rw [← ei]; exact h2 i (by omega)
section
variable {X : Cx} {e d : Expr} {te td : TE} {p pos kp : Pos}
def mmV (f : List Int → Int) : List Int → V → V
  | [], y => y
  | n :: ns, _ => .int (f (n :: ns))
def tMM (K : PySem.W.Frag) (f : List Int → Int) (te td : TE) : TE := fun σ H Q => te σ H fun x H1 => td σ H1 fun y H2 => ∃ a ns, x = .ref a ∧ SqL K H2 a (ns.map V.int) ∧ Q (mmV f ns y) H2
theorem call_maxL (hc : X.calm = true) : CallR X (.builtin "max") (fun xs H Q => ∃ a ns, xs = [.ref a] ∧ SqL X.K H a (ns.map V.int) ∧ ns ≠ [] ∧ Q (.int (maxL ns)) H) := by
  intro pins s σ H xs us Q I r h
  obtain ⟨a, ns, rfl, hS, hne, q⟩ := h
  obtain ⟨u, rfl, ru⟩ := vals1 r
  cases ru
  obtain ⟨its, rv, hp, _⟩ := I.list hS
  obtain ⟨xs, e1, e2⟩ := ints_items rv
  obtain ⟨o, n, ho, hcl, _, hdt⟩ := hp
  have hl : s.heap.IsList a (intItems xs) := ⟨o, ho, hcl, n, by rw [hdt, e1]⟩
  have len : xs.size = ns.length := by rw [← e2, List.length_map]; simp
  have hpos : 0 < xs.size := by rw [len]; exact List.length_pos_iff.mpr hne
  refine max_intList (I.ok.hd hc) hl hpos fun v h' tk hv hk => ⟨.int (maxL ns), H, I.kept hk, ?_, q⟩
  obtain ⟨t, rfl⟩ := intItems_at hv
  exact ⟨t, by rw [best_max e2 hpos]⟩
theorem call_minL (hc : X.calm = true) : CallR X (.builtin "min") (fun xs H Q => ∃ a ns, xs = [.ref a] ∧ SqL X.K H a (ns.map V.int) ∧ ns ≠ [] ∧ Q (.int (minL ns)) H) := by
  intro pins s σ H xs us Q I r h
  obtain ⟨a, ns, rfl, hS, hne, q⟩ := h
  obtain ⟨u, rfl, ru⟩ := vals1 r
  cases ru
  obtain ⟨its, rv, hp, _⟩ := I.list hS
  obtain ⟨xs, e1, e2⟩ := ints_items rv
  obtain ⟨o, n, ho, hcl, _, hdt⟩ := hp
  have hl : s.heap.IsList a (intItems xs) := ⟨o, ho, hcl, n, by rw [hdt, e1]⟩
  have len : xs.size = ns.length := by rw [← e2, List.length_map]; simp
  have hpos : 0 < xs.size := by rw [len]; exact List.length_pos_iff.mpr hne
  refine min_intList (I.ok.hd hc) hl hpos fun v h' tk hv hk => ⟨.int (minL ns), H, I.kept hk, ?_, q⟩
  obtain ⟨t, rfl⟩ := intItems_at hv
  exact ⟨t, by rw [best_min e2 hpos]⟩
end
end Gz
set_option Elab.async false
set_option linter.all false
set_option maxRecDepth 100000
set_option maxHeartbeats 4000000
namespace Gz
open PySem PySem.Spec PyProof.Rows L2
local macro_rules | `(tactic| walk_at "om") => `(tactic| ((try simp only [PySem.Addr] at *); omega))
section
variable {prog : Program} {w : World} {A : Around} {E : Value → Shared → Prop} {s : Shared}
end
def keyGo (sp : Sp) : List V → List V → Hp → (List V → Hp → Prop) → Prop
  | [], ks, H, Q => Q ks H
  | x :: r, ks, H, Q => sp [x] H (fun k H1 => keyGo sp r (ks ++ [k]) H1 Q) E0
def KeyT (K : PySem.W.Frag) (H : Hp) : List V → List (List Int) → Prop
  | [], [] => True
  | k :: ks, n :: ns => (∃ p, k = .ref p ∧ SqT K H p (n.map V.int) ∧ n ≠ []) ∧ KeyT K H ks ns
  | _, _ => False
theorem KeyT.len {K : PySem.W.Frag} {H : Hp} : ∀ {ks : List V} {ns : List (List Int)}, KeyT K H ks ns → ks.length = ns.length
  | [], [], _ => rfl
  | _ :: _, _ :: _, h => by simp [KeyT.len h.2]
  | [], _ :: _, h => h.elim
  | _ :: _, [], h => h.elim
section
variable {X : Cx} {pins : List (Addr × Obj)} {σ : L2.St} {H : Hp} {s : Shared}
theorem KeyT.tups (I : Inv X pins σ H s) : ∀ {ks : List V} {ns : List (List Int)} {us : List Value}, KeyT X.K H ks ns → Vals ks us → ∃ fs, PySem.W.KatTups s.heap us fs ∧ fs.length = us.length ∧ ∀ v ∈ fs, ∃ i t, v = .int i t
  | [], [], _, _, .nil => ⟨[], trivial, rfl, fun _ z => (nomatch z)⟩
  | k :: ks, n :: ns, _, h, .cons r rs => by
    obtain ⟨⟨p, rfl, hp, hn⟩, h⟩ := h
    cases r
    obtain ⟨fs, a, b, c⟩ := KeyT.tups I h rs
    obtain ⟨its, rv, ⟨o, ho, hc, m, hd⟩, _⟩ := I.tuple hp
    cases n with
    | nil => exact absurd rfl hn
    | cons z zs =>
      cases rv with
      | cons r1 r2 =>
        obtain ⟨t, rfl⟩ := r1
        refine ⟨.int z t :: fs, PySem.W.KatTups.cons ho hc hd (by simp) a, by simp [b], fun v hv => ?_⟩
        rcases List.mem_cons.mp hv with rfl | hv
        · exact ⟨_, _, rfl⟩
        · exact c v hv
  | [], _ :: _, _, h, _ => h.elim
  | _ :: _, [], _, h, _ => h.elim
def ltK (kis : List (List Int)) (i j : Nat) : Bool := HT.lexLt (kis.getD i []) (kis.getD j [])
def sortL {α : Type} (kis : List (List Int)) (d : α) (as : List α) : List α := (sortIx (ltK kis) as.length).toList.map fun i => as.getD i d
end
section
variable {X : Cx} {pins : List (Addr × Obj)} {σ : L2.St} {H : Hp} {s : Shared} {CX : CXT} {k : Nat} {fa a : Addr} {fd : FuncData} {y : Str} {sp : Sp} {xs : List V} {Q : VK}
def rSortK (K : PySem.W.Frag) (sp : Sp) (x : V) (H1 : Hp) (Q : VK) : Prop := ∃ (a : Addr) (xs : List V), x = .ref a ∧ SqL K H1 a xs ∧ xs.length < 64 ∧ keyGo sp xs [] H1 fun ks H2 => ∃ kis, KeyT K H2 ks kis ∧ ∀ l, H2 l = none → Q (.ref l) (upd H2 l (.lst (sortL kis .non xs)))
def tSortK (K : PySem.W.Frag) (sp : Sp) (te : TE) : TE := fun σ H Q => te σ H fun x H1 => rSortK K sp x H1 Q
end
end Gz
set_option Elab.async false
set_option linter.all false
set_option maxRecDepth 100000
set_option maxHeartbeats 4000000
namespace Gz
open PySem PySem.Spec PyProof.Rows L2
local macro_rules | `(tactic| walk_at "om") => `(tactic| ((try simp only [PySem.Addr] at *); omega))
inductive FrOk (X : Cx) (scope : Scope) (cl : List (Str × Addr)) : List Nat → List Str → Prop where
  | nil : FrOk X scope cl [] []
  | cons {j : Nat} {y : Str} {c : Addr} {js : List Nat} {ys : List Str} (hN : X.N[j]? = some y) (hk : X.env.kindOf y = some .cell) (h1 : cl.lookup y = some c) (h2 : X.env.cells.lookup y = some c) (h : FrOk X scope cl js ys) : FrOk X scope cl (j :: js) (y :: ys)
inductive ClOk (X : Cx) : List (Str × Addr) → Prop where
  | nil : ClOk X []
  | cons {n : Str} {a : Addr} {r : List (Str × Addr)} (h : X.env.cells.lookup n = some a) (t : ClOk X r) : ClOk X ((n, a) :: r)
theorem ClOk.get {X : Cx} : ∀ {cl : List (Str × Addr)}, ClOk X cl → ∀ y c, cl.lookup y = some c → X.env.cells.lookup y = some c
  | _, .nil, y, c, e => by simp at e
  | _, .cons (n := n) h t, y, c, e => by
    rw [List.lookup_cons] at e
    by_cases hy : (y == n) = true
    · rw [hy] at e
      have e1 : y = n := by simpa using hy
      cases e
      rw [e1]; exact h
    · rw [Bool.eq_false_iff.mpr hy] at e
      exact t.get y c e
theorem FrOk.get {X : Cx} {scope : Scope} {cl : List (Str × Addr)} {σ : L2.St} : ∀ {js : List Nat} {ys : List Str}, FrOk X scope cl js ys → ∀ (i : Nat) (y : Str) (v : V), ys[i]? = some y → (js.map fun j => (σ[j]?).join)[i]? = some (some v) →
    ∃ (j : Nat) (c : Addr), X.N[j]? = some y ∧ σ[j]? = some (some v) ∧ X.env.kindOf y = some .cell ∧ cl.lookup y = some c ∧ X.env.cells.lookup y = some c
  | _, _, .nil, i, y, v, e, _ => by simp at e
  | _, _, .cons (j := j) hN hk h1 h2 h, 0, y, v, e, q => by
    simp at e q
    subst e
    refine ⟨j, _, hN, ?_, hk, h1, h2⟩
    cases z : σ[j]? with
    | none => rw [z] at q; simp at q
    | some o => rw [z] at q; simp at q; rw [q]
  | _, _, .cons hN hk h1 h2 h, i + 1, y, v, e, q => by
    simp only [List.getElem?_cons_succ, List.map_cons] at e q
    exact h.get i y v e q
theorem FrOk.len {X : Cx} {scope : Scope} {cl : List (Str × Addr)} : ∀ {js : List Nat} {ys : List Str}, FrOk X scope cl js ys → js.length = ys.length
  | _, _, .nil => rfl
  | _, _, .cons _ _ _ _ h => by simp [h.len]
def cxB (X : Cx) (N' : List Str) (scope : Scope) (cl : List (Str × Addr)) (C : Addr) (s2 : Shared) (H2 : Hp) (ex : List Addr) (pn : List (Addr × Obj)) : Cx :=
  { X with N := N', s₀ := s2, H₀ := H2, env := compEnvC scope cl C X.env, outer := X.stack, ex := ex, fn := fun _ => false, pn := pn, xe := fun _ _ => False }
structure CompOk (X : Cx) (x : Str) (scope : Scope) (cl : List (Str × Addr)) (fr : List Nat) (ys : List Str) : Prop where
  clos : closureFor scope X.env = pure cl
  nocell : (scope.names.all fun p => p.2 != .cell) = true
  kind : scope.kind = .function
  names : (scope.names.all fun p => p.2 != .local || scope.names.lookup p.1 == some .local) = true
  own : scope.names.lookup x = some .local
  kinds : ((relabel scope X.env).names.all fun p => (p.2 != .cell && p.2 != .free) || (cl.lookup p.1).isSome) = true
  cls : ClOk X cl
  frs : FrOk X scope cl fr ys
  nd : (x :: ys).Nodup
  kfr : (ys.all fun y => (relabel scope X.env).names.lookup y == some .cell) = true
def PTs (X : Cx) (ifs : List Expr) (t : TT) : Prop :=
  ∀ (pins : List (Addr × Obj)) (s : Shared) (σ : L2.St) (H : Hp) (Q : Bool → Hp → Prop), Inv X pins σ H s → t σ H Q →
    wpAny (model X.prog X.w) X.A (forIn ifs true fun c r => if r = true then do let ok ← isTrue c X.env (eval c X.env); pure (ForInStep.yield ok) else pure (ForInStep.yield r)) (TP X pins σ Q) X.xe s
def tAll : TT := fun _ H Q => Q true H
theorem pts_nil {X : Cx} : PTs X [] tAll := fun _ _ _ H _ I h => wpAny_tests_nil ⟨H, I, h⟩
theorem pts_one {X : Cx} {c : Expr} {t : TT} (hc : PT X c t) : PTs X [c] t := fun pins s σ H Q I h => wpAny_tests_one (hc pins s σ H Q I h)
def tBlk (J : It) (ρ : L2.St) (tt : TT) (te : TE) (H : Hp) (Q : VK) : Prop := ∃ W : Nat → Nat → List V → Hp → Prop, (∃ m, W 0 m [] H) ∧ ∀ i m ys H, W i m ys H →
  (J.stop i H ∧ ys.length ≤ sizeLine ∧ ∀ l, H l = none → Q (.ref l) (upd H l (.lst ys))) ∨ (J.go i H ∧ ys.length < sizeLine ∧ ∃ N : List V → Hp → Prop, (∀ zs H', N zs H' → ∃ m', m' < m ∧ W (i + 1) m' zs H') ∧
    ∀ x H', J.yld i H x H' → tt (some x :: ρ) H' fun b H1 => if b = true then te (some x :: ρ) H1 fun y H2 => N (ys ++ [y]) H2 else N ys H1)
def tComp (wi : TI) (fr : List Nat) (tt : TT) (te : TE) : TE := fun σ H Q => wi σ H fun J H1 => tBlk J (fr.map fun j => (σ[j]?).join) tt te H1 Q
section
variable {X : Cx} {pins : List (Addr × Obj)} {σ : L2.St} {H2 : Hp} {s2 : Shared} {x : Str} {px pos : Pos} {elt iter : Expr} {ifs : List Expr} {scope : Scope} {cl : List (Str × Addr)} {fr : List Nat} {ys : List Str} {tt : TT} {te : TE}
theorem look_in {l : List (Str × NameKind)} {p : Str × NameKind → Bool} (h : l.all p = true) {y : Str} {k : NameKind} (e : l.lookup y = some k) : p (y, k) = true := by
  exact List.all_eq_true.mp h _ (PySem.mem_of_lookup e)
theorem cxB_ok {C : Addr} {ex : List Addr} {pn : List (Addr × Obj)} (S : CompOk X x scope cl fr ys) (I2 : Inv X pins σ H2 s2) (f2 : ∀ b ∈ ex, FpOk X pins H2 b) (hC : s2.heap.objs.size ≤ C) (hex : ∀ b ∈ ex, b < s2.heap.objs.size) : (cxB X (x :: ys) scope cl C s2 H2 ex pn).Ok := by
  refine ⟨I2.ok.mod, S.kind, I2.ok.glob, I2.ok.blt, hC, fun a b c h1 h2 => ?_, fun y hy => ?_, fun _ _ z => (nomatch z), I2.ok.hd, I2.ok.frames, .inl rfl, fun b hb => ⟨?_, fun y c e z => ?_⟩, I2.bs, Nat.le_trans I2.ok.bsz I2.sz, fun b o e hb => ?_, fun b hb z => ?_, I2.stack, I2.stkFree⟩
  · exact I2.ok.inj a b c (S.cls.get a c h1) (S.cls.get b c h2)
  · have hy' : (relabel scope X.env).names.lookup y = some .cell ∨ (relabel scope X.env).names.lookup y = some .free := hy
    have q : (cl.lookup y).isSome = true := by
      rcases hy' with e | e
      · simpa using look_in S.kinds e
      · simpa using look_in S.kinds e
    exact Option.isSome_iff_exists.mp q
  · exact Nat.ne_of_lt (Nat.lt_of_lt_of_le (hex b hb) hC)
  · exact (f2 b hb).2.2.2.2.1 y c (S.cls.get y c e) z
  · obtain ⟨_, _, _, d, _, _⟩ := f2 b hb
    rcases d with d | d
    · exact I2.ok.noex b o e d
    · exact absurd (Nat.lt_of_lt_of_le (Heap.lt_size e) (Nat.le_trans I2.ok.bsz d)) (Nat.lt_irrefl _)
  · obtain ⟨_, d1, d2, _⟩ := f2 b hb
    rcases List.mem_cons.mp (I2.stkSub b z) with q | q
    · exact d1 q
    · exact d2 q
theorem comp_block {J : It} {fp : List Addr} {it : Addr} {tn : Nat → Heap → Prop} {E : Value → Shared → Prop} {Q : VK} {RR : Value → Addr → Result → Shared → Prop}
    (S : CompOk X x scope cl fr ys) (hc : X.calm = true)
    (hb : ∀ (C : Addr) (s : Shared) (H : Hp) (ex : List Addr) (pn : List (Addr × Obj)), PTs (cxB X (x :: ys) scope cl C s H ex pn) ifs tt ∧ PE (cxB X (x :: ys) scope cl C s H ex pn) elt te)
    (I2 : Inv X pins σ H2 s2) (T : Turn X.prog X.w X.K (.Name x px) J fp it tn) (st2 : tn 0 s2.heap) (f2 : ∀ b ∈ fp, FpOk X pins H2 b)
    (h : tBlk J (fr.map fun j => (σ[j]?).join) tt te H2 Q)
    (hRR : ∀ D C s' H', Inv X pins σ H' s' → (∃ m, s'.heap.Ns C m) → FpOk X pins H' C → Q (.ref D) H' → RR (.ref D) C (.ok .next) s') :
    wpAny (model X.prog X.w) X.A (newList []) (fun acc s3 => wpAny (model X.prog X.w) X.A (newFunctionEnv scope X.env.globals cl [] X.env.qual none .none (some X.env)) (fun cenv s4 =>
      codeAny (model X.prog X.w) X.A (.compStart (.ListComp elt [⟨.Name x px, iter, ifs, 0⟩] scope pos) 0 (.ref it) acc { cenv with scope := relabel scope X.env }) (RR acc cenv.locals) s4) E s3) E s2 := by
  obtain ⟨W, ⟨m0, w0⟩, turn⟩ := h
  refine wpAny_newObj_type (wpAny_newFunctionEnv (fun y hy => by simpa using List.all_eq_true.mp S.nocell y hy) (fun y hy => absurd hy (by simp)) (fun h1 hns hsb => ?_) S.kind)
  dsimp only at hns hsb ⊢
  generalize eP : s2.heap.push { cls := .type "list", dict := none, data := .seq ([] : List Value).toArray } = P2 at hns hsb ⊢
  have sz : P2.objs.size = s2.heap.objs.size + 1 := by rw [← eP, Heap.size_push]
  have hDC : s2.heap.objs.size ≠ P2.objs.size := by walk_at "om"
  have keep : ∀ b o, s2.heap.get? b = some o → h1.get? b = some o := fun b o e => by
    have lt := Heap.lt_size e
    exact hsb.extBut b o (by walk_at "om") (Heap.get?_push_of_some _ (eP ▸ Heap.get?_push_of_some _ e))
  have hD : h1.get? s2.heap.objs.size = some { cls := .type "list", data := .seq ([] : List Value).toArray 0 } :=
    hsb.extBut _ _ hDC (Heap.get?_push_of_some _ (eP ▸ Heap.get?_push_size _ rfl))
  have hfp : ∀ b ∈ fp, b < s2.heap.objs.size := fun b hb => by
    obtain ⟨o, e, _⟩ := T.obj 0 _ st2 b hb
    exact Heap.lt_size e
  have noStk : ∀ b, s2.heap.objs.size ≤ b → b ∉ frs X.stack := fun b hle z => by
    rcases List.mem_cons.mp (I2.stkSub b z) with q | q
    · have := I2.lt; walk_at "om"
    · exact I2.nofs hle q
  generalize eC : P2.objs.size = C at hns hsb hDC ⊢
  generalize eD : s2.heap.objs.size = D at hDC hD hfp noStk
  have hCle : s2.heap.objs.size ≤ C := by walk_at "om"
  have hDle : s2.heap.objs.size ≤ D := by walk_at "om"
  have ok' : (cxB X (x :: ys) scope cl C s2 H2 fp (X.pn ++ pins)).Ok := cxB_ok S I2 f2 hCle (fun b hb => by have := hfp b hb; walk_at "om")
  have pinsOk : ∀ p ∈ X.pn ++ pins, p.1 ≠ C ∧ p.1 ≠ D ∧ p.1 ∉ frs X.stack ∧ ∀ b ∈ fp, p.1 ≠ b := fun p hp => by
    obtain ⟨e, n, nL, nf, _⟩ := I2.pin p hp
    have lt := Heap.lt_size e
    refine ⟨by walk_at "om", by walk_at "om", fun z => ?_, fun b hb => (f2 b hb).2.2.2.2.2 p hp⟩
    rcases List.mem_cons.mp (I2.stkSub _ z) with q | q
    · exact nL q
    · exact nf q
  have I4 : Inv (cxB X (x :: ys) scope cl C s2 H2 fp (X.pn ++ pins)) [] (none :: fr.map fun j => (σ[j]?).join) H2 { s2 with heap := h1, toks := s2.toks + ([] : List (Str × Value)).length } := by
    refine ⟨ok', rfl, I2.bare, Un.kept keep, ⟨_, hns, fun i y v e1 e2 e3 => ?_⟩, fun y c e => ?_, I2.hok.fresh hCle, fun y c e => I2.freeC y c (S.cls.get y c e), fun p hp => ?_, I2.hok.kept keep, ?_⟩
    · cases i with
      | zero => simp at e2
      | succ i =>
        simp only [List.getElem?_cons_succ] at e1 e2
        have e1' : ys[i]? = some y := e1
        obtain ⟨j, c, hN, hσ, hk, hc1, hc2⟩ := S.frs.get i y v e1' e2
        obtain ⟨m, hm, hl⟩ := I2.loc
        obtain ⟨u, ru, lu⟩ := hl j y v hN hσ (.inr (.inl hk))
        refine ⟨u, ru, .inr ⟨.inl ?_, c, hc1, ?_⟩⟩
        · have z := List.all_eq_true.mp S.kfr y (List.mem_of_getElem? e1')
          exact (by simpa using z : (relabel scope X.env).names.lookup y = some .cell)
        · rcases lu with ⟨z, _⟩ | ⟨_, c', e', q'⟩
          · rw [hk] at z; cases z
          · rw [hc2] at e'; cases e'
            obtain ⟨o, ho, hd⟩ := q'
            exact ⟨o, keep _ _ ho, hd⟩
    · obtain ⟨v, o, ho, hd⟩ := I2.cell y c (S.cls.get y c e)
      exact ⟨v, o, keep _ _ ho, hd⟩
    · have hp' : p ∈ X.pn ++ pins := by
        have : p ∈ (X.pn ++ pins) ++ [] := hp
        simpa using this
      obtain ⟨e, n, _, _, d⟩ := I2.pin p hp'
      obtain ⟨p1, _, p3, _⟩ := pinsOk p hp'
      exact ⟨keep _ _ e, n, p1, p3, d⟩
    · show (none :: fr.map fun j => (σ[j]?).join).length = (x :: ys).length
      simp [S.frs.len]
  have st4 : tn 0 h1 := T.keep 0 _ _ st2 fun b _ o e => keep b o e
  have fpB : ∀ (H' : Hp) (o : Obj), (∀ b ∈ fp, H' b = none) → ∀ b ∈ fp, FpOk (cxB X (x :: ys) scope cl C s2 H2 fp (X.pn ++ pins)) [(D, o)] H' b := fun H' o hn b hb => by
    obtain ⟨_, d1, d2, d3, d4, d5⟩ := f2 b hb
    have lt := hfp b hb
    refine ⟨hn b hb, ?_, fun z => ?_, .inl hb, fun y c e => d4 y c (S.cls.get y c e), fun p hp => ?_⟩
    · show b ≠ C
      walk_at "om"
    · rcases List.mem_cons.mp (I2.stkSub b z) with q | q
      · exact d1 q
      · exact d2 q
    · have hp' : p ∈ (X.pn ++ pins) ++ [(D, o)] := hp
      rcases List.mem_append.mp hp' with z | z
      · exact d5 p z
      · have : p = (D, o) := by simpa using z
        subst this
        show D ≠ b
        walk_at "om"
  have loop : ∀ s' : Shared, s' = { s2 with heap := h1, toks := s2.toks + ([] : List (Str × Value)).length } →
      codeAny (model X.prog X.w) X.A (.compLoop (.ListComp elt [⟨.Name x px, iter, ifs, 0⟩] scope pos) 0 (.ref it) (.ref D) (compEnvC scope cl C X.env)) (RR (.ref D) C) s' := by
    rintro s' rfl
    refine codeAny_compLoop_tests (fun n s' => ∃ i zs H' o its nn, Inv (cxB X (x :: ys) scope cl C s2 H2 fp (X.pn ++ pins)) [] (o :: fr.map fun j => (σ[j]?).join) H' s' ∧ tn i s'.heap ∧ (∀ b ∈ fp, H' b = none) ∧ H' D = none ∧
      s'.heap.get? D = some { cls := .type "list", data := .seq (its : List Value).toArray nn } ∧ Vals zs its ∧ W i n zs H') ?_ m0 ⟨0, [], H2, none, [], 0, I4, st4, fun b hb => (f2 b hb).1, I2.hok.fresh hDle, hD, .nil, w0⟩
    rintro n s3 ⟨i, zs, H3, o3, its, nn, I3, st3, fr3, hD3, oD3, r3, w3⟩
    have I3' : Inv (cxB X (x :: ys) scope cl C s2 H2 fp (X.pn ++ pins)) [(D, { cls := .type "list", data := .seq its.toArray nn })] (o3 :: fr.map fun j => (σ[j]?).join) H3 s3 := I3.pins_of fun p hp => by
      have : p = (D, { cls := .type "list", data := .seq its.toArray nn }) := by simpa using hp
      subst this
      exact ⟨oD3, hD3, hDC, noStk D (Nat.le_refl _), fun v z => nomatch z⟩
    rcases turn i n zs H3 w3 with ⟨stop, hlen, q⟩ | ⟨go, hlen, N, hNN, step⟩
    · refine wpAny_mono (T.done (cxB X (x :: ys) scope cl C s2 H2 fp (X.pn ++ pins)) rfl rfl rfl hc i _ s3 _ H3 (fun _ _ => False) I3' (fpB H3 _ fr3) st3 stop) (fun r s4 ⟨hr, J4⟩ => ?_) fun _ _ z => z.elim
      subst hr
      have un := J4.base
      have neD : ∀ b o, s2.heap.get? b = some o → b ≠ D := fun b o e => by have := Heap.lt_size e; walk_at "om"
      have neH : ∀ b u, H3 b = some u → b ≠ D := fun b u e z => by rw [z, hD3] at e; cases e
      refine hRR D C s4 (upd H3 D (.lst zs)) ?_ ?_ ?_ (q D hD3)
      · refine I2.call' (ch := fp) J4.os ⟨un.keep, un.slot, fun b o e nn hx => ?_, un.there, fun b xs e => ?_, fun b o u e => ?_, fun b ps e => ?_⟩ (fun a o e => ?_) J4.bare fun b hb => ?_
        · rw [upd_ne (neD b o e)]; exact un.free b o e nn hx
        · have := un.tups b xs e; rw [upd_ne (neH b _ this)]; exact this
        · have := un.frzs b o u e; rw [upd_ne (neH b _ this)]; exact this
        · obtain ⟨more, this⟩ := un.tbls b ps e
          exact ⟨more, by rw [upd_ne (neH b _ this)]; exact this⟩
        · by_cases ha : a = D
          · subst ha
            rw [upd_same] at e; cases e
            exact ⟨hlen, its, nn, r3, (J4.pin (a, _) (List.mem_append_right _ (List.mem_singleton.mpr rfl))).1⟩
          · rw [upd_ne ha] at e
            exact (J4.hok a o e).stay (fun _ _ _ z => z) (fun b z => by rw [upd_ne (neH b _ z)]; exact z) fun b xs z => by rw [upd_ne (neH b _ z)]; exact z
        · obtain ⟨_, d1, d2, d3, d4, d5⟩ := f2 b hb
          exact ⟨d3, d1, d4, d5⟩
      · obtain ⟨m, hm, _⟩ := J4.loc
        exact ⟨m, hm⟩
      · exact I2.fpOk hCle (by rw [upd_ne (Ne.symm hDC)]; exact J4.free)
    · refine wpAny_mono (T.item (cxB X (x :: ys) scope cl C s2 H2 fp (X.pn ++ pins)) rfl rfl rfl hc i _ s3 _ H3 (fun _ _ => False) I3' (fpB H3 _ fr3) st3 go) (fun r s4 ⟨u, hr, h4⟩ => ?_) fun _ _ z => z.elim
      subst hr
      have go' : wpAny (model X.prog X.w) X.A (letOwnedTupleGo (.Name x px) (.ref it) u >>= fun _ => assign (.Name x px) (compEnvC scope cl C X.env) u) (fun _ s5 =>
          wpAny (model X.prog X.w) X.A (forIn ifs true fun c r => if r = true then do let ok ← isTrue c (compEnvC scope cl C X.env) (eval c (compEnvC scope cl C X.env)); pure (ForInStep.yield ok) else pure (ForInStep.yield r)) (fun ok s6 =>
            if ok = true then wpAny (model X.prog X.w) X.A (eval elt (compEnvC scope cl C X.env)) (fun y s7 =>
              wpAny (model X.prog X.w) X.A (call (.builtin "list.append") [.ref D, y]) (fun _ s8 => ∃ m, m < n ∧ ∃ i zs H' o its nn, Inv (cxB X (x :: ys) scope cl C s2 H2 fp (X.pn ++ pins)) [] (o :: fr.map fun j => (σ[j]?).join) H' s8 ∧ tn i s8.heap ∧ (∀ b ∈ fp, H' b = none) ∧ H' D = none ∧
                s8.heap.get? D = some { cls := .type "list", data := .seq (its : List Value).toArray nn } ∧ Vals zs its ∧ W i m zs H') (fun _ _ => False) s7) (fun _ _ => False) s6
            else ∃ m, m < n ∧ ∃ i zs H' o its nn, Inv (cxB X (x :: ys) scope cl C s2 H2 fp (X.pn ++ pins)) [] (o :: fr.map fun j => (σ[j]?).join) H' s6 ∧ tn i s6.heap ∧ (∀ b ∈ fp, H' b = none) ∧ H' D = none ∧
                s6.heap.get? D = some { cls := .type "list", data := .seq (its : List Value).toArray nn } ∧ Vals zs its ∧ W i m zs H') (fun _ _ => False) s5) (fun _ _ => False) s4 := by
        refine wpAny_bind (thn h4 fun _ s5 ⟨y5, H5, I5, r5, yl, st5, fr5⟩ => ?_)
        have I5' := I5.pinned (fpB H5 _ fr5) (T.obj _ _ st5)
        refine thn (pg_name (X := cxB X (x :: ys) scope cl C s2 H2 fp (X.pn ++ pins)) (i := 0) S.nd rfl (.inl (lookup_relabel_local S.own)) (.inr (lookup_relabel_local S.own)) _ s5 _ H5 y5 u (fun σ' H' => σ' = (some y5 :: fr.map fun j => (σ[j]?).join) ∧ H' = H5) I5' r5 ⟨rfl, rfl⟩) fun _ s6 ⟨σ6, H6, I6, e6, e6'⟩ => ?_
        subst e6 e6'
        have after : ∀ (s7 : Shared) (H7 : Hp), Inv (cxB X (x :: ys) scope cl C s2 H2 fp (X.pn ++ pins)) ([(D, { cls := .type "list", data := .seq its.toArray nn })] ++ pinsAt fp s5.heap) (some y5 :: fr.map fun j => (σ[j]?).join) H7 s7 →
            Inv (cxB X (x :: ys) scope cl C s2 H2 fp (X.pn ++ pins)) [] (some y5 :: fr.map fun j => (σ[j]?).join) H7 s7 ∧ tn (i + 1) s7.heap ∧ (∀ b ∈ fp, H7 b = none) ∧ H7 D = none ∧ s7.heap.get? D = some { cls := .type "list", data := .seq its.toArray nn } := fun s7 H7 I7 => by
          have pD := I7.pin (D, { cls := .type "list", data := .seq its.toArray nn }) (List.mem_append_right _ (List.mem_append_left _ (List.mem_singleton.mpr rfl)))
          refine ⟨I7.pins_of fun p hp => absurd hp (by simp), T.keep _ _ _ st5 fun b hb o e => (I7.pin (b, o) (List.mem_append_right _ (List.mem_append_right _ (mem_pinsAt hb e)))).1, fun b hb => ?_, pD.2.1, pD.1⟩
          obtain ⟨o, e, _⟩ := T.obj _ _ st5 b hb
          exact (I7.pin (b, o) (List.mem_append_right _ (List.mem_append_right _ (mem_pinsAt hb e)))).2.1
        refine thn ((hb C s2 H2 fp (X.pn ++ pins)).1 _ s6 _ H6 _ I6 (step y5 H6 yl)) fun ok s7 ⟨H7, I7, q7⟩ => ?_
        dsimp only at q7
        by_cases hok : ok = true
        · rw [if_pos hok] at q7 ⊢
          refine thn ((hb C s2 H2 fp (X.pn ++ pins)).2 _ s7 _ H7 _ I7 q7) fun yv s8 ⟨y8, H8, I8, r8, n8⟩ => ?_
          obtain ⟨m', hm', w8⟩ := hNN _ _ n8
          obtain ⟨J8, st8, fr8, hD8, oD8⟩ := after s8 H8 I8
          have hl := r3.length
          refine call_meets F.slot_list_append ⟨_, oD8, rfl⟩ F.entry_list_append (F.args_list_append_2 _ _) (PySem.list_append D its.toArray nn yv (by rw [List.size_toArray]; walk_at "om")) ⟨oD8, ?_⟩
          have oD9 := PySem.IsL.update oD8 (fun a => a.push yv)
          rw [List.push_toArray] at oD9
          refine ⟨m', hm', i + 1, zs ++ [y8], H8, some y5, its ++ [yv], _, J8.turned (it := D) (fun b o hb' e => (Heap.get?_update_other _ _ (Ne.symm hb')).trans e) hD8 hDC (.inr hDle) (fun y c e z => ?_) (fun p hp => ?_), T.keep _ _ _ st8 fun b hb' o e => ?_, fr8, hD8, oD9, r3.append (.cons r8 .nil), w8⟩
          · obtain ⟨v, o, ho, _⟩ := I2.cell y c (S.cls.get y c e)
            have := Heap.lt_size ho
            walk_at "om"
          · have hp' : p ∈ X.pn ++ pins := by
              have : p ∈ (X.pn ++ pins) ++ [] := hp
              simpa using this
            exact (pinsOk p hp').2.1
          · have := hfp b hb'
            exact (Heap.get?_update_other _ _ (by walk_at "om")).trans e
        · rw [if_neg hok] at q7 ⊢
          obtain ⟨m', hm', w7⟩ := hNN _ _ q7
          obtain ⟨J7, st7, fr7, hD7, oD7⟩ := after s7 H7 I7
          exact ⟨m', hm', i + 1, zs, H7, some y5, its, nn, J7, st7, fr7, hD7, oD7, r3, w7⟩
      have e0 : (letOwnedTupleGo (.Name x px) (.ref it) u >>= fun _ => assign (.Name x px) (compEnvC scope cl C X.env) u) = assign (.Name x px) (compEnvC scope cl C X.env) u := rfl
      rw [e0] at go'
      refine wpAny_mono go' (fun _ s5 h5 => wpAny_mono h5 (fun ok s6 h6 => ?_) fun _ _ z => z.elim) fun _ _ z => z.elim
      by_cases hok : ok = true
      · rw [if_pos hok] at h6 ⊢
        exact wpAny_mono h6 (fun y s7 h7 => wpAny_mono h7 (fun _ _ z => z) fun _ _ z => z.elim) fun _ _ z => z.elim
      · rw [if_neg hok] at h6 ⊢
        exact h6
  exact codeAny_compStart_list (loop _ rfl) (T.self X.A 0 _ _ _ st4 (loop _ rfl))
theorem pe_comp {wi : TI} (S : CompOk X x scope cl fr ys) (hc : X.calm = true) (hi : PI X (.Name x px) iter wi)
    (hb : ∀ (C : Addr) (s : Shared) (H : Hp) (ex : List Addr) (pn : List (Addr × Obj)), PTs (cxB X (x :: ys) scope cl C s H ex pn) ifs tt ∧ PE (cxB X (x :: ys) scope cl C s H ex pn) elt te)
    (hs : ∀ z, foldedSetIterable iter X.env z = pure z := by intro _; rfl) : PE X (.ListComp elt [⟨.Name x px, iter, ifs, 0⟩] scope pos) (tComp wi fr tt te) := by
  intro pins s σ H Q I h
  rw [eval_ListComp]
  refine wpAny_comprehension_free (use := none) rfl hs S.clos S.kind (fun y hy hl => ?_) (thn (hi pins s σ H _ I h) fun xv s1 h1 => thn h1 fun itv s2 h2 => ?_)
  · have z := List.all_eq_true.mp S.names y hy
    rw [hl] at z
    simpa using z
  · obtain ⟨it, fp, tn, J, H2, rfl, I2, T, st2, f2, hB⟩ := h2
    refine comp_block (RR := fun acc C => compPost (model X.prog X.w) X.A X.xe none (EP X pins σ Q) acc C) S hc hb I2 T st2 f2 hB fun D C s' H' J' hn fC q => ?_
    obtain ⟨m, hm⟩ := hn
    obtain ⟨c0, c1, c2, c3, c4, c5⟩ := fC
    exact ⟨m, hm, fun h' sb => ⟨.ref D, H', J'.turned (it := C) (fun b o hb e => sb.extBut b o hb e) c0 c1 c3 c4 c5, rfl, q⟩⟩
def tSetC (i : Nat) (te : TE) : TS := fun D σ H => te σ H fun v H1 => D.nx (σ.set i (some v)) H1
theorem ps_setComp {wi : TI} {y : Str} {py spos : Pos} {i : Nat} (S : CompOk X x scope cl fr ys) (hc : X.calm = true) (hN : X.N.Nodup) (hy : X.N[i]? = some y) (hl : X.env.scope.names.lookup y = some .local) (hi : PI X (.Name x px) iter wi)
    (hb : ∀ (C : Addr) (s : Shared) (H : Hp) (ex : List Addr) (pn : List (Addr × Obj)), PTs (cxB X (x :: ys) scope cl C s H ex pn) ifs tt ∧ PE (cxB X (x :: ys) scope cl C s H ex pn) elt te)
    (hsw : swapsWith (.ListComp elt [⟨.Name x px, iter, ifs, 0⟩] scope pos) (some (.Name y py)) spos.line X.env = pure true := by rfl)
    (hs : ∀ z, foldedSetIterable iter X.env z = pure z := by intro _; rfl) : PS X (.Assign [.Name y py] (.ListComp elt [⟨.Name x px, iter, ifs, 0⟩] scope pos) spos) (tSetC i (tComp wi fr tt te)) := by
  intro pins s σ H Dn I h
  rw [exec_Assign_Name_used _ _ _ _ hsw]
  refine wpAny_bind (wpAny_standAt (wpAny_bind ?_))
  show wpAny _ X.A (do let _ ← comprehension (.ListComp elt [⟨.Name x px, iter, ifs, 0⟩] scope pos) scope X.env _ (newList []) false (eval iter X.env) (some (assign (.Name y py) X.env))) _ _ s
  refine wpAny_bind (thn (wpAny_comprehension_free (use := some (assign (.Name y py) X.env)) (Q := fun _ s' => SP X pins Dn .next s') rfl hs S.clos S.kind (fun z hz hl => ?_) (thn (hi pins s σ H _ I h) fun xv s1 h1 => thn h1 fun itv s2 h2 => ?_)) fun _ s' hq => wpAny_pure (wpAny_pure hq))
  · have z' := List.all_eq_true.mp S.names z hz
    rw [hl] at z'
    simpa using z'
  · obtain ⟨it, fp, tn, J, H2, rfl, I2, T, st2, f2, hB⟩ := h2
    refine comp_block (RR := fun acc C => compPost (model X.prog X.w) X.A X.xe (some (assign (.Name y py) X.env)) (fun _ s' => SP X pins Dn .next s') acc C) S hc hb I2 T st2 f2 hB fun D C s' H' J' hn fC q => ?_
    obtain ⟨m, oC, es, ep, ho, hd, hr⟩ := hn
    obtain ⟨c0, c1, c2, c3, c4, c5⟩ := fC
    have J2 : Inv X (pins ++ [(C, oC)]) σ H' s' := J'.pins_of fun p hp => by
      rcases List.mem_append.mp hp with z | z
      · exact J'.pin p (List.mem_append_right _ z)
      · have : p = (C, oC) := by simpa using z
        subst this
        exact ⟨ho, c0, c1, c2, fun v z => by rw [hd] at z; cases z⟩
    show wpAny _ X.A (assign (.Name y py) X.env (.ref D)) _ _ _
    refine thn (pg_name (X := X) hN hy (.inl hl) (.inr hl) _ s' σ H' (.ref D) (.ref D) (fun σ' H'' => σ' = σ.set i (some (.ref D)) ∧ H'' = H') J2 rfl ⟨rfl, rfl⟩) fun _ s3 ⟨σ3, H3, J3, e1, e2⟩ => ?_
    subst e1 e2
    obtain ⟨pc, pn0, _⟩ := J3.pin (C, oC) (List.mem_append_right _ (List.mem_append_right _ (List.mem_singleton.mpr rfl)))
    refine ⟨m, ⟨oC, es, ep, pc, hd, hr⟩, fun h' sb => ⟨_, H3, J3.unpinned.turned (it := C) (fun b o hb e => sb.extBut b o hb e) c0 c1 c3 c4 c5, q⟩⟩
end
def compGo (Ok : Hp → Prop) (ρ : L2.St) (tt : TT) (te : TE) : List V → List V → Hp → (List V → Hp → Prop) → Prop
  | [], ys, H, Q => Ok H ∧ Q ys H
  | x :: r, ys, H, Q => Ok H ∧ tt (some x :: ρ) H fun b H1 => if b = true then te (some x :: ρ) H1 fun y H2 => compGo Ok ρ tt te r (ys ++ [y]) H2 Q else compGo Ok ρ tt te r ys H1 Q
structure ItOf (J : It) (Ok : Hp → Prop) (xs : List V) : Prop where
  go : ∀ i H x, Ok H → xs[i]? = some x → J.go i H
  yld : ∀ i H x H', Ok H → J.yld i H x H' → H' = H ∧ (i < xs.length → xs[i]? = some x)
  stop : ∀ i H, Ok H → xs.length ≤ i → J.stop i H
section
variable {J : It} {Ok : Hp → Prop} {xs : List V} {ρ : L2.St} {tt : TT} {te : TE} {H : Hp} {Q : VK} {K : PySem.W.Frag} {a : Addr}
theorem blk_of (O : ItOf J Ok xs) (hn : xs.length ≤ sizeLine) (h : compGo Ok ρ tt te xs [] H fun ys H' => ∀ l, H' l = none → Q (.ref l) (upd H' l (.lst ys))) : tBlk J ρ tt te H Q := by
  refine ⟨fun i m ys H => m = xs.length - i ∧ i ≤ xs.length ∧ ys.length ≤ i ∧ compGo Ok ρ tt te (xs.drop i) ys H fun ys H' => ∀ l, H' l = none → Q (.ref l) (upd H' l (.lst ys)), ⟨_, rfl, Nat.zero_le _, Nat.le_refl _, h⟩, ?_⟩
  rintro i m ys H ⟨rfl, hi, hy, g⟩
  by_cases hlt : i < xs.length
  · have e := List.drop_eq_getElem_cons hlt
    rw [e] at g
    obtain ⟨g0, g1⟩ := g
    refine .inr ⟨O.go i H _ g0 (List.getElem?_eq_getElem hlt), by walk_at "om", fun zs H' => zs.length ≤ i + 1 ∧ compGo Ok ρ tt te (xs.drop (i + 1)) zs H' fun ys H' => ∀ l, H' l = none → Q (.ref l) (upd H' l (.lst ys)), fun zs H' q => ⟨_, by walk_at "om", rfl, hlt, q.1, q.2⟩, fun x H' y => ?_⟩
    obtain ⟨rfl, ex⟩ := O.yld i H x H' g0 y
    have ex := ex hlt
    rw [List.getElem?_eq_getElem hlt] at ex
    cases ex
    have l1 : ∀ y : V, (ys ++ [y]).length ≤ i + 1 := fun y => by rw [List.length_append, List.length_singleton]; walk_at "om"
    have l2 : ys.length ≤ i + 1 := by walk_at "om"
    simp only [l1, l2, true_and]
    exact g1
  · have e : i = xs.length := by walk_at "om"
    subst e
    rw [List.drop_length] at g
    exact .inl ⟨O.stop _ H g.1 (Nat.le_refl _), by walk_at "om", g.2⟩
theorem it_list : ItOf (Itl K a) (fun H => SqL K H a xs) xs :=
  ⟨fun _ _ _ h e => ⟨xs, _, h, e⟩, fun _ _ _ _ h y => ⟨y.1, fun _ => y.2 xs h⟩, fun _ _ h hi => ⟨xs, h, hi⟩⟩
theorem it_rng {lo : Int} {n : Nat} : ItOf (Itr lo n) (fun _ => True) ((List.range n).map fun k => V.int (lo + (k : Nat))) :=
  ⟨fun i _ _ _ e => by
    have := (List.getElem?_eq_some_iff.mp e).1
    show i < n
    simpa using this, fun i _ _ _ _ y => ⟨y.1, fun hi => by
      have hi' : i < n := by simpa using hi
      rw [y.2, List.getElem?_map, List.getElem?_range hi']; rfl⟩, fun i _ _ hi => by
      show n ≤ i
      simpa using hi⟩
end
section
variable {X : Cx} {K : PySem.W.Frag}
theorem ix_seqK (h : X.K = K) : IxR X (rIx K) := h ▸ ix_seq
end
end Gz
set_option Elab.async false
set_option linter.all false
set_option maxRecDepth 100000
set_option maxHeartbeats 4000000
namespace Gz
open PySem PySem.Spec PyProof.Rows L2
mutual
inductive Dat (K : PySem.W.Frag) (H : Hp) : V → PyData → Prop where
  | non : Dat K H .non .none
  | bl (b : Bool) : Dat K H (.bl b) (.bool b)
  | int (i : Int) : Dat K H (.int i) (.int i)
  | str (x : Str) : Dat K H (.str x) (.str x)
  | tup {a : Addr} {xs : List V} {ds : List PyData} (h : SqT K H a xs) (r : Dats K H xs ds) : Dat K H (.ref a) (.tuple ds)
  | lst {a : Addr} {xs : List V} {ds : List PyData} (h : SqL K H a xs) (r : Dats K H xs ds) : Dat K H (.ref a) (.list ds)
inductive Dats (K : PySem.W.Frag) (H : Hp) : List V → List PyData → Prop where
  | nil : Dats K H [] []
  | cons {x : V} {d : PyData} {xs : List V} {ds : List PyData} (h : Dat K H x d) (r : Dats K H xs ds) : Dats K H (x :: xs) (d :: ds)
end
section
variable {X : Cx} {pins : List (Addr × Obj)} {σ : L2.St} {H : Hp} {s : Shared}
mutual
theorem Dat.reads (I : Inv X pins σ H s) : ∀ (d : PyData) {v : V} {u : Value}, Dat X.K H v d → RelV v u → ∃ as, Reads s.heap u d as
  | .none, _, _, .non, r => by cases r; exact ⟨_, .none⟩
  | .bool b, _, _, .bl _, r => by cases r; exact ⟨_, .bool b⟩
  | .int i, _, _, .int _, r => by obtain ⟨t, rfl⟩ := r; exact ⟨_, .int i t⟩
  | .str x, _, _, .str _, r => by obtain ⟨t, rfl⟩ := r; exact ⟨_, .str x t⟩
  | .tuple ds, _, _, .tup h q, r => by
    cases r
    obtain ⟨its, rv, ⟨o, ho, hc, n, hd⟩, _⟩ := I.tuple h
    obtain ⟨as, ra⟩ := Dats.reads I ds q rv
    exact ⟨_, .tuple ho hc hd (by simpa using ra)⟩
  | .list ds, _, _, .lst h q, r => by
    cases r
    obtain ⟨its, rv, ⟨o, n, ho, hc, _, hd⟩, _⟩ := I.list h
    obtain ⟨as, ra⟩ := Dats.reads I ds q rv
    exact ⟨_, .list ho hc hd (by simpa using ra)⟩
theorem Dats.reads (I : Inv X pins σ H s) : ∀ (ds : List PyData) {vs : List V} {us : List Value}, Dats X.K H vs ds → Vals vs us → ∃ as, ReadsAll s.heap us ds as
  | [], _, _, .nil, r => by cases r; exact ⟨_, .nil⟩
  | d :: ds, _, _, .cons h q, r => by
    cases r with
    | cons r1 r2 =>
      obtain ⟨as, ra⟩ := Dat.reads I d h r1
      obtain ⟨bs, rb⟩ := Dats.reads I ds q r2
      exact ⟨_, .cons ra rb⟩
end
def rEqD (K : PySem.W.Frag) (neg : Bool) : R2 := fun x y H Q => ∃ d e, Dat K H x d ∧ Dat K H y e ∧ d.canLay0 = true ∧ e.canLay0 = true ∧ d.depth ≤ 60 ∧ Q (.bl (if neg = true then !PyData.eqv d e else PyData.eqv d e)) H
theorem op_eqD (hu : X.A.units + 64 < cLine) : OpR X (compareOp .Eq) (rEqD X.K false) := by
  intro pins s σ H x y v u Q I rx ry h
  obtain ⟨d, e, dx, dy, c1, c2, dd, q⟩ := h
  obtain ⟨as, ra⟩ := Dat.reads I d dx rx
  obtain ⟨bs, rb⟩ := Dat.reads I e dy ry
  exact SeqAt.compareEq_reads ra rb c1 c2 (by omega) ⟨.bl _, H, I, rfl, q⟩
theorem op_neD (hu : X.A.units + 64 < cLine) : OpR X (compareOp .NotEq) (rEqD X.K true) := by
  intro pins s σ H x y v u Q I rx ry h
  obtain ⟨d, e, dx, dy, c1, c2, dd, q⟩ := h
  obtain ⟨as, ra⟩ := Dat.reads I d dx rx
  obtain ⟨bs, rb⟩ := Dat.reads I e dy ry
  exact SeqAt.compareNe_reads ra rb c1 c2 (by omega) ⟨.bl _, H, I, rfl, q⟩
end
end Gz
set_option Elab.async false
set_option linter.all false
set_option maxRecDepth 100000
set_option maxHeartbeats 4000000
namespace Gz
open PySem PySem.Spec PyProof.Rows L2
abbrev En := Option Int
def ev : En → V
  | none => .non
  | some i => .int i
theorem ev_none : ev none = .non := rfl
theorem ev_some (i : Int) : ev (some i) = .int i := rfl
def crossed : En → En → Bool
  | some x, some y => decide (y < x)
  | _, _ => false
def IsS (H : Hp) (v : V) (a b : En) : Prop := ∃ p, v = .ref p ∧ H p = some (.tup [ev a, ev b])
theorem IsS.same {H H1 : Hp} {v : V} {a b : En} (h : IsS H v a b) (s : Same H H1) : IsS H1 v a b := by
  obtain ⟨p, e, h⟩ := h
  exact ⟨p, e, s _ _ h⟩
def hold (a b : En) (n : Int) : Bool := !crossed a (some n) && !crossed (some n) b
theorem hold_iff {a b : En} {n : Int} : hold a b n = true ↔ (∀ x, a = some x → x ≤ n) ∧ (∀ y, b = some y → n ≤ y) := by
  unfold hold
  rcases a with _ | x <;> rcases b with _ | y <;> simp [crossed]
theorem hold_none (b : En) (n : Int) : hold none b n = !crossed (some n) b := by unfold hold crossed; simp
theorem hold_hi (y n : Int) : hold none (some y) n = decide (n ≤ y) := by
  rw [hold_none]
  by_cases h : y < n
  · simp [crossed, h]
  · simp [crossed, h]; omega
theorem hold_lo {x n : Int} (b : En) (h : ¬ n < x) : hold (some x) b n = hold none b n := by unfold hold; simp [crossed, h]
theorem hold_out {x n : Int} (b : En) (h : n < x) : hold (some x) b n = false := by unfold hold; simp [crossed, h]
end Gz
set_option Elab.async false
set_option linter.all false
set_option maxHeartbeats 4000000
namespace Gz
open L2
abbrev S2 := En × En
def hs (s : S2) (n : Int) : Bool := hold s.1 s.2 n
def leLo (a b : En) : Prop := a = none ∨ ∃ x y, a = some x ∧ b = some y ∧ x ≤ y
theorem leLo.trans {a b c : En} (h : leLo a b) (h' : leLo b c) : leLo a c := by
  rcases h with rfl | ⟨x, y, rfl, rfl, h1⟩
  · exact .inl rfl
  · rcases h' with h' | ⟨x', y', e, rfl, h2⟩
    · cases h'
    · cases e; exact .inr ⟨_, _, rfl, rfl, by omega⟩
def leHi (a b : En) : Prop := b = none ∨ ∃ x y, a = some x ∧ b = some y ∧ x ≤ y
theorem leHi.trans {a b c : En} (h : leHi a b) (h' : leHi b c) : leHi a c := by
  rcases h' with rfl | ⟨x', y', rfl, rfl, h2⟩
  · exact .inl rfl
  · rcases h with h | ⟨x, y, rfl, e, h1⟩
    · cases h
    · cases e; exact .inr ⟨_, _, rfl, rfl, by omega⟩
open PySem in
def Sts (H : Hp) : List V → List S2 → Prop
  | [], [] => True
  | v :: vs, s :: ss => IsS H v s.1 s.2 ∧ Sts H vs ss
  | _, _ => False
section
variable {H H1 : Hp} {K : PySem.W.Frag}
theorem Sts.len : ∀ {vs : List V} {ss : List S2}, Sts H vs ss → vs.length = ss.length
  | [], [], _ => rfl
  | _ :: _, _ :: _, h => by simp [Sts.len h.2]
  | [], _ :: _, h => h.elim
  | _ :: _, [], h => h.elim
open PySem
def datE : En → PyData
  | none => .none
  | some i => .int i
def datS (s : S2) : PyData := .tuple [datE s.1, datE s.2]
theorem dat_ev (e : En) : Dat K H (ev e) (datE e) := by
  rcases e with _ | x
  · exact .non
  · exact .int x
theorem IsS.dat {v : V} {a b : En} (h : IsS H v a b) : Dat K H v (datS (a, b)) := by
  obtain ⟨p, rfl, h⟩ := h
  exact .tup (SqT.of h) (.cons (dat_ev a) (.cons (dat_ev b) .nil))
end
end Gz
set_option Elab.async false
set_option linter.all false
set_option maxRecDepth 100000
set_option maxHeartbeats 4000000
namespace Gz
open PySem PySem.Spec PyProof.Rows L2
def Its (lo st : Int) (n : Nat) : It := ⟨fun i _ => i < n, fun i H x H' => H' = H ∧ x = .int (lo + (i : Int) * st), fun i _ => n ≤ i⟩
def stepN (lo hi st : Int) : Nat := (Builtin.Range.rangeSize lo hi st).toNat
def iRng3 (ta : TA) : TI := fun σ H R => ta σ H fun vs H1 => ∃ i j c : Int, vs = [.int i, .int j, .int c] ∧ (-1000000 ≤ i ∧ i ≤ 1000000 ∧ -1000000 ≤ j ∧ j ≤ 1000000 ∧ -1000000 ≤ c ∧ c ≤ 1000000 ∧ c ≠ 0) ∧ R (Its i c (stepN i j c)) H1
section
variable {g : TG} {tb : TS} {D : Ends} {σ : L2.St} {H : Hp} {lo st : Int} {n : Nat}
theorem for_rng2 {ta : TA} : tFor (iRng2 ta) g tb D σ H = ta σ H (fun vs H1 => ∃ i j : Int, vs = [.int i, .int j] ∧ (-(2 ^ 62) ≤ i ∧ i < 2 ^ 62 ∧ -(2 ^ 62) ≤ j ∧ j < 2 ^ 62) ∧ FJ (Itr i (j - i).toNat) g tb D σ H1) := rfl
theorem for_rng3 {ta : TA} : tFor (iRng3 ta) g tb D σ H = ta σ H (fun vs H1 => ∃ i j c : Int, vs = [.int i, .int j, .int c] ∧ (-1000000 ≤ i ∧ i ≤ 1000000 ∧ -1000000 ≤ j ∧ j ≤ 1000000 ∧ -1000000 ≤ c ∧ c ≤ 1000000 ∧ c ≠ 0) ∧ FJ (Its i c (stepN i j c)) g tb D σ H1) := rfl
end
end Gz
set_option Elab.async false
set_option linter.all false
set_option maxRecDepth 100000
set_option maxHeartbeats 4000000
namespace Gz
open PySem PySem.Spec PyProof.Rows L2
local macro_rules | `(tactic| walk_at "om") => `(tactic| ((try simp only [PySem.Addr] at *); omega))
section
variable {X : Cx} {pins : List (Addr × Obj)} {σ : L2.St} {H : Hp} {s : Shared} {h' : Heap}
end
def Itv (K : PySem.W.Frag) (a : Addr) (n : Nat) : It :=
  ⟨fun i H => ∃ xs x, SqL K H a xs ∧ xs.length = n ∧ xs.reverse[i]? = some x, fun i H x H' => H' = H ∧ ∀ xs, SqL K H a xs → xs.length = n → xs.reverse[i]? = some x, fun i _ => i = n⟩
def iRev (K : PySem.W.Frag) (ta : TA) : TI := fun σ H R => ta σ H fun vs H1 => ∃ a xs, vs = [.ref a] ∧ SqL K H1 a xs ∧ R (Itv K a xs.length) H1
def Ite (K : PySem.W.Frag) (a : Addr) : It :=
  ⟨fun i H => ∃ xs x, SqL K H a xs ∧ xs[i]? = some x, fun i H v H' => ∃ (p : Addr) (x : V), v = .ref p ∧ H p = none ∧ H' = upd H p (.tup [.int i, x]) ∧ ∀ xs, SqL K H a xs → xs[i]? = some x, fun i H => ∃ xs, SqL K H a xs ∧ xs.length ≤ i⟩
def iEnum (K : PySem.W.Frag) (ta : TA) : TI := fun σ H R => ta σ H fun vs H1 => ∃ a, vs = [.ref a] ∧ (∃ xs, SqL K H1 a xs) ∧ R (Ite K a) H1
def Itz (K : PySem.W.Frag) (a b : Addr) : It :=
  ⟨fun i H => ∃ xs ys x y, SqL K H a xs ∧ SqL K H b ys ∧ xs[i]? = some x ∧ ys[i]? = some y, fun i H v H' => ∃ (p : Addr) (x y : V), v = .ref p ∧ H p = none ∧ H' = upd H p (.tup [x, y]) ∧ (∀ xs, SqL K H a xs → xs[i]? = some x) ∧ ∀ ys, SqL K H b ys → ys[i]? = some y,
    fun i H => ∃ xs ys, SqL K H a xs ∧ SqL K H b ys ∧ (xs.length ≤ i ∨ ys.length ≤ i)⟩
def iZip (K : PySem.W.Frag) (ta : TA) : TI := fun σ H R => ta σ H fun vs H1 => ∃ a b, vs = [.ref a, .ref b] ∧ (∃ xs, SqL K H1 a xs) ∧ (∃ ys, SqL K H1 b ys) ∧ R (Itz K a b) H1
section
variable {X : Cx}
theorem bools_are : ∀ {bs : List Bool} {its : List Value}, Vals (bs.map V.bl) its → its = bs.map Value.bool
  | [], its, r => by cases r; rfl
  | b :: bs, its, r => by
    cases r with
    | cons r1 r2 =>
      cases r1
      rw [bools_are r2]; rfl
theorem call_allL (hc : X.calm = true) : CallR X (.builtin "all") (fun xs H Q => ∃ (a : Addr) (bs : List Bool), xs = [.ref a] ∧ SqL X.K H a (bs.map V.bl) ∧ Q (.bl (bs.all id)) H) := by
  intro pins s σ H xs us Q I r h
  obtain ⟨a, bs, rfl, hS, q⟩ := h
  obtain ⟨u, rfl, ru⟩ := vals1 r
  cases ru
  obtain ⟨its, rv, hp, _⟩ := I.list hS
  have e := bools_are rv
  subst e
  have hl := hp.isList
  have hlt : a < s.heap.objs.size := by obtain ⟨_, e, _⟩ := hl; exact Heap.lt_size e
  refine call_all_walk (wpAny_pyIter_list hl ?_)
  refine ⟨s.heap.objs.size, [s.heap.objs.size, a], [s.heap.objs.size], (bs.map Value.bool).toArray.size, _, _, fun i => (bs[i]?).getD true, rfl, Walks.list (A := X.A.in1) (I.ok.hd hc) _ a (Nat.ne_of_lt hlt) (bs.map Value.bool).toArray, ⟨⟨_, Heap.get?_push_size _ rfl, rfl, rfl⟩, hl.push _⟩, fun i v s' Q' E' hP hQ => ?_, fun h' tk hk => ?_⟩
  · have hP' : (bs[i]?).map Value.bool = some v := by simpa using hP
    cases e : bs[i]? with
    | none => rw [e] at hP'; cases hP'
    | some b =>
      rw [e] at hP'; cases hP'
      simp only [e, Option.getD_some] at hQ
      exact wpAny_truthy_bool hQ
  · have e : ((List.range (bs.map Value.bool).toArray.size).all fun i => (bs[i]?).getD true) = bs.all id := by
      rw [List.size_toArray, List.length_map]; exact PyProof.Rows.LSm.range_all bs
    rw [e]
    exact ⟨.bl (bs.all id), H, I.kept (fun b o q => hk b o (fun z => by
      have : b = s.heap.objs.size := by simpa using z
      rw [this] at q; exact Nat.lt_irrefl _ (Heap.lt_size q)) (Heap.get?_push_of_some _ q)), rfl, q⟩
theorem call_anyL (hc : X.calm = true) : CallR X (.builtin "any") (fun xs H Q => ∃ (a : Addr) (bs : List Bool), xs = [.ref a] ∧ SqL X.K H a (bs.map V.bl) ∧ Q (.bl (bs.any id)) H) := by
  intro pins s σ H xs us Q I r h
  obtain ⟨a, bs, rfl, hS, q⟩ := h
  obtain ⟨u, rfl, ru⟩ := vals1 r
  cases ru
  obtain ⟨its, rv, hp, _⟩ := I.list hS
  have e := bools_are rv
  subst e
  have hl := hp.isList
  have hlt : a < s.heap.objs.size := by obtain ⟨_, e, _⟩ := hl; exact Heap.lt_size e
  refine call_any_walk (wpAny_pyIter_list hl ?_)
  refine ⟨s.heap.objs.size, [s.heap.objs.size, a], [s.heap.objs.size], (bs.map Value.bool).toArray.size, _, _, fun i => (bs[i]?).getD false, rfl, Walks.list (A := X.A.in1) (I.ok.hd hc) _ a (Nat.ne_of_lt hlt) (bs.map Value.bool).toArray, ⟨⟨_, Heap.get?_push_size _ rfl, rfl, rfl⟩, hl.push _⟩, fun i v s' Q' E' hP hQ => ?_, fun h' tk hk => ?_⟩
  · have hP' : (bs[i]?).map Value.bool = some v := by simpa using hP
    cases e : bs[i]? with
    | none => rw [e] at hP'; cases hP'
    | some b =>
      rw [e] at hP'; cases hP'
      simp only [e, Option.getD_some] at hQ
      exact wpAny_truthy_bool hQ
  · have e : ((List.range (bs.map Value.bool).toArray.size).any fun i => (bs[i]?).getD false) = bs.any id := by
      rw [List.size_toArray, List.length_map]; exact PyProof.Rows.LSm.range_any bs
    rw [e]
    exact ⟨.bl (bs.any id), H, I.kept (fun b o q => hk b o (fun z => by
      have : b = s.heap.objs.size := by simpa using z
      rw [this] at q; exact Nat.lt_irrefl _ (Heap.lt_size q)) (Heap.get?_push_of_some _ q)), rfl, q⟩
end
section
variable {K : PySem.W.Frag} {g : TG} {tb : TS} {D : Ends} {σ : L2.St} {H : Hp} {a b : Addr} {xs ys : List V}
theorem for_rev {ta : TA} : tFor (iRev K ta) g tb D σ H = ta σ H (fun vs H1 => ∃ a xs, vs = [.ref a] ∧ SqL K H1 a xs ∧ FJ (Itv K a xs.length) g tb D σ H1) := rfl
theorem for_enum {ta : TA} : tFor (iEnum K ta) g tb D σ H = ta σ H (fun vs H1 => ∃ a, vs = [.ref a] ∧ (∃ xs, SqL K H1 a xs) ∧ FJ (Ite K a) g tb D σ H1) := rfl
theorem for_zip {ta : TA} : tFor (iZip K ta) g tb D σ H = ta σ H (fun vs H1 => ∃ a b, vs = [.ref a, .ref b] ∧ (∃ xs, SqL K H1 a xs) ∧ (∃ ys, SqL K H1 b ys) ∧ FJ (Itz K a b) g tb D σ H1) := rfl
end
end Gz
set_option Elab.async false
set_option linter.all false
set_option maxRecDepth 100000
set_option maxHeartbeats 4000000
namespace Gz
open PySem PySem.Spec PyProof.Rows L2
local macro_rules | `(tactic| walk_at "om") => `(tactic| ((try simp only [PySem.Addr] at *); omega))
def tBlkG (k : Nat) (J : It) (g : TG) (ρ : L2.St) (tt : TT) (te : TE) (H : Hp) (Q : VK) : Prop := ∃ W : Nat → Nat → List V → Hp → Prop, (∃ m, W 0 m [] H) ∧ ∀ i m ys H, W i m ys H →
  (J.stop i H ∧ ys.length ≤ sizeLine ∧ ∀ l, H l = none → Q (.ref l) (upd H l (.lst ys))) ∨ (J.go i H ∧ ys.length < sizeLine ∧ ∃ N : List V → Hp → Prop, (∀ zs H', N zs H' → ∃ m', m' < m ∧ W (i + 1) m' zs H') ∧
    ∀ os : List (Option V), os.length = k → ∀ x H', J.yld i H x H' → g x (os ++ ρ) H' fun σ2 H2 => ∃ os', os'.length = k ∧ σ2 = os' ++ ρ ∧ tt σ2 H2 fun b H1 => if b = true then te σ2 H1 fun y H2 => N (ys ++ [y]) H2 else N ys H1)
def tCompG (k : Nat) (wi : TI) (g : TG) (fr : List Nat) (tt : TT) (te : TE) : TE := fun σ H Q => wi σ H fun J H1 => tBlkG k J g (fr.map fun j => (σ[j]?).join) tt te H1 Q
section
variable {X : Cx} {pins : List (Addr × Obj)} {σ : L2.St} {H2 : Hp} {s2 : Shared} {own : List Str} {tg : Expr} {g : TG} {pos : Pos} {elt iter : Expr} {ifs : List Expr} {scope : Scope} {cl : List (Str × Addr)} {fr : List Nat} {ys : List Str} {tt : TT} {te : TE}
end
end Gz
namespace Gz
open PySem PySem.Spec PyProof.Rows L2
section
variable {X : Cx} {K : PySem.W.Frag}
theorem sl_listK (h : X.K = K) : SlR X (rSlL K) := h ▸ sl_list
variable {ρ : L2.St} {tt : TT} {te : TE} {H : Hp} {Q : VK} {a b : Addr} {xs ys : List V}
end
end Gz
set_option Elab.async false
set_option linter.all false
set_option maxRecDepth 100000
set_option maxHeartbeats 4000000
namespace Gz
open PySem PySem.Spec PyProof.Rows L2
theorem cutV_nat (xs : List V) {a b : Nat} (h2 : b ≤ xs.length) : cutV xs (some (a : Int)) (some (b : Int)) = (xs.drop a).take (b - a) := by
  unfold cutV
  rw [HT.sIx_nat, HT.sIx_nat, Nat.min_eq_left h2]
  by_cases h : a ≤ xs.length
  · rw [Nat.min_eq_left h]
  · rw [Nat.min_eq_right (by omega), List.drop_eq_nil_of_le (Nat.le_refl _), List.drop_eq_nil_of_le (by omega)]; simp
theorem cutV_to (xs : List V) (b : Nat) : cutV xs none (some (b : Int)) = xs.take b := by
  unfold cutV
  rw [HT.sIx_nat, HT.sIx_none, List.drop_zero, Nat.sub_zero]
  by_cases h : b ≤ xs.length
  · rw [Nat.min_eq_left h]
  · rw [Nat.min_eq_right (by omega), List.take_length, List.take_of_length_le (by omega)]
theorem cutV_from (xs : List V) (a : Nat) : cutV xs (some (a : Int)) none = xs.drop a := by
  unfold cutV
  rw [HT.sIx_nat, HT.sIx_none]
  by_cases h : a ≤ xs.length
  · rw [Nat.min_eq_left h, List.take_of_length_le (by rw [List.length_drop]; omega)]
  · rw [Nat.min_eq_right (by omega), List.drop_eq_nil_of_le (Nat.le_refl _), List.drop_eq_nil_of_le (by omega)]; simp
mutual
def plainD : Nat → PyData → Bool
  | _, .none => true
  | _, .bool _ => true
  | _, .int _ => true
  | n + 1, .tuple ds => plainDs n ds
  | n + 1, .list ds => plainDs n ds
  | _, _ => false
def plainDs : Nat → List PyData → Bool
  | _, [] => true
  | n, d :: ds => plainD n d && plainDs n ds
end
mutual
theorem plain_ok : ∀ (d : PyData) {n : Nat}, plainD n d = true → PyData.eqv d d = true ∧ d.canLay0 = true ∧ d.depth ≤ n
  | .none, n, _ => ⟨rfl, rfl, Nat.zero_le _⟩
  | .bool b, n, _ => ⟨by simp [PyData.eqv], rfl, Nat.zero_le _⟩
  | .int i, n, _ => ⟨by simp [PyData.eqv], rfl, Nat.zero_le _⟩
  | .str x, 0, h => by simp [plainD] at h
  | .str x, n + 1, h => by simp [plainD] at h
  | .dict x, 0, h => by simp [plainD] at h
  | .dict x, n + 1, h => by simp [plainD] at h
  | .tuple ds, 0, h => by simp [plainD] at h
  | .list ds, 0, h => by simp [plainD] at h
  | .tuple ds, n + 1, h => by
    obtain ⟨a, b, c⟩ := plain_oks ds (n := n) (by simpa [plainD] using h)
    exact ⟨by simpa only [PyData.eqv] using a, by simpa only [PyData.canLay0] using b, by simp only [PyData.depth]; omega⟩
  | .list ds, n + 1, h => by
    obtain ⟨a, b, c⟩ := plain_oks ds (n := n) (by simpa [plainD] using h)
    exact ⟨by simpa only [PyData.eqv] using a, by simpa only [PyData.canLay0] using b, by simp only [PyData.depth]; omega⟩
theorem plain_oks : ∀ (ds : List PyData) {n : Nat}, plainDs n ds = true → PyData.eqvAll ds ds = true ∧ PyData.canLayAll0 ds = true ∧ PyData.depthAll ds ≤ n
  | [], n, _ => ⟨rfl, rfl, Nat.zero_le _⟩
  | d :: ds, n, h => by
    have h' : plainD n d = true ∧ plainDs n ds = true := by simpa [plainDs] using h
    obtain ⟨a, b, c⟩ := plain_ok d h'.1
    obtain ⟨a', b', c'⟩ := plain_oks ds h'.2
    exact ⟨by simp only [PyData.eqvAll, a, a', Bool.and_self], by simp only [PyData.canLayAll0, b, b', Bool.and_self], by simp only [PyData.depthAll]; omega⟩
end
end Gz
namespace Gz
open PySem PySem.Spec PyProof.Rows L2
end Gz
set_option Elab.async false
set_option linter.all false
set_option maxRecDepth 100000
set_option maxHeartbeats 4000000
namespace Gz
open PySem PySem.Spec PyProof.Rows L2
def All2 {α : Type} (R : V → α → Prop) : List V → List α → Prop
  | [], [] => True
  | x :: xs, a :: as => R x a ∧ All2 R xs as
  | _, _ => False
section
variable {α : Type} {R R' : V → α → Prop}
theorem All2.len : ∀ {xs : List V} {as : List α}, All2 R xs as → xs.length = as.length
  | [], [], _ => rfl
  | _ :: _, _ :: _, h => by simp [All2.len h.2]
  | [], _ :: _, h => h.elim
  | _ :: _, [], h => h.elim
theorem All2.imp (f : ∀ x a, R x a → R' x a) : ∀ {xs : List V} {as : List α}, All2 R xs as → All2 R' xs as
  | [], [], _ => trivial
  | _ :: _, _ :: _, h => ⟨f _ _ h.1, All2.imp f h.2⟩
  | [], _ :: _, h => h.elim
  | _ :: _, [], h => h.elim
theorem All2.get : ∀ {xs : List V} {as : List α}, All2 R xs as → ∀ {i : Nat} {x : V}, xs[i]? = some x → ∃ a, as[i]? = some a ∧ R x a
  | [], [], _, i, x, e => by simp at e
  | _ :: _, a :: _, h, 0, x, e => by simp at e; subst e; exact ⟨a, by simp, h.1⟩
  | _ :: _, _ :: _, h, i + 1, x, e => by
    simp only [List.getElem?_cons_succ] at e ⊢
    exact All2.get h.2 e
  | [], _ :: _, h, _, _, _ => h.elim
  | _ :: _, [], h, _, _, _ => h.elim
theorem All2.at : ∀ {xs : List V} {as : List α}, All2 R xs as → ∀ {i : Nat} {a : α}, as[i]? = some a → ∃ x, xs[i]? = some x ∧ R x a
  | [], [], _, i, x, e => by simp at e
  | x :: _, _ :: _, h, 0, a, e => by simp at e; subst e; exact ⟨x, by simp, h.1⟩
  | _ :: _, _ :: _, h, i + 1, a, e => by
    simp only [List.getElem?_cons_succ] at e ⊢
    exact All2.at h.2 e
  | [], _ :: _, h, _, _, _ => h.elim
  | _ :: _, [], h, _, _, _ => h.elim
theorem All2.app : ∀ {xs ys : List V} {as bs : List α}, All2 R xs as → All2 R ys bs → All2 R (xs ++ ys) (as ++ bs)
  | [], _, [], _, _, h => h
  | _ :: _, _, _ :: _, _, h, h' => ⟨h.1, All2.app h.2 h'⟩
  | [], _, _ :: _, _, h, _ => h.elim
  | _ :: _, _, [], _, h, _ => h.elim
theorem All2.snoc {xs : List V} {as : List α} {x : V} {a : α} (h : All2 R xs as) (h' : R x a) : All2 R (xs ++ [x]) (as ++ [a]) := h.app ⟨h', trivial⟩
theorem All2.drop : ∀ {xs : List V} {as : List α} (n : Nat), All2 R xs as → All2 R (xs.drop n) (as.drop n)
  | [], [], n, _ => by simp [All2]
  | _ :: _, _ :: _, 0, h => by simpa using h
  | _ :: _, _ :: _, n + 1, h => by simpa using All2.drop n h.2
  | [], _ :: _, _, h => h.elim
  | _ :: _, [], _, h => h.elim
theorem All2.ints : ∀ (ns : List Int), All2 (fun x n => x = V.int n) (ns.map V.int) ns
  | [] => trivial
  | n :: ns => ⟨rfl, All2.ints ns⟩
theorem All2.rng {lo : Int} (n : Nat) : All2 (fun x (k : Nat) => x = V.int (lo + k)) ((List.range n).map fun k => V.int (lo + (k : Nat))) (List.range n) := by
  suffices ∀ l : List Nat, All2 (fun x (k : Nat) => x = V.int (lo + k)) (l.map fun k => V.int (lo + (k : Nat))) l from this _
  intro l
  induction l with
  | nil => trivial
  | cons a l ih => exact ⟨rfl, ih⟩
end
theorem compGo_grow {α : Type} {R : Hp → V → α → Prop} {Ok : Hp → Prop} {ρ : L2.St} {tt : TT} {te : TE} {p : α → Bool} {f : α → V} {Q' : List V → Hp → Prop} (mono : ∀ H H' x a, Same H H' → R H x a → R H' x a) : ∀ {xs : List V} {as : List α} {ys : List V} {H : Hp}, All2 (R H) xs as → (∀ H', Same H H' → Ok H') →
    (∀ x a, a ∈ as → ∀ H', Same H H' → R H' x a → ∀ Q, (∀ H'', Same H' H'' → Q (p a) H'') → tt (some x :: ρ) H' Q) → (∀ x a, a ∈ as → p a = true → ∀ H', Same H H' → R H' x a → ∀ Q : VK, (∀ H'', Same H' H'' → Q (f a) H'') → te (some x :: ρ) H' Q) →
    (∀ H', Same H H' → Q' (ys ++ (as.filter p).map f) H') → compGo Ok ρ tt te xs ys H Q'
  | [], [], ys, H, _, hOk, _, _, q => ⟨hOk H (Same.refl H), by simpa using q H (Same.refl H)⟩
  | x :: xs, a :: as, ys, H, h, hOk, ht, he, q => by
    refine ⟨hOk H (Same.refl H), ht x a (.head _) H (Same.refl H) h.1 _ fun H1 s1 => ?_⟩
    by_cases hb : p a = true
    · rw [if_pos hb]
      refine he x a (.head _) hb H1 s1 (mono _ _ _ _ s1 h.1) _ fun H2 s2 => ?_
      have S := s1.trans s2
      refine compGo_grow mono (h.2.imp fun x a r => mono _ _ _ _ S r) (fun H' s' => hOk H' (S.trans s')) (fun x a ha H' s' => ht x a (.tail _ ha) H' (S.trans s')) (fun x a ha hb H' s' => he x a (.tail _ ha) hb H' (S.trans s')) fun H' s' => ?_
      have := q H' (S.trans s')
      rw [List.filter_cons, if_pos hb] at this
      simpa using this
    · rw [if_neg hb]
      refine compGo_grow mono (h.2.imp fun x a r => mono _ _ _ _ s1 r) (fun H' s' => hOk H' (s1.trans s')) (fun x a ha H' s' => ht x a (.tail _ ha) H' (s1.trans s')) (fun x a ha hb H' s' => he x a (.tail _ ha) hb H' (s1.trans s')) fun H' s' => ?_
      have := q H' (s1.trans s')
      rw [List.filter_cons, if_neg hb] at this
      exact this
  | [], _ :: _, _, _, h, _, _, _, _ => h.elim
  | _ :: _, [], _, _, h, _, _, _, _ => h.elim
theorem compGo_all {α : Type} {R : V → α → Prop} {Ok : Hp → Prop} {ρ : L2.St} {tt : TT} {te : TE} {p : α → Bool} {f : α → V} {Q' : List V → Hp → Prop} {H : Hp} (hOk : Ok H) : ∀ {xs : List V} {as : List α} {ys : List V}, All2 R xs as →
    (∀ x a, a ∈ as → R x a → ∀ Q, Q (p a) H → tt (some x :: ρ) H Q) → (∀ x a, a ∈ as → p a = true → R x a → ∀ Q : VK, Q (f a) H → te (some x :: ρ) H Q) →
    Q' (ys ++ (as.filter p).map f) H → compGo Ok ρ tt te xs ys H Q'
  | [], [], ys, _, _, _, q => ⟨hOk, by simpa using q⟩
  | x :: xs, a :: as, ys, h, ht, he, q => by
    refine ⟨hOk, ht x a (.head _) h.1 _ ?_⟩
    by_cases hb : p a = true
    · rw [if_pos hb]
      refine he x a (.head _) hb h.1 _ (compGo_all hOk h.2 (fun x a ha => ht x a (.tail _ ha)) (fun x a ha => he x a (.tail _ ha)) ?_)
      rw [List.filter_cons, if_pos hb] at q
      simpa using q
    · rw [if_neg hb]
      refine compGo_all hOk h.2 (fun x a ha => ht x a (.tail _ ha)) (fun x a ha => he x a (.tail _ ha)) ?_
      rw [List.filter_cons, if_neg hb] at q
      exact q
  | [], _ :: _, _, h, _, _, _ => h.elim
  | _ :: _, [], _, h, _, _, _ => h.elim
theorem filter_tt {α : Type} (l : List α) : l.filter (fun _ => true) = l := List.filter_eq_self.mpr fun _ _ => rfl
abbrev P2 := Int × Int
def IsPt (H : Hp) (v : V) (p : P2) : Prop := ∃ a, v = .ref a ∧ H a = some (.tup [.int p.1, .int p.2])
def ris (ns : List Int) : Bool := (ns.zip (ns.drop 1)).all fun r => decide (r.1 < r.2)
theorem ris_iff {ns : List Int} : ris ns = true ↔ ∀ i, i + 1 < ns.length → ns.getD i 0 < ns.getD (i + 1) 0 := by
  unfold ris
  rw [List.all_eq_true]
  constructor
  · intro h i hi
    have e : (ns.zip (ns.drop 1))[i]? = some (ns.getD i 0, ns.getD (i + 1) 0) := by
      rw [List.getElem?_zip_eq_some, List.getElem?_drop, List.getD_eq_getElem?_getD, List.getD_eq_getElem?_getD, List.getElem?_eq_getElem (show i < ns.length by omega), show 1 + i = i + 1 by omega, List.getElem?_eq_getElem hi]
      exact ⟨rfl, rfl⟩
    simpa using h _ (List.mem_of_getElem? e)
  · intro h r hr
    obtain ⟨i, hi⟩ := List.mem_iff_getElem?.mp hr
    rw [List.getElem?_zip_eq_some, List.getElem?_drop] at hi
    have h1 := (List.getElem?_eq_some_iff.mp hi.2).1
    have := h i (by omega)
    rw [List.getD_eq_getElem?_getD, List.getD_eq_getElem?_getD, hi.1, show i + 1 = 1 + i by omega, hi.2] at this
    simpa using this
def ptD (ps : List P2) (i : Nat) : P2 := ps.getD i (0, 0)
end Gz
namespace Gz
open PySem PySem.Spec PyProof.Rows L2
end Gz
namespace Gz
open PySem PySem.Spec PyProof.Rows L2
end Gz
set_option Elab.async false
set_option linter.all false
set_option maxRecDepth 100000
set_option maxHeartbeats 4000000
namespace Gz
open PySem PySem.Spec PyProof.Rows L2
def onl (s e : P2) (p q t b : Int) : Prop := (t - s.2 * b) * (e.1 - s.1) * q = (p - s.1 * q) * (e.2 - s.2) * b
def inP (ks : List P2) (p q : Int) (i : Nat) : Prop := i + 1 < ks.length ∧ (ptD ks i).1 * q ≤ p ∧ p ≤ (ptD ks (i + 1)).1 * q
structure Led (ks : List P2) (p q t b : Int) : Prop where
  pos : 1 ≤ b
  low : gcdI t b = 1
  on : ∀ i, inP ks p q i → onl (ptD ks i) (ptD ks (i + 1)) p q t b
theorem ptD_map1 {ks : List P2} {i : Nat} (h : i < ks.length) : (ks.map (·.1)).getD i 0 = (ptD ks i).1 := by
  unfold ptD
  rw [List.getD_eq_getElem?_getD, List.getElem?_map, List.getD_eq_getElem?_getD, List.getElem?_eq_getElem h]; rfl
theorem ris_lt1 {ks : List P2} (h : ris (ks.map (·.1)) = true) : ∀ {i j : Nat}, i < j → j < ks.length → (ptD ks i).1 < (ptD ks j).1 := by
  rw [ris_iff] at h
  have st : ∀ i, i + 1 < ks.length → (ptD ks i).1 < (ptD ks (i + 1)).1 := fun i hi => by
    have := h i (by rw [List.length_map]; exact hi)
    rwa [ptD_map1 (by omega), ptD_map1 hi] at this
  intro i j hij hj
  induction j with
  | zero => omega
  | succ j ih =>
    by_cases e : i = j
    · subst e; exact st i hj
    · exact Int.lt_trans (ih (by omega) (by omega)) (st j hj)
theorem line_next {a b c : P2} {p q t w : Int} (hq : 0 < q) (hab : a.1 < b.1) (h1 : p = b.1 * q) (h : onl a b p q t w) : onl b c p q t w := by
  unfold onl at *
  subst h1
  have e : (t - b.2 * w) * ((b.1 - a.1) * q) = 0 := by grind
  have n : (b.1 - a.1) * q ≠ 0 := Int.mul_ne_zero (by omega) (by omega)
  have := (Int.mul_eq_zero.mp e).resolve_right n
  have e2 : t - b.2 * w = 0 := this
  rw [e2]; grind
theorem Led.of {ks : List P2} {p q t b : Int} {i : Nat} (hr : ris (ks.map (·.1)) = true) (hq : 0 < q) (h1 : 1 ≤ b) (h2 : gcdI t b = 1) (hi : inP ks p q i) (first : ∀ j, j < i → ¬ inP ks p q j) (h : onl (ptD ks i) (ptD ks (i + 1)) p q t b) : Led ks p q t b := by
  refine ⟨h1, h2, fun j hj => ?_⟩
  by_cases e : j = i
  · rw [e]; exact h
  by_cases lt : j < i
  · exact absurd hj (first j lt)
  by_cases e1 : j = i + 1
  · subst e1
    have l1 := ris_lt1 hr (i := i) (j := i + 1) (by omega) (by have := hj.1; omega)
    exact line_next hq l1 (by have := hi.2.2; have := hj.2.1; omega) h
  · have l1 := ris_lt1 hr (i := i + 1) (j := j) (by omega) (by have := hj.1; omega)
    have : (ptD ks (i + 1)).1 * q < (ptD ks j).1 * q := Int.mul_lt_mul_of_pos_right l1 hq
    have a1 := hi.2.2
    have a2 := hj.2.1
    omega
def IsR (H : Hp) (v : V) (t b : Int) : Prop := ∃ a, v = .ref a ∧ H a = some (.tup [.int t, .int b])
theorem IsR.p {K : PySem.W.Frag} {H : Hp} {v : V} {t b : Int} (h : IsR H v t b) : IsP K H v t b := let ⟨a, e, q⟩ := h; ⟨a, e, SqT.of q⟩
def SameBut (x : Addr) (H H' : Hp) : Prop := ∀ b o, b ≠ x → H b = some o → H' b = some o
end Gz
namespace Gz
open PySem PySem.Spec PyProof.Rows L2
end Gz
namespace Gz
open PySem PySem.Spec PyProof.Rows L2
theorem compGo_new {α β : Type} {R : Hp → V → α → Prop} {R' : Hp → V → β → Prop} {Ok : Hp → Prop} {ρ : L2.St} {tt : TT} {te : TE} {f : α → β} {Q' : List V → Hp → Prop} (mono : ∀ H H' x a, Same H H' → R H x a → R H' x a) (mono' : ∀ H H' x a, Same H H' → R' H x a → R' H' x a) :
    ∀ {xs : List V} {as : List α} {ys : List V} {bs : List β} {H : Hp}, All2 (R H) xs as → All2 (R' H) ys bs → (∀ H', Same H H' → Ok H') → (∀ x a, a ∈ as → ∀ H', Same H H' → R H' x a → ∀ Q, Q true H' → tt (some x :: ρ) H' Q) →
    (∀ x a, a ∈ as → ∀ H', Same H H' → R H' x a → ∀ Q : VK, (∀ H'' y, Same H' H'' → R' H'' y (f a) → Q y H'') → te (some x :: ρ) H' Q) →
    (∀ H' zs, Same H H' → All2 (R' H') zs (bs ++ as.map f) → Q' zs H') → compGo Ok ρ tt te xs ys H Q'
  | [], [], ys, bs, H, _, hy, hOk, _, _, q => ⟨hOk H (Same.refl H), q H ys (Same.refl H) (by simpa using hy)⟩
  | x :: xs, a :: as, ys, bs, H, h, hy, hOk, ht, he, q => by
    refine ⟨hOk H (Same.refl H), ht x a (.head _) H (Same.refl H) h.1 _ ?_⟩
    rw [if_pos rfl]
    refine he x a (.head _) H (Same.refl H) h.1 _ fun H2 y s2 r2 => ?_
    refine compGo_new mono mono' (bs := bs ++ [f a]) (h.2.imp fun x a r => mono _ _ _ _ s2 r) ((hy.imp fun x a r => mono' _ _ _ _ s2 r).snoc r2) (fun H' s' => hOk H' (s2.trans s')) (fun x a ha H' s' => ht x a (.tail _ ha) H' (s2.trans s')) (fun x a ha H' s' => he x a (.tail _ ha) H' (s2.trans s')) fun H' zs s' hz => ?_
    refine q H' zs (s2.trans s') ?_
    rw [List.map_cons]
    rwa [List.append_assoc] at hz
  | [], _ :: _, _, _, _, h, _, _, _, _, _ => h.elim
  | _ :: _, [], _, _, _, h, _, _, _, _, _ => h.elim
end Gz
namespace Gz
open PySem PySem.Spec PyProof.Rows L2
end Gz
set_option Elab.async false
set_option linter.all false
set_option maxRecDepth 100000
set_option maxHeartbeats 4000000
namespace Gz
open PySem PySem.Spec PyProof.Rows L2
theorem vals_ints {us : List Value} {ns : List Int} (h : IntsAre us ns) : Vals (ns.map V.int) us := by
  induction h with
  | nil => exact .nil
  | cons n t r ih => exact .cons ⟨t, rfl⟩ ih
theorem compGo_sel {α : Type} {R : Hp → V → α → Prop} {Ok : Hp → Prop} {ρ : L2.St} {tt : TT} {te : TE} {p : α → Bool} {Q' : List V → Hp → Prop} (mono : ∀ H H' x a, Same H H' → R H x a → R H' x a) : ∀ {xs : List V} {as : List α} {ys : List V} {H : Hp}, All2 (R H) xs as → (∀ H', Same H H' → Ok H') →
    (∀ x a, a ∈ as → ∀ H', Same H H' → R H' x a → ∀ Q, (∀ H'', Same H' H'' → Q (p a) H'') → tt (some x :: ρ) H' Q) → (∀ x H', Same H H' → ∀ Q : VK, Q x H' → te (some x :: ρ) H' Q) →
    (∀ H' zs, Same H H' → All2 (R H') zs (as.filter p) → Q' (ys ++ zs) H') → compGo Ok ρ tt te xs ys H Q'
  | [], [], ys, H, _, hOk, _, _, q => ⟨hOk H (Same.refl H), by simpa using q H [] (Same.refl H) trivial⟩
  | x :: xs, a :: as, ys, H, h, hOk, ht, he, q => by
    refine ⟨hOk H (Same.refl H), ht x a (.head _) H (Same.refl H) h.1 _ fun H1 s1 => ?_⟩
    have go := fun (ws : List V) (q2 : ∀ H' zs, Same H1 H' → All2 (R H') zs (as.filter p) → Q' (ws ++ zs) H') => compGo_sel (ys := ws) mono (h.2.imp fun x a r => mono _ _ _ _ s1 r) (fun H' s' => hOk H' (s1.trans s')) (fun x a ha H' s' => ht x a (.tail _ ha) H' (s1.trans s')) (fun x H' s' => he x H' (s1.trans s')) q2
    by_cases hb : p a = true
    · rw [if_pos hb]
      refine he x H1 s1 _ (go _ fun H' zs s' hz => ?_)
      have := q H' (x :: zs) (s1.trans s') (by rw [List.filter_cons, if_pos hb]; exact ⟨mono _ _ _ _ (s1.trans s') h.1, hz⟩)
      simpa using this
    · rw [if_neg hb]
      refine go _ fun H' zs s' hz => q H' zs (s1.trans s') ?_
      rw [List.filter_cons, if_neg hb]; exact hz
  | [], _ :: _, _, _, h, _, _, _, _ => h.elim
  | _ :: _, [], _, _, h, _, _, _, _ => h.elim
abbrev IsS2 (H : Hp) (v : V) (s : S2) : Prop := IsS H v s.1 s.2
theorem Sts.all : ∀ {H : Hp} {xs : List V} {ss : List S2}, Sts H xs ss → All2 (IsS2 H) xs ss
  | _, [], [], _ => trivial
  | _, _ :: _, _ :: _, h => ⟨h.1, Sts.all h.2⟩
  | _, [], _ :: _, h => h.elim
  | _, _ :: _, [], h => h.elim
def cellsFrom : En → List Int → List S2
  | lo, [] => [(lo, none)]
  | lo, z :: zs => (lo, some (z - 1)) :: cellsFrom (some z) zs
end Gz
namespace Gz
open PySem PySem.Spec PyProof.Rows L2
end Gz
namespace Gz
open PySem PySem.Spec PyProof.Rows L2
end Gz
set_option Elab.async false
set_option linter.all false
set_option maxRecDepth 100000
set_option maxHeartbeats 4000000
namespace Gz
open PySem PySem.Spec PyProof.Rows L2
structure ClsFn (K : PySem.W.Frag) (C : Addr) (m : Str) (f : Addr) : Prop where
  ga : PySem.W.specialIn K (.ref C) "__getattribute__" = some (some (.builtin "type.__getattribute__"))
  rd : PySem.W.readsIn K C (.type "type") = true
  fd : PySem.W.findCls K (.ref C) (.type "type") m = some (.val (.ref f))
  kp : PySem.W.keepIn K (.ref f) = true
section
variable {X : Cx} {CX : CXT} {k : Nat} {f C : Addr} {fd : FuncData} {ps : List Str} {ds : List Value} {dvs : List V} {sp : Sp} {E : XK} {x m : Str} {p pos apos : Pos} {e : Expr} {es : List Expr} {t : TA}
theorem pe_clsm {pl : Sem Bool} (hg : Gl X x) (hm : X.mg x = some (.ref C)) (c : ClsFn X.K C m f) (F : FnOk X.prog X.w X.K X.mg X.base CX k f fd ps sp) (hr : Room k X.A) (hb : Binds X.K fd ps ds) (hd : Vals dvs ds) (hx : Passes CX X E) (ha : PA X (e :: es) t)
    (hdb : (x == ("__debug__" : Str)) = false := by decide) (hst : starEach (e :: es) X.env = (false, eval e X.env) :: starEach es X.env := by rfl) (hpl : (backTo pos (starEach es X.env)).any (·.1) = false := by rfl)
    (ht : eval (.Call (.Attribute (.Name x p) m apos) (e :: es) [] pos) X.env = (do
      let ov ← eval (.Name x p) X.env
      standAt apos.atName
      let (f, first) ← holding [ov] (getMethod ov m pl)
      callWith pos f first (backTo pos (starEach (e :: es) X.env)) (backToKw pos (keywordEach [] X.env))) := by rfl) :
    PE X (.Call (.Attribute (.Name x p) m apos) (e :: es) [] pos) (tCall sp dvs E t) := by
  intro pins s σ H Q I h
  refine PySem.W.methodCall_KW (pl := pl) (thn (pe_glob (X := X) (v := .ref C) hg hm rfl hdb pins s σ H (fun v H1 => v = .ref C ∧ H1 = H) I ⟨rfl, rfl⟩) fun u s1 ⟨y, H1, I1, rx, e1, e2⟩ => ?_) ht
  subst e1 e2
  obtain rfl : u = Value.ref C := rx
  refine PySem.W.method_cls I1.kIn c.ga (PySem.W.cls_value I1.kIn c.rd c.fd rfl ?_)
  have I2 : Inv X pins σ H1 { s1 with toks := s1.toks + 1 } := I1.tok _
  refine PySem.W.callWith_K (first := []) (h₀ := X.base) I.ok.mod.kin c.kp (thn (ha pos pins _ σ H1 _ I2 h) fun us s2 ⟨vs, H2, I3, r, q2⟩ => ⟨I3.kIn, ?_⟩) hst hpl
  exact run_fn (us := us) (vs := vs) F hr hb hd hx I3 r q2
end
section
variable {X : Cx}
end
section
variable {X : Cx} {CX : CXT} {k : Nat} {f : Addr} {fd : FuncData} {ps : List Str} {ds : List Value} {dvs : List V} {sp : Sp} {E : XK} {m : Str} {pos apos : Pos} {o e : Expr} {es : List Expr} {ta : TE} {t : TA}
def tMethV (K : PySem.W.Frag) (m : Str) (f : Addr) (sp : Sp) (dvs : List V) (E : XK) (ta : TE) (t : TA) : TE := fun σ H Q => ta σ H fun x H1 => ∃ a C dx fs, x = .ref a ∧ H1 a = some (.ins C dx fs) ∧ Cls K C ∧ Meth K C m f ∧ fs.lookup m = none ∧
  t σ H1 fun vs H2 => sp (.ref a :: (vs ++ dvs)) H2 Q E
end
end Gz
set_option Elab.async false
set_option linter.all false
namespace Gz
open PySem L2 PySem.W PySem.Spec PyProof.Rows
def Bt (n : Nat) (x : Int) : Prop := Builtin.Int.intBits x ≤ n
theorem Bt.add {n : Nat} {x y : Int} (h : Bt n x) (h' : Bt n y) : Bt (n + 1) (x + y) := by
  have := PyProof.Rows.bits_add h h'
  rwa [Nat.max_self] at this
theorem Bt.mul {n m : Nat} {x y : Int} (h : Bt n x) (h' : Bt m y) : Bt (n + m) (x * y) := PyProof.Rows.bits_mul h h'
theorem Bt.up {n m : Nat} {x : Int} (h : Bt n x) (hm : n ≤ m) : Bt m x := Nat.le_trans h hm
theorem Bt.small {x : Int} (h1 : -(2 ^ 64) < x) (h2 : x < 2 ^ 64) : Bt 64 x := PySem.intBits_le_64 h1 h2
def MulG (i j : Int) : Prop := Bt 40000000 i ∧ Bt 40000000 j
theorem MulG.ok {i j : Int} (h : MulG i j) : IntMulOk i j := PyProof.Rows.mulOk_of_bits h.1 h.2 (by decide)
theorem op_mulG {X : Cx} : OpR X (binaryOp .Mult) (rI MulG fun i j => .int (i * j)) := opI fun _ _ _ _ _ _ _ hc q => mul_int q hc.ok
def Scr (ns : List Int) : Prop := ns.length ≤ 63 ∧ ∀ x ∈ ns, Bt 1048576 x
theorem weigh : ∀ (ns : List Int) (x : Int), x ∈ ns → Builtin.Int.intBits x ≤ PySem.W.WData.weightAll (ns.map PySem.W.WData.int)
  | [], x, h => by simp at h
  | y :: ns, x, h => by
    have e : PySem.W.WData.weightAll ((y :: ns).map PySem.W.WData.int) = (if y == 0 then 0 else y.natAbs.log2 + 1) + 1 + PySem.W.WData.weightAll (ns.map PySem.W.WData.int) := by
      rw [List.map_cons]
      simp only [PySem.W.WData.weightAll, PySem.W.WData.weight]
    rw [e]
    rcases List.mem_cons.mp h with rfl | h
    · unfold Builtin.Int.intBits
      omega
    · have := weigh ns x h
      omega
theorem scr_bits {ns : List Int} (h : PySem.W.WData.layableAll [PySem.W.WData.list (ns.map PySem.W.WData.int)] = true) : ∀ x ∈ ns, Bt 1048576 x := by
  intro x hx
  have h1 : PySem.W.WData.layable (PySem.W.WData.list (ns.map PySem.W.WData.int)) = true := by
    have : (PySem.W.WData.layable (PySem.W.WData.list (ns.map PySem.W.WData.int)) && true) = true := h
    rwa [Bool.and_true] at this
  unfold PySem.W.WData.layable at h1
  rw [Bool.and_eq_true] at h1
  have h2 := of_decide_eq_true h1.2
  have h3 := weigh ns x hx
  simp only [PySem.W.WData.weight] at h2
  unfold Bt
  omega
theorem walk_big {l : PySem.W.OpenLaw} {k : Nat} {q : Program} {loose : List Str} {XP : (Str → Option Value) → Heap → Prop} {YP : World → Heap → Prop} {d : DefRec} {K : Params → PySem.W.Frag} {CX : World → CXT} {sp : World → Sp} {x : Str}
    (most : l.most = some 63) (plain : d.params.defaults = []) (room : Room k callerA)
    (inK : ∀ (w : World) (h : Heap), YP w h → (K w.params).In h)
    (F : ∀ (w : World) (mg : Str → Option Value) (fa : Addr) (h : Heap), (K w.params).In h → h.Ns mainGlobals mg → mg d.name = some (.ref fa) →
      ∃ fd : FuncData, (∀ (s : Shared) (u : Value), BindsTo s fd ⟨[u], []⟩ [(x, u)]) ∧
        ∀ base : Heap, (K w.params).In base → base.Ns mainGlobals mg → FnOk l.prog w (K w.params) mg base (CX w) k fa fd [x] (sp w))
    (law : ∀ (w : World) (H : Hp) (a : Addr) (ns : List Int), Scr ns → SqL (K w.params) H a (ns.map V.int) → sp w [.ref a] H (fun v _ => v = .bl true) fun _ _ _ => False)
    (calm : ∀ (w : World) (H : Hp) (s : Shared) (e : Value) (s' : Shared), CX w [] H s (fun _ _ _ => False) e s' → False) :
    PySem.W.WalkO q loose XP YP l.row.toRowW d [] (fun f vs => PySem.call f vs) := by
  intro w t₀ t mg mb G Y f ob pm cd doc dV kV look data code defs at_ gens args vals as pre lay _ well _
  have e1 : dV = .none := Dflts.none defs plain
  have e2 : kV = .none := Dflts.noKw defs
  cases e1
  cases e2
  obtain ⟨a, vs, ns, e3, e4, obj, are, len⟩ := Att.script_of most pre well
  cases e3
  cases e4
  have KX := inK w _ Y
  obtain ⟨fd, bind, ok⟩ := F w mg f _ KX G.T.g at_
  have run := law_call KX G.T.g G.T.b G.T.builtins G.T.nolimit gens obj are (Nat.le_trans len (by decide)) room ok bind
    (fun H _ S => law w H a ns ⟨len, scr_bits lay⟩ S) fun H e s' => calm w H t e s'
  refine enter_call (codeAny_mono run ?_)
  rintro r s' ⟨rfl, old, os, bare⟩
  exact ⟨.inl ⟨.bool true, .bool true, [], rfl, fun _ => rfl, .bool true, Att.post_true l _, fun _ => ⟨List.Pairwise.nil, fun _ z => (nomatch z)⟩⟩, old, os, bare⟩
def scell (ns : List Int) (k : Int) : Int := if 0 < (ns.length : Int) then ns.getD (k % (ns.length : Int)).toNat 0 else 0
theorem scell_bits {ns : List Int} (h : Scr ns) (k : Int) : Bt 1048576 (scell ns k) := by
  unfold scell
  split
  · rw [List.getD_eq_getElem?_getD]
    cases e : ns[(k % (ns.length : Int)).toNat]? with
    | none => exact (Bt.small (by decide) (by decide)).up (by decide)
    | some n => exact h.2 _ (List.mem_of_getElem? e)
  · exact (Bt.small (by decide) (by decide)).up (by decide)
theorem scell_at {ns : List Int} {k : Int} (h : 0 < (ns.length : Int)) : atI (ns.map V.int) (k % (ns.length : Int)) = some (.int (scell ns k)) := by
  have h1 := Int.emod_nonneg k (show (ns.length : Int) ≠ 0 by omega)
  have h2 := Int.emod_lt_of_pos k h
  unfold scell
  rw [if_pos h]
  have ek : k % (ns.length : Int) = (((k % (ns.length : Int)).toNat : Nat) : Int) := by omega
  refine (congrArg (atI _) ek).trans (atI_nat ?_)
  rw [List.getElem?_map, List.getD_eq_getElem?_getD, List.getElem?_eq_getElem (by omega)]
  rfl
end Gz
namespace Gz
open PySem PySem.Spec PyProof.Rows L2
theorem compGo_some {P : Int → Prop} {Ok : Hp → Prop} {ρ : L2.St} {tt : TT} {te : TE} {H : Hp} {Q' : List V → Hp → Prop} (hOk : Ok H) : ∀ {xs ys : List V}, (∀ x ∈ xs, ∀ Q, Q true H → tt (some x :: ρ) H Q) → (∀ x ∈ xs, ∀ Q : VK, (∀ n : Int, P n → Q (.int n) H) → te (some x :: ρ) H Q) → (∀ ms : List Int, ms.length = xs.length → (∀ m ∈ ms, P m) → Q' (ys ++ ms.map V.int) H) → compGo Ok ρ tt te xs ys H Q'
  | [], ys, _, _, q => ⟨hOk, by simpa using q [] rfl fun _ h => by simp at h⟩
  | x :: r, ys, ht, he, q => by
    refine ⟨hOk, ht x (.head _) _ ?_⟩
    rw [if_pos rfl]
    refine he x (.head _) _ fun n hn => compGo_some (P := P) hOk (fun y hy => ht y (.tail _ hy)) (fun y hy => he y (.tail _ hy)) fun ms hm hP => ?_
    have := q (n :: ms) (by simp [hm]) fun m h => by
      rcases List.mem_cons.mp h with rfl | h
      · exact hn
      · exact hP m h
    simpa using this
end Gz
namespace Gz
open PySem PySem.Spec PyProof.Rows L2
theorem bd600 {x : Int} (h : x.natAbs < 2 ^ 600) : Bd 4000 x := Bd.up (n := 600) h (by decide)
theorem mul600 {x y : Int} (h : x.natAbs < 2 ^ 600) (h' : y.natAbs < 2 ^ 600) : MulB x y := ⟨bd600 h, bd600 h'⟩
end Gz
namespace Gz
end Gz
namespace Gz
open PySem L2
theorem seq_cut {a b : TS} {D : Ends} {σ : L2.St} {H : Hp} (I : L2.St → Hp → Prop) (h1 : ∀ N : L2.St → Hp → Prop, (∀ σ H, I σ H → N σ H) → a { D with nx := N } σ H) (h2 : ∀ σ H, I σ H → b D σ H) : tSeq a b D σ H := h1 _ h2
end Gz
set_option Elab.async false
set_option linter.all false
set_option maxRecDepth 100000
set_option maxHeartbeats 4000000
namespace Gz
open PySem PySem.Spec PyProof.Rows L2
def bits (bs : List Int) : Prop := ∀ x ∈ bs, x = 0 ∨ x = 1
theorem call_list_ofK {X : Cx} {K : PySem.W.Frag} (h : X.K = K) : CallR X (.type "list") (fun xs H Q => ∃ p ys, xs = [.ref p] ∧ (SqL K H p ys ∨ SqT K H p ys) ∧ ∀ l, H l = none → Q (.ref l) (upd H l (.lst ys))) := by
  subst h; exact call_list_of
abbrev Lk := Option (List Int)
def IsLx (xs : List Addr) (H : Hp) (v : V) : Lk → Prop
  | none => v = .non
  | some bs => ∃ l, v = .ref l ∧ l ∉ xs ∧ H l = some (.lst (bs.map V.int))
abbrev IsL := IsLx []
theorem IsLx.l {xs : List Addr} {H : Hp} {v : V} {k : Lk} (h : IsLx xs H v k) : IsL H v k := by
  cases k with
  | none => exact h
  | some bs => obtain ⟨l, a, b, c⟩ := h; exact ⟨l, a, (fun z => nomatch z), c⟩
end Gz
set_option Elab.async false
set_option linter.all false
set_option maxRecDepth 100000
set_option maxHeartbeats 4000000
namespace Gz
open PySem PySem.Spec PyProof.Rows L2
theorem ite_by {c : Prop} [Decidable c] {a b : Prop} (h : c → a) (h' : ¬ c → b) : if c then a else b := by
  by_cases z : c
  · rw [if_pos z]; exact h z
  · rw [if_neg z]; exact h' z
section
variable {X : Cx} {pos : Pos}
theorem pe_globI {x : Str} {n : Int} (h : ∃ t, X.mg x = some (.int n t)) (hg : Gl X x) (hd : (x == ("__debug__" : Str)) = false := by decide) : PE X (.Name x pos) (tC (.int n)) := by
  obtain ⟨t, ht⟩ := h
  exact pe_glob (v := .int n) hg ht ⟨t, rfl⟩ hd
end
end Gz
set_option Elab.async false
set_option linter.all false
set_option maxRecDepth 100000
set_option maxHeartbeats 4000000
namespace Gz
open PySem PySem.Spec PyProof.Rows L2
local macro_rules | `(tactic| walk_at "om") => `(tactic| ((try simp only [PySem.Addr] at *); omega))
def FlyAt (B : Heap) (l : List Env) (x : Addr) (cls a0 mk : Value) (h : Heap) : Prop := B.StaysIn h ∧ B.get? x = none ∧ h.FunFrames B l ∧ h.TracedAtW B x cls a0 mk
section
variable {M : Model} {A : Around} {E : Value → Shared → Prop} {s : Shared} {B : Heap} {l outer : List Env} {env : Env} {L x C : Addr} {cls a0 mk : Value} {Q : Unit → Shared → Prop}
theorem FlyAt.but {h h' : Heap} {ob : Obj} (fl : FlyAt B l x cls a0 mk h) (hC : h.get? C = some ob) (hn : ∀ us, ob.data ≠ .fields us) (hB : B.get? C = none) (hl : C ∉ frs l) (sb : Heap.SameBut C h h') : FlyAt B l x cls a0 mk h' := by
  obtain ⟨f1, f2, f3, ox, us, T, oT, ts, e1, e2, e3, e4, e5, e6, e7, e8, e9⟩ := fl
  have nx : x ≠ C := fun z => by rw [z, hC] at e1; cases e1; exact hn _ e3
  have nT : T ≠ C := fun z => by rw [z, hC] at e7; cases e7; exact hn _ e8
  have all : ∀ (l : List Env), C ∉ frs l → h.FunFrames B l → h'.FunFrames B l := by
    intro l
    induction l with
    | nil => intro _ _; trivial
    | cons env r ih =>
      intro hs hl
      obtain ⟨hk, ⟨L, o, hf, hn, ho, hd⟩, hr⟩ := hl
      unfold frs at hs
      rw [List.filterMap_cons, hf] at hs
      exact ⟨hk, ⟨L, o, hf, hn, (sb.2 L fun z => hs (by rw [z]; exact List.mem_cons_self)).trans ho, hd⟩, ih (fun z => hs (List.mem_cons_of_mem _ z)) hr⟩
  exact ⟨fun b o z => (sb.2 b fun y => by rw [y, hB] at z; cases z).trans (f1 b o z), f2, all l hl f3, ox, us, T, oT, ts, (sb.2 x nx).trans e1, e2, e3, e4, e5, e6, (sb.2 T nT).trans e7, e8, e9⟩
end
section
variable {P : Program} {w : World} {K : PySem.W.Frag} {mg : Str → Option Value} {base : Heap} {N : List Str} {qual : Str} {scope : Scope} {f : Addr} {cd : Value} {A : Around} {outer : List Env} {s : Shared} {H : Hp} {E : XK}
end
section
variable {X : Cx} {pins : List (Addr × Obj)} {σ : L2.St} {H2 : Hp} {s2 : Shared} {x : Str} {px pos : Pos} {elt iter : Expr} {ifs : List Expr} {scope : Scope} {cl : List (Str × Addr)} {fr : List Nat} {ys : List Str} {tt : TT} {te : TE}
end
section
variable {X : Cx} {F : Value → Shared → Prop} {pins pn : List (Addr × Obj)} {σ : L2.St} {H : Hp} {s : Shared} {A' : Around}
end
end Gz
set_option Elab.async false
set_option linter.all false
set_option maxRecDepth 100000
set_option maxHeartbeats 4000000
namespace Gz
open PySem PySem.Spec PyProof.Rows L2
def inB (ks : List P2) (r : Int) (i : Nat) : Bool := decide ((ptD ks i).1 ≤ r) && decide (r ≤ (ptD ks (i + 1)).1)
end Gz
set_option Elab.async false
set_option linter.all false
set_option maxRecDepth 100000
set_option maxHeartbeats 4000000
namespace Gz
open PySem PySem.Spec PyProof.Rows L2
local macro_rules | `(tactic| walk_at "om") => `(tactic| ((try simp only [PySem.Addr] at *); omega))
section
variable {κ : Type} [DecidableEq κ]
end
section
variable {prog : Program} {w : World} {K : Type} [DecidableEq K] {knd : HeapKind prog w K} {A : Around} {E : Value → Shared → Prop} {s : Shared}
end
def RawAt (h : Heap) (d : Addr) (es : Array DictEntry) (ep : Nat) : Prop := ∃ o, h.get? d = some o ∧ o.ExactDict ∧ o.data = .dict es ep
theorem RawAt.at {h h' : Heap} {d : Addr} {es : Array DictEntry} {ep : Nat} (x : RawAt h d es ep) (e : ∀ o, h.get? d = some o → h'.get? d = some o) : RawAt h' d es ep := let ⟨o, ho, r⟩ := x; ⟨o, e o ho, r⟩
theorem RawAt.lt {h : Heap} {d : Addr} {es : Array DictEntry} {ep : Nat} (x : RawAt h d es ep) : d < h.objs.size := let ⟨_, ho, _⟩ := x; Heap.lt_size ho
theorem RawAt.ty {s : Shared} {d : Addr} {es : Array DictEntry} {ep : Nat} (x : RawAt s.heap d es ep) : s.TypeIs (.ref d) "dict" := let ⟨o, ho, hc, _⟩ := x; ⟨o, ho, hc.1⟩
section
variable {prog : Program} {w : World} {A : Around} {E : Value → Shared → Prop} {s : Shared} {d it : Addr} {es : Array DictEntry} {i ep : Nat}
end
section
variable {prog : Program} {w : World} {A : Around} {E : Value → Shared → Prop} {s : Shared}
def TupI (h : Heap) (vs : List Value) (kis : List (List Int)) (i : Nat) : Prop := ∃ (p : Addr) (o : Obj) (its : List Value) (m : Nat), vs[i]? = some (.ref p) ∧ h.get? p = some o ∧ o.cls = .type "tuple" ∧ o.data = .seq its.toArray m ∧ IntsAre its (kis.getD i []) ∧ its ≠ []
theorem TupI.keep {h h' : Heap} {vs : List Value} {kis : List (List Int)} {i : Nat} (x : TupI h vs kis i) (k : ∀ b o, h.get? b = some o → (∀ n xs, o ≠ seqObj "list" xs n) → h'.get? b = some o) : TupI h' vs kis i := by
  obtain ⟨p, o, its, m, h1, h2, h3, r⟩ := x
  exact ⟨p, o, its, m, h1, k p o h2 (fun n xs z => by rw [z] at h3; exact absurd (Value.type.inj h3) (by decide)), h3, r⟩
end
section
variable {X : Cx} {pins : List (Addr × Obj)} {σ : L2.St} {H : Hp} {s : Shared} {p : Addr} {kvs : List (List Key × V)}
end
section
variable {X : Cx} {pins : List (Addr × Obj)} {σ : L2.St} {H : Hp} {s : Shared} {p b : Addr} {kvs : List (List Key × V)} {k : List Key} {A : Around} {E : Value → Shared → Prop}
end
section
variable {X : Cx} {o e f : Expr} {td ty tx : TE} {apos cpos : Pos}
end
section
variable {prog : Program} {w : World} {K : Type} [DecidableEq K] {knd : KeyKind prog w K} {A : Around} {E : Value → Shared → Prop} {s : Shared} {o d : Addr} {es : Array DictEntry} {ep : Nat}
end
end Gz
set_option Elab.async false
set_option linter.all false
set_option maxRecDepth 100000
set_option maxHeartbeats 4000000
namespace Gz
open PySem PySem.Spec PyProof.Rows L2
local macro_rules | `(tactic| walk_at "om") => `(tactic| ((try simp only [PySem.Addr] at *); omega))
section
variable {prog : Program} {w : World} {A : Around} {E : Value → Shared → Prop} {s : Shared}
end
abbrev KD (prog : Program) (w : World) := tupleKind (mixKind prog w)
abbrev Row := Addr × List Key × Addr × Value
section
variable {prog : Program} {w : World} {A : Around} {E : Value → Shared → Prop} {s : Shared}
theorem tup_keep {h h' : Heap} {k : List Key} {a : Addr} (x : (KD prog w).is h k a) (e : ∀ o, h.get? a = some o → h'.get? a = some o) : (KD prog w).is h' k a :=
  let ⟨o, its, n, h1, r⟩ := x; ⟨o, its, n, e o h1, r⟩
def RowAt (prog : Program) (w : World) (h : Heap) (r : Row) : Prop := (∃ o m, h.get? r.1 = some o ∧ o.cls = .type "tuple" ∧ o.data = .seq #[.ref r.2.2.1, r.2.2.2] m) ∧ (KD prog w).is h r.2.1 r.2.2.1
theorem RowAt.keep {h h' : Heap} {r : Row} (x : RowAt prog w h r) (e1 : ∀ o, h.get? r.1 = some o → h'.get? r.1 = some o) (e2 : ∀ o, h.get? r.2.2.1 = some o → h'.get? r.2.2.1 = some o) : RowAt prog w h' r :=
  let ⟨⟨o, m, a, b⟩, c⟩ := x; ⟨⟨o, m, e1 o a, b⟩, tup_keep c e2⟩
end
section
variable {X : Cx} {pins : List (Addr × Obj)} {σ : L2.St} {H : Hp} {s : Shared}
end
end Gz
set_option Elab.async false
set_option linter.all false
set_option maxRecDepth 100000
set_option maxHeartbeats 4000000
namespace Gz
open PySem PySem.Spec PyProof.Rows L2
local macro_rules | `(tactic| walk_at "om") => `(tactic| ((try simp only [PySem.Addr] at *); omega))
theorem pe_fldK {X : Cx} {K : PySem.W.Frag} {e : Expr} {f : Str} {pos : Pos} {ta : TE} (he : PE X e ta) (hb : attributeBase e f X.env (eval e X.env) = eval e X.env) (eK : X.K = K := by rfl) : PE X (.Attribute e f pos) (tFld K ta f) := by
  subst eK; exact pe_fld he hb
abbrev Tb := List (P2 × S2)
def spot (i j : Int) : List Key := [.inl i, .inl j]
theorem spot_inj {a b : P2} (h : spot a.1 a.2 = spot b.1 b.2) : a = b := by
  unfold spot at h
  injection h with h1 h2
  injection h2 with h2 _
  exact Prod.ext (Sum.inl.inj h1) (Sum.inl.inj h2)
def dropT (tb : Tb) (s : P2) : Tb := tb.filter fun r => decide (r.1 ≠ s)
def TabAs (H : Hp) : List (List Key × V) → Tb → Prop
  | [], [] => True
  | kv :: kvs, r :: tb => (kv.1 = spot r.1.1 r.1.2 ∧ IsS H kv.2 r.2.1 r.2.2) ∧ TabAs H kvs tb
  | _, _ => False
section
variable {H H' : Hp} {kvs : List (List Key × V)} {tb : Tb}
theorem TabAs.len : ∀ {kvs : List (List Key × V)} {tb : Tb}, TabAs H kvs tb → kvs.length = tb.length
  | [], [], _ => rfl
  | _ :: kvs, _ :: tb, h => congrArg (· + 1) (TabAs.len (kvs := kvs) (tb := tb) h.2)
  | [], _ :: _, h => h.elim
  | _ :: _, [], h => h.elim
theorem TabAs.imp (f : ∀ v a b, IsS H v a b → IsS H' v a b) : ∀ {kvs : List (List Key × V)} {tb : Tb}, TabAs H kvs tb → TabAs H' kvs tb
  | [], [], _ => trivial
  | _ :: kvs, _ :: tb, h => ⟨⟨h.1.1, f _ _ _ h.1.2⟩, TabAs.imp f (kvs := kvs) (tb := tb) h.2⟩
  | [], _ :: _, h => h.elim
  | _ :: _, [], h => h.elim
theorem TabAs.any (s : P2) : ∀ {kvs : List (List Key × V)} {tb : Tb}, TabAs H kvs tb → (kvs.any fun kv => decide (kv.1 = spot s.1 s.2)) = tb.any fun r => decide (r.1 = s)
  | [], [], _ => rfl
  | kv :: kvs, r :: tb, h => by
    rw [List.any_cons, List.any_cons, TabAs.any s (kvs := kvs) (tb := tb) h.2, h.1.1]
    congr 1
    by_cases e : r.1 = s
    · rw [e, decide_eq_true rfl, decide_eq_true rfl]
    · rw [decide_eq_false e, decide_eq_false fun z => e (spot_inj z)]
  | [], _ :: _, h => h.elim
  | _ :: _, [], h => h.elim
theorem TabAs.drop {s : P2} : ∀ {kvs : List (List Key × V)} {tb : Tb}, TabAs H kvs tb → TabAs H (dropK kvs (spot s.1 s.2)) (dropT tb s)
  | [], [], _ => trivial
  | kv :: kvs, r :: tb, h => by
    have ih := TabAs.drop (s := s) (kvs := kvs) (tb := tb) h.2
    unfold dropK dropT at *
    rw [List.filter_cons, List.filter_cons]
    by_cases e : r.1 = s
    · have e2 : kv.1 = spot s.1 s.2 := h.1.1.trans (by rw [e])
      rw [if_neg (by simp [e2]), if_neg (by simp [e])]; exact ih
    · have e2 : ¬ kv.1 = spot s.1 s.2 := fun z => e (spot_inj (h.1.1.symm.trans z))
      rw [if_pos (by simp [e2]), if_pos (by simp [e])]; exact ⟨h.1, ih⟩
  | [], _ :: _, h => h.elim
  | _ :: _, [], h => h.elim
end
def TabAt (H : Hp) (p : Addr) (tb : Tb) : Prop := ∃ kvs, H p = some (.dT kvs) ∧ TabAs H kvs tb
def Fr (H H' : Hp) : Prop := ∀ b o, (∀ kvs, o ≠ HO.dT kvs) → H b = some o → H' b = some o
def But (ps : List Addr) (H H' : Hp) : Prop := ∀ b o, b ∉ ps → H b = some o → H' b = some o
def Dcts (H : Hp) (ps : List Addr) : Prop := ∀ p ∈ ps, ∃ kvs, H p = some (.dT kvs)
section
variable {H H' H2 : Hp} {ps qs : List Addr} {p q : Addr} {tb : Tb}
theorem Fr.trans (a : Fr H H') (b : Fr H' H2) : Fr H H2 := fun c o h e => b c o h (a c o h e)
theorem _root_.L2.Same.fr (s : Same H H') : Fr H H' := fun b o _ e => s b o e
theorem _root_.L2.Same.but (s : Same H H') : But ps H H' := fun b o _ e => s b o e
theorem But.trans (a : But ps H H') (b : But ps H' H2) : But ps H H2 := fun c o h e => b c o h (a c o h e)
theorem SameBut.but (a : SameBut p H H') (h : p ∈ ps) : But ps H H' := fun c o z e => a c o (fun y => z (y ▸ h)) e
theorem But.fr (a : But ps H H') (d : Dcts H ps) : Fr H H' := fun b o ho e => by
  by_cases hb : b ∈ ps
  · obtain ⟨kvs, hk⟩ := d b hb
    rw [hk] at e
    exact absurd (Option.some.inj e).symm (ho kvs)
  · exact a b o hb e
theorem dcts1 {kvs : List (List Key × V)} (h : H p = some (.dT kvs)) : Dcts H [p] := fun b hb => ⟨kvs, (List.mem_singleton.mp hb) ▸ h⟩
theorem SameBut.fr {kvs : List (List Key × V)} (a : SameBut p H H') (h : H p = some (.dT kvs)) : Fr H H' := But.fr (SameBut.but a (.head _)) (dcts1 h)
theorem IsS.fr {v : V} {a b : En} (h : IsS H v a b) (f : Fr H H') : IsS H' v a b := let ⟨p, e, hp⟩ := h; ⟨p, e, f _ _ (fun _ z => nomatch z) hp⟩
theorem IsPt.fr {v : V} {a : P2} (h : IsPt H v a) (f : Fr H H') : IsPt H' v a := let ⟨p, e, hp⟩ := h; ⟨p, e, f _ _ (fun _ z => nomatch z) hp⟩
theorem TabAt.fr (h : TabAt H p tb) (f : Fr H H') (e : ∀ kvs, H p = some (.dT kvs) → H' p = some (.dT kvs)) : TabAt H' p tb := let ⟨kvs, a, b⟩ := h; ⟨kvs, e _ a, b.imp fun _ _ _ z => z.fr f⟩
theorem TabAt.but (h : TabAt H p tb) (b : But ps H H') (d : Dcts H ps) (hp : p ∉ ps) : TabAt H' p tb := h.fr (b.fr d) fun _ e => b _ _ hp e
end
def onB (e t : Int) (s : P2) : Prop := (0 ≤ s.1 ∧ s.1 < e) ∧ 0 ≤ s.2 ∧ s.2 < t
instance (e t : Int) (s : P2) : Decidable (onB e t s) := by unfold onB; infer_instance
def okT (e t : Int) (tb : Tb) : Prop := (tb.map (·.1)).Nodup ∧ ∀ r ∈ tb, onB e t r.1
theorem okT.drop {e t : Int} {tb : Tb} {s : P2} (h : okT e t tb) : okT e t (dropT tb s) :=
  ⟨h.1.sublist ((List.filter_sublist).map _), fun r hr => h.2 r (List.mem_filter.mp hr).1⟩
theorem okT.nil {e t : Int} : okT e t [] := ⟨List.nodup_nil, fun r h => by cases h⟩
def IsTr (H : Hp) (v : V) (r : P2 × S2) : Prop := ∃ a w, v = .ref a ∧ H a = some (.tup [.int r.1.1, .int r.1.2, w]) ∧ IsS H w r.2.1 r.2.2
theorem IsTr.fr {H H' : Hp} {v : V} {r : P2 × S2} (h : IsTr H v r) (s : Fr H H') : IsTr H' v r := let ⟨a, w, e, ha, hw⟩ := h; ⟨a, w, e, s _ _ (fun _ z => nomatch z) ha, hw.fr s⟩
end Gz
set_option Elab.async false
set_option linter.all false
namespace Gz
open PySem PySem.Spec PyProof.Rows L2
theorem sts_all2 {H : Hp} : ∀ {xs : List V} {ss : List S2}, Sts H xs ss ↔ All2 (fun x s => IsS H x s.1 s.2) xs ss
  | [], [] => Iff.rfl
  | _ :: _, _ :: _ => and_congr Iff.rfl sts_all2
  | [], _ :: _ => Iff.rfl
  | _ :: _, [] => Iff.rfl
abbrev Pa := Str × Int × S2
def IsPa (H : Hp) (v : V) (p : Pa) : Prop := ∃ (t q : Addr), v = .ref t ∧ H t = some (.tup [.str p.1, .int p.2.1, .ref q]) ∧ H q = some (.tup [ev p.2.2.1, ev p.2.2.2])
theorem IsPa.same {H H' : Hp} {v : V} {p : Pa} (h : IsPa H v p) (s : Same H H') : IsPa H' v p := let ⟨t, q, e, a, b⟩ := h; ⟨t, q, e, s _ _ a, s _ _ b⟩
abbrev Pas (H : Hp) : List V → List Pa → Prop := All2 (IsPa H)
theorem Pas.same {H H' : Hp} {xs : List V} {ps : List Pa} (h : Pas H xs ps) (s : Same H H') : Pas H' xs ps := All2.imp (fun _ _ r => r.same s) h
theorem IsPa.fr {H : Hp} {v : V} {p : Pa} {r : Addr} {ys : List V} {o : HO} (h : IsPa H v p) (hr : H r = some (.lst ys)) : IsPa (upd H r o) v p := by
  obtain ⟨t, q, e, a, b⟩ := h
  have h1 : t ≠ r := fun z => by rw [z, hr] at a; cases a
  have h2 : q ≠ r := fun z => by rw [z, hr] at b; cases b
  exact ⟨t, q, e, by rw [upd_ne h1]; exact a, by rw [upd_ne h2]; exact b⟩
theorem Pas.put {H : Hp} {xs : List V} {ps : List Pa} {r : Addr} {ys : List V} {o : HO} (h : Pas H xs ps) (hr : H r = some (.lst ys)) : Pas (upd H r o) xs ps := All2.imp (fun _ _ x => x.fr hr) h
def nmAt (cs : List Int) (k : Str) (t : Int) : Int := if k = "step" then cs.getD (t + 1).toNat 0 - cs.getD t.toNat 0 else cs.getD t.toNat 0
def metB (cs : List Int) (ps : List Pa) : Bool := ps.all fun p => hold p.2.2.1 p.2.2.2 (nmAt cs p.1 p.2.1)
theorem int_at {cs : List Int} {t : Int} (h0 : 0 ≤ t) (h1 : t < (cs.length : Int)) : atI (cs.map V.int) t = some (.int (cs.getD t.toNat 0)) := by
  have e : t = ((t.toNat : Nat) : Int) := by omega
  refine (congrArg (atI _) e).trans (atI_nat ?_)
  rw [List.getElem?_map, List.getD_eq_getElem?_getD, List.getElem?_eq_getElem (by omega)]
  rfl
structure Gd (n : Nat) (d : PyData) : Prop where
  eqv : PyData.eqv d d = true
  lay : d.canLay0 = true
  dep : d.depth ≤ n
theorem Gd.up {n m : Nat} {d : PyData} (h : Gd n d) (hm : n ≤ m) : Gd m d := ⟨h.eqv, h.lay, Nat.le_trans h.dep hm⟩
theorem Gd.of {n : Nat} {d : PyData} (h : plainD n d = true) : Gd n d := let ⟨a, b, c⟩ := plain_ok d h; ⟨a, b, c⟩
theorem Gd.str {x : Str} (h : PyData.strOk x = true) : Gd 0 (.str x) := ⟨by simp [PyData.eqv], by simpa [PyData.canLay0] using h, Nat.le_refl _⟩
theorem Gd.int (i : Int) : Gd 0 (.int i) := .of rfl
theorem Gd.all : ∀ {ds : List PyData} {n : Nat}, (∀ d ∈ ds, Gd n d) → PyData.eqvAll ds ds = true ∧ PyData.canLayAll0 ds = true ∧ PyData.depthAll ds ≤ n
  | [], n, _ => ⟨rfl, rfl, Nat.zero_le _⟩
  | d :: ds, n, h => by
    obtain ⟨a, b, c⟩ := h d (.head _)
    obtain ⟨a', b', c'⟩ := Gd.all (ds := ds) fun x hx => h x (.tail _ hx)
    exact ⟨by simp only [PyData.eqvAll, a, a', Bool.and_self], by simp only [PyData.canLayAll0, b, b', Bool.and_self], by simp only [PyData.depthAll]; omega⟩
theorem Gd.lst {ds : List PyData} {n : Nat} (h : ∀ d ∈ ds, Gd n d) : Gd (n + 1) (.list ds) := by
  obtain ⟨a, b, c⟩ := Gd.all h
  exact ⟨by simpa only [PyData.eqv] using a, by simpa only [PyData.canLay0] using b, by simp only [PyData.depth]; omega⟩
theorem Gd.tup {ds : List PyData} {n : Nat} (h : ∀ d ∈ ds, Gd n d) : Gd (n + 1) (.tuple ds) := by
  obtain ⟨a, b, c⟩ := Gd.all h
  exact ⟨by simpa only [PyData.eqv] using a, by simpa only [PyData.canLay0] using b, by simp only [PyData.depth]; omega⟩
theorem eq_good {K : PySem.W.Frag} {H : Hp} {x y : V} {d : PyData} {n : Nat} {neg : Bool} {Q : VK} (hx : Dat K H x d) (hy : Dat K H y d) (g : Gd n d) (hn : n ≤ 60) (q : Q (.bl (!neg)) H) : rEqD K neg x y H Q := by
  refine ⟨d, d, hx, hy, g.lay, g.lay, Nat.le_trans g.dep hn, ?_⟩
  rw [g.eqv]
  cases neg <;> exact q
theorem gd_S (s : S2) : Gd 1 (datS s) := .of (by
  obtain ⟨a, b⟩ := s
  cases a <;> cases b <;> rfl)
theorem Dats.of_all2 {α : Type} {K : PySem.W.Frag} {H : Hp} {R : V → α → Prop} {f : α → PyData} (h : ∀ v a, R v a → Dat K H v (f a)) : ∀ {xs : List V} {as : List α}, All2 R xs as → Dats K H xs (as.map f)
  | [], [], _ => .nil
  | _ :: _, _ :: _, r => .cons (h _ _ r.1) (Dats.of_all2 h r.2)
  | [], _ :: _, r => r.elim
  | _ :: _, [], r => r.elim
def datPa (p : Pa) : PyData := .tuple [.str p.1, .int p.2.1, datS p.2.2]
theorem IsPa.dat {K : PySem.W.Frag} {H : Hp} {v : V} {p : Pa} (h : IsPa H v p) : Dat K H v (datPa p) := by
  obtain ⟨t, q, rfl, a, b⟩ := h
  exact .tup (SqT.of a) (.cons (.str _) (.cons (.int _) (.cons (IsS.dat ⟨q, rfl, b⟩) .nil)))
theorem gd_Pa {p : Pa} (h : PyData.strOk p.1 = true) : Gd 2 (datPa p) := .tup fun d hd => by
  simp only [List.mem_cons, List.not_mem_nil, or_false] at hd
  rcases hd with rfl | rfl | rfl
  · exact (Gd.str h).up (by decide)
  · exact (Gd.int _).up (by decide)
  · exact gd_S _
end Gz
namespace Gz
open PySem PySem.Spec PyProof.Rows L2
end Gz
namespace Gz
open PySem PySem.Spec PyProof.Rows L2
end Gz
namespace Gz
open PySem PySem.Spec PyProof.Rows L2
end Gz
namespace Gz
open PySem L2
theorem made_new {H : Hp} {x dx C : Addr} {fs : List (Str × V)} (hx : H x = none) (hd : H dx = none) (hn : dx ≠ x) : Same H (upd (upd H dx (.own x)) x (.ins C dx fs)) :=
  (same_upd hd).trans (same_upd (by rw [upd_ne (Ne.symm hn)]; exact hx))
end Gz
set_option Elab.async false
set_option linter.all false
namespace Gz
open PySem PySem.Spec PyProof.Rows L2
section
variable {X : Cx} {F : Value → Shared → Prop} {pins pn : List (Addr × Obj)} {σ : L2.St} {H : Hp} {s : Shared} {A' : Around}
end
section
variable {X : Cx} {k : Nat} {f : Addr} {fd : FuncData} {ps : List Str} {sp : Sp} {dvs : List V} {ds : List Value} {E : XK} {x : Str} {p pos apos : Pos} {e tg : Expr} {es : List Expr} {t : TA} {g : TG}
end
end Gz
set_option Elab.async false
set_option linter.all false
namespace Gz
open PySem PySem.Spec PyProof.Rows L2
section
variable {X : Cx} {a b c d : Expr} {ta tb tc td : TE} {pos : Pos}
def tChain3 (r r' r'' : R2) (ta tb tc td : TE) : TE := fun σ H Q => ta σ H fun x H1 => tb σ H1 fun y H2 => r x y H2 fun z H3 => ∃ k, z = .bl k ∧
  (if k = true then tc σ H3 fun w' H4 => r' y w' H4 fun z2 H5 => ∃ k2, z2 = .bl k2 ∧ (if k2 = true then td σ H5 fun w2 H6 => r'' w' w2 H6 Q else Q (.bl false) H5) else Q (.bl false) H3)
theorem pt_chain3 {op op' op'' : CmpOp} {r r' r'' : R2} (ho : OpR X (compareOp op) r) (ho' : OpR X (compareOp op') r') (ho'' : OpR X (compareOp op'') r'') (ha : PE X a ta) (hb : PE X b tb) (hc : PE X c tc) (hd : PE X d td)
    (hm : lastMarks [op, op', op''] [b, c, d] = false := by with_unfolding_all rfl) : PT X (.Compare a [op, op', op''] [b, c, d] pos) (tTest (tChain3 r r' r'' ta tb tc td)) := by
  intro pins s σ H Q I h
  refine isTrue_chain (thn (ha pins s σ H _ I h) fun v s1 ⟨x, H1, I1, r1, q1⟩ => test_link (thn (hb pins s1 σ H1 _ I1 q1) fun u s2 ⟨y, H2, I2, r2, q2⟩ =>
    thn (ho pins s2 σ H2 x y v u _ I2 r1 r2 q2) fun d s3 ⟨z, H3, I3, r3, k, e, q3⟩ => ?_)) hm
  subst e
  cases r3
  refine wpAny_truthy_bool ?_
  cases k with
  | false =>
    obtain ⟨k', e', q'⟩ := q3
    cases e'
    exact (if_neg (by decide)).mpr ⟨H3, I3, q'⟩
  | true =>
    refine (if_pos rfl).mpr (test_link (thn (hc pins s3 σ H3 _ I3 q3) fun w' s4 ⟨z', H4, I4, r4, q4⟩ => thn (ho' pins s4 σ H4 y z' u w' _ I4 r2 r4 q4) fun d2 s5 ⟨z2, H5, I5, r5, k2, e2, q5⟩ => ?_))
    subst e2
    cases r5
    refine wpAny_truthy_bool ?_
    cases k2 with
    | false =>
      obtain ⟨k', e', q'⟩ := q5
      cases e'
      exact (if_neg (by decide)).mpr ⟨H5, I5, q'⟩
    | true =>
      refine (if_pos rfl).mpr (test_last (thn (hd pins s5 σ H5 _ I5 q5) fun w2 s6 ⟨z3, H6, I6, r6, q6⟩ => thn (ho'' pins s6 σ H6 z' z3 w' w2 _ I6 r4 r6 q6) fun d' s7 ⟨z4, H7, I7, r7, k3, e3, q7⟩ => ?_))
      subst e3
      cases r7
      exact wpAny_truthy_bool ⟨H7, I7, q7⟩
end
section
variable {X : Cx} {CX : CXT} {k : Nat} {f : Addr} {fd : FuncData} {ps : List Str} {ds : List Value} {dvs : List V} {sp : Sp} {E : XK} {m : Str} {pos apos : Pos} {o : Expr} {ta : TE}
theorem pe_methV0 {pl : Sem Bool} (he : PE X o ta) (F : FnOk X.prog X.w X.K X.mg X.base CX k f fd ps sp) (hr : Room k X.A) (hb : Binds X.K fd ps ds) (hd : Vals dvs ds) (hx : Passes CX X E)
    (ht : eval (.Call (.Attribute o m apos) [] [] pos) X.env = (do
      let ov ← eval o X.env
      standAt apos.atName
      let (f, first) ← holding [ov] (getMethod ov m pl)
      callWith pos f first (backTo pos (starEach [] X.env)) (backToKw pos (keywordEach [] X.env))) := by rfl) :
    PE X (.Call (.Attribute o m apos) [] [] pos) (tMethV X.K m f sp dvs E ta tNil) := by
  intro pins s σ H Q I h
  refine PySem.W.methodCall_KW (pl := pl) (thn (he pins s σ H _ I h) fun u s1 ⟨x, H1, I1, rx, a, C, dx, fs, ex, ea, c, hm, l, q⟩ => ?_) ht
  subst ex
  obtain rfl : u = Value.ref a := rx
  refine getmeth_ok I1 ea c hm l ?_
  exact PySem.W.callWith_K0 (first := [.ref a]) I1.kIn hm.kp (run_fn (us := [.ref a]) (vs := [.ref a]) F hr hb hd hx I1 (.cons rfl .nil) q)
end
def tEv (t1 t2 : TE) : TE := fun σ H Q => t1 σ H Q ∨ t2 σ H Q
theorem pe_ev {X : Cx} {e : Expr} {t1 t2 : TE} (h1 : PE X e t1) (h2 : PE X e t2) : PE X e (tEv t1 t2) := fun pins s σ H Q I h => h.elim (h1 pins s σ H Q I) (h2 pins s σ H Q I)
end Gz
namespace Gz
open PySem L2
theorem scal_ss (x y : Str) : scal (.str x) (.str y) = true := rfl
theorem sne_over_under : (V.str "over" = V.str "under") = False := eq_false (by decide)
theorem sne_over_rose : (V.str "over" = V.str "rose") = False := eq_false (by decide)
theorem sne_over_turn : (V.str "over" = V.str "turn") = False := eq_false (by decide)
theorem sne_over_stay : (V.str "over" = V.str "stay") = False := eq_false (by decide)
theorem sne_over_pace : (V.str "over" = V.str "pace") = False := eq_false (by decide)
theorem sne_under_over : (V.str "under" = V.str "over") = False := eq_false (by decide)
theorem sne_under_rose : (V.str "under" = V.str "rose") = False := eq_false (by decide)
theorem sne_under_turn : (V.str "under" = V.str "turn") = False := eq_false (by decide)
theorem sne_under_stay : (V.str "under" = V.str "stay") = False := eq_false (by decide)
theorem sne_under_pace : (V.str "under" = V.str "pace") = False := eq_false (by decide)
theorem sne_rose_over : (V.str "rose" = V.str "over") = False := eq_false (by decide)
theorem sne_rose_under : (V.str "rose" = V.str "under") = False := eq_false (by decide)
theorem sne_rose_turn : (V.str "rose" = V.str "turn") = False := eq_false (by decide)
theorem sne_rose_stay : (V.str "rose" = V.str "stay") = False := eq_false (by decide)
theorem sne_rose_pace : (V.str "rose" = V.str "pace") = False := eq_false (by decide)
theorem sne_turn_over : (V.str "turn" = V.str "over") = False := eq_false (by decide)
theorem sne_turn_under : (V.str "turn" = V.str "under") = False := eq_false (by decide)
theorem sne_turn_rose : (V.str "turn" = V.str "rose") = False := eq_false (by decide)
theorem sne_turn_stay : (V.str "turn" = V.str "stay") = False := eq_false (by decide)
theorem sne_turn_pace : (V.str "turn" = V.str "pace") = False := eq_false (by decide)
theorem sne_stay_over : (V.str "stay" = V.str "over") = False := eq_false (by decide)
theorem sne_stay_under : (V.str "stay" = V.str "under") = False := eq_false (by decide)
theorem sne_stay_rose : (V.str "stay" = V.str "rose") = False := eq_false (by decide)
theorem sne_stay_turn : (V.str "stay" = V.str "turn") = False := eq_false (by decide)
theorem sne_stay_pace : (V.str "stay" = V.str "pace") = False := eq_false (by decide)
theorem sne_pace_over : (V.str "pace" = V.str "over") = False := eq_false (by decide)
theorem sne_pace_under : (V.str "pace" = V.str "under") = False := eq_false (by decide)
theorem sne_pace_rose : (V.str "pace" = V.str "rose") = False := eq_false (by decide)
theorem sne_pace_turn : (V.str "pace" = V.str "turn") = False := eq_false (by decide)
theorem sne_pace_stay : (V.str "pace" = V.str "stay") = False := eq_false (by decide)
end Gz
set_option Elab.async false
set_option linter.all false
namespace Gz
open PySem PySem.Spec PyProof.Rows L2
def outS : S2 → List S2
  | (none, none) => []
  | (some l, none) => [(none, some (l - 1))]
  | (none, some h) => [(some (h + 1), none)]
  | (some l, some h) => [(none, some (l - 1)), (some (h + 1), none)]
def failP (ps : List Pa) : List (List Pa) := ps.flatMap fun p => (outS p.2.2).map fun o => [((p.1, p.2.1, o) : Pa)]
def atP (i j : Int) (s : S2) : List Pa := (List.range (j + 1 - i).toNat).map fun k => ("at", i + (k : Nat), s)
def IsCl (H : Hp) (v : V) (ps : List Pa) : Prop := ∃ l xs, v = .ref l ∧ H l = some (.lst xs) ∧ Pas H xs ps
theorem IsCl.same {H H' : Hp} {v : V} {ps : List Pa} (h : IsCl H v ps) (s : Same H H') : IsCl H' v ps := let ⟨l, xs, e, a, b⟩ := h; ⟨l, xs, e, s _ _ a, b.same s⟩
def IsClf (H0 H : Hp) (v : V) (ps : List Pa) : Prop := ∃ c xs, v = .ref c ∧ H0 c = none ∧ H c = some (.lst xs) ∧ Pas H xs ps
theorem IsClf.same {H0 H H' : Hp} {v : V} {ps : List Pa} (h : IsClf H0 H v ps) (s : Same H H') : IsClf H0 H' v ps := let ⟨c, xs, e, n, a, b⟩ := h; ⟨c, xs, e, n, s _ _ a, b.same s⟩
theorem IsClf.back {H0 H1 H : Hp} {v : V} {ps : List Pa} (h : IsClf H1 H v ps) (s : Same H0 H1) : IsClf H0 H v ps := let ⟨c, xs, e, n, a, b⟩ := h; ⟨c, xs, e, s.free n, a, b⟩
theorem IsClf.cl {H0 H : Hp} {v : V} {ps : List Pa} (h : IsClf H0 H v ps) : IsCl H v ps := let ⟨c, xs, e, _, a, b⟩ := h; ⟨c, xs, e, a, b⟩
def IsClg (H0 : Hp) (l : Addr) (H : Hp) (v : V) (ps : List Pa) : Prop := ∃ c xs, v = .ref c ∧ c ≠ l ∧ H0 c = none ∧ H c = some (.lst xs) ∧ Pas H xs ps
theorem IsClg.same {H0 : Hp} {l : Addr} {H H' : Hp} {v : V} {ps : List Pa} (h : IsClg H0 l H v ps) (s : Same H H') : IsClg H0 l H' v ps := let ⟨c, xs, e, m, n, a, b⟩ := h; ⟨c, xs, e, m, n, s _ _ a, b.same s⟩
theorem IsClg.put {H0 : Hp} {l : Addr} {H : Hp} {v : V} {ps : List Pa} {ys : List V} {o : HO} (h : IsClg H0 l H v ps) (hl : H l = some (.lst ys)) : IsClg H0 l (upd H l o) v ps := let ⟨c, xs, e, m, n, a, b⟩ := h; ⟨c, xs, e, m, n, by rw [upd_ne m]; exact a, b.put hl⟩
theorem IsClg.clf {H0 : Hp} {l : Addr} {H : Hp} {v : V} {ps : List Pa} (h : IsClg H0 l H v ps) : IsClf H0 H v ps := let ⟨c, xs, e, _, n, a, b⟩ := h; ⟨c, xs, e, n, a, b⟩
def Kp (P : Addr → Prop) (H H' : Hp) : Prop := ∀ a o, ¬ P a → H a = some o → H' a = some o
def Nl (H H' : Hp) : Prop := ∀ a o, (∀ xs, o ≠ .lst xs) → H a = some o → H' a = some o
theorem Kp.refl {P : Addr → Prop} {H : Hp} : Kp P H H := fun _ _ _ h => h
theorem Kp.same {P : Addr → Prop} {H H1 H2 : Hp} (h : Kp P H H1) (s : Same H1 H2) : Kp P H H2 := fun a o n e => s _ _ (h a o n e)
theorem Kp.put {P : Addr → Prop} {H H1 : Hp} {c : Addr} {o : HO} (h : Kp P H H1) (hc : P c) : Kp P H (upd H1 c o) := fun a o n e => by
  have ne : a ≠ c := fun z => by rw [z] at n; exact n hc
  rw [upd_ne ne]
  exact h a o n e
theorem Kp.nl {P : Addr → Prop} {H H1 : Hp} (h : Kp P H H1) (hP : ∀ a, P a → ∃ xs, H a = some (.lst xs)) : Nl H H1 := fun a o n e => h a o (fun z => by
  obtain ⟨xs, hx⟩ := hP a z
  rw [hx] at e
  cases e
  exact n xs rfl) e
theorem Kp.new {P : Addr → Prop} {H0 H H1 : Hp} (h : Kp P H H1) (s : Same H0 H) (hP : ∀ a, P a → H0 a = none) : Same H0 H1 := fun a o e => h a o (fun z => by rw [hP a z] at e; cases e) (s a o e)
theorem IsPa.nl {H H' : Hp} {v : V} {p : Pa} (h : IsPa H v p) (s : Nl H H') : IsPa H' v p := let ⟨t, q, e, a, b⟩ := h; ⟨t, q, e, s _ _ (fun _ z => nomatch z) a, s _ _ (fun _ z => nomatch z) b⟩
theorem IsClf.kp {P : Addr → Prop} {H0 H H' : Hp} {v : V} {ps : List Pa} (h : IsClf H0 H v ps) (k : Kp P H H') (s : Nl H H') (hP : ∀ a, P a → H0 a ≠ none) : IsCl H' v ps := by
  obtain ⟨c, xs, e, n, a, b⟩ := h
  exact ⟨c, xs, e, k _ _ (fun z => hP c z n) a, b.imp fun _ _ r => r.nl s⟩
def datCl (ps : List Pa) : PyData := .list (ps.map datPa)
theorem IsCl.dat {K : PySem.W.Frag} {H : Hp} {v : V} {ps : List Pa} (h : IsCl H v ps) : Dat K H v (datCl ps) := by
  obtain ⟨l, xs, rfl, a, b⟩ := h
  exact .lst (SqL.of a) (Dats.of_all2 (fun _ _ r => IsPa.dat r) b)
theorem gd_Cl {ps : List Pa} (h : ∀ p ∈ ps, PyData.strOk p.1 = true) : Gd 3 (datCl ps) := .lst fun d hd => by
  obtain ⟨p, hp, rfl⟩ := List.mem_map.mp hd
  exact gd_Pa (h p hp)
theorem cls_dat {K : PySem.W.Frag} {H : Hp} {l : Addr} {ys : List V} {cls : List (List Pa)} (hl : H l = some (.lst ys)) (hy : All2 (IsCl H) ys cls) : Dat K H (.ref l) (.list (cls.map datCl)) := .lst (SqL.of hl) (Dats.of_all2 (fun _ _ r => IsCl.dat r) hy)
theorem gd_Cls {cls : List (List Pa)} (h : ∀ ps ∈ cls, ∀ p ∈ ps, PyData.strOk p.1 = true) : Gd 4 (.list (cls.map datCl)) := .lst fun d hd => by
  obtain ⟨ps, hp, rfl⟩ := List.mem_map.mp hd
  exact gd_Cl (h ps hp)
theorem fail_take {ps : List Pa} {i : Nat} {p : Pa} (h : ps[i]? = some p) : failP (ps.take (i + 1)) = failP (ps.take i) ++ (outS p.2.2).map fun o => [((p.1, p.2.1, o) : Pa)] := by
  unfold failP
  rw [List.take_succ, h, List.flatMap_append]
  simp
theorem out_len (s : S2) : (outS s).length ≤ 2 := by
  obtain ⟨a, b⟩ := s
  cases a <;> cases b <;> simp [outS]
theorem at_len (i j : Int) (s : S2) : (atP i j s).length = (j + 1 - i).toNat := by
  unfold atP
  rw [List.length_map, List.length_range]
def stP (i j : Int) (s : S2) : List Pa := (List.range (j - i).toNat).map fun k => ("step", i + (k : Nat), s)
def roseP (i j l h : Int) : List (List Pa) := (List.range (j - i).toNat).flatMap fun k => (atP (i + (k : Nat) + 1) j (some h, none)).map fun p => [(("at", i + (k : Nat), none, some l) : Pa), p]
theorem mem_at {i j : Int} {s : S2} {p : Pa} (h : p ∈ atP i j s) : ∃ k : Nat, k < (j + 1 - i).toNat ∧ p = (("at", i + (k : Int), s) : Pa) := by
  unfold atP at h
  obtain ⟨k, hk, rfl⟩ := List.mem_map.mp h
  exact ⟨k, List.mem_range.mp hk, rfl⟩
theorem mem_st {i j : Int} {s : S2} {p : Pa} (h : p ∈ stP i j s) : ∃ k : Nat, k < (j - i).toNat ∧ p = (("step", i + (k : Int), s) : Pa) := by
  unfold stP at h
  obtain ⟨k, hk, rfl⟩ := List.mem_map.mp h
  exact ⟨k, List.mem_range.mp hk, rfl⟩
theorem mem_fail {ps qs : List Pa} (h : qs ∈ failP ps) : ∃ p ∈ ps, ∃ o ∈ outS p.2.2, qs = [((p.1, p.2.1, o) : Pa)] := by
  unfold failP at h
  obtain ⟨p, hp, h⟩ := List.mem_flatMap.mp h
  obtain ⟨o, ho, rfl⟩ := List.mem_map.mp h
  exact ⟨p, hp, o, ho, rfl⟩
theorem mem_rose {i j l h : Int} {qs : List Pa} (hq : qs ∈ roseP i j l h) : ∃ k : Nat, k < (j - i).toNat ∧ ∃ p ∈ atP (i + (k : Int) + 1) j (some h, none), qs = [(("at", i + (k : Int), none, some l) : Pa), p] := by
  unfold roseP at hq
  obtain ⟨k, hk, hq⟩ := List.mem_flatMap.mp hq
  obtain ⟨p, hp, rfl⟩ := List.mem_map.mp hq
  exact ⟨k, List.mem_range.mp hk, p, hp, rfl⟩
theorem flat_len {α β : Type} {f : α → List β} {c : Nat} : ∀ (l : List α), (∀ a ∈ l, (f a).length ≤ c) → (l.flatMap f).length ≤ c * l.length
  | [], _ => by simp
  | a :: l, h => by
    have h1 := h a (.head _)
    have h2 := flat_len l fun b hb => h b (.tail _ hb)
    rw [List.flatMap_cons, List.length_append, List.length_cons, Nat.mul_add, Nat.mul_one]
    omega
theorem call_maxLK {X : Cx} {K : PySem.W.Frag} (h : X.K = K) (hc : X.calm = true) : CallR X (.builtin "max") (fun xs H Q => ∃ a ns, xs = [.ref a] ∧ SqL K H a (ns.map V.int) ∧ ns ≠ [] ∧ Q (.int (maxL ns)) H) := h ▸ call_maxL hc
theorem call_minLK {X : Cx} {K : PySem.W.Frag} (h : X.K = K) (hc : X.calm = true) : CallR X (.builtin "min") (fun xs H Q => ∃ a ns, xs = [.ref a] ∧ SqL K H a (ns.map V.int) ∧ ns ≠ [] ∧ Q (.int (minL ns)) H) := h ▸ call_minL hc
def cAt (cs : List Int) (i : Int) (k : Nat) : Int := cs.getD (i + (k : Int)).toNat 0
theorem met_at (cs : List Int) (i j : Int) (s : S2) : metB cs (atP i j s) = (List.range (j + 1 - i).toNat).all fun k => hold s.1 s.2 (cAt cs i k) := by
  unfold metB atP
  rw [List.all_map]
  congr 1
theorem met_st (cs : List Int) (i j : Int) (s : S2) : metB cs (stP i j s) = (List.range (j - i).toNat).all fun k => hold s.1 s.2 (cs.getD (i + (k : Int) + 1).toNat 0 - cAt cs i k) := by
  unfold metB stP
  rw [List.all_map]
  congr 1
theorem seen_eq {cs : List Int} {i j : Int} (h0 : 0 ≤ i) (h1 : i ≤ j) (h2 : j < (cs.length : Int)) : cutV (cs.map V.int) (some i) (some (j + 1)) = ((List.range (j + 1 - i).toNat).map (cAt cs i)).map V.int := by
  obtain ⟨a, rfl⟩ : ∃ a : Nat, i = (a : Int) := ⟨i.toNat, by omega⟩
  obtain ⟨b, eb⟩ : ∃ b : Nat, j + 1 = (b : Int) := ⟨(j + 1).toNat, by omega⟩
  rw [eb, cutV_nat _ (by rw [List.length_map]; omega), ← List.map_drop, ← List.map_take]
  congr 1
  refine List.ext_getElem? fun k => ?_
  rw [show ((b : Int) - (a : Int)).toNat = b - a by omega]
  by_cases hk : k < b - a
  · rw [List.getElem?_take_of_lt hk, List.getElem?_drop, List.getElem?_map, List.getElem?_range hk, List.getElem?_eq_getElem (by omega)]
    unfold cAt
    simp only [Option.map_some]
    rw [show ((a : Int) + (k : Int)).toNat = a + k by omega]
    simp [List.getElem?_eq_getElem (show a + k < cs.length by omega)]
  · rw [List.getElem?_eq_none (by rw [List.length_take, List.length_drop]; omega), List.getElem?_eq_none (by rw [List.length_map, List.length_range]; omega)]
theorem over_iff {cs : List Int} {i j s : Int} : ((failP (atP i j (none, some (s - 1)))).any (metB cs)) = true ↔ ∃ k, k < (j + 1 - i).toNat ∧ s ≤ cAt cs i k := by
  rw [List.any_eq_true]
  constructor
  · rintro ⟨ps, hps, hm⟩
    obtain ⟨p, hp, o, ho, rfl⟩ := mem_fail hps
    obtain ⟨k, hk, rfl⟩ := mem_at hp
    simp only [outS, List.mem_cons, List.not_mem_nil, or_false] at ho
    subst ho
    refine ⟨k, hk, ?_⟩
    unfold metB at hm
    simp only [List.all_cons, List.all_nil, Bool.and_true] at hm
    have := (hold_iff.mp hm).1 _ rfl
    unfold nmAt at this
    rw [if_neg (by decide)] at this
    unfold cAt
    omega
  · rintro ⟨k, hk, hc⟩
    refine ⟨[(("at", i + (k : Int), some (s - 1 + 1), none) : Pa)], ?_, ?_⟩
    · unfold failP
      refine List.mem_flatMap.mpr ⟨(("at", i + (k : Int), none, some (s - 1)) : Pa), ?_, ?_⟩
      · unfold atP
        exact List.mem_map.mpr ⟨k, List.mem_range.mpr hk, rfl⟩
      · simp [outS]
    · unfold metB
      simp only [List.all_cons, List.all_nil, Bool.and_true]
      refine hold_iff.mpr ⟨fun x hx => ?_, fun x hx => (nomatch hx)⟩
      cases hx
      unfold nmAt
      rw [if_neg (by decide)]
      unfold cAt at hc
      omega
theorem under_iff {cs : List Int} {i j s : Int} : ((failP (atP i j (some (s + 1), none))).any (metB cs)) = true ↔ ∃ k, k < (j + 1 - i).toNat ∧ cAt cs i k ≤ s := by
  rw [List.any_eq_true]
  constructor
  · rintro ⟨ps, hps, hm⟩
    obtain ⟨p, hp, o, ho, rfl⟩ := mem_fail hps
    obtain ⟨k, hk, rfl⟩ := mem_at hp
    simp only [outS, List.mem_cons, List.not_mem_nil, or_false] at ho
    subst ho
    refine ⟨k, hk, ?_⟩
    unfold metB at hm
    simp only [List.all_cons, List.all_nil, Bool.and_true] at hm
    have := (hold_iff.mp hm).2 _ rfl
    unfold nmAt at this
    rw [if_neg (by decide)] at this
    unfold cAt
    omega
  · rintro ⟨k, hk, hc⟩
    refine ⟨[(("at", i + (k : Int), none, some (s + 1 - 1)) : Pa)], ?_, ?_⟩
    · unfold failP
      refine List.mem_flatMap.mpr ⟨(("at", i + (k : Int), some (s + 1), none) : Pa), ?_, ?_⟩
      · unfold atP
        exact List.mem_map.mpr ⟨k, List.mem_range.mpr hk, rfl⟩
      · simp [outS]
    · unfold metB
      simp only [List.all_cons, List.all_nil, Bool.and_true]
      refine hold_iff.mpr ⟨fun x hx => (nomatch hx), fun x hx => ?_⟩
      cases hx
      unfold nmAt
      rw [if_neg (by decide)]
      unfold cAt at hc
      omega
theorem max_range {f : Nat → Int} {n : Nat} {s : Int} (h : 0 < n) : s ≤ maxL ((List.range n).map f) ↔ ∃ k, k < n ∧ s ≤ f k := by
  have ne : (List.range n).map f ≠ [] := by simp; omega
  obtain ⟨hm, hu⟩ := maxL_mem ne
  constructor
  · intro hs
    obtain ⟨k, hk, e⟩ := List.mem_map.mp hm
    exact ⟨k, List.mem_range.mp hk, by rw [e]; exact hs⟩
  · rintro ⟨k, hk, hs⟩
    have := hu (f k) (List.mem_map.mpr ⟨k, List.mem_range.mpr hk, rfl⟩)
    omega
theorem min_range {f : Nat → Int} {n : Nat} {s : Int} (h : 0 < n) : minL ((List.range n).map f) ≤ s ↔ ∃ k, k < n ∧ f k ≤ s := by
  have ne : (List.range n).map f ≠ [] := by simp; omega
  obtain ⟨hm, hu⟩ := minL_mem ne
  constructor
  · intro hs
    obtain ⟨k, hk, e⟩ := List.mem_map.mp hm
    exact ⟨k, List.mem_range.mp hk, by rw [e]; exact hs⟩
  · rintro ⟨k, hk, hs⟩
    have := hu (f k) (List.mem_map.mpr ⟨k, List.mem_range.mpr hk, rfl⟩)
    omega
theorem rose_iff {cs : List Int} {i j l h : Int} : ((roseP i j l h).any (metB cs)) = true ↔ ∃ a b, a < b ∧ b < (j + 1 - i).toNat ∧ cAt cs i a ≤ l ∧ h ≤ cAt cs i b := by
  have met2 : ∀ (a b : Int), metB cs [(("at", a, none, some l) : Pa), (("at", b, some h, none) : Pa)] = true ↔ cs.getD a.toNat 0 ≤ l ∧ h ≤ cs.getD b.toNat 0 := fun a b => by
    unfold metB
    simp only [List.all_cons, List.all_nil, Bool.and_true, Bool.and_eq_true, hold_iff]
    unfold nmAt
    rw [if_neg (by decide), if_neg (by decide)]
    constructor
    · rintro ⟨⟨_, h1⟩, h2, _⟩
      exact ⟨h1 _ rfl, h2 _ rfl⟩
    · rintro ⟨h1, h2⟩
      refine ⟨⟨fun x hx => (nomatch hx), fun x hx => ?_⟩, fun x hx => ?_, fun x hx => (nomatch hx)⟩
      · cases hx; exact h1
      · cases hx; exact h2
  rw [List.any_eq_true]
  constructor
  · rintro ⟨ps, hps, hm⟩
    obtain ⟨k, hk, p, hp, rfl⟩ := mem_rose hps
    obtain ⟨m, hm2, rfl⟩ := mem_at hp
    have := (met2 _ _).mp hm
    refine ⟨k, k + 1 + m, by omega, by omega, this.1, ?_⟩
    unfold cAt
    rw [show i + ((k + 1 + m : Nat) : Int) = i + (k : Int) + 1 + (m : Int) by omega]
    exact this.2
  · rintro ⟨a, b, hab, hb, h1, h2⟩
    refine ⟨[(("at", i + (a : Int), none, some l) : Pa), (("at", i + (a : Int) + 1 + ((b - a - 1 : Nat) : Int), some h, none) : Pa)], ?_, (met2 _ _).mpr ⟨h1, ?_⟩⟩
    · unfold roseP
      refine List.mem_flatMap.mpr ⟨a, List.mem_range.mpr (by omega), List.mem_map.mpr ⟨_, ?_, rfl⟩⟩
      unfold atP
      exact List.mem_map.mpr ⟨b - a - 1, List.mem_range.mpr (by omega), rfl⟩
    · unfold cAt at h2
      rw [show i + (a : Int) + 1 + ((b - a - 1 : Nat) : Int) = i + (b : Int) by omega]
      exact h2
theorem rise_any {f : Nat → Int} {n : Nat} {l h : Int} : ((List.range (n - 1)).any fun k => decide (minL (((List.range n).map f).take (k + 1)) ≤ l) && decide (h ≤ maxL (((List.range n).map f).drop (k + 1)))) = true ↔ ∃ a b, a < b ∧ b < n ∧ f a ≤ l ∧ h ≤ f b := by
  have tk : ∀ k, k < n - 1 → ((List.range n).map f).take (k + 1) = (List.range (k + 1)).map f := fun k hk => by
    rw [← List.map_take, List.take_range, Nat.min_eq_left (by omega)]
  have at_ : ∀ m x, ((List.range n).map f)[m]? = some x → m < n ∧ x = f m := fun m x e => by
    rw [List.getElem?_map] at e
    by_cases hm : m < n
    · rw [List.getElem?_range hm] at e
      cases e
      exact ⟨hm, rfl⟩
    · rw [List.getElem?_eq_none (by rw [List.length_range]; omega)] at e
      cases e
  have len : ((List.range n).map f).length = n := by rw [List.length_map, List.length_range]
  have dne : ∀ k, k < n - 1 → ((List.range n).map f).drop (k + 1) ≠ [] := fun k hk z => by
    have := congrArg List.length z
    rw [List.length_drop, len] at this
    simp at this
    omega
  rw [List.any_eq_true]
  constructor
  · rintro ⟨k, hk, hb⟩
    have hk := List.mem_range.mp hk
    rw [Bool.and_eq_true, decide_eq_true_eq, decide_eq_true_eq, tk k hk] at hb
    obtain ⟨a, ha, h1⟩ := (min_range (by omega)).mp hb.1
    obtain ⟨hm, _⟩ := maxL_mem (dne k hk)
    obtain ⟨m, hm⟩ := List.mem_iff_getElem?.mp hm
    rw [List.getElem?_drop] at hm
    obtain ⟨m1, m2⟩ := at_ _ _ hm
    exact ⟨a, k + 1 + m, by omega, m1, h1, by rw [← m2]; exact hb.2⟩
  · rintro ⟨a, b, hab, hb, h1, h2⟩
    have ha : a < n - 1 := by omega
    refine ⟨a, List.mem_range.mpr ha, ?_⟩
    rw [Bool.and_eq_true, decide_eq_true_eq, decide_eq_true_eq, tk a ha]
    refine ⟨(min_range (by omega)).mpr ⟨a, by omega, h1⟩, ?_⟩
    have hm : f b ∈ ((List.range n).map f).drop (a + 1) := List.mem_iff_getElem?.mpr ⟨b - (a + 1), by
      rw [List.getElem?_drop, show a + 1 + (b - (a + 1)) = b by omega, List.getElem?_map, List.getElem?_range hb]
      rfl⟩
    have := (maxL_mem (dne a ha)).2 _ hm
    omega
end Gz
set_option Elab.async false
set_option linter.all false
set_option maxRecDepth 100000
set_option maxHeartbeats 1000000
set_option exponentiation.threshold 2000
namespace K61
open PySem L2 Gz
local macro_rules | `(tactic| walk_at "gz") => `(tactic| try simp only [ev_none, ev_some, tChain3, tMethV, tEv, scal_ss, sne_over_under, sne_over_rose, sne_over_turn, sne_over_stay, sne_over_pace, sne_under_over, sne_under_rose, sne_under_turn, sne_under_stay, sne_under_pace, sne_rose_over, sne_rose_under, sne_rose_turn, sne_rose_stay, sne_rose_pace, sne_turn_over, sne_turn_under, sne_turn_rose, sne_turn_stay, sne_turn_pace, sne_stay_over, sne_stay_under, sne_stay_rose, sne_stay_turn, sne_stay_pace, sne_pace_over, sne_pace_under, sne_pace_rose, sne_pace_turn, sne_pace_stay, tSeq, tIfS, tTest, tOp, tUn, tVar, tC, tRet, tNext, tAsg, gName, tCB, tCons, tNil, tCall, tIsN, tNotN, tB, tAnd, tOr, tNot, tAndV, tOrV, tNotV, tIf, tDrop, rI, rI0, rU, rEq, rNe, scal_ii, scal_bb, scal_in, scal_ni, scal_nn, isi_ii, isi_ib, isi_bi, isi_bb, isi_ni, isi_nt, ite_tt, ite_ff, L2.start, cxK, cxN, List.map_cons, List.map_nil, List.length_cons, List.length_nil, List.replicate, List.append_nil, List.nil_append, List.cons_append, List.getElem?_cons_zero, List.getElem?_cons_succ, List.set_cons_zero, List.set_cons_succ, Option.some.injEq, V.int.injEq, V.bl.injEq, V.ref.injEq, List.cons.injEq, exists_eq_left, exists_eq_left', exists_and_left, true_and, and_true, decide_eq_true_eq, Nat.zero_add, Nat.sub_self, Nat.add_one_sub_one, Nat.reduceAdd, Nat.reduceSub, reduceCtorEq, decide_true, decide_false, Bool.not_true, Bool.not_false, Bool.not_eq_true', decide_eq_false_iff_not, false_and, exists_false, and_assoc, tTup, tLst, tBM, tBM0, rAppend, rExtend, for_rng1, for_lst, for_tpl, ↓reduceIte, not_false_eq_true, not_true_eq_false, tComp, tMM, tSortK, tSetC, iTup, iList, tAll, gSub, rSetL, iRng3, iRng2, iRng1, for_rng2, for_rng3, tFld, sFld, tMeth, tMake, tSl, tNoPart, tPart, rSlL, rCat, for_rev, for_enum, for_zip, tChain, tCompG, iRev, iEnum, iZip, Option.join_some])
local macro_rules | `(tactic| walk_at "gzp") => `(tactic| simp only [ev_none, ev_some, tChain3, tMethV, tEv, scal_ss, sne_over_under, sne_over_rose, sne_over_turn, sne_over_stay, sne_over_pace, sne_under_over, sne_under_rose, sne_under_turn, sne_under_stay, sne_under_pace, sne_rose_over, sne_rose_under, sne_rose_turn, sne_rose_stay, sne_rose_pace, sne_turn_over, sne_turn_under, sne_turn_rose, sne_turn_stay, sne_turn_pace, sne_stay_over, sne_stay_under, sne_stay_rose, sne_stay_turn, sne_stay_pace, sne_pace_over, sne_pace_under, sne_pace_rose, sne_pace_turn, sne_pace_stay, tSeq, tIfS, tTest, tOp, tUn, tVar, tC, tRet, tNext, tAsg, gName, tCB, tCons, tNil, tCall, tIsN, tNotN, tB, tAnd, tOr, tNot, tAndV, tOrV, tNotV, tIf, tDrop, rI, rI0, rU, rEq, rNe, scal_ii, scal_bb, scal_in, scal_ni, scal_nn, isi_ii, isi_ib, isi_bi, isi_bb, isi_ni, isi_nt, ite_tt, ite_ff, L2.start, cxK, cxN, List.map_cons, List.map_nil, List.length_cons, List.length_nil, List.replicate, List.append_nil, List.nil_append, List.cons_append, List.getElem?_cons_zero, List.getElem?_cons_succ, List.set_cons_zero, List.set_cons_succ, Option.some.injEq, V.int.injEq, V.bl.injEq, V.ref.injEq, List.cons.injEq, exists_eq_left, exists_eq_left', exists_and_left, true_and, and_true, decide_eq_true_eq, Nat.zero_add, Nat.sub_self, Nat.add_one_sub_one, Nat.reduceAdd, Nat.reduceSub, reduceCtorEq, decide_true, decide_false, Bool.not_true, Bool.not_false, Bool.not_eq_true', decide_eq_false_iff_not, false_and, exists_false, and_assoc, tTup, tLst, tBM, tBM0, rAppend, rExtend, for_rng1, for_lst, for_tpl, ↓reduceIte, not_false_eq_true, not_true_eq_false, tComp, tMM, tSortK, tSetC, iTup, iList, tAll, gSub, rSetL, iRng3, iRng2, iRng1, for_rng2, for_rng3, tFld, sFld, tMeth, tMake, tSl, tNoPart, tPart, rSlL, rCat, for_rev, for_enum, for_zip, tChain, tCompG, iRev, iEnum, iZip, Option.join_some])
local macro_rules | `(tactic| walk_at "gza") => `(tactic| simp only [ev_none, ev_some, tChain3, tMethV, tEv, scal_ss, sne_over_under, sne_over_rose, sne_over_turn, sne_over_stay, sne_over_pace, sne_under_over, sne_under_rose, sne_under_turn, sne_under_stay, sne_under_pace, sne_rose_over, sne_rose_under, sne_rose_turn, sne_rose_stay, sne_rose_pace, sne_turn_over, sne_turn_under, sne_turn_rose, sne_turn_stay, sne_turn_pace, sne_stay_over, sne_stay_under, sne_stay_rose, sne_stay_turn, sne_stay_pace, sne_pace_over, sne_pace_under, sne_pace_rose, sne_pace_turn, sne_pace_stay, tSeq, tIfS, tTest, tOp, tUn, tVar, tC, tRet, tNext, tAsg, gName, tCB, tCons, tNil, tCall, tIsN, tNotN, tB, tAnd, tOr, tNot, tAndV, tOrV, tNotV, tIf, tDrop, rI, rI0, rU, rEq, rNe, scal_ii, scal_bb, scal_in, scal_ni, scal_nn, isi_ii, isi_ib, isi_bi, isi_bb, isi_ni, isi_nt, ite_tt, ite_ff, L2.start, cxK, cxN, List.map_cons, List.map_nil, List.length_cons, List.length_nil, List.replicate, List.append_nil, List.nil_append, List.cons_append, List.getElem?_cons_zero, List.getElem?_cons_succ, List.set_cons_zero, List.set_cons_succ, Option.some.injEq, V.int.injEq, V.bl.injEq, V.ref.injEq, List.cons.injEq, exists_eq_left, exists_eq_left', exists_and_left, true_and, and_true, decide_eq_true_eq, Nat.zero_add, Nat.sub_self, Nat.add_one_sub_one, Nat.reduceAdd, Nat.reduceSub, reduceCtorEq, decide_true, decide_false, Bool.not_true, Bool.not_false, Bool.not_eq_true', decide_eq_false_iff_not, false_and, exists_false, and_assoc, tTup, tLst, tBM, tBM0, rAppend, rExtend, for_rng1, for_lst, for_tpl, ↓reduceIte, not_false_eq_true, not_true_eq_false, tComp, tMM, tSortK, tSetC, iTup, iList, tAll, gSub, rSetL, iRng3, iRng2, iRng1, for_rng2, for_rng3, tFld, sFld, tMeth, tMake, tSl, tNoPart, tPart, rSlL, rCat, for_rev, for_enum, for_zip, tChain, tCompG, iRev, iEnum, iZip, Option.join_some] at *)
local macro_rules | `(tactic| walk_at "sd") => `(tactic| (and_intros <;> first | assumption | exact bd200 (by decide) | exact bd200 (em30 _) | exact mul200 (by decide) (by decide) | exact ⟨by decide, by decide, by decide⟩ | decide | omega))
local macro_rules | `(tactic| walk_at "gzn") => `(tactic| (try simp only [ev_none, ev_some, tChain3, tMethV, tEv, scal_ss, sne_over_under, sne_over_rose, sne_over_turn, sne_over_stay, sne_over_pace, sne_under_over, sne_under_rose, sne_under_turn, sne_under_stay, sne_under_pace, sne_rose_over, sne_rose_under, sne_rose_turn, sne_rose_stay, sne_rose_pace, sne_turn_over, sne_turn_under, sne_turn_rose, sne_turn_stay, sne_turn_pace, sne_stay_over, sne_stay_under, sne_stay_rose, sne_stay_turn, sne_stay_pace, sne_pace_over, sne_pace_under, sne_pace_rose, sne_pace_turn, sne_pace_stay, tSeq, tIfS, tTest, tOp, tUn, tVar, tC, tRet, tNext, tAsg, gName, tCB, tCons, tNil, tCall, tIsN, tNotN, tB, tAnd, tOr, tNot, tAndV, tOrV, tNotV, tIf, tDrop, rI, rI0, rU, rEq, rNe, scal_ii, scal_bb, scal_in, scal_ni, scal_nn, isi_ii, isi_ib, isi_bi, isi_bb, isi_ni, isi_nt, ite_tt, ite_ff, L2.start, cxK, cxN, List.map_cons, List.map_nil, List.length_cons, List.length_nil, List.replicate, List.append_nil, List.nil_append, List.cons_append, List.getElem?_cons_zero, List.getElem?_cons_succ, List.set_cons_zero, List.set_cons_succ, Option.some.injEq, V.int.injEq, V.bl.injEq, V.ref.injEq, List.cons.injEq, exists_eq_left, exists_eq_left', exists_and_left, true_and, and_true, decide_eq_true_eq, Nat.zero_add, Nat.sub_self, Nat.add_one_sub_one, Nat.reduceAdd, Nat.reduceSub, reduceCtorEq, decide_true, decide_false, Bool.not_true, Bool.not_false, Bool.not_eq_true', decide_eq_false_iff_not, false_and, exists_false, and_assoc, tTup, tLst, tBM, tBM0, rAppend, rExtend, for_rng1, for_lst, for_tpl, ↓reduceIte, not_false_eq_true, not_true_eq_false, tComp, tMM, tSortK, tSetC, iTup, iList, tAll, gSub, rSetL, iRng3, iRng2, iRng1, for_rng2, for_rng3, tFld, sFld, tMeth, tMake, tSl, tNoPart, tPart, rSlL, rCat, for_rev, for_enum, for_zip, tChain, tCompG, iRev, iEnum, iZip, Option.join_some, Int.reducePow, Int.reduceToNat, Int.reduceMul, Int.reduceAdd]))
def top (i : Nat) : Stmt := PySem.Challenge.pw_gaze_k61_ways_and_breaks.main.body.getD i (.Pass ⟨0, 0, 0, 0⟩)
abbrev s_outside : Stmt := top 6
abbrev s_failures : Stmt := top 7
abbrev s_parts_at : Stmt := top 8
abbrev s_Event_sizes : Stmt := inClass (top 9) 1
abbrev s_Spanned_init__ : Stmt := inClass (top 10) 0
abbrev s_Spanned_all_at : Stmt := inClass (top 10) 2
abbrev s_Stayed_init__ : Stmt := inClass (top 11) 0
abbrev s_Stayed_ways : Stmt := inClass (top 11) 1
abbrev s_Stayed_breaks : Stmt := inClass (top 11) 2
abbrev s_Over_init__ : Stmt := inClass (top 12) 0
abbrev s_Over_ways : Stmt := inClass (top 12) 1
abbrev s_Over_breaks : Stmt := inClass (top 12) 2
abbrev s_Under_init__ : Stmt := inClass (top 13) 0
abbrev s_Under_ways : Stmt := inClass (top 13) 1
abbrev s_Under_breaks : Stmt := inClass (top 13) 2
abbrev s_Rose_init__ : Stmt := inClass (top 14) 0
abbrev s_Rose_ways : Stmt := inClass (top 14) 1
abbrev s_Rose_breaks : Stmt := inClass (top 14) 2
abbrev s_Paced_init__ : Stmt := inClass (top 15) 0
abbrev s_Paced_all_steps : Stmt := inClass (top 15) 1
abbrev s_Paced_ways : Stmt := inClass (top 15) 2
abbrev s_Paced_breaks : Stmt := inClass (top 15) 3
abbrev s_Turned_init__ : Stmt := inClass (top 16) 0
abbrev s_Turned_both_steps : Stmt := inClass (top 16) 2
abbrev s_Turned_ways : Stmt := inClass (top 16) 3
abbrev s_Turned_breaks : Stmt := inClass (top 16) 4
abbrev s_law_draw : Stmt := top 18
abbrev s_law_base : Stmt := top 19
abbrev s_law_whole : Stmt := top 20
abbrev s_law_within : Stmt := top 21
abbrev s_law_leaf : Stmt := top 22
abbrev s_law_truth : Stmt := top 23
abbrev s_law_event : Stmt := top 24
abbrev s_law_farthest : Stmt := top 25
abbrev s_law_counts : Stmt := top 26
abbrev s_law_span : Stmt := top 27
abbrev s_law_part : Stmt := top 28
abbrev s_law_claims : Stmt := top 29
abbrev s_law_met : Stmt := top 30
abbrev s_law_fitting : Stmt := top 31
abbrev s_law_asked_of : Stmt := top 32
abbrev s_law : Stmt := top 33
theorem sc_outside : FnScope ["one", "below", "above"] ["one"] (defScope s_outside) := ⟨rfl, rfl, rfl, by decide +kernel, rfl, by decide +kernel, by decide +kernel⟩
theorem sc_failures : FnScope ["claim", "found", "part"] ["claim"] (defScope s_failures) := ⟨rfl, rfl, rfl, by decide +kernel, rfl, by decide +kernel, by decide +kernel⟩
theorem sc_parts_at : FnScope ["first", "last", "one"] ["first", "last", "one"] (defScope s_parts_at) := ⟨rfl, rfl, rfl, by decide +kernel, rfl, by decide +kernel, by decide +kernel⟩
theorem sc_Event_sizes : FnScope ["self"] ["self"] (defScope s_Event_sizes) := ⟨rfl, rfl, rfl, by decide +kernel, rfl, by decide +kernel, by decide +kernel⟩
theorem sc_Spanned_init__ : FnScope ["self", "first", "last"] ["self", "first", "last"] (defScope s_Spanned_init__) := ⟨rfl, rfl, rfl, by decide +kernel, rfl, by decide +kernel, by decide +kernel⟩
theorem sc_Spanned_all_at : FnScope ["self", "one"] ["self", "one"] (defScope s_Spanned_all_at) := ⟨rfl, rfl, rfl, by decide +kernel, rfl, by decide +kernel, by decide +kernel⟩
theorem sc_Stayed_init__ : FnScope ["self", "first", "last", "stretch"] ["self", "first", "last", "stretch"] (defScope s_Stayed_init__) := ⟨rfl, rfl, rfl, by decide +kernel, rfl, by decide +kernel, by decide +kernel⟩
theorem sc_Stayed_ways : FnScope ["self"] ["self"] (defScope s_Stayed_ways) := ⟨rfl, rfl, rfl, by decide +kernel, rfl, by decide +kernel, by decide +kernel⟩
theorem sc_Stayed_breaks : FnScope ["self"] ["self"] (defScope s_Stayed_breaks) := ⟨rfl, rfl, rfl, by decide +kernel, rfl, by decide +kernel, by decide +kernel⟩
theorem sc_Over_init__ : FnScope ["self", "first", "last", "sill"] ["self", "first", "last", "sill"] (defScope s_Over_init__) := ⟨rfl, rfl, rfl, by decide +kernel, rfl, by decide +kernel, by decide +kernel⟩
theorem sc_Over_ways : FnScope ["self"] ["self"] (defScope s_Over_ways) := ⟨rfl, rfl, rfl, by decide +kernel, rfl, by decide +kernel, by decide +kernel⟩
theorem sc_Over_breaks : FnScope ["self"] ["self"] (defScope s_Over_breaks) := ⟨rfl, rfl, rfl, by decide +kernel, rfl, by decide +kernel, by decide +kernel⟩
theorem sc_Under_init__ : FnScope ["self", "first", "last", "sill"] ["self", "first", "last", "sill"] (defScope s_Under_init__) := ⟨rfl, rfl, rfl, by decide +kernel, rfl, by decide +kernel, by decide +kernel⟩
theorem sc_Under_ways : FnScope ["self"] ["self"] (defScope s_Under_ways) := ⟨rfl, rfl, rfl, by decide +kernel, rfl, by decide +kernel, by decide +kernel⟩
theorem sc_Under_breaks : FnScope ["self"] ["self"] (defScope s_Under_breaks) := ⟨rfl, rfl, rfl, by decide +kernel, rfl, by decide +kernel, by decide +kernel⟩
theorem sc_Rose_init__ : FnScope ["self", "first", "last", "low", "high"] ["self", "first", "last", "low", "high"] (defScope s_Rose_init__) := ⟨rfl, rfl, rfl, by decide +kernel, rfl, by decide +kernel, by decide +kernel⟩
theorem sc_Rose_ways : FnScope ["self", "found", "turn", "lows"] ["self"] (defScope s_Rose_ways) := ⟨rfl, rfl, rfl, by decide +kernel, rfl, by decide +kernel, by decide +kernel⟩
theorem sc_Rose_breaks : FnScope ["self"] ["self"] (defScope s_Rose_breaks) := ⟨rfl, rfl, rfl, by decide +kernel, rfl, by decide +kernel, by decide +kernel⟩
theorem sc_Paced_init__ : FnScope ["self", "first", "last", "stretch"] ["self", "first", "last", "stretch"] (defScope s_Paced_init__) := ⟨rfl, rfl, rfl, by decide +kernel, rfl, by decide +kernel, by decide +kernel⟩
theorem sc_Paced_all_steps : FnScope ["self"] ["self"] (defScope s_Paced_all_steps) := ⟨rfl, rfl, rfl, by decide +kernel, rfl, by decide +kernel, by decide +kernel⟩
theorem sc_Paced_ways : FnScope ["self"] ["self"] (defScope s_Paced_ways) := ⟨rfl, rfl, rfl, by decide +kernel, rfl, by decide +kernel, by decide +kernel⟩
theorem sc_Paced_breaks : FnScope ["self"] ["self"] (defScope s_Paced_breaks) := ⟨rfl, rfl, rfl, by decide +kernel, rfl, by decide +kernel, by decide +kernel⟩
theorem sc_Turned_init__ : FnScope ["self", "turn"] ["self", "turn"] (defScope s_Turned_init__) := ⟨rfl, rfl, rfl, by decide +kernel, rfl, by decide +kernel, by decide +kernel⟩
theorem sc_Turned_both_steps : FnScope ["self"] ["self"] (defScope s_Turned_both_steps) := ⟨rfl, rfl, rfl, by decide +kernel, rfl, by decide +kernel, by decide +kernel⟩
theorem sc_Turned_ways : FnScope ["self"] ["self"] (defScope s_Turned_ways) := ⟨rfl, rfl, rfl, by decide +kernel, rfl, by decide +kernel, by decide +kernel⟩
theorem sc_Turned_breaks : FnScope ["self"] ["self"] (defScope s_Turned_breaks) := ⟨rfl, rfl, rfl, by decide +kernel, rfl, by decide +kernel, by decide +kernel⟩
theorem sc_law_draw : FnScope ["_law_script", "_law_k", "_law_prime", "_law_many"] ["_law_script", "_law_k", "_law_prime", "_law_many"] (defScope s_law_draw) := ⟨rfl, rfl, rfl, by decide +kernel, rfl, by decide +kernel, by decide +kernel⟩
theorem sc_law_base : FnScope ["_law_script", "_law_great"] ["_law_script"] (defScope s_law_base) := ⟨rfl, rfl, rfl, by decide +kernel, rfl, by decide +kernel, by decide +kernel⟩
theorem sc_law_whole : FnScope ["_law_found"] ["_law_found"] (defScope s_law_whole) := ⟨rfl, rfl, rfl, by decide +kernel, rfl, by decide +kernel, by decide +kernel⟩
theorem sc_law_within : FnScope ["_law_span_here", "_law_number"] ["_law_span_here", "_law_number"] (defScope s_law_within) := ⟨rfl, rfl, rfl, by decide +kernel, rfl, by decide +kernel, by decide +kernel⟩
theorem sc_law_leaf : FnScope ["_law_script", "_law_k", "_law_sort", "_law_turns", "_law_base_here", "_law_first", "_law_last", "_law_low", "_law_more", "_law_open_end", "_law_lo", "_law_hi"] ["_law_script", "_law_k", "_law_sort", "_law_turns", "_law_base_here"] (defScope s_law_leaf) := ⟨rfl, rfl, rfl, by decide +kernel, rfl, by decide +kernel, by decide +kernel⟩
theorem sc_law_truth : FnScope ["_law_tree", "_law_course", "_law_head", "_law_gaps", "_law_seen"] ["_law_tree", "_law_course"] (defScope s_law_truth) := ⟨rfl, rfl, rfl, by decide +kernel, rfl, by decide +kernel, by decide +kernel⟩
theorem sc_law_event : FnScope ["_law_tree", "_law_head"] ["_law_tree"] (defScope s_law_event) := ⟨rfl, rfl, rfl, by decide +kernel, rfl, by decide +kernel, by decide +kernel⟩
theorem sc_law_farthest : FnScope ["_law_tree"] ["_law_tree"] (defScope s_law_farthest) := ⟨rfl, rfl, rfl, by decide +kernel, rfl, by decide +kernel, by decide +kernel⟩
theorem sc_law_counts : FnScope ["_law_tree", "_law_many", "_law_ends"] ["_law_tree"] (defScope s_law_counts) := ⟨rfl, rfl, rfl, by decide +kernel, rfl, by decide +kernel, by decide +kernel⟩
theorem sc_law_span : FnScope ["_law_span_here", "_law_end"] ["_law_span_here"] (defScope s_law_span) := ⟨rfl, rfl, rfl, by decide +kernel, rfl, by decide +kernel, by decide +kernel⟩
theorem sc_law_part : FnScope ["_law_part_here", "_law_far"] ["_law_part_here", "_law_far"] (defScope s_law_part) := ⟨rfl, rfl, rfl, by decide +kernel, rfl, by decide +kernel, by decide +kernel⟩
theorem sc_law_claims : FnScope ["_law_some", "_law_many", "_law_far", "_law_claim"] ["_law_some", "_law_many", "_law_far"] (defScope s_law_claims) := ⟨rfl, rfl, rfl, by decide +kernel, rfl, by decide +kernel, by decide +kernel⟩
theorem sc_law_met : FnScope ["_law_course", "_law_claim", "_law_part_here", "_law_number"] ["_law_course", "_law_claim"] (defScope s_law_met) := ⟨rfl, rfl, rfl, by decide +kernel, rfl, by decide +kernel, by decide +kernel⟩
theorem sc_law_fitting : FnScope ["_law_tree", "_law_ways", "_law_breaks", "_law_course", "_law_some", "_law_against"] ["_law_tree", "_law_ways", "_law_breaks", "_law_course"] (defScope s_law_fitting) := ⟨rfl, rfl, rfl, by decide +kernel, rfl, by decide +kernel, by decide +kernel⟩
theorem sc_law_asked_of : FnScope ["_law_tree", "_law_one", "_law_other", "_law_event_here", "_law_due", "_law_found", "_law_ways", "_law_breaks", "_law_far", "_law_kept", "_law_claim"] ["_law_tree", "_law_one", "_law_other"] (defScope s_law_asked_of) := ⟨rfl, rfl, rfl, by decide +kernel, rfl, by decide +kernel, by decide +kernel⟩
theorem sc_law : FnScope ["_law_script", "_law_base_here", "_law_k", "_law_tree", "_law_one", "_law_other"] ["_law_script"] (defScope s_law) := ⟨rfl, rfl, rfl, by decide +kernel, rfl, by decide +kernel, by decide +kernel⟩
set_option genInjectivity false
set_option genSizeOf false
structure Tx (K : PySem.W.Frag) (mg : Str → Option Value) where
  a_outside : Addr
  fd_outside : FuncData
  F_outside : Fun K "outside" "outside" s_outside a_outside fd_outside
  m_outside : mg "outside" = some (.ref a_outside)
  b_outside : Binds K fd_outside ["one"] []
  a_failures : Addr
  fd_failures : FuncData
  F_failures : Fun K "failures" "failures" s_failures a_failures fd_failures
  m_failures : mg "failures" = some (.ref a_failures)
  b_failures : Binds K fd_failures ["claim"] []
  a_parts_at : Addr
  fd_parts_at : FuncData
  F_parts_at : Fun K "parts_at" "parts_at" s_parts_at a_parts_at fd_parts_at
  m_parts_at : mg "parts_at" = some (.ref a_parts_at)
  b_parts_at : Binds K fd_parts_at ["first", "last", "one"] []
  a_Event_sizes : Addr
  fd_Event_sizes : FuncData
  F_Event_sizes : Fun K "sizes" "Event.sizes" s_Event_sizes a_Event_sizes fd_Event_sizes
  b_Event_sizes : Binds K fd_Event_sizes ["self"] []
  a_Spanned_init__ : Addr
  fd_Spanned_init__ : FuncData
  F_Spanned_init__ : Fun K "__init__" "Spanned.__init__" s_Spanned_init__ a_Spanned_init__ fd_Spanned_init__
  b_Spanned_init__ : Binds K fd_Spanned_init__ ["self", "first", "last"] []
  a_Spanned_all_at : Addr
  fd_Spanned_all_at : FuncData
  F_Spanned_all_at : Fun K "all_at" "Spanned.all_at" s_Spanned_all_at a_Spanned_all_at fd_Spanned_all_at
  b_Spanned_all_at : Binds K fd_Spanned_all_at ["self", "one"] []
  a_Stayed_init__ : Addr
  fd_Stayed_init__ : FuncData
  F_Stayed_init__ : Fun K "__init__" "Stayed.__init__" s_Stayed_init__ a_Stayed_init__ fd_Stayed_init__
  b_Stayed_init__ : Binds K fd_Stayed_init__ ["self", "first", "last", "stretch"] []
  a_Stayed_ways : Addr
  fd_Stayed_ways : FuncData
  F_Stayed_ways : Fun K "ways" "Stayed.ways" s_Stayed_ways a_Stayed_ways fd_Stayed_ways
  b_Stayed_ways : Binds K fd_Stayed_ways ["self"] []
  a_Stayed_breaks : Addr
  fd_Stayed_breaks : FuncData
  F_Stayed_breaks : Fun K "breaks" "Stayed.breaks" s_Stayed_breaks a_Stayed_breaks fd_Stayed_breaks
  b_Stayed_breaks : Binds K fd_Stayed_breaks ["self"] []
  a_Over_init__ : Addr
  fd_Over_init__ : FuncData
  F_Over_init__ : Fun K "__init__" "Over.__init__" s_Over_init__ a_Over_init__ fd_Over_init__
  b_Over_init__ : Binds K fd_Over_init__ ["self", "first", "last", "sill"] []
  a_Over_ways : Addr
  fd_Over_ways : FuncData
  F_Over_ways : Fun K "ways" "Over.ways" s_Over_ways a_Over_ways fd_Over_ways
  b_Over_ways : Binds K fd_Over_ways ["self"] []
  a_Over_breaks : Addr
  fd_Over_breaks : FuncData
  F_Over_breaks : Fun K "breaks" "Over.breaks" s_Over_breaks a_Over_breaks fd_Over_breaks
  b_Over_breaks : Binds K fd_Over_breaks ["self"] []
  a_Under_init__ : Addr
  fd_Under_init__ : FuncData
  F_Under_init__ : Fun K "__init__" "Under.__init__" s_Under_init__ a_Under_init__ fd_Under_init__
  b_Under_init__ : Binds K fd_Under_init__ ["self", "first", "last", "sill"] []
  a_Under_ways : Addr
  fd_Under_ways : FuncData
  F_Under_ways : Fun K "ways" "Under.ways" s_Under_ways a_Under_ways fd_Under_ways
  b_Under_ways : Binds K fd_Under_ways ["self"] []
  a_Under_breaks : Addr
  fd_Under_breaks : FuncData
  F_Under_breaks : Fun K "breaks" "Under.breaks" s_Under_breaks a_Under_breaks fd_Under_breaks
  b_Under_breaks : Binds K fd_Under_breaks ["self"] []
  a_Rose_init__ : Addr
  fd_Rose_init__ : FuncData
  F_Rose_init__ : Fun K "__init__" "Rose.__init__" s_Rose_init__ a_Rose_init__ fd_Rose_init__
  b_Rose_init__ : Binds K fd_Rose_init__ ["self", "first", "last", "low", "high"] []
  a_Rose_ways : Addr
  fd_Rose_ways : FuncData
  F_Rose_ways : Fun K "ways" "Rose.ways" s_Rose_ways a_Rose_ways fd_Rose_ways
  b_Rose_ways : Binds K fd_Rose_ways ["self"] []
  a_Rose_breaks : Addr
  fd_Rose_breaks : FuncData
  F_Rose_breaks : Fun K "breaks" "Rose.breaks" s_Rose_breaks a_Rose_breaks fd_Rose_breaks
  b_Rose_breaks : Binds K fd_Rose_breaks ["self"] []
  a_Paced_init__ : Addr
  fd_Paced_init__ : FuncData
  F_Paced_init__ : Fun K "__init__" "Paced.__init__" s_Paced_init__ a_Paced_init__ fd_Paced_init__
  b_Paced_init__ : Binds K fd_Paced_init__ ["self", "first", "last", "stretch"] []
  a_Paced_all_steps : Addr
  fd_Paced_all_steps : FuncData
  F_Paced_all_steps : Fun K "all_steps" "Paced.all_steps" s_Paced_all_steps a_Paced_all_steps fd_Paced_all_steps
  b_Paced_all_steps : Binds K fd_Paced_all_steps ["self"] []
  a_Paced_ways : Addr
  fd_Paced_ways : FuncData
  F_Paced_ways : Fun K "ways" "Paced.ways" s_Paced_ways a_Paced_ways fd_Paced_ways
  b_Paced_ways : Binds K fd_Paced_ways ["self"] []
  a_Paced_breaks : Addr
  fd_Paced_breaks : FuncData
  F_Paced_breaks : Fun K "breaks" "Paced.breaks" s_Paced_breaks a_Paced_breaks fd_Paced_breaks
  b_Paced_breaks : Binds K fd_Paced_breaks ["self"] []
  a_Turned_init__ : Addr
  fd_Turned_init__ : FuncData
  F_Turned_init__ : Fun K "__init__" "Turned.__init__" s_Turned_init__ a_Turned_init__ fd_Turned_init__
  b_Turned_init__ : Binds K fd_Turned_init__ ["self", "turn"] []
  a_Turned_both_steps : Addr
  fd_Turned_both_steps : FuncData
  F_Turned_both_steps : Fun K "both_steps" "Turned.both_steps" s_Turned_both_steps a_Turned_both_steps fd_Turned_both_steps
  b_Turned_both_steps : Binds K fd_Turned_both_steps ["self"] []
  a_Turned_ways : Addr
  fd_Turned_ways : FuncData
  F_Turned_ways : Fun K "ways" "Turned.ways" s_Turned_ways a_Turned_ways fd_Turned_ways
  b_Turned_ways : Binds K fd_Turned_ways ["self"] []
  a_Turned_breaks : Addr
  fd_Turned_breaks : FuncData
  F_Turned_breaks : Fun K "breaks" "Turned.breaks" s_Turned_breaks a_Turned_breaks fd_Turned_breaks
  b_Turned_breaks : Binds K fd_Turned_breaks ["self"] []
  a_law_draw : Addr
  fd_law_draw : FuncData
  F_law_draw : Fun K "_law_draw" "_law_draw" s_law_draw a_law_draw fd_law_draw
  m_law_draw : mg "_law_draw" = some (.ref a_law_draw)
  b_law_draw : Binds K fd_law_draw ["_law_script", "_law_k", "_law_prime", "_law_many"] []
  a_law_base : Addr
  fd_law_base : FuncData
  F_law_base : Fun K "_law_base" "_law_base" s_law_base a_law_base fd_law_base
  m_law_base : mg "_law_base" = some (.ref a_law_base)
  b_law_base : Binds K fd_law_base ["_law_script"] []
  a_law_whole : Addr
  fd_law_whole : FuncData
  F_law_whole : Fun K "_law_whole" "_law_whole" s_law_whole a_law_whole fd_law_whole
  m_law_whole : mg "_law_whole" = some (.ref a_law_whole)
  b_law_whole : Binds K fd_law_whole ["_law_found"] []
  a_law_within : Addr
  fd_law_within : FuncData
  F_law_within : Fun K "_law_within" "_law_within" s_law_within a_law_within fd_law_within
  m_law_within : mg "_law_within" = some (.ref a_law_within)
  b_law_within : Binds K fd_law_within ["_law_span_here", "_law_number"] []
  a_law_leaf : Addr
  fd_law_leaf : FuncData
  F_law_leaf : Fun K "_law_leaf" "_law_leaf" s_law_leaf a_law_leaf fd_law_leaf
  m_law_leaf : mg "_law_leaf" = some (.ref a_law_leaf)
  b_law_leaf : Binds K fd_law_leaf ["_law_script", "_law_k", "_law_sort", "_law_turns", "_law_base_here"] []
  a_law_truth : Addr
  fd_law_truth : FuncData
  F_law_truth : Fun K "_law_truth" "_law_truth" s_law_truth a_law_truth fd_law_truth
  m_law_truth : mg "_law_truth" = some (.ref a_law_truth)
  b_law_truth : Binds K fd_law_truth ["_law_tree", "_law_course"] []
  a_law_event : Addr
  fd_law_event : FuncData
  F_law_event : Fun K "_law_event" "_law_event" s_law_event a_law_event fd_law_event
  m_law_event : mg "_law_event" = some (.ref a_law_event)
  b_law_event : Binds K fd_law_event ["_law_tree"] []
  a_law_farthest : Addr
  fd_law_farthest : FuncData
  F_law_farthest : Fun K "_law_farthest" "_law_farthest" s_law_farthest a_law_farthest fd_law_farthest
  m_law_farthest : mg "_law_farthest" = some (.ref a_law_farthest)
  b_law_farthest : Binds K fd_law_farthest ["_law_tree"] []
  a_law_counts : Addr
  fd_law_counts : FuncData
  F_law_counts : Fun K "_law_counts" "_law_counts" s_law_counts a_law_counts fd_law_counts
  m_law_counts : mg "_law_counts" = some (.ref a_law_counts)
  b_law_counts : Binds K fd_law_counts ["_law_tree"] []
  a_law_span : Addr
  fd_law_span : FuncData
  F_law_span : Fun K "_law_span" "_law_span" s_law_span a_law_span fd_law_span
  m_law_span : mg "_law_span" = some (.ref a_law_span)
  b_law_span : Binds K fd_law_span ["_law_span_here"] []
  a_law_part : Addr
  fd_law_part : FuncData
  F_law_part : Fun K "_law_part" "_law_part" s_law_part a_law_part fd_law_part
  m_law_part : mg "_law_part" = some (.ref a_law_part)
  b_law_part : Binds K fd_law_part ["_law_part_here", "_law_far"] []
  a_law_claims : Addr
  fd_law_claims : FuncData
  F_law_claims : Fun K "_law_claims" "_law_claims" s_law_claims a_law_claims fd_law_claims
  m_law_claims : mg "_law_claims" = some (.ref a_law_claims)
  b_law_claims : Binds K fd_law_claims ["_law_some", "_law_many", "_law_far"] []
  a_law_met : Addr
  fd_law_met : FuncData
  F_law_met : Fun K "_law_met" "_law_met" s_law_met a_law_met fd_law_met
  m_law_met : mg "_law_met" = some (.ref a_law_met)
  b_law_met : Binds K fd_law_met ["_law_course", "_law_claim"] []
  a_law_fitting : Addr
  fd_law_fitting : FuncData
  F_law_fitting : Fun K "_law_fitting" "_law_fitting" s_law_fitting a_law_fitting fd_law_fitting
  m_law_fitting : mg "_law_fitting" = some (.ref a_law_fitting)
  b_law_fitting : Binds K fd_law_fitting ["_law_tree", "_law_ways", "_law_breaks", "_law_course"] []
  a_law_asked_of : Addr
  fd_law_asked_of : FuncData
  F_law_asked_of : Fun K "_law_asked_of" "_law_asked_of" s_law_asked_of a_law_asked_of fd_law_asked_of
  m_law_asked_of : mg "_law_asked_of" = some (.ref a_law_asked_of)
  b_law_asked_of : Binds K fd_law_asked_of ["_law_tree", "_law_one", "_law_other"] []
  a_law : Addr
  fd_law : FuncData
  F_law : Fun K "law" "law" s_law a_law fd_law
  m_law : mg "law" = some (.ref a_law)
  b_law : Binds K fd_law ["_law_script"] []
  n_all : mg "all" = none
  n_any : mg "any" = none
  n_bool : mg "bool" = none
  n_int : mg "int" = none
  n_isinstance : mg "isinstance" = none
  n_len : mg "len" = none
  n_list : mg "list" = none
  n_max : mg "max" = none
  n_min : mg "min" = none
  n_range : mg "range" = none
  n_tuple : mg "tuple" = none
  C_GazeError : Addr
  c_GazeError : mg "GazeError" = some (.ref C_GazeError)
  C_NoEvent : Addr
  c_NoEvent : mg "NoEvent" = some (.ref C_NoEvent)
  C_Event : Addr
  c_Event : mg "Event" = some (.ref C_Event)
  C_Spanned : Addr
  c_Spanned : mg "Spanned" = some (.ref C_Spanned)
  C_Stayed : Addr
  c_Stayed : mg "Stayed" = some (.ref C_Stayed)
  C_Over : Addr
  c_Over : mg "Over" = some (.ref C_Over)
  C_Under : Addr
  c_Under : mg "Under" = some (.ref C_Under)
  C_Rose : Addr
  c_Rose : mg "Rose" = some (.ref C_Rose)
  C_Paced : Addr
  c_Paced : mg "Paced" = some (.ref C_Paced)
  C_Turned : Addr
  c_Turned : mg "Turned" = some (.ref C_Turned)
  cl_Event : Cls K C_Event
  me_Event_sizes : Meth K C_Event "sizes" a_Event_sizes
  cl_Spanned : Cls K C_Spanned
  no_Spanned_first : NoAttr K C_Spanned "first"
  no_Spanned_last : NoAttr K C_Spanned "last"
  me_Spanned_sizes : Meth K C_Spanned "sizes" a_Event_sizes
  mk_Spanned : Mk K C_Spanned a_Spanned_init__
  me_Spanned_all_at : Meth K C_Spanned "all_at" a_Spanned_all_at
  cl_Stayed : Cls K C_Stayed
  no_Stayed_first : NoAttr K C_Stayed "first"
  no_Stayed_last : NoAttr K C_Stayed "last"
  no_Stayed_stretch : NoAttr K C_Stayed "stretch"
  me_Stayed_sizes : Meth K C_Stayed "sizes" a_Event_sizes
  mk_Stayed : Mk K C_Stayed a_Stayed_init__
  me_Stayed_all_at : Meth K C_Stayed "all_at" a_Spanned_all_at
  me_Stayed_ways : Meth K C_Stayed "ways" a_Stayed_ways
  me_Stayed_breaks : Meth K C_Stayed "breaks" a_Stayed_breaks
  cl_Over : Cls K C_Over
  no_Over_first : NoAttr K C_Over "first"
  no_Over_last : NoAttr K C_Over "last"
  no_Over_sill : NoAttr K C_Over "sill"
  me_Over_sizes : Meth K C_Over "sizes" a_Event_sizes
  mk_Over : Mk K C_Over a_Over_init__
  me_Over_all_at : Meth K C_Over "all_at" a_Spanned_all_at
  me_Over_ways : Meth K C_Over "ways" a_Over_ways
  me_Over_breaks : Meth K C_Over "breaks" a_Over_breaks
  cl_Under : Cls K C_Under
  no_Under_first : NoAttr K C_Under "first"
  no_Under_last : NoAttr K C_Under "last"
  no_Under_sill : NoAttr K C_Under "sill"
  me_Under_sizes : Meth K C_Under "sizes" a_Event_sizes
  mk_Under : Mk K C_Under a_Under_init__
  me_Under_all_at : Meth K C_Under "all_at" a_Spanned_all_at
  me_Under_ways : Meth K C_Under "ways" a_Under_ways
  me_Under_breaks : Meth K C_Under "breaks" a_Under_breaks
  cl_Rose : Cls K C_Rose
  no_Rose_first : NoAttr K C_Rose "first"
  no_Rose_last : NoAttr K C_Rose "last"
  no_Rose_low : NoAttr K C_Rose "low"
  no_Rose_high : NoAttr K C_Rose "high"
  me_Rose_sizes : Meth K C_Rose "sizes" a_Event_sizes
  mk_Rose : Mk K C_Rose a_Rose_init__
  me_Rose_all_at : Meth K C_Rose "all_at" a_Spanned_all_at
  me_Rose_ways : Meth K C_Rose "ways" a_Rose_ways
  me_Rose_breaks : Meth K C_Rose "breaks" a_Rose_breaks
  cl_Paced : Cls K C_Paced
  no_Paced_first : NoAttr K C_Paced "first"
  no_Paced_last : NoAttr K C_Paced "last"
  no_Paced_stretch : NoAttr K C_Paced "stretch"
  me_Paced_sizes : Meth K C_Paced "sizes" a_Event_sizes
  mk_Paced : Mk K C_Paced a_Paced_init__
  me_Paced_all_at : Meth K C_Paced "all_at" a_Spanned_all_at
  me_Paced_ways : Meth K C_Paced "ways" a_Paced_ways
  me_Paced_breaks : Meth K C_Paced "breaks" a_Paced_breaks
  me_Paced_all_steps : Meth K C_Paced "all_steps" a_Paced_all_steps
  cl_Turned : Cls K C_Turned
  no_Turned_turn : NoAttr K C_Turned "turn"
  me_Turned_sizes : Meth K C_Turned "sizes" a_Event_sizes
  mk_Turned : Mk K C_Turned a_Turned_init__
  me_Turned_ways : Meth K C_Turned "ways" a_Turned_ways
  me_Turned_breaks : Meth K C_Turned "breaks" a_Turned_breaks
  me_Turned_both_steps : Meth K C_Turned "both_steps" a_Turned_both_steps
  cf_Spanned_init__ : ClsFn K C_Spanned "__init__" a_Spanned_init__
  xc_NoEvent : XC K C_NoEvent
  g_LAST_TURN : ∃ t, mg "LAST_TURN" = some (.int 11 t)
set_option genInjectivity true
set_option genSizeOf true
section
seal L2.PE L2.PS L2.PSs L2.PA
variable {P : Program} {w : World} {K : PySem.W.Frag} {mg : Str → Option Value} {base : Heap}
def sp_whole : Sp := fun vs H Q _ => ∃ (v : V), vs = [v] ∧ (v = .non ∨ ∃ i, v = .int i) ∧ Q (.bl (isWhole v)) H
theorem ok_law_whole (T : Tx K mg) : FnOk P w K mg base (CXX P w) 1 T.a_law_whole T.fd_law_whole ["_law_found"] sp_whole := by
  refine okN T.F_law_whole sc_law_whole (fun vs H Q E h => ?_) (fun cdv A outer s H vs Q E hr h => ?_)
  · obtain ⟨v, rfl, _⟩ := h
    rfl
  · obtain ⟨v, rfl, hv, q⟩ := h
    refine ⟨_, (pss_one (ps_ret (pe_and (pe_callB call_isiA (by rfl) T.n_isinstance b_isinstance (pa_cons (pv 0) (pa_cons (pe_bltn (v := .ty "int") rfl T.n_int b_int rfl) pa_nil))) (pe_one (pe_not (pe_callB call_isiA (by rfl) T.n_isinstance b_isinstance (pa_cons (pv 0) (pa_cons (pe_bltn (v := .ty "bool") rfl T.n_bool b_bool rfl) pa_nil)))))))), ?_⟩
    rcases hv with rfl | ⟨i, rfl⟩
    · walk_at "gz"
      exact q
    · walk_at "gz"
      exact q
def sp_outside (K : PySem.W.Frag) : Sp := fun vs H Q _ => ∃ (p : Addr) (s : S2), vs = [.ref p] ∧ H p = some (.tup [ev s.1, ev s.2]) ∧ ∀ l xs H', Same H H' → H l = none → H' l = some (.lst xs) → Sts H' xs (outS s) → Q (.ref l) H'
theorem ok_outside (T : Tx K mg) : FnOk P w K mg base (CXX P w) 1 T.a_outside T.fd_outside ["one"] (sp_outside K) := by
  refine okN T.F_outside sc_outside (fun vs H Q E h => ?_) (fun cdv A outer s H vs Q E hr h => ?_)
  · obtain ⟨p, s, rfl, _⟩ := h
    rfl
  · obtain ⟨p, ⟨lo, hi⟩, rfl, hp, q⟩ := h
    refine ⟨_, (pss_cons (ps_set (i := 1) sc_outside.nd rfl (Or.inl rfl) (pe_ifExp (pt_cmp (pc_isN (pe_ix ix_seq (pv 0) pe_int (fun _ _ => rfl)))) (pe_lst pa_nil) (pe_lst (pa_cons (pe_tup (pa_cons pe_non (pa_cons (pe_op op_sub (pe_ix ix_seq (pv 0) pe_int (fun _ _ => rfl)) pe_int) pa_nil))) pa_nil))))
    (pss_cons (ps_set (i := 2) sc_outside.nd rfl (Or.inl rfl) (pe_ifExp (pt_cmp (pc_isN (pe_ix ix_seq (pv 0) pe_int (fun _ _ => rfl)))) (pe_lst pa_nil) (pe_lst (pa_cons (pe_tup (pa_cons (pe_op op_add (pe_ix ix_seq (pv 0) pe_int (fun _ _ => rfl)) pe_int) (pa_cons pe_non pa_nil))) pa_nil))))
    (pss_one (ps_ret (pe_op op_cat (pv 1) (pv 2)))))), ?_⟩
    rcases lo with _ | lo <;> rcases hi with _ | hi
    all_goals simp only [ev_none, ev_some] at hp
    · walk_at "gzn"
      refine ixT (SqT.of hp) rfl ?_
      walk_at "gzn"
      refine ⟨by decide, fun a ha => ?_⟩
      have sa := same_upd (o := .lst []) ha
      have ea : upd H a (.lst []) a = some (.lst []) := upd_same
      generalize upd H a (.lst []) = Ha at sa ea ⊢
      refine ixT (SqT.of (sa _ _ hp)) rfl ?_
      walk_at "gzn"
      refine ⟨by decide, fun b hb => ?_⟩
      have sb := same_upd (o := .lst []) hb
      have eb : upd Ha b (.lst []) b = some (.lst []) := upd_same
      generalize upd Ha b (.lst []) = Hb at sb eb ⊢
      exact ⟨_, sb _ _ ea, _, eb, (show 0 ≤ sizeLine by decide), fun c hc => q c _ _ (sa.trans (sb.trans (same_upd hc))) ((sa.trans sb).free hc) upd_same trivial⟩
    · walk_at "gzn"
      refine ixT (SqT.of hp) rfl ?_
      walk_at "gzn"
      refine ⟨by decide, fun a ha => ?_⟩
      have sa := same_upd (o := .lst []) ha
      have ea : upd H a (.lst []) a = some (.lst []) := upd_same
      generalize upd H a (.lst []) = Ha at sa ea ⊢
      refine ixT (SqT.of (sa _ _ hp)) rfl ?_
      walk_at "gzn"
      refine ixT (SqT.of (sa _ _ hp)) rfl ?_
      walk_at "gzn"
      refine ⟨line2, fun tb htb => ⟨by decide, fun b hb => ?_⟩⟩
      have sb := (same_upd (o := .tup [.int (hi + 1), .non]) htb).trans (same_upd (o := .lst [.ref tb]) hb)
      have eb : upd (upd Ha tb (.tup [.int (hi + 1), .non])) b (.lst [.ref tb]) b = some (.lst [.ref tb]) := upd_same
      have kb : IsS (upd (upd Ha tb (.tup [.int (hi + 1), .non])) b (.lst [.ref tb])) (.ref tb) (some (hi + 1)) none := ⟨tb, rfl, (same_upd hb) _ _ upd_same⟩
      generalize upd (upd Ha tb (.tup [.int (hi + 1), .non])) b (.lst [.ref tb]) = Hb at sb eb kb ⊢
      exact ⟨_, sb _ _ ea, _, eb, (show 1 ≤ sizeLine by decide), fun c hc => q c _ _ (sa.trans (sb.trans (same_upd hc))) ((sa.trans sb).free hc) upd_same ⟨kb.same (same_upd hc), trivial⟩⟩
    · walk_at "gzn"
      refine ixT (SqT.of hp) rfl ?_
      walk_at "gzn"
      refine ixT (SqT.of (hp)) rfl ?_
      walk_at "gzn"
      refine ⟨line2, fun ta hta => ⟨by decide, fun a ha => ?_⟩⟩
      have sa := (same_upd (o := .tup [.non, .int (lo - 1)]) hta).trans (same_upd (o := .lst [.ref ta]) ha)
      have ea : upd (upd H ta (.tup [.non, .int (lo - 1)])) a (.lst [.ref ta]) a = some (.lst [.ref ta]) := upd_same
      have ka : IsS (upd (upd H ta (.tup [.non, .int (lo - 1)])) a (.lst [.ref ta])) (.ref ta) none (some (lo - 1)) := ⟨ta, rfl, (same_upd ha) _ _ upd_same⟩
      generalize upd (upd H ta (.tup [.non, .int (lo - 1)])) a (.lst [.ref ta]) = Ha at sa ea ka ⊢
      refine ixT (SqT.of (sa _ _ hp)) rfl ?_
      walk_at "gzn"
      refine ⟨by decide, fun b hb => ?_⟩
      have sb := same_upd (o := .lst []) hb
      have eb : upd Ha b (.lst []) b = some (.lst []) := upd_same
      generalize upd Ha b (.lst []) = Hb at sb eb ⊢
      exact ⟨_, sb _ _ ea, _, eb, (show 1 ≤ sizeLine by decide), fun c hc => q c _ _ (sa.trans (sb.trans (same_upd hc))) ((sa.trans sb).free hc) upd_same ⟨(ka.same sb).same (same_upd hc), trivial⟩⟩
    · walk_at "gzn"
      refine ixT (SqT.of hp) rfl ?_
      walk_at "gzn"
      refine ixT (SqT.of (hp)) rfl ?_
      walk_at "gzn"
      refine ⟨line2, fun ta hta => ⟨by decide, fun a ha => ?_⟩⟩
      have sa := (same_upd (o := .tup [.non, .int (lo - 1)]) hta).trans (same_upd (o := .lst [.ref ta]) ha)
      have ea : upd (upd H ta (.tup [.non, .int (lo - 1)])) a (.lst [.ref ta]) a = some (.lst [.ref ta]) := upd_same
      have ka : IsS (upd (upd H ta (.tup [.non, .int (lo - 1)])) a (.lst [.ref ta])) (.ref ta) none (some (lo - 1)) := ⟨ta, rfl, (same_upd ha) _ _ upd_same⟩
      generalize upd (upd H ta (.tup [.non, .int (lo - 1)])) a (.lst [.ref ta]) = Ha at sa ea ka ⊢
      refine ixT (SqT.of (sa _ _ hp)) rfl ?_
      walk_at "gzn"
      refine ixT (SqT.of (sa _ _ hp)) rfl ?_
      walk_at "gzn"
      refine ⟨line2, fun tb htb => ⟨by decide, fun b hb => ?_⟩⟩
      have sb := (same_upd (o := .tup [.int (hi + 1), .non]) htb).trans (same_upd (o := .lst [.ref tb]) hb)
      have eb : upd (upd Ha tb (.tup [.int (hi + 1), .non])) b (.lst [.ref tb]) b = some (.lst [.ref tb]) := upd_same
      have kb : IsS (upd (upd Ha tb (.tup [.int (hi + 1), .non])) b (.lst [.ref tb])) (.ref tb) (some (hi + 1)) none := ⟨tb, rfl, (same_upd hb) _ _ upd_same⟩
      generalize upd (upd Ha tb (.tup [.int (hi + 1), .non])) b (.lst [.ref tb]) = Hb at sb eb kb ⊢
      exact ⟨_, sb _ _ ea, _, eb, (show 2 ≤ sizeLine by decide), fun c hc => q c _ _ (sa.trans (sb.trans (same_upd hc))) ((sa.trans sb).free hc) upd_same ⟨(ka.same sb).same (same_upd hc), kb.same (same_upd hc), trivial⟩⟩
def sp_failures (K : PySem.W.Frag) : Sp := fun vs H Q _ => ∃ (a : Addr) (xs : List V) (ps : List Pa), vs = [.ref a] ∧ SqL K H a xs ∧ Pas H xs ps ∧ ps.length ≤ 100 ∧ ∀ l ys H', Same H H' → H l = none → H' l = some (.lst ys) → All2 (IsClf H H') ys (failP ps) → Q (.ref l) H'
def inv_fail (H : Hp) (a l : Addr) (ps : List Pa) (i : Nat) (σ : St) (H1 : Hp) : Prop := ∃ (ys : List V) (e : Option V), σ = [some (.ref a), some (.ref l), e] ∧ Same H H1 ∧ H1 l = some (.lst ys) ∧ All2 (IsClg H l H1) ys (failP (ps.take i)) ∧ ys.length ≤ 2 * i
theorem ok_failures (T : Tx K mg) : FnOk P w K mg base (CXX P w) 2 T.a_failures T.fd_failures ["claim"] (sp_failures K) := by
  refine okN T.F_failures sc_failures (fun vs H Q E h => ?_) (fun cdv A outer s H vs Q E hr h => ?_)
  · obtain ⟨a, xs, ps, rfl, _⟩ := h
    rfl
  · obtain ⟨a, xs, ps, rfl, hS, hP, hn, q⟩ := h
    refine ⟨_, (pss_cons (ps_set (i := 1) sc_failures.nd rfl (Or.inl rfl) (pe_lst pa_nil))
    (pss_cons (ps_for PassesOwn.never rfl (pi_list (pv 0)) (pg_name (i := 2) sc_failures.nd rfl (Or.inr rfl)) (pss_one (ps_expr (pe_bm PySem.F.plainAttrs_list PySem.F.slot_list_extend PySem.F.type_list_extend mt_extend (pv 1) (pa_cons (pe_comp (CompOk.mk (fr := [2]) (ys := ["part"]) rfl (by decide +kernel) rfl (by decide +kernel) rfl rfl (.cons rfl .nil) (.cons rfl rfl rfl rfl .nil) (by decide) rfl) rfl (pi_list (pe_call (ok_outside T) (hr.mono (by decide)) rfl T.m_outside T.F_outside.kp T.b_outside .nil passE0 (pa_cons (pe_ix ix_seq (pv 2) pe_int (fun _ _ => rfl)) pa_nil))) (fun C s2 H2 ex pn => ⟨pts_nil, (pe_lst (pa_cons (pe_tup (pa_cons (pe_ix (ix_seqK (K := K) rfl) (pv 1) pe_int (fun _ _ => rfl)) (pa_cons (pe_ix (ix_seqK (K := K) rfl) (pv 1) pe_int (fun _ _ => rfl)) (pa_cons (pv 0) pa_nil)))) pa_nil))⟩)) pa_nil)))))
    (pss_one (ps_ret (pv 1))))), ?_⟩
    have hl := hP.len
    walk_at "gzn"
    refine ⟨by decide, fun l hl0 => ?_⟩
    have s1 := same_upd (o := .lst []) hl0
    have e1 : upd H l (.lst []) l = some (.lst []) := upd_same
    generalize upd H l (.lst []) = H1 at s1 e1 ⊢
    refine ⟨⟨_, s1.seq hS⟩, by_list (xs := xs) (inv_fail H a l ps) ⟨[], _, rfl, s1, e1, trivial, Nat.zero_le _⟩ ?_ ?_ ?_⟩
    · rintro i σ H2 _ ⟨_, _, _, s2, _⟩
      exact s2.seq hS
    · rintro i x σ H2 hx ⟨ys, e, rfl, s2, hl2, hy, hlen⟩
      obtain ⟨p, hp, tp, sp, rfl, h1, h2⟩ := hP.get hx
      have h1' := s2 _ _ h1
      have h2' := s2 _ _ h2
      walk_at "gzn"
      refine ⟨.inl ⟨rfl, _, SqL.of hl2⟩, ixT (SqT.of h1') rfl ?_⟩
      refine ⟨sp, p.2.2, rfl, h2', fun o os H3 s3 _ ho hos => ?_⟩
      walk_at "gzn"
      have hoa := sts_all2.mp hos
      have hol := hoa.len
      have h2o := out_len p.2.2
      refine ⟨⟨_, SqL.of ho⟩, blk_of it_list (Nat.le_trans (by omega : os.length ≤ 2) (by decide)) (compGo_new (R := fun H x (s : S2) => IsS H x s.1 s.2) (R' := IsClg H l) (f := fun s => [((p.1, p.2.1, s) : Pa)]) (fun _ _ _ _ s' h => h.same s') (fun _ _ _ _ s' h => h.same s') hoa (bs := []) trivial (fun H' s' => SqL.of (s' _ _ ho)) (fun x k _ H4 s4 r Q h => ?_) (fun x k _ H4 s4 r Q h => ?_) fun H4 zs s4 hz => ?_)⟩
      · walk_at "gzn"
        exact h
      · obtain ⟨xo, rfl, hxo⟩ := r
        have S4 := s3.trans s4
        walk_at "gzn"
        refine ixT (SqT.of (S4 _ _ h1')) rfl (ixT (SqT.of (S4 _ _ h1')) rfl ⟨by decide, fun t ht => ⟨by decide, fun c hc => ?_⟩⟩)
        have u1 := same_upd (o := .tup [.str p.1, .int p.2.1, .ref xo]) ht
        have u2 := same_upd (o := .lst [.ref t]) hc
        have cl : c ≠ l := fun z => by rw [z, u1 _ _ (S4 _ _ hl2)] at hc; cases hc
        exact h _ _ (u1.trans u2) ⟨c, [.ref t], rfl, cl, (s2.trans (S4.trans u1)).free hc, upd_same, ⟨t, xo, rfl, u2 _ _ upd_same, (u1.trans u2) _ _ hxo⟩, trivial⟩
      · intro b hb
        rw [List.nil_append] at hz
        have S4 := s3.trans s4
        have u := same_upd (o := .lst zs) hb
        have hzl := hz.len
        rw [List.length_map] at hzl
        have hi : i < xs.length := (List.getElem?_eq_some_iff.mp hx).1
        refine ⟨b, rfl, _, u _ _ (S4 _ _ hl2), _, upd_same, Nat.le_trans (by omega : ys.length + zs.length ≤ 300) (by decide), ys ++ zs, _, rfl, same_put hl0 (s2.trans (S4.trans u)), upd_same, ?_, by rw [List.length_append]; omega⟩
        rw [fail_take hp]
        have a1 := (hy.imp fun _ _ r => (r.same (S4.trans u)).put (o := .lst (ys ++ zs)) (u _ _ (S4 _ _ hl2)))
        have a2 := (hz.imp fun _ _ r => (r.same u).put (o := .lst (ys ++ zs)) (u _ _ (S4 _ _ hl2)))
        exact a1.app a2
    · rintro σ H2 ⟨ys, e, rfl, s2, hl2, hy, hlen⟩
      walk_at "gzn"
      rw [hl, List.take_length] at hy
      exact q l ys H2 s2 hl0 hl2 (hy.imp fun _ _ r => r.clf)
def sp_partsat (K : PySem.W.Frag) : Sp := fun vs H Q _ => ∃ (i j : Int) (p : Addr) (s : S2), vs = [.int i, .int j, .ref p] ∧ H p = some (.tup [ev s.1, ev s.2]) ∧ (0 ≤ i ∧ i ≤ 12) ∧ (-1 ≤ j ∧ j ≤ 11) ∧ ∀ l xs H', Same H H' → H l = none → H' l = some (.lst xs) → Pas H' xs (atP i j s) → Q (.ref l) H'
theorem ok_parts_at (T : Tx K mg) : FnOk P w K mg base (CXX P w) 1 T.a_parts_at T.fd_parts_at ["first", "last", "one"] (sp_partsat K) := by
  refine okN T.F_parts_at sc_parts_at (fun vs H Q E h => ?_) (fun cdv A outer s H vs Q E hr h => ?_)
  · obtain ⟨i, j, p, s, rfl, _⟩ := h
    rfl
  · obtain ⟨i, j, p, s, rfl, hp, hi, hj, q⟩ := h
    refine ⟨_, (pss_one (ps_ret (pe_comp (CompOk.mk (fr := [2]) (ys := ["one"]) rfl (by decide +kernel) rfl (by decide +kernel) rfl rfl (.cons rfl .nil) (.cons rfl rfl rfl rfl .nil) (by decide) rfl) rfl (pi_range2 rfl T.n_range (pa_cons (pv 0) (pa_cons (pe_op op_add (pv 1) pe_int) pa_nil))) (fun C s2 H2 ex pn => ⟨pts_nil, (pe_tup (pa_cons pe_str (pa_cons (pv 0) (pa_cons (pv 1) pa_nil))))⟩)))), ?_⟩
    walk_at "gzn"
    refine ⟨by omega, by omega, by omega, by omega, blk_of it_rng (by rw [List.length_map, List.length_range]; exact Nat.le_trans (by omega : _ ≤ 20) (by decide)) (compGo_new (R := fun _ x (k : Nat) => x = V.int (i + k)) (R' := IsPa) (f := fun (k : Nat) => (("at", i + (k : Int), s) : Pa)) (fun _ _ _ _ _ h => h) (fun _ _ _ _ s' h => h.same s') (All2.rng _) (bs := []) trivial (fun _ _ => trivial) (fun x k _ H2 s2 r Q h => ?_) (fun x k _ H2 s2 r Q h => ?_) fun H2 zs s2 hz => ?_)⟩
    · walk_at "gzn"
      exact h
    · subst r
      walk_at "gzn"
      exact ⟨by decide, fun t ht => h _ _ (same_upd ht) ⟨t, p, rfl, upd_same, (same_upd ht) _ _ (s2 _ _ hp)⟩⟩
    · intro l hl
      refine q l zs _ (s2.trans (same_upd hl)) (s2.free hl) upd_same ?_
      rw [List.nil_append] at hz
      exact hz.imp fun _ _ r => r.same (same_upd hl)
end
section
seal L2.PE L2.PS L2.PSs L2.PA
variable {P : Program} {w : World} {K : PySem.W.Frag} {mg : Str → Option Value} {base : Heap}
def okT (i j : Int) : Prop := 0 ≤ i ∧ i ≤ j ∧ j ≤ 11
def sp_spanned (K : PySem.W.Frag) (N : Addr) : Sp := fun vs H Q E => ∃ (x C dx : Addr) (i j : Int), vs = [.ref x, .int i, .int j] ∧ H x = some (.ins C dx []) ∧ Cls K C ∧ NoAttr K C "first" ∧ NoAttr K C "last" ∧ (¬ okT i j → E (.ref N) none H) ∧ (okT i j → Q .non (upd H x (.ins C dx [("first", .int i), ("last", .int j)])))
theorem ok_Spanned_init__ (T : Tx K mg) : FnOk P w K mg base (CXX P w) 1 T.a_Spanned_init__ T.fd_Spanned_init__ ["self", "first", "last"] (sp_spanned K T.C_NoEvent) := by
  refine okX T.F_Spanned_init__ sc_Spanned_init__ (fun vs H Q E h => ?_) (fun cdv A outer s H vs Q E hr h => ?_)
  · obtain ⟨x, C, dx, i, j, rfl, _⟩ := h
    rfl
  · obtain ⟨x, C, dx, i, j, rfl, hx, hc, n1, n2, q0, q⟩ := h
    refine ⟨_, (pss_cons (ps_if (pt_not (pt_chain3 op_le op_le op_le pe_int (pv 1) (pv 2) (pe_globI T.g_LAST_TURN rfl))) (pss_one (ps_raise raise_up rfl T.c_NoEvent T.xc_NoEvent rfl (pa_cons pe_str pa_nil))) pss_nil)
    (pss_cons (ps_fld (pv 0) (pv 1) rfl)
    (pss_one (ps_fld (pv 0) (pv 2) rfl)))), ?_⟩
    walk_at "gzn"
    have no : ∀ D σ, ¬ okT i j → ∀ y, tRaise T.C_NoEvent E (tCons (tC (.str y)) tNil) D σ H := fun D σ z y => ⟨by show 1 ≤ sizeLine; decide, q0 z⟩
    refine ite_by (fun h1 => ite_by (fun h2 => ite_by (fun h3 => no _ _ (fun z => h3 z.2.2) _) fun h3 => ?_) fun h2 => no _ _ (fun z => h2 z.2.1) _) fun h1 => no _ _ (fun z => h1 z.1) _
    refine ⟨_, _, _, hx, hc, n1, (by show 0 < 1000; decide), _, _, _, upd_same, hc, n2, (by show 1 < 1000; decide), ?_⟩
    rw [upd_upd]
    exact q ⟨h1, h2, by omega⟩
def sp_iStayed (C N : Addr) : Sp := fun vs H Q E => ∃ (x dx : Addr) (i j : Int) (v : V), vs = [.ref x, .int i, .int j, v] ∧ H x = some (.ins C dx []) ∧ (¬ okT i j → E (.ref N) none H) ∧ (okT i j → Q .non (upd H x (.ins C dx [("first", .int i), ("last", .int j), ("stretch", v)])))
theorem ok_Stayed_init__ (T : Tx K mg) : FnOk P w K mg base (CXX P w) 2 T.a_Stayed_init__ T.fd_Stayed_init__ ["self", "first", "last", "stretch"] (sp_iStayed T.C_Stayed T.C_NoEvent) := by
  refine okX T.F_Stayed_init__ sc_Stayed_init__ (fun vs H Q E h => ?_) (fun cdv A outer s H vs Q E hr h => ?_)
  · obtain ⟨x, dx, i, j, v, rfl, _⟩ := h
    rfl
  · obtain ⟨x, dx, i, j, v, rfl, hx, q0, q⟩ := h
    refine ⟨_, (pss_cons (ps_expr (pe_clsm rfl T.c_Spanned T.cf_Spanned_init__ (ok_Spanned_init__ T) (hr.mono (by decide)) T.b_Spanned_init__ .nil pass_up (pa_cons (pv 0) (pa_cons (pv 1) (pa_cons (pv 2) pa_nil)))))
    (pss_one (ps_fld (pv 0) (pv 3) rfl))), ?_⟩
    walk_at "gzn"
    refine ⟨x, T.C_Stayed, dx, i, j, rfl, hx, T.cl_Stayed, T.no_Stayed_first, T.no_Stayed_last, q0, fun hk => ?_⟩
    walk_at "gzn"
    refine ⟨_, _, _, upd_same, T.cl_Stayed, T.no_Stayed_stretch, (by show 2 < 1000; decide), ?_⟩
    rw [upd_upd]
    exact q hk
def sp_iOver (C N : Addr) : Sp := fun vs H Q E => ∃ (x dx : Addr) (i j : Int) (v : V), vs = [.ref x, .int i, .int j, v] ∧ H x = some (.ins C dx []) ∧ (¬ okT i j → E (.ref N) none H) ∧ (okT i j → Q .non (upd H x (.ins C dx [("first", .int i), ("last", .int j), ("sill", v)])))
theorem ok_Over_init__ (T : Tx K mg) : FnOk P w K mg base (CXX P w) 2 T.a_Over_init__ T.fd_Over_init__ ["self", "first", "last", "sill"] (sp_iOver T.C_Over T.C_NoEvent) := by
  refine okX T.F_Over_init__ sc_Over_init__ (fun vs H Q E h => ?_) (fun cdv A outer s H vs Q E hr h => ?_)
  · obtain ⟨x, dx, i, j, v, rfl, _⟩ := h
    rfl
  · obtain ⟨x, dx, i, j, v, rfl, hx, q0, q⟩ := h
    refine ⟨_, (pss_cons (ps_expr (pe_clsm rfl T.c_Spanned T.cf_Spanned_init__ (ok_Spanned_init__ T) (hr.mono (by decide)) T.b_Spanned_init__ .nil pass_up (pa_cons (pv 0) (pa_cons (pv 1) (pa_cons (pv 2) pa_nil)))))
    (pss_one (ps_fld (pv 0) (pv 3) rfl))), ?_⟩
    walk_at "gzn"
    refine ⟨x, T.C_Over, dx, i, j, rfl, hx, T.cl_Over, T.no_Over_first, T.no_Over_last, q0, fun hk => ?_⟩
    walk_at "gzn"
    refine ⟨_, _, _, upd_same, T.cl_Over, T.no_Over_sill, (by show 2 < 1000; decide), ?_⟩
    rw [upd_upd]
    exact q hk
def sp_iUnder (C N : Addr) : Sp := fun vs H Q E => ∃ (x dx : Addr) (i j : Int) (v : V), vs = [.ref x, .int i, .int j, v] ∧ H x = some (.ins C dx []) ∧ (¬ okT i j → E (.ref N) none H) ∧ (okT i j → Q .non (upd H x (.ins C dx [("first", .int i), ("last", .int j), ("sill", v)])))
theorem ok_Under_init__ (T : Tx K mg) : FnOk P w K mg base (CXX P w) 2 T.a_Under_init__ T.fd_Under_init__ ["self", "first", "last", "sill"] (sp_iUnder T.C_Under T.C_NoEvent) := by
  refine okX T.F_Under_init__ sc_Under_init__ (fun vs H Q E h => ?_) (fun cdv A outer s H vs Q E hr h => ?_)
  · obtain ⟨x, dx, i, j, v, rfl, _⟩ := h
    rfl
  · obtain ⟨x, dx, i, j, v, rfl, hx, q0, q⟩ := h
    refine ⟨_, (pss_cons (ps_expr (pe_clsm rfl T.c_Spanned T.cf_Spanned_init__ (ok_Spanned_init__ T) (hr.mono (by decide)) T.b_Spanned_init__ .nil pass_up (pa_cons (pv 0) (pa_cons (pv 1) (pa_cons (pv 2) pa_nil)))))
    (pss_one (ps_fld (pv 0) (pv 3) rfl))), ?_⟩
    walk_at "gzn"
    refine ⟨x, T.C_Under, dx, i, j, rfl, hx, T.cl_Under, T.no_Under_first, T.no_Under_last, q0, fun hk => ?_⟩
    walk_at "gzn"
    refine ⟨_, _, _, upd_same, T.cl_Under, T.no_Under_sill, (by show 2 < 1000; decide), ?_⟩
    rw [upd_upd]
    exact q hk
def sp_iPaced (C N : Addr) : Sp := fun vs H Q E => ∃ (x dx : Addr) (i j : Int) (v : V), vs = [.ref x, .int i, .int j, v] ∧ H x = some (.ins C dx []) ∧ (¬ okT i j → E (.ref N) none H) ∧ (okT i j → Q .non (upd H x (.ins C dx [("first", .int i), ("last", .int j), ("stretch", v)])))
theorem ok_Paced_init__ (T : Tx K mg) : FnOk P w K mg base (CXX P w) 2 T.a_Paced_init__ T.fd_Paced_init__ ["self", "first", "last", "stretch"] (sp_iPaced T.C_Paced T.C_NoEvent) := by
  refine okX T.F_Paced_init__ sc_Paced_init__ (fun vs H Q E h => ?_) (fun cdv A outer s H vs Q E hr h => ?_)
  · obtain ⟨x, dx, i, j, v, rfl, _⟩ := h
    rfl
  · obtain ⟨x, dx, i, j, v, rfl, hx, q0, q⟩ := h
    refine ⟨_, (pss_cons (ps_expr (pe_clsm rfl T.c_Spanned T.cf_Spanned_init__ (ok_Spanned_init__ T) (hr.mono (by decide)) T.b_Spanned_init__ .nil pass_up (pa_cons (pv 0) (pa_cons (pv 1) (pa_cons (pv 2) pa_nil)))))
    (pss_one (ps_fld (pv 0) (pv 3) rfl))), ?_⟩
    walk_at "gzn"
    refine ⟨x, T.C_Paced, dx, i, j, rfl, hx, T.cl_Paced, T.no_Paced_first, T.no_Paced_last, q0, fun hk => ?_⟩
    walk_at "gzn"
    refine ⟨_, _, _, upd_same, T.cl_Paced, T.no_Paced_stretch, (by show 2 < 1000; decide), ?_⟩
    rw [upd_upd]
    exact q hk
def sp_iRose (C N : Addr) : Sp := fun vs H Q E => ∃ (x dx : Addr) (i j l h : Int), vs = [.ref x, .int i, .int j, .int l, .int h] ∧ H x = some (.ins C dx []) ∧ (¬ (okT i j ∧ l < h) → ∀ H', SameBut x H H' → E (.ref N) none H') ∧ (okT i j ∧ l < h → Q .non (upd H x (.ins C dx [("first", .int i), ("last", .int j), ("low", .int l), ("high", .int h)])))
theorem ok_Rose_init__ (T : Tx K mg) : FnOk P w K mg base (CXX P w) 2 T.a_Rose_init__ T.fd_Rose_init__ ["self", "first", "last", "low", "high"] (sp_iRose T.C_Rose T.C_NoEvent) := by
  refine okX T.F_Rose_init__ sc_Rose_init__ (fun vs H Q E h => ?_) (fun cdv A outer s H vs Q E hr h => ?_)
  · obtain ⟨x, dx, i, j, l, h, rfl, _⟩ := h
    rfl
  · obtain ⟨x, dx, i, j, l, h, rfl, hx, q0, q⟩ := h
    refine ⟨_, (pss_cons (ps_expr (pe_clsm rfl T.c_Spanned T.cf_Spanned_init__ (ok_Spanned_init__ T) (hr.mono (by decide)) T.b_Spanned_init__ .nil pass_up (pa_cons (pv 0) (pa_cons (pv 1) (pa_cons (pv 2) pa_nil)))))
    (pss_cons (ps_if (pt_cmpR op_ge (pv 3) (pv 4) (nomark _)) (pss_one (ps_raise raise_up rfl T.c_NoEvent T.xc_NoEvent rfl (pa_cons pe_str pa_nil))) pss_nil)
    (pss_cons (ps_fld (pv 0) (pv 3) rfl)
    (pss_one (ps_fld (pv 0) (pv 4) rfl))))), ?_⟩
    walk_at "gzn"
    refine ⟨x, T.C_Rose, dx, i, j, rfl, hx, T.cl_Rose, T.no_Rose_first, T.no_Rose_last, fun z => q0 (fun y => z y.1) _ fun _ _ _ e => e, fun hk => ?_⟩
    walk_at "gzn"
    refine ite_by (fun h1 => ⟨by decide, q0 (fun y => by omega) _ fun b o hb e => by rw [upd_ne hb]; exact e⟩) fun h1 => ?_
    refine ⟨_, _, _, upd_same, T.cl_Rose, T.no_Rose_low, (by show 2 < 1000; decide), _, _, _, upd_same, T.cl_Rose, T.no_Rose_high, (by show 3 < 1000; decide), ?_⟩
    rw [upd_upd, upd_upd]
    exact q ⟨hk, by omega⟩
def sp_iTurned (C N : Addr) : Sp := fun vs H Q E => ∃ (x dx : Addr) (i : Int), vs = [.ref x, .int i] ∧ H x = some (.ins C dx []) ∧ (¬ (0 < i ∧ i < 11) → E (.ref N) none H) ∧ (0 < i ∧ i < 11 → Q .non (upd H x (.ins C dx [("turn", .int i)])))
theorem ok_Turned_init__ (T : Tx K mg) : FnOk P w K mg base (CXX P w) 1 T.a_Turned_init__ T.fd_Turned_init__ ["self", "turn"] (sp_iTurned T.C_Turned T.C_NoEvent) := by
  refine okX T.F_Turned_init__ sc_Turned_init__ (fun vs H Q E h => ?_) (fun cdv A outer s H vs Q E hr h => ?_)
  · obtain ⟨x, dx, i, rfl, _⟩ := h
    rfl
  · obtain ⟨x, dx, i, rfl, hx, q0, q⟩ := h
    refine ⟨_, (pss_cons (ps_if (pt_not (pt_chain op_lt op_lt pe_int (pv 1) (pe_globI T.g_LAST_TURN rfl))) (pss_one (ps_raise raise_up rfl T.c_NoEvent T.xc_NoEvent rfl (pa_cons pe_str pa_nil))) pss_nil)
    (pss_one (ps_fld (pv 0) (pv 1) rfl))), ?_⟩
    walk_at "gzn"
    have no : ∀ D σ, ¬ (0 < i ∧ i < 11) → ∀ y, tRaise T.C_NoEvent E (tCons (tC (.str y)) tNil) D σ H := fun D σ z y => ⟨by show 1 ≤ sizeLine; decide, q0 z⟩
    refine ite_by (fun h1 => ite_by (fun h2 => no _ _ (fun z => h2 z.2) _) fun h2 => ?_) fun h1 => no _ _ (fun z => h1 z.1) _
    exact ⟨_, _, _, hx, T.cl_Turned, T.no_Turned_turn, (by show 0 < 1000; decide), q ⟨h1, by omega⟩⟩
end
section
seal L2.PE L2.PS L2.PSs L2.PA
variable {P : Program} {w : World} {K : PySem.W.Frag} {mg : Str → Option Value} {base : Heap}
def sp_allat (K : PySem.W.Frag) : Sp := fun vs H Q _ => ∃ (x C dx p : Addr) (fs : List (Str × V)) (i j : Int) (s : S2), vs = [.ref x, .ref p] ∧ H x = some (.ins C dx fs) ∧ Cls K C ∧ NoAttr K C "first" ∧ NoAttr K C "last" ∧ fs.lookup ("first" : Str) = some (.int i) ∧ fs.lookup ("last" : Str) = some (.int j) ∧ okT i j ∧ H p = some (.tup [ev s.1, ev s.2]) ∧ ∀ l xs H', Same H H' → H l = none → H' l = some (.lst xs) → Pas H' xs (atP i j s) → Q (.ref l) H'
theorem ok_Spanned_all_at (T : Tx K mg) : FnOk P w K mg base (CXX P w) 2 T.a_Spanned_all_at T.fd_Spanned_all_at ["self", "one"] (sp_allat K) := by
  refine okN T.F_Spanned_all_at sc_Spanned_all_at (fun vs H Q E h => ?_) (fun cdv A outer s H vs Q E hr h => ?_)
  · obtain ⟨x, C, dx, p, fs, i, j, s, rfl, _⟩ := h
    rfl
  · obtain ⟨x, C, dx, p, fs, i, j, s, rfl, hx, hc, n1, n2, l1, l2, hk, hp, q⟩ := h
    refine ⟨_, (pss_one (ps_ret (pe_call (ok_parts_at T) (hr.mono (by decide)) rfl T.m_parts_at T.F_parts_at.kp T.b_parts_at .nil passE0 (pa_cons (pe_fld (pv 0) rfl) (pa_cons (pe_fld (pv 0) rfl) (pa_cons (pv 1) pa_nil)))))), ?_⟩
    obtain ⟨k1, k2, k3⟩ := hk
    walk_at "gzn"
    refine ⟨_, _, _, hx, hc, n1, _, l1, _, _, _, hx, hc, n2, _, l2, ?_⟩
    exact ⟨i, j, p, s, rfl, hp, by omega, by omega, q⟩
def sp_wStayed (C : Addr) : Sp := fun vs H Q _ => ∃ (x dx p : Addr) (i j : Int) (s : S2), vs = [.ref x] ∧ H x = some (.ins C dx [("first", .int i), ("last", .int j), ("stretch", .ref p)]) ∧ okT i j ∧ H p = some (.tup [ev s.1, ev s.2]) ∧ ∀ l ys H', Same H H' → H l = none → H' l = some (.lst ys) → All2 (IsClf H H') ys [atP i j s] → Q (.ref l) H'
theorem ok_Stayed_ways (T : Tx K mg) : FnOk P w K mg base (CXX P w) 3 T.a_Stayed_ways T.fd_Stayed_ways ["self"] (sp_wStayed T.C_Stayed) := by
  refine okN T.F_Stayed_ways sc_Stayed_ways (fun vs H Q E h => ?_) (fun cdv A outer s H vs Q E hr h => ?_)
  · obtain ⟨x, dx, p, i, j, s, rfl, _⟩ := h
    rfl
  · obtain ⟨x, dx, p, i, j, s, rfl, hx, hk, hp, q⟩ := h
    refine ⟨_, (pss_one (ps_ret (pe_lst (pa_cons (pe_meth (pv 0) T.cl_Stayed T.me_Stayed_all_at (ok_Spanned_all_at T) (hr.mono (by decide)) T.b_Spanned_all_at .nil passE0 (pa_cons (pe_fld (pv 0) rfl) pa_nil)) pa_nil)))), ?_⟩
    walk_at "gzn"
    refine ⟨_, _, hx, rfl, _, _, _, hx, T.cl_Stayed, T.no_Stayed_stretch, _, rfl, ?_⟩
    exact ⟨x, T.C_Stayed, dx, p, _, i, j, s, rfl, hx, T.cl_Stayed, T.no_Stayed_first, T.no_Stayed_last, rfl, rfl, hk, hp, fun l xs H1 s1 fl hl hP => ⟨by decide, fun c hc => q c _ _ (s1.trans (same_upd hc)) (s1.free hc) upd_same ⟨⟨l, xs, rfl, fl, (same_upd hc) _ _ hl, hP.same (same_upd hc)⟩, trivial⟩⟩⟩
def sp_wOver (C : Addr) : Sp := fun vs H Q _ => ∃ (x dx : Addr) (i j z : Int), vs = [.ref x] ∧ H x = some (.ins C dx [("first", .int i), ("last", .int j), ("sill", .int z)]) ∧ okT i j ∧ ∀ l ys H', Same H H' → H l = none → H' l = some (.lst ys) → All2 (IsClf H H') ys (failP (atP i j (none, some (z - 1)))) → Q (.ref l) H'
theorem ok_Over_ways (T : Tx K mg) : FnOk P w K mg base (CXX P w) 3 T.a_Over_ways T.fd_Over_ways ["self"] (sp_wOver T.C_Over) := by
  refine okN T.F_Over_ways sc_Over_ways (fun vs H Q E h => ?_) (fun cdv A outer s H vs Q E hr h => ?_)
  · obtain ⟨x, dx, i, j, z, rfl, _⟩ := h
    rfl
  · obtain ⟨x, dx, i, j, z, rfl, hx, hk, q⟩ := h
    refine ⟨_, (pss_one (ps_ret (pe_call (ok_failures T) (hr.mono (by decide)) rfl T.m_failures T.F_failures.kp T.b_failures .nil passE0 (pa_cons (pe_meth (pv 0) T.cl_Over T.me_Over_all_at (ok_Spanned_all_at T) (hr.mono (by decide)) T.b_Spanned_all_at .nil passE0 (pa_cons (pe_tup (pa_cons pe_non (pa_cons (pe_op op_sub (pe_fld (pv 0) rfl) pe_int) pa_nil))) pa_nil)) pa_nil)))), ?_⟩
    walk_at "gzn"
    refine ⟨_, _, hx, rfl, _, _, _, hx, T.cl_Over, T.no_Over_sill, _, rfl, _, rfl, line2, fun t ht => ?_⟩
    have s0 := same_upd (o := .tup [.non, .int (z - 1)]) ht
    refine ⟨x, T.C_Over, dx, t, _, i, j, (none, some (z - 1)), rfl, s0 _ _ hx, T.cl_Over, T.no_Over_first, T.no_Over_last, rfl, rfl, hk, upd_same, fun l xs H1 s1 _ hl hP => ?_⟩
    have hlen := at_len i j (none, some (z - 1))
    obtain ⟨k1, k2, k3⟩ := id hk
    exact ⟨l, xs, _, rfl, SqL.of hl, hP, by omega, fun c ys H2 s2 fc hc hy => q c ys H2 (s0.trans (s1.trans s2)) ((s0.trans s1).free fc) hc (hy.imp fun _ _ r => r.back (s0.trans s1))⟩
def sp_wUnder (C : Addr) : Sp := fun vs H Q _ => ∃ (x dx : Addr) (i j z : Int), vs = [.ref x] ∧ H x = some (.ins C dx [("first", .int i), ("last", .int j), ("sill", .int z)]) ∧ okT i j ∧ ∀ l ys H', Same H H' → H l = none → H' l = some (.lst ys) → All2 (IsClf H H') ys (failP (atP i j (some (z + 1), none))) → Q (.ref l) H'
theorem ok_Under_ways (T : Tx K mg) : FnOk P w K mg base (CXX P w) 3 T.a_Under_ways T.fd_Under_ways ["self"] (sp_wUnder T.C_Under) := by
  refine okN T.F_Under_ways sc_Under_ways (fun vs H Q E h => ?_) (fun cdv A outer s H vs Q E hr h => ?_)
  · obtain ⟨x, dx, i, j, z, rfl, _⟩ := h
    rfl
  · obtain ⟨x, dx, i, j, z, rfl, hx, hk, q⟩ := h
    refine ⟨_, (pss_one (ps_ret (pe_call (ok_failures T) (hr.mono (by decide)) rfl T.m_failures T.F_failures.kp T.b_failures .nil passE0 (pa_cons (pe_meth (pv 0) T.cl_Under T.me_Under_all_at (ok_Spanned_all_at T) (hr.mono (by decide)) T.b_Spanned_all_at .nil passE0 (pa_cons (pe_tup (pa_cons (pe_op op_add (pe_fld (pv 0) rfl) pe_int) (pa_cons pe_non pa_nil))) pa_nil)) pa_nil)))), ?_⟩
    walk_at "gzn"
    refine ⟨_, _, hx, rfl, _, _, _, hx, T.cl_Under, T.no_Under_sill, _, rfl, _, rfl, line2, fun t ht => ?_⟩
    have s0 := same_upd (o := .tup [.int (z + 1), .non]) ht
    refine ⟨x, T.C_Under, dx, t, _, i, j, (some (z + 1), none), rfl, s0 _ _ hx, T.cl_Under, T.no_Under_first, T.no_Under_last, rfl, rfl, hk, upd_same, fun l xs H1 s1 _ hl hP => ?_⟩
    have hlen := at_len i j (some (z + 1), none)
    obtain ⟨k1, k2, k3⟩ := id hk
    exact ⟨l, xs, _, rfl, SqL.of hl, hP, by omega, fun c ys H2 s2 fc hc hy => q c ys H2 (s0.trans (s1.trans s2)) ((s0.trans s1).free fc) hc (hy.imp fun _ _ r => r.back (s0.trans s1))⟩
def sp_steps (C : Addr) : Sp := fun vs H Q _ => ∃ (x dx p : Addr) (i j : Int) (s : S2), vs = [.ref x] ∧ H x = some (.ins C dx [("first", .int i), ("last", .int j), ("stretch", .ref p)]) ∧ okT i j ∧ H p = some (.tup [ev s.1, ev s.2]) ∧ ∀ l xs H', Same H H' → H l = none → H' l = some (.lst xs) → Pas H' xs (stP i j s) → Q (.ref l) H'
theorem ok_Paced_all_steps (T : Tx K mg) : FnOk P w K mg base (CXX P w) 1 T.a_Paced_all_steps T.fd_Paced_all_steps ["self"] (sp_steps T.C_Paced) := by
  refine okN T.F_Paced_all_steps sc_Paced_all_steps (fun vs H Q E h => ?_) (fun cdv A outer s H vs Q E hr h => ?_)
  · obtain ⟨x, dx, p, i, j, s, rfl, _⟩ := h
    rfl
  · obtain ⟨x, dx, p, i, j, s, rfl, hx, hk, hp, q⟩ := h
    refine ⟨_, (pss_one (ps_ret (pe_comp (CompOk.mk (fr := [0]) (ys := ["self"]) rfl (by decide +kernel) rfl (by decide +kernel) rfl rfl (.cons rfl .nil) (.cons rfl rfl rfl rfl .nil) (by decide) rfl) rfl (pi_range2 rfl T.n_range (pa_cons (pe_fld (pv 0) rfl) (pa_cons (pe_fld (pv 0) rfl) pa_nil))) (fun C s2 H2 ex pn => ⟨pts_nil, (pe_tup (pa_cons pe_str (pa_cons (pv 0) (pa_cons (pe_fldK (K := K) (pv 1) rfl) pa_nil))))⟩)))), ?_⟩
    obtain ⟨k1, k2, k3⟩ := hk
    walk_at "gzn"
    refine ⟨_, _, _, hx, T.cl_Paced, T.no_Paced_first, _, rfl, _, _, _, hx, T.cl_Paced, T.no_Paced_last, _, rfl, _, rfl, _, rfl, by omega, by omega, by omega, by omega, ?_⟩
    refine blk_of it_rng (by rw [List.length_map, List.length_range]; exact Nat.le_trans (by omega : _ ≤ 20) (by decide)) (compGo_new (R := fun _ x (k : Nat) => x = V.int (i + k)) (R' := IsPa) (f := fun (k : Nat) => (("step", i + (k : Int), s) : Pa)) (fun _ _ _ _ _ h => h) (fun _ _ _ _ s' h => h.same s') (All2.rng _) (bs := []) trivial (fun _ _ => trivial) (fun x k _ H2 s2 r Q h => ?_) (fun y k _ H2 s2 r Q h => ?_) fun H2 zs s2 hz => ?_)
    · walk_at "gzn"
      exact h
    · subst r
      walk_at "gzn"
      refine ⟨_, _, _, s2 _ _ hx, T.cl_Paced, T.no_Paced_stretch, _, rfl, by decide, fun t ht => h _ _ (same_upd ht) ⟨t, p, rfl, upd_same, (same_upd ht) _ _ (s2 _ _ hp)⟩⟩
    · intro l hl
      refine q l zs _ (s2.trans (same_upd hl)) (s2.free hl) upd_same ?_
      rw [List.nil_append] at hz
      exact hz.imp fun _ _ r => r.same (same_upd hl)
def sp_wPaced (C : Addr) : Sp := fun vs H Q _ => ∃ (x dx p : Addr) (i j : Int) (s : S2), vs = [.ref x] ∧ H x = some (.ins C dx [("first", .int i), ("last", .int j), ("stretch", .ref p)]) ∧ okT i j ∧ H p = some (.tup [ev s.1, ev s.2]) ∧ ∀ l ys H', Same H H' → H l = none → H' l = some (.lst ys) → All2 (IsClf H H') ys [stP i j s] → Q (.ref l) H'
theorem ok_Paced_ways (T : Tx K mg) : FnOk P w K mg base (CXX P w) 2 T.a_Paced_ways T.fd_Paced_ways ["self"] (sp_wPaced T.C_Paced) := by
  refine okN T.F_Paced_ways sc_Paced_ways (fun vs H Q E h => ?_) (fun cdv A outer s H vs Q E hr h => ?_)
  · obtain ⟨x, dx, p, i, j, s, rfl, _⟩ := h
    rfl
  · obtain ⟨x, dx, p, i, j, s, rfl, hx, hk, hp, q⟩ := h
    refine ⟨_, (pss_one (ps_ret (pe_lst (pa_cons (pe_meth0 (pv 0) T.cl_Paced T.me_Paced_all_steps (ok_Paced_all_steps T) (hr.mono (by decide)) T.b_Paced_all_steps .nil passE0) pa_nil)))), ?_⟩
    walk_at "gzn"
    refine ⟨_, _, hx, rfl, ?_⟩
    exact ⟨x, dx, p, i, j, s, rfl, hx, hk, hp, fun l xs H1 s1 fl hl hP => ⟨by decide, fun c hc => q c _ _ (s1.trans (same_upd hc)) (s1.free hc) upd_same ⟨⟨l, xs, rfl, fl, (same_upd hc) _ _ hl, hP.same (same_upd hc)⟩, trivial⟩⟩⟩
def turnP (t : Int) : List Pa := [("step", t - 1, some 1, none), ("step", t, none, some (-1))]
def sp_both (C : Addr) : Sp := fun vs H Q _ => ∃ (x dx : Addr) (t : Int), vs = [.ref x] ∧ H x = some (.ins C dx [("turn", .int t)]) ∧ ∀ l xs H', Same H H' → H l = none → H' l = some (.lst xs) → Pas H' xs (turnP t) → Q (.ref l) H'
theorem ok_Turned_both_steps (T : Tx K mg) : FnOk P w K mg base (CXX P w) 1 T.a_Turned_both_steps T.fd_Turned_both_steps ["self"] (sp_both T.C_Turned) := by
  refine okN T.F_Turned_both_steps sc_Turned_both_steps (fun vs H Q E h => ?_) (fun cdv A outer s H vs Q E hr h => ?_)
  · obtain ⟨x, dx, t, rfl, _⟩ := h
    rfl
  · obtain ⟨x, dx, t, rfl, hx, q⟩ := h
    refine ⟨_, (pss_one (ps_ret (pe_lst (pa_cons (pe_tup (pa_cons pe_str (pa_cons (pe_op op_sub (pe_fld (pv 0) rfl) pe_int) (pa_cons (pe_tup (pa_cons pe_int (pa_cons pe_non pa_nil))) pa_nil)))) (pa_cons (pe_tup (pa_cons pe_str (pa_cons (pe_fld (pv 0) rfl) (pa_cons (pe_tup (pa_cons pe_non (pa_cons (pe_un un_neg pe_int) pa_nil))) pa_nil)))) pa_nil))))), ?_⟩
    walk_at "gzn"
    refine ⟨_, _, _, hx, T.cl_Turned, T.no_Turned_turn, _, rfl, _, rfl, line2, fun a ha => ⟨by decide, fun b hb => ?_⟩⟩
    have sa := same_upd (o := .tup [.int 1, .non]) ha
    have sb := same_upd (o := .tup [.str "step", .int (t - 1), .ref a]) hb
    refine ⟨_, _, _, (sa.trans sb) _ _ hx, T.cl_Turned, T.no_Turned_turn, _, rfl, line2, fun c hc => ⟨by decide, fun d hd => ⟨by decide, fun e he => ?_⟩⟩⟩
    have sc := same_upd (o := .tup [.non, .int (-1)]) hc
    have sd := same_upd (o := .tup [.str "step", .int t, .ref c]) hd
    have se := same_upd (o := .lst [.ref b, .ref d]) he
    have zd := sd.trans se
    have zc := sc.trans zd
    have zb := sb.trans zc
    exact q e _ _ (sa.trans zb) ((sa.trans (sb.trans (sc.trans sd))).free he) upd_same ⟨⟨b, a, rfl, zc _ _ upd_same, zb _ _ upd_same⟩, ⟨d, c, rfl, se _ _ upd_same, zd _ _ upd_same⟩, trivial⟩
def sp_wTurned (C : Addr) : Sp := fun vs H Q _ => ∃ (x dx : Addr) (t : Int), vs = [.ref x] ∧ H x = some (.ins C dx [("turn", .int t)]) ∧ ∀ l ys H', Same H H' → H l = none → H' l = some (.lst ys) → All2 (IsClf H H') ys [turnP t] → Q (.ref l) H'
theorem ok_Turned_ways (T : Tx K mg) : FnOk P w K mg base (CXX P w) 2 T.a_Turned_ways T.fd_Turned_ways ["self"] (sp_wTurned T.C_Turned) := by
  refine okN T.F_Turned_ways sc_Turned_ways (fun vs H Q E h => ?_) (fun cdv A outer s H vs Q E hr h => ?_)
  · obtain ⟨x, dx, t, rfl, _⟩ := h
    rfl
  · obtain ⟨x, dx, t, rfl, hx, q⟩ := h
    refine ⟨_, (pss_one (ps_ret (pe_lst (pa_cons (pe_meth0 (pv 0) T.cl_Turned T.me_Turned_both_steps (ok_Turned_both_steps T) (hr.mono (by decide)) T.b_Turned_both_steps .nil passE0) pa_nil)))), ?_⟩
    walk_at "gzn"
    refine ⟨_, _, hx, rfl, ?_⟩
    exact ⟨x, dx, t, rfl, hx, fun l xs H1 s1 fl hl hP => ⟨by decide, fun c hc => q c _ _ (s1.trans (same_upd hc)) (s1.free hc) upd_same ⟨⟨l, xs, rfl, fl, (same_upd hc) _ _ hl, hP.same (same_upd hc)⟩, trivial⟩⟩⟩
def roseQ (i j l h : Int) (n : Nat) : List (List Pa) := (List.range n).flatMap fun k => (atP (i + (k : Nat) + 1) j (some h, none)).map fun p => [(("at", i + (k : Nat), none, some l) : Pa), p]
theorem roseQ_succ (i j l h : Int) (n : Nat) : roseQ i j l h (n + 1) = roseQ i j l h n ++ (atP (i + (n : Nat) + 1) j (some h, none)).map fun p => [(("at", i + (n : Nat), none, some l) : Pa), p] := by
  unfold roseQ
  rw [List.range_succ, List.flatMap_append]
  simp
def inv_rose (H : Hp) (x r : Addr) (i j l h : Int) (n : Nat) (σ : St) (H1 : Hp) : Prop := ∃ (ys : List V) (e1 e2 : Option V), σ = [some (.ref x), some (.ref r), e1, e2] ∧ Same H H1 ∧ H1 r = some (.lst ys) ∧ All2 (IsClg H r H1) ys (roseQ i j l h n) ∧ ys.length ≤ 12 * n
def sp_wRose (C : Addr) : Sp := fun vs H Q _ => ∃ (x dx : Addr) (i j l h : Int), vs = [.ref x] ∧ H x = some (.ins C dx [("first", .int i), ("last", .int j), ("low", .int l), ("high", .int h)]) ∧ okT i j ∧ ∀ r ys H', Same H H' → H r = none → H' r = some (.lst ys) → All2 (IsClf H H') ys (roseP i j l h) → Q (.ref r) H'
theorem ok_Rose_ways (T : Tx K mg) : FnOk P w K mg base (CXX P w) 2 T.a_Rose_ways T.fd_Rose_ways ["self"] (sp_wRose T.C_Rose) := by
  refine okN T.F_Rose_ways sc_Rose_ways (fun vs H Q E h => ?_) (fun cdv A outer s H vs Q E hr h => ?_)
  · obtain ⟨x, dx, i, j, l, h, rfl, _⟩ := h
    rfl
  · obtain ⟨x, dx, i, j, l, h, rfl, hx, hk, q⟩ := h
    refine ⟨_, (pss_cons (ps_set (i := 1) sc_Rose_ways.nd rfl (Or.inl rfl) (pe_lst pa_nil))
    (pss_cons (ps_for PassesOwn.never rfl (pi_range2 rfl T.n_range (pa_cons (pe_fld (pv 0) rfl) (pa_cons (pe_fld (pv 0) rfl) pa_nil))) (pg_name (i := 2) sc_Rose_ways.nd rfl (Or.inl rfl)) (pss_cons (ps_set (i := 3) sc_Rose_ways.nd rfl (Or.inr rfl) (pe_lst (pa_cons (pe_tup (pa_cons pe_str (pa_cons (pv 2) (pa_cons (pe_tup (pa_cons pe_non (pa_cons (pe_fld (pv 0) rfl) pa_nil))) pa_nil)))) pa_nil)))
        (pss_one (ps_expr (pe_bm PySem.F.plainAttrs_list PySem.F.slot_list_extend PySem.F.type_list_extend mt_extend (pv 1) (pa_cons (pe_comp (CompOk.mk (fr := [3]) (ys := ["lows"]) rfl (by decide +kernel) rfl (by decide +kernel) rfl rfl (.cons rfl .nil) (.cons rfl rfl rfl rfl .nil) (by decide) rfl) rfl (pi_list (pe_call (ok_parts_at T) (hr.mono (by decide)) rfl T.m_parts_at T.F_parts_at.kp T.b_parts_at .nil passE0 (pa_cons (pe_op op_add (pv 2) pe_int) (pa_cons (pe_fld (pv 0) rfl) (pa_cons (pe_tup (pa_cons (pe_fld (pv 0) rfl) (pa_cons pe_non pa_nil))) pa_nil))))) (fun C s2 H2 ex pn => ⟨pts_nil, (pe_op op_cat (pv 1) (pe_lst (pa_cons (pv 0) pa_nil)))⟩)) pa_nil))))))
    (pss_one (ps_ret (pv 1))))), ?_⟩
    obtain ⟨k1, k2, k3⟩ := id hk
    walk_at "gzn"
    refine ⟨by decide, fun r hr0 => ?_⟩
    have s1 := same_upd (o := .lst []) hr0
    have e1 : upd H r (.lst []) r = some (.lst []) := upd_same
    generalize upd H r (.lst []) = H1 at s1 e1 ⊢
    refine ⟨_, _, _, s1 _ _ hx, T.cl_Rose, T.no_Rose_first, _, rfl, _, _, _, s1 _ _ hx, T.cl_Rose, T.no_Rose_last, _, rfl, _, rfl, _, rfl, by omega, by omega, by omega, by omega, ?_⟩
    refine by_range (inv_rose H x r i j l h) ⟨[], _, _, rfl, s1, e1, trivial, Nat.zero_le _⟩ ?_ ?_
    · rintro k σ H2 hk2 ⟨ys, _, _, rfl, s2, hr2, hy, hlen⟩
      walk_at "gzn"
      refine ⟨_, _, _, s2 _ _ hx, T.cl_Rose, T.no_Rose_low, _, rfl, line2, fun a ha => ⟨by decide, fun b hb => ⟨by decide, fun lo hlo => ?_⟩⟩⟩
      have sa := same_upd (o := .tup [.non, .int l]) ha
      have sb := same_upd (o := .tup [.str "at", .int (i + (k : Int)), .ref a]) hb
      have sl := same_upd (o := .lst [.ref b]) hlo
      have S3 := sa.trans (sb.trans sl)
      have eb : IsPa (upd (upd (upd H2 a (.tup [.non, .int l])) b (.tup [.str "at", .int (i + (k : Int)), .ref a])) lo (.lst [.ref b])) (.ref b) (("at", i + (k : Int), none, some l) : Pa) := ⟨b, a, rfl, sl _ _ upd_same, (sb.trans sl) _ _ upd_same⟩
      have elo : (upd (upd (upd H2 a (.tup [.non, .int l])) b (.tup [.str "at", .int (i + (k : Int)), .ref a])) lo (.lst [.ref b])) lo = some (.lst [.ref b]) := upd_same
      generalize upd (upd (upd H2 a (.tup [.non, .int l])) b (.tup [.str "at", .int (i + (k : Int)), .ref a])) lo (.lst [.ref b]) = H3 at S3 eb elo ⊢
      walk_at "gzn"
      have hr3 := S3 _ _ hr2
      have hx3 := S3 _ _ (s2 _ _ hx)
      refine ⟨.inl ⟨rfl, _, SqL.of hr3⟩, _, _, _, hx3, T.cl_Rose, T.no_Rose_last, _, rfl, _, _, _, hx3, T.cl_Rose, T.no_Rose_high, _, rfl, line2, fun c hc => ?_⟩
      have sc := same_upd (o := .tup [.int h, .non]) hc
      refine ⟨_, _, c, (some h, none), rfl, upd_same, by omega, by omega, fun g gs H4 s4 _ hg hG => ?_⟩
      have S4 := sc.trans s4
      have hgl := hG.len
      rw [at_len] at hgl
      walk_at "gzn"
      refine ⟨⟨_, SqL.of hg⟩, blk_of it_list (Nat.le_trans (by omega : gs.length ≤ 12) (by decide)) (compGo_new (R := IsPa) (R' := IsClg H r) (f := fun p => [(("at", i + (k : Int), none, some l) : Pa), p]) (fun _ _ _ _ s' h => h.same s') (fun _ _ _ _ s' h => h.same s') hG (bs := []) trivial (fun H' s' => SqL.of (s' _ _ hg)) (fun x k _ H5 s5 r Q h => ?_) (fun y p _ H5 s5 ry Q h => ?_) fun H5 zs s5 hz => ?_)⟩
      · walk_at "gzn"
        exact h
      · have S5 := S4.trans s5
        walk_at "gzn"
        refine ⟨by decide, fun d hd => ?_⟩
        have sd := same_upd (o := .lst [y]) hd
        refine ⟨_, sd _ _ (S5 _ _ elo), _, upd_same, (show 2 ≤ sizeLine by decide), fun m hm => ?_⟩
        have sm := same_upd (o := .lst ([.ref b] ++ [y])) hm
        have mr : m ≠ r := fun z => by rw [z, sd _ _ (S5 _ _ hr3)] at hm; cases hm
        exact h _ _ (sd.trans sm) ⟨m, [.ref b, y], rfl, mr, (s2.trans (S3.trans (S5.trans sd))).free hm, upd_same, (eb.same (S5.trans (sd.trans sm))), ry.same (sd.trans sm), trivial⟩
      · intro d hd
        rw [List.nil_append] at hz
        have u := (S4.trans s5).trans (same_upd (o := .lst zs) hd)
        have hzl := hz.len
        rw [List.length_map, at_len] at hzl
        refine ⟨d, rfl, _, u _ _ hr3, _, upd_same, Nat.le_trans (by omega : ys.length + zs.length ≤ 300) (by decide), ys ++ zs, _, _, rfl, same_put hr0 (s2.trans (S3.trans u)), upd_same, ?_, by rw [List.length_append]; omega⟩
        rw [roseQ_succ]
        have a1 := (hy.imp fun _ _ z => (z.same (S3.trans u)).put (o := .lst (ys ++ zs)) (u _ _ hr3))
        have a2 := (hz.imp fun _ _ z => (z.same (same_upd (o := .lst zs) hd)).put (o := .lst (ys ++ zs)) (u _ _ hr3))
        exact a1.app a2
    · rintro σ H2 ⟨ys, _, _, rfl, s2, hr2, hy, hlen⟩
      walk_at "gzn"
      exact q r ys H2 s2 hr0 hr2 (hy.imp fun _ _ z => z.clf)
end
section
seal L2.PE L2.PS L2.PSs L2.PA
variable {P : Program} {w : World} {K : PySem.W.Frag} {mg : Str → Option Value} {base : Heap}
def sp_bStayed (C : Addr) : Sp := fun vs H Q _ => ∃ (x dx p : Addr) (i j : Int) (s : S2), vs = [.ref x] ∧ H x = some (.ins C dx [("first", .int i), ("last", .int j), ("stretch", .ref p)]) ∧ okT i j ∧ H p = some (.tup [ev s.1, ev s.2]) ∧ ∀ l ys H', Same H H' → H l = none → H' l = some (.lst ys) → All2 (IsClf H H') ys (failP (atP i j s)) → Q (.ref l) H'
theorem ok_Stayed_breaks (T : Tx K mg) : FnOk P w K mg base (CXX P w) 3 T.a_Stayed_breaks T.fd_Stayed_breaks ["self"] (sp_bStayed T.C_Stayed) := by
  refine okN T.F_Stayed_breaks sc_Stayed_breaks (fun vs H Q E h => ?_) (fun cdv A outer s H vs Q E hr h => ?_)
  · obtain ⟨x, dx, p, i, j, s, rfl, _⟩ := h
    rfl
  · obtain ⟨x, dx, p, i, j, s, rfl, hx, hk, hp, q⟩ := h
    refine ⟨_, (pss_one (ps_ret (pe_call (ok_failures T) (hr.mono (by decide)) rfl T.m_failures T.F_failures.kp T.b_failures .nil passE0 (pa_cons (pe_meth (pv 0) T.cl_Stayed T.me_Stayed_all_at (ok_Spanned_all_at T) (hr.mono (by decide)) T.b_Spanned_all_at .nil passE0 (pa_cons (pe_fld (pv 0) rfl) pa_nil)) pa_nil)))), ?_⟩
    walk_at "gzn"
    refine ⟨_, _, hx, rfl, _, _, _, hx, T.cl_Stayed, T.no_Stayed_stretch, _, rfl, ?_⟩
    have hlen := at_len i j s
    obtain ⟨k1, k2, k3⟩ := id hk
    exact ⟨x, T.C_Stayed, dx, p, _, i, j, s, rfl, hx, T.cl_Stayed, T.no_Stayed_first, T.no_Stayed_last, rfl, rfl, hk, hp, fun l xs H1 s1 _ hl hP => ⟨l, xs, _, rfl, SqL.of hl, hP, by omega, fun c ys H2 s2 fc hc hy => q c ys H2 (s1.trans s2) (s1.free fc) hc (hy.imp fun _ _ r => r.back s1)⟩⟩
def sp_bOver (C : Addr) : Sp := fun vs H Q _ => ∃ (x dx : Addr) (i j z : Int), vs = [.ref x] ∧ H x = some (.ins C dx [("first", .int i), ("last", .int j), ("sill", .int z)]) ∧ okT i j ∧ ∀ l ys H', Same H H' → H l = none → H' l = some (.lst ys) → All2 (IsClf H H') ys [atP i j (none, some (z - 1))] → Q (.ref l) H'
theorem ok_Over_breaks (T : Tx K mg) : FnOk P w K mg base (CXX P w) 3 T.a_Over_breaks T.fd_Over_breaks ["self"] (sp_bOver T.C_Over) := by
  refine okN T.F_Over_breaks sc_Over_breaks (fun vs H Q E h => ?_) (fun cdv A outer s H vs Q E hr h => ?_)
  · obtain ⟨x, dx, i, j, z, rfl, _⟩ := h
    rfl
  · obtain ⟨x, dx, i, j, z, rfl, hx, hk, q⟩ := h
    refine ⟨_, (pss_one (ps_ret (pe_lst (pa_cons (pe_meth (pv 0) T.cl_Over T.me_Over_all_at (ok_Spanned_all_at T) (hr.mono (by decide)) T.b_Spanned_all_at .nil passE0 (pa_cons (pe_tup (pa_cons pe_non (pa_cons (pe_op op_sub (pe_fld (pv 0) rfl) pe_int) pa_nil))) pa_nil)) pa_nil)))), ?_⟩
    walk_at "gzn"
    refine ⟨_, _, hx, rfl, _, _, _, hx, T.cl_Over, T.no_Over_sill, _, rfl, _, rfl, line2, fun t ht => ?_⟩
    have s0 := same_upd (o := .tup [.non, .int (z - 1)]) ht
    exact ⟨x, T.C_Over, dx, t, _, i, j, (none, some (z - 1)), rfl, s0 _ _ hx, T.cl_Over, T.no_Over_first, T.no_Over_last, rfl, rfl, hk, upd_same, fun l xs H1 s1 fl hl hP => ⟨by decide, fun c hc => q c _ _ (s0.trans (s1.trans (same_upd hc))) ((s0.trans s1).free hc) upd_same ⟨⟨l, xs, rfl, s0.free fl, (same_upd hc) _ _ hl, hP.same (same_upd hc)⟩, trivial⟩⟩⟩
def sp_bUnder (C : Addr) : Sp := fun vs H Q _ => ∃ (x dx : Addr) (i j z : Int), vs = [.ref x] ∧ H x = some (.ins C dx [("first", .int i), ("last", .int j), ("sill", .int z)]) ∧ okT i j ∧ ∀ l ys H', Same H H' → H l = none → H' l = some (.lst ys) → All2 (IsClf H H') ys [atP i j (some (z + 1), none)] → Q (.ref l) H'
theorem ok_Under_breaks (T : Tx K mg) : FnOk P w K mg base (CXX P w) 3 T.a_Under_breaks T.fd_Under_breaks ["self"] (sp_bUnder T.C_Under) := by
  refine okN T.F_Under_breaks sc_Under_breaks (fun vs H Q E h => ?_) (fun cdv A outer s H vs Q E hr h => ?_)
  · obtain ⟨x, dx, i, j, z, rfl, _⟩ := h
    rfl
  · obtain ⟨x, dx, i, j, z, rfl, hx, hk, q⟩ := h
    refine ⟨_, (pss_one (ps_ret (pe_lst (pa_cons (pe_meth (pv 0) T.cl_Under T.me_Under_all_at (ok_Spanned_all_at T) (hr.mono (by decide)) T.b_Spanned_all_at .nil passE0 (pa_cons (pe_tup (pa_cons (pe_op op_add (pe_fld (pv 0) rfl) pe_int) (pa_cons pe_non pa_nil))) pa_nil)) pa_nil)))), ?_⟩
    walk_at "gzn"
    refine ⟨_, _, hx, rfl, _, _, _, hx, T.cl_Under, T.no_Under_sill, _, rfl, _, rfl, line2, fun t ht => ?_⟩
    have s0 := same_upd (o := .tup [.int (z + 1), .non]) ht
    exact ⟨x, T.C_Under, dx, t, _, i, j, (some (z + 1), none), rfl, s0 _ _ hx, T.cl_Under, T.no_Under_first, T.no_Under_last, rfl, rfl, hk, upd_same, fun l xs H1 s1 fl hl hP => ⟨by decide, fun c hc => q c _ _ (s0.trans (s1.trans (same_upd hc))) ((s0.trans s1).free hc) upd_same ⟨⟨l, xs, rfl, s0.free fl, (same_upd hc) _ _ hl, hP.same (same_upd hc)⟩, trivial⟩⟩⟩
theorem st_len' (i j : Int) (s : S2) : (stP i j s).length = (j - i).toNat := by
  unfold stP
  rw [List.length_map, List.length_range]
def sp_bPaced (C : Addr) : Sp := fun vs H Q _ => ∃ (x dx p : Addr) (i j : Int) (s : S2), vs = [.ref x] ∧ H x = some (.ins C dx [("first", .int i), ("last", .int j), ("stretch", .ref p)]) ∧ okT i j ∧ H p = some (.tup [ev s.1, ev s.2]) ∧ ∀ l ys H', Same H H' → H l = none → H' l = some (.lst ys) → All2 (IsClf H H') ys (failP (stP i j s)) → Q (.ref l) H'
theorem ok_Paced_breaks (T : Tx K mg) : FnOk P w K mg base (CXX P w) 3 T.a_Paced_breaks T.fd_Paced_breaks ["self"] (sp_bPaced T.C_Paced) := by
  refine okN T.F_Paced_breaks sc_Paced_breaks (fun vs H Q E h => ?_) (fun cdv A outer s H vs Q E hr h => ?_)
  · obtain ⟨x, dx, p, i, j, s, rfl, _⟩ := h
    rfl
  · obtain ⟨x, dx, p, i, j, s, rfl, hx, hk, hp, q⟩ := h
    refine ⟨_, (pss_one (ps_ret (pe_call (ok_failures T) (hr.mono (by decide)) rfl T.m_failures T.F_failures.kp T.b_failures .nil passE0 (pa_cons (pe_meth0 (pv 0) T.cl_Paced T.me_Paced_all_steps (ok_Paced_all_steps T) (hr.mono (by decide)) T.b_Paced_all_steps .nil passE0) pa_nil)))), ?_⟩
    walk_at "gzn"
    refine ⟨_, _, hx, rfl, ?_⟩
    have hlen := st_len' i j s
    obtain ⟨k1, k2, k3⟩ := id hk
    exact ⟨x, dx, p, i, j, s, rfl, hx, hk, hp, fun l xs H1 s1 _ hl hP => ⟨l, xs, _, rfl, SqL.of hl, hP, by omega, fun c ys H2 s2 fc hc hy => q c ys H2 (s1.trans s2) (s1.free fc) hc (hy.imp fun _ _ r => r.back s1)⟩⟩
def sp_bTurned (C : Addr) : Sp := fun vs H Q _ => ∃ (x dx : Addr) (t : Int), vs = [.ref x] ∧ H x = some (.ins C dx [("turn", .int t)]) ∧ ∀ l ys H', Same H H' → H l = none → H' l = some (.lst ys) → All2 (IsClf H H') ys (failP (turnP t)) → Q (.ref l) H'
theorem ok_Turned_breaks (T : Tx K mg) : FnOk P w K mg base (CXX P w) 3 T.a_Turned_breaks T.fd_Turned_breaks ["self"] (sp_bTurned T.C_Turned) := by
  refine okN T.F_Turned_breaks sc_Turned_breaks (fun vs H Q E h => ?_) (fun cdv A outer s H vs Q E hr h => ?_)
  · obtain ⟨x, dx, t, rfl, _⟩ := h
    rfl
  · obtain ⟨x, dx, t, rfl, hx, q⟩ := h
    refine ⟨_, (pss_one (ps_ret (pe_call (ok_failures T) (hr.mono (by decide)) rfl T.m_failures T.F_failures.kp T.b_failures .nil passE0 (pa_cons (pe_meth0 (pv 0) T.cl_Turned T.me_Turned_both_steps (ok_Turned_both_steps T) (hr.mono (by decide)) T.b_Turned_both_steps .nil passE0) pa_nil)))), ?_⟩
    walk_at "gzn"
    refine ⟨_, _, hx, rfl, ?_⟩
    exact ⟨x, dx, t, rfl, hx, fun l xs H1 s1 _ hl hP => ⟨l, xs, _, rfl, SqL.of hl, hP, (show 2 ≤ 100 by decide), fun c ys H2 s2 fc hc hy => q c ys H2 (s1.trans s2) (s1.free fc) hc (hy.imp fun _ _ r => r.back s1)⟩⟩
end
section
seal L2.PE L2.PS L2.PSs L2.PA
variable {P : Program} {w : World} {K : PySem.W.Frag} {mg : Str → Option Value} {base : Heap}
def roseB (i j l h : Int) : List (List Pa) := (List.range (j + 1 - i).toNat).map fun k => atP i (i + (k : Nat) - 1) (some (l + 1), none) ++ atP (i + (k : Nat) + 1) j (none, some (h - 1))
def sp_bRose (C : Addr) : Sp := fun vs H Q _ => ∃ (x dx : Addr) (i j l h : Int), vs = [.ref x] ∧ H x = some (.ins C dx [("first", .int i), ("last", .int j), ("low", .int l), ("high", .int h)]) ∧ okT i j ∧ ∀ r ys H', Same H H' → H r = none → H' r = some (.lst ys) → All2 (IsClf H H') ys (roseB i j l h) → Q (.ref r) H'
theorem ok_Rose_breaks (T : Tx K mg) : FnOk P w K mg base (CXX P w) 2 T.a_Rose_breaks T.fd_Rose_breaks ["self"] (sp_bRose T.C_Rose) := by
  refine okN T.F_Rose_breaks sc_Rose_breaks (fun vs H Q E h => ?_) (fun cdv A outer s H vs Q E hr h => ?_)
  · obtain ⟨x, dx, i, j, l, h, rfl, _⟩ := h
    rfl
  · obtain ⟨x, dx, i, j, l, h, rfl, hx, hk, q⟩ := h
    refine ⟨_, (pss_one (ps_ret (pe_comp (CompOk.mk (fr := [0]) (ys := ["self"]) rfl (by decide +kernel) rfl (by decide +kernel) rfl rfl (.cons rfl .nil) (.cons rfl rfl rfl rfl .nil) (by decide) rfl) rfl (pi_range2 rfl T.n_range (pa_cons (pe_fld (pv 0) rfl) (pa_cons (pe_op op_add (pe_fld (pv 0) rfl) pe_int) pa_nil))) (fun C s2 H2 ex pn => ⟨pts_nil, (pe_op op_cat (pe_call (ok_parts_at T) (hr.mono (by decide)) rfl T.m_parts_at T.F_parts_at.kp T.b_parts_at .nil passE0 (pa_cons (pe_fldK (K := K) (pv 1) rfl) (pa_cons (pe_op op_sub (pv 0) pe_int) (pa_cons (pe_tup (pa_cons (pe_op op_add (pe_fldK (K := K) (pv 1) rfl) pe_int) (pa_cons pe_non pa_nil))) pa_nil)))) (pe_call (ok_parts_at T) (hr.mono (by decide)) rfl T.m_parts_at T.F_parts_at.kp T.b_parts_at .nil passE0 (pa_cons (pe_op op_add (pv 0) pe_int) (pa_cons (pe_fldK (K := K) (pv 1) rfl) (pa_cons (pe_tup (pa_cons pe_non (pa_cons (pe_op op_sub (pe_fldK (K := K) (pv 1) rfl) pe_int) pa_nil))) pa_nil)))))⟩)))), ?_⟩
    obtain ⟨k1, k2, k3⟩ := id hk
    walk_at "gzn"
    refine ⟨_, _, _, hx, T.cl_Rose, T.no_Rose_first, _, rfl, _, _, _, hx, T.cl_Rose, T.no_Rose_last, _, rfl, _, rfl, _, rfl, by omega, by omega, by omega, by omega, ?_⟩
    refine blk_of it_rng (by rw [List.length_map, List.length_range]; exact Nat.le_trans (by omega : _ ≤ 20) (by decide)) (compGo_new (R := fun _ x (k : Nat) => x = V.int (i + k)) (R' := IsClf H) (f := fun (k : Nat) => atP i (i + (k : Int) - 1) (some (l + 1), none) ++ atP (i + (k : Int) + 1) j (none, some (h - 1))) (fun _ _ _ _ _ h => h) (fun _ _ _ _ s' h => h.same s') (All2.rng _) (bs := []) trivial (fun _ _ => trivial) (fun x k _ H2 s2 r Q h => ?_) (fun y k hkm H2 s2 r Q hq => ?_) fun H2 zs s2 hz => ?_)
    · walk_at "gzn"
      exact h
    · subst r
      have hkm := List.mem_range.mp hkm
      walk_at "gzn"
      have hx2 := s2 _ _ hx
      refine ⟨_, _, _, hx2, T.cl_Rose, T.no_Rose_first, _, rfl, _, _, _, hx2, T.cl_Rose, T.no_Rose_low, _, rfl, _, rfl, line2, fun a ha => ?_⟩
      have sa := same_upd (o := .tup [.int (l + 1), .non]) ha
      refine ⟨_, _, a, (some (l + 1), none), rfl, upd_same, by omega, by omega, fun g gs H3 s3 _ hg hG => ?_⟩
      have hx3 := (sa.trans s3) _ _ hx2
      walk_at "gzn"
      refine ⟨_, _, _, hx3, T.cl_Rose, T.no_Rose_last, _, rfl, _, _, _, hx3, T.cl_Rose, T.no_Rose_high, _, rfl, _, rfl, line2, fun b hb => ?_⟩
      have sb := same_upd (o := .tup [.non, .int (h - 1)]) hb
      refine ⟨_, _, b, (none, some (h - 1)), rfl, upd_same, by omega, by omega, fun d ds H4 s4 _ hd hD => ?_⟩
      have S4 := sb.trans s4
      have l1 := hG.len
      have l2 := hD.len
      rw [at_len] at l1 l2
      walk_at "gzn"
      refine ⟨gs, S4 _ _ hg, ds, hd, Nat.le_trans (by omega : gs.length + ds.length ≤ 40) (by decide), fun c hc => ?_⟩
      have sc := same_upd (o := .lst (gs ++ ds)) hc
      exact hq _ _ ((sa.trans s3).trans (S4.trans sc)) ⟨c, gs ++ ds, rfl, (s2.trans ((sa.trans s3).trans S4)).free hc, upd_same, All2.app (Pas.same hG (S4.trans sc)) (Pas.same hD sc)⟩
    · intro c hc
      refine q c zs _ (s2.trans (same_upd hc)) (s2.free hc) upd_same ?_
      rw [List.nil_append] at hz
      exact hz.imp fun _ _ r => r.same (same_upd hc)
end
section
seal L2.PE L2.PS L2.PSs L2.PA
variable {P : Program} {w : World} {K : PySem.W.Frag} {mg : Str → Option Value} {base : Heap}
inductive Tr where
  | over (i j s : Int) | under (i j s : Int) | rose (i j l h : Int) | turn (t : Int) | stay (i j : Int) (l h : En) | pace (i j : Int) (l h : En)
def trV : Tr → List V
  | .over i j s => [.str "over", .int i, .int j, .int s]
  | .under i j s => [.str "under", .int i, .int j, .int s]
  | .rose i j l h => [.str "rose", .int i, .int j, .int l, .int h]
  | .turn t => [.str "turn", .int t]
  | .stay i j l h => [.str "stay", .int i, .int j, ev l, ev h]
  | .pace i j l h => [.str "pace", .int i, .int j, ev l, ev h]
def goodT : Tr → Prop
  | .over i j _ => okT i j
  | .under i j _ => okT i j
  | .rose i j l h => okT i j ∧ l < h
  | .turn t => 0 < t ∧ t < 11
  | .stay i j _ _ => okT i j
  | .pace i j _ _ => okT i j
def farT : Tr → Int
  | .over _ j _ => j
  | .under _ j _ => j
  | .rose _ j _ _ => j
  | .turn t => t + 1
  | .stay _ j _ _ => j
  | .pace _ j _ _ => j
def waysT : Tr → List (List Pa)
  | .over i j s => failP (atP i j (none, some (s - 1)))
  | .under i j s => failP (atP i j (some (s + 1), none))
  | .rose i j l h => roseP i j l h
  | .turn t => [turnP t]
  | .stay i j l h => [atP i j (l, h)]
  | .pace i j l h => [stP i j (l, h)]
def EvIs (T : Tx K mg) (H : Hp) (x : Addr) : Tr → Prop
  | .over i j s => ∃ dx, H x = some (.ins T.C_Over dx [("first", .int i), ("last", .int j), ("sill", .int s)])
  | .under i j s => ∃ dx, H x = some (.ins T.C_Under dx [("first", .int i), ("last", .int j), ("sill", .int s)])
  | .rose i j l h => ∃ dx, H x = some (.ins T.C_Rose dx [("first", .int i), ("last", .int j), ("low", .int l), ("high", .int h)])
  | .turn t => ∃ dx, H x = some (.ins T.C_Turned dx [("turn", .int t)])
  | .stay i j l h => ∃ dx p, H x = some (.ins T.C_Stayed dx [("first", .int i), ("last", .int j), ("stretch", .ref p)]) ∧ H p = some (.tup [ev l, ev h])
  | .pace i j l h => ∃ dx p, H x = some (.ins T.C_Paced dx [("first", .int i), ("last", .int j), ("stretch", .ref p)]) ∧ H p = some (.tup [ev l, ev h])
theorem EvIs.same {T : Tx K mg} {H H' : Hp} {x : Addr} {tr : Tr} (h : EvIs T H x tr) (s : Same H H') : EvIs T H' x tr := by
  cases tr
  case stay => obtain ⟨dx, p, a, b⟩ := h; exact ⟨dx, p, s _ _ a, s _ _ b⟩
  case pace => obtain ⟨dx, p, a, b⟩ := h; exact ⟨dx, p, s _ _ a, s _ _ b⟩
  all_goals (obtain ⟨dx, a⟩ := h; exact ⟨dx, s _ _ a⟩)
def breaksT : Tr → List (List Pa)
  | .over i j s => [atP i j (none, some (s - 1))]
  | .under i j s => [atP i j (some (s + 1), none)]
  | .rose i j l h => roseB i j l h
  | .turn t => failP (turnP t)
  | .stay i j l h => failP (atP i j (l, h))
  | .pace i j l h => failP (stP i j (l, h))
def sp_sizes (T : Tx K mg) : Sp := fun vs H Q _ => ∃ (x : Addr) (tr : Tr), vs = [.ref x] ∧ EvIs T H x tr ∧ goodT tr ∧ ∀ p H', Same H H' → H' p = some (.tup [.int (waysT tr).length, .int (breaksT tr).length]) → Q (.ref p) H'
theorem ev_ways (T : Tx K mg) {H : Hp} {x : Addr} {tr : Tr} (he : EvIs T H x tr) (hg : goodT tr) (Q : VK) (cont : ∀ l ys H', Same H H' → H l = none → H' l = some (.lst ys) → All2 (IsClf H H') ys (waysT tr) → Q (.ref l) H') : (∃ C dx fs, H x = some (.ins C dx fs) ∧ Cls K C ∧ Meth K C "ways" T.a_Stayed_ways ∧ List.lookup ("ways" : Str) fs = none ∧ sp_wStayed T.C_Stayed [.ref x] H Q E0) ∨ (∃ C dx fs, H x = some (.ins C dx fs) ∧ Cls K C ∧ Meth K C "ways" T.a_Over_ways ∧ List.lookup ("ways" : Str) fs = none ∧ sp_wOver T.C_Over [.ref x] H Q E0) ∨ (∃ C dx fs, H x = some (.ins C dx fs) ∧ Cls K C ∧ Meth K C "ways" T.a_Under_ways ∧ List.lookup ("ways" : Str) fs = none ∧ sp_wUnder T.C_Under [.ref x] H Q E0) ∨ (∃ C dx fs, H x = some (.ins C dx fs) ∧ Cls K C ∧ Meth K C "ways" T.a_Rose_ways ∧ List.lookup ("ways" : Str) fs = none ∧ sp_wRose T.C_Rose [.ref x] H Q E0) ∨ (∃ C dx fs, H x = some (.ins C dx fs) ∧ Cls K C ∧ Meth K C "ways" T.a_Paced_ways ∧ List.lookup ("ways" : Str) fs = none ∧ sp_wPaced T.C_Paced [.ref x] H Q E0) ∨ (∃ C dx fs, H x = some (.ins C dx fs) ∧ Cls K C ∧ Meth K C "ways" T.a_Turned_ways ∧ List.lookup ("ways" : Str) fs = none ∧ sp_wTurned T.C_Turned [.ref x] H Q E0) := by
  cases tr with
  | stay i j l h =>
    obtain ⟨dx, p, hx, hp⟩ := he
    exact .inl ⟨_, _, _, hx, T.cl_Stayed, T.me_Stayed_ways, rfl, x, dx, p, i, j, (l, h), rfl, hx, hg, hp, cont⟩
  | over i j s =>
    obtain ⟨dx, hx⟩ := he
    exact .inr (.inl ⟨_, _, _, hx, T.cl_Over, T.me_Over_ways, rfl, x, dx, i, j, s, rfl, hx, hg, cont⟩)
  | under i j s =>
    obtain ⟨dx, hx⟩ := he
    exact .inr (.inr (.inl ⟨_, _, _, hx, T.cl_Under, T.me_Under_ways, rfl, x, dx, i, j, s, rfl, hx, hg, cont⟩))
  | rose i j l h =>
    obtain ⟨dx, hx⟩ := he
    exact .inr (.inr (.inr (.inl ⟨_, _, _, hx, T.cl_Rose, T.me_Rose_ways, rfl, x, dx, i, j, l, h, rfl, hx, hg.1, cont⟩)))
  | pace i j l h =>
    obtain ⟨dx, p, hx, hp⟩ := he
    exact .inr (.inr (.inr (.inr (.inl ⟨_, _, _, hx, T.cl_Paced, T.me_Paced_ways, rfl, x, dx, p, i, j, (l, h), rfl, hx, hg, hp, cont⟩))))
  | turn t =>
    obtain ⟨dx, hx⟩ := he
    exact .inr (.inr (.inr (.inr (.inr ⟨_, _, _, hx, T.cl_Turned, T.me_Turned_ways, rfl, x, dx, t, rfl, hx, cont⟩))))
theorem ev_breaks (T : Tx K mg) {H : Hp} {x : Addr} {tr : Tr} (he : EvIs T H x tr) (hg : goodT tr) (Q : VK) (cont : ∀ l ys H', Same H H' → H l = none → H' l = some (.lst ys) → All2 (IsClf H H') ys (breaksT tr) → Q (.ref l) H') : (∃ C dx fs, H x = some (.ins C dx fs) ∧ Cls K C ∧ Meth K C "breaks" T.a_Stayed_breaks ∧ List.lookup ("breaks" : Str) fs = none ∧ sp_bStayed T.C_Stayed [.ref x] H Q E0) ∨ (∃ C dx fs, H x = some (.ins C dx fs) ∧ Cls K C ∧ Meth K C "breaks" T.a_Over_breaks ∧ List.lookup ("breaks" : Str) fs = none ∧ sp_bOver T.C_Over [.ref x] H Q E0) ∨ (∃ C dx fs, H x = some (.ins C dx fs) ∧ Cls K C ∧ Meth K C "breaks" T.a_Under_breaks ∧ List.lookup ("breaks" : Str) fs = none ∧ sp_bUnder T.C_Under [.ref x] H Q E0) ∨ (∃ C dx fs, H x = some (.ins C dx fs) ∧ Cls K C ∧ Meth K C "breaks" T.a_Rose_breaks ∧ List.lookup ("breaks" : Str) fs = none ∧ sp_bRose T.C_Rose [.ref x] H Q E0) ∨ (∃ C dx fs, H x = some (.ins C dx fs) ∧ Cls K C ∧ Meth K C "breaks" T.a_Paced_breaks ∧ List.lookup ("breaks" : Str) fs = none ∧ sp_bPaced T.C_Paced [.ref x] H Q E0) ∨ (∃ C dx fs, H x = some (.ins C dx fs) ∧ Cls K C ∧ Meth K C "breaks" T.a_Turned_breaks ∧ List.lookup ("breaks" : Str) fs = none ∧ sp_bTurned T.C_Turned [.ref x] H Q E0) := by
  cases tr with
  | stay i j l h =>
    obtain ⟨dx, p, hx, hp⟩ := he
    exact .inl ⟨_, _, _, hx, T.cl_Stayed, T.me_Stayed_breaks, rfl, x, dx, p, i, j, (l, h), rfl, hx, hg, hp, cont⟩
  | over i j s =>
    obtain ⟨dx, hx⟩ := he
    exact .inr (.inl ⟨_, _, _, hx, T.cl_Over, T.me_Over_breaks, rfl, x, dx, i, j, s, rfl, hx, hg, cont⟩)
  | under i j s =>
    obtain ⟨dx, hx⟩ := he
    exact .inr (.inr (.inl ⟨_, _, _, hx, T.cl_Under, T.me_Under_breaks, rfl, x, dx, i, j, s, rfl, hx, hg, cont⟩))
  | rose i j l h =>
    obtain ⟨dx, hx⟩ := he
    exact .inr (.inr (.inr (.inl ⟨_, _, _, hx, T.cl_Rose, T.me_Rose_breaks, rfl, x, dx, i, j, l, h, rfl, hx, hg.1, cont⟩)))
  | pace i j l h =>
    obtain ⟨dx, p, hx, hp⟩ := he
    exact .inr (.inr (.inr (.inr (.inl ⟨_, _, _, hx, T.cl_Paced, T.me_Paced_breaks, rfl, x, dx, p, i, j, (l, h), rfl, hx, hg, hp, cont⟩))))
  | turn t =>
    obtain ⟨dx, hx⟩ := he
    exact .inr (.inr (.inr (.inr (.inr ⟨_, _, _, hx, T.cl_Turned, T.me_Turned_breaks, rfl, x, dx, t, rfl, hx, cont⟩))))
theorem ok_Event_sizes (T : Tx K mg) : FnOk P w K mg base (CXX P w) 4 T.a_Event_sizes T.fd_Event_sizes ["self"] (sp_sizes T) := by
  refine okN T.F_Event_sizes sc_Event_sizes (fun vs H Q E h => ?_) (fun cdv A outer s H vs Q E hr h => ?_)
  · obtain ⟨x, tr, rfl, _⟩ := h
    rfl
  · obtain ⟨x, tr, rfl, he, hg, q⟩ := h
    refine ⟨_, (pss_one (ps_ret (pe_tup (pa_cons (pe_callB call_len (by rfl) T.n_len b_len (pa_cons (pe_ev (pe_methV0 (pv 0) (ok_Stayed_ways T) (hr.mono (by decide)) T.b_Stayed_ways .nil passE0) (pe_ev (pe_methV0 (pv 0) (ok_Over_ways T) (hr.mono (by decide)) T.b_Over_ways .nil passE0) (pe_ev (pe_methV0 (pv 0) (ok_Under_ways T) (hr.mono (by decide)) T.b_Under_ways .nil passE0) (pe_ev (pe_methV0 (pv 0) (ok_Rose_ways T) (hr.mono (by decide)) T.b_Rose_ways .nil passE0) (pe_ev (pe_methV0 (pv 0) (ok_Paced_ways T) (hr.mono (by decide)) T.b_Paced_ways .nil passE0) (pe_methV0 (pv 0) (ok_Turned_ways T) (hr.mono (by decide)) T.b_Turned_ways .nil passE0)))))) pa_nil)) (pa_cons (pe_callB call_len (by rfl) T.n_len b_len (pa_cons (pe_ev (pe_methV0 (pv 0) (ok_Stayed_breaks T) (hr.mono (by decide)) T.b_Stayed_breaks .nil passE0) (pe_ev (pe_methV0 (pv 0) (ok_Over_breaks T) (hr.mono (by decide)) T.b_Over_breaks .nil passE0) (pe_ev (pe_methV0 (pv 0) (ok_Under_breaks T) (hr.mono (by decide)) T.b_Under_breaks .nil passE0) (pe_ev (pe_methV0 (pv 0) (ok_Rose_breaks T) (hr.mono (by decide)) T.b_Rose_breaks .nil passE0) (pe_ev (pe_methV0 (pv 0) (ok_Paced_breaks T) (hr.mono (by decide)) T.b_Paced_breaks .nil passE0) (pe_methV0 (pv 0) (ok_Turned_breaks T) (hr.mono (by decide)) T.b_Turned_breaks .nil passE0)))))) pa_nil)) pa_nil))))), ?_⟩
    walk_at "gzn"
    refine ev_ways T he hg _ fun l ys H1 s1 _ hl hy => ?_
    walk_at "gzn"
    refine ⟨_, lenL (SqL.of hl), ?_⟩
    walk_at "gzn"
    refine ev_breaks T (he.same s1) hg _ fun m zs H2 s2 _ hm hz => ?_
    walk_at "gzn"
    refine ⟨_, lenL (SqL.of hm), line2, fun p hp => q p _ (s1.trans (s2.trans (same_upd hp))) ?_⟩
    rw [upd_same, hy.len, hz.len]
end
section
seal L2.PE L2.PS L2.PSs L2.PA
variable {P : Program} {w : World} {K : PySem.W.Frag} {mg : Str → Option Value} {base : Heap}
def sp_draw (K : PySem.W.Frag) : Sp := fun vs H Q _ => ∃ (a : Addr) (ns : List Int) (k pr m : Int), vs = [.ref a, .int k, .int pr, .int m] ∧ SqL K H a (ns.map V.int) ∧ Scr ns ∧ (-1000000 ≤ k ∧ k ≤ 1000000) ∧ 0 < pr ∧ 0 < m ∧ ∀ p : Int, 0 ≤ p → p < m → Q (.int p) H
theorem draw_muls {ns : List Int} (h : Scr ns) {k : Int} (hk : -1000000 ≤ k ∧ k ≤ 1000000) : MulG k k ∧ MulG (scell ns k + k * k) 48271 := by
  have c := scell_bits h k
  have k1 : Bt 64 k := Bt.small (by omega) (by omega)
  have k2 : Bt 128 (k * k) := k1.mul k1
  have n2 : Bt 64 48271 := Bt.small (by decide) (by decide)
  exact ⟨⟨k1.up (by decide), k1.up (by decide)⟩, (c.add (k2.up (by decide))).up (by decide), n2.up (by decide)⟩
theorem ok_law_draw (T : Tx K mg) : FnOk P w K mg base (CXX P w) 1 T.a_law_draw T.fd_law_draw ["_law_script", "_law_k", "_law_prime", "_law_many"] (sp_draw K) := by
  refine okN T.F_law_draw sc_law_draw (fun vs H Q E h => ?_) (fun cdv A outer s H vs Q E hr h => ?_)
  · obtain ⟨a, ns, k, pr, m, rfl, _⟩ := h
    rfl
  · obtain ⟨a, ns, k, pr, m, rfl, hS, hn, hk, hpr, hm, q⟩ := h
    refine ⟨_, (pss_cons (ps_if (pt_cmpR op_eq (pe_callB call_len (by rfl) T.n_len b_len (pa_cons (pv 0) pa_nil)) pe_int (nomark _)) (pss_one (ps_ret pe_int)) pss_nil)
    (pss_one (ps_ret (pe_op op_mod (pe_op op_mod (pe_op op_mulG (pe_op op_add (pe_ix ix_seq (pv 0) (pe_op op_mod (pv 1) (pe_callB call_len (by rfl) T.n_len b_len (pa_cons (pv 0) pa_nil))) (fun _ _ => rfl)) (pe_op op_mulG (pv 1) (pv 1))) pe_int) (pv 2)) (pv 3))))), ?_⟩
    walk_at "gz"
    refine ⟨_, lenL hS, ?_⟩
    rw [List.length_map]
    have pm := draw_muls hn hk
    refine ite_by (fun h => ?_) fun h => ?_
    · exact q 0 (by decide) hm
    · have h : 0 < (ns.length : Int) := by
        have : ns.length ≠ 0 := fun z => h (by rw [z]; rfl)
        omega
      refine ⟨_, lenL hS, ?_⟩
      rw [List.length_map]
      refine ⟨h, ixL hS (scell_at h) ?_⟩
      walk_at "gz"
      exact ⟨pm.1, pm.2, hpr, hm, q _ (Int.emod_nonneg _ (by omega)) (Int.emod_lt_of_pos _ hm)⟩
def sp_base (K : PySem.W.Frag) : Sp := fun vs H Q _ => ∃ (a : Addr) (ns : List Int), vs = [.ref a] ∧ SqL K H a (ns.map V.int) ∧ Scr ns ∧ ∀ (p : Int) (H' : Hp), Same H H' → Q (.int p) H'
theorem ok_law_base (T : Tx K mg) : FnOk P w K mg base (CXX P w) 2 T.a_law_base T.fd_law_base ["_law_script"] (sp_base K) := by
  refine okN T.F_law_base sc_law_base (fun vs H Q E h => ?_) (fun cdv A outer s H vs Q E hr h => ?_)
  · obtain ⟨a, ns, rfl, _⟩ := h
    rfl
  · obtain ⟨a, ns, rfl, hS, hn, q⟩ := h
    refine ⟨_, (pss_cons (ps_if (pt_cmpR op_eq (pe_callB call_len (by rfl) T.n_len b_len (pa_cons (pv 0) pa_nil)) pe_int (nomark _)) (pss_one (ps_ret pe_int)) pss_nil)
    (pss_cons (ps_set (i := 1) sc_law_base.nd rfl (Or.inl rfl) (pe_op op_mod (pe_ix ix_seq (pv 0) pe_int (fun _ _ => rfl)) (pe_op op_pow pe_int pe_int)))
    (pss_one (ps_ret (pe_ix ix_seq (pe_tup (pa_cons pe_int (pa_cons (pv 1) (pa_cons (pe_op op_sub pe_int (pv 1)) (pa_cons (pe_op op_sub (pe_op op_pow pe_int pe_int) (pv 1)) pa_nil))))) (pe_call (ok_law_draw T) (hr.mono (by decide)) rfl T.m_law_draw T.F_law_draw.kp T.b_law_draw .nil passE0 (pa_cons (pv 0) (pa_cons pe_int (pa_cons pe_int (pa_cons pe_int pa_nil))))) (fun _ _ => rfl)))))), ?_⟩
    walk_at "gzn"
    refine ⟨_, lenL hS, ?_⟩
    rw [List.length_map]
    refine ite_by (fun h => q _ _ (Same.refl _)) fun h => ?_
    have h : 0 < (ns.length : Int) := by
      have : ns.length ≠ 0 := fun z => h (by rw [z]; rfl)
      omega
    have h0 : atI (ns.map V.int) 0 = some (.int (ns.getD 0 0)) := atI_nat (j := 0) (by rw [List.getElem?_map, List.getD_eq_getElem?_getD, List.getElem?_eq_getElem (by omega)]; rfl)
    refine ixL hS h0 ?_
    walk_at "gzn"
    refine ⟨⟨by decide, by decide, by decide⟩, by decide, ⟨by decide, by decide, by decide⟩, by decide, fun t ht => ?_⟩
    refine ⟨a, ns, _, _, _, rfl, (same_upd ht).seq hS, hn, by decide, by decide, by decide, fun p p1 p2 => ?_⟩
    rcases (by omega : p = 0 ∨ p = 1 ∨ p = 2 ∨ p = 3) with rfl | rfl | rfl | rfl
    all_goals exact ixT (SqT.of upd_same) rfl (q _ _ (same_upd ht))
def sp_within (K : PySem.W.Frag) : Sp := fun vs H Q _ => ∃ (p : Addr) (lo hi : En) (n : Int), vs = [.ref p, .int n] ∧ SqT K H p [ev lo, ev hi] ∧ Q (.bl (hold lo hi n)) H
theorem ok_law_within (T : Tx K mg) : FnOk P w K mg base (CXX P w) 1 T.a_law_within T.fd_law_within ["_law_span_here", "_law_number"] (sp_within K) := by
  refine okN T.F_law_within sc_law_within (fun vs H Q E h => ?_) (fun cdv A outer s H vs Q E hr h => ?_)
  · obtain ⟨p, lo, hi, n, rfl, _⟩ := h
    rfl
  · obtain ⟨p, lo, hi, n, rfl, hp, q⟩ := h
    refine ⟨_, (pss_one (ps_ret (pe_and (pe_or (pe_cmp (pc_isN (pe_ix ix_seq (pv 0) pe_int (fun _ _ => rfl)))) (pe_one (pe_cmpR op_le (pe_ix ix_seq (pv 0) pe_int (fun _ _ => rfl)) (pv 1) (nomark _)))) (pe_one (pe_or (pe_cmp (pc_isN (pe_ix ix_seq (pv 0) pe_int (fun _ _ => rfl)))) (pe_one (pe_cmpR op_le (pv 1) (pe_ix ix_seq (pv 0) pe_int (fun _ _ => rfl)) (nomark _)))))))), ?_⟩
    rcases lo with _ | lo <;> rcases hi with _ | hi
    all_goals simp only [ev_none, ev_some] at hp
    all_goals
      walk_at "gzn"
      repeat' first
      | refine ixT hp rfl ?_
      | (walk_at "gzp")
      | (refine ite_by (fun hc => ?_) fun hc => ?_)
    all_goals first
      | exact q
      | (rw [hold_hi] at q; exact q)
      | (rw [hold_lo _ (show ¬ n < lo by omega)] at q; exact q)
      | (rw [hold_lo _ (show ¬ n < lo by omega), hold_hi] at q; exact q)
      | (rw [hold_out _ (show n < lo by omega)] at q; exact q)
theorem turn_met {cs : List Int} {t : Int} (h : 0 < t) : (waysT (.turn t)).any (metB cs) = true ↔ cs.getD (t - 1).toNat 0 < cs.getD t.toNat 0 ∧ cs.getD (t + 1).toNat 0 < cs.getD t.toNat 0 := by
  rw [show (waysT (.turn t)).any (metB cs) = metB cs (turnP t) from Bool.or_false _]
  unfold metB turnP
  simp only [List.all_cons, List.all_nil, Bool.and_true, Bool.and_eq_true, hold_iff]
  unfold nmAt
  rw [if_pos rfl, if_pos rfl, show t - 1 + 1 = t by omega]
  constructor
  · rintro ⟨⟨h1, _⟩, _, h2⟩
    have a := h1 _ rfl
    have b := h2 _ rfl
    omega
  · rintro ⟨h1, h2⟩
    refine ⟨⟨fun x hx => ?_, fun x hx => (nomatch hx)⟩, fun x hx => (nomatch hx), fun x hx => ?_⟩
    · cases hx; omega
    · cases hx; omega
def sp_truth (K : PySem.W.Frag) : Sp := fun vs H Q _ => ∃ (p a : Addr) (tr : Tr) (cs : List Int), vs = [.ref p, .ref a] ∧ H p = some (.tup (trV tr)) ∧ goodT tr ∧ SqL K H a (cs.map V.int) ∧ cs.length ≤ 100 ∧ farT tr < (cs.length : Int) ∧ ∀ H', Same H H' → Q (.bl ((waysT tr).any (metB cs))) H'
theorem ok_law_truth (T : Tx K mg) : FnOk P w K mg base (CXX P w) 2 T.a_law_truth T.fd_law_truth ["_law_tree", "_law_course"] (sp_truth K) := by
  refine okN T.F_law_truth sc_law_truth (fun vs H Q E h => ?_) (fun cdv A outer s H vs Q E hr h => ?_)
  · obtain ⟨p, a, tr, cs, rfl, _⟩ := h
    rfl
  · obtain ⟨p, a, tr, cs, rfl, hp, hg, hS, hn, hf, q⟩ := h
    refine ⟨_, (pss_cons (ps_set (i := 2) sc_law_truth.nd rfl (Or.inl rfl) (pe_ix ix_seq (pv 0) pe_int (fun _ _ => rfl)))
    (pss_cons (ps_if (pt_cmpR op_eq (pv 2) pe_str (nomark _)) (pss_one (ps_ret (pe_and (pe_cmpR op_lt (pe_ix ix_seq (pv 1) (pe_op op_sub (pe_ix ix_seq (pv 0) pe_int (fun _ _ => rfl)) pe_int) (fun _ _ => rfl)) (pe_ix ix_seq (pv 1) (pe_ix ix_seq (pv 0) pe_int (fun _ _ => rfl)) (fun _ _ => rfl)) (nomark _)) (pe_one (pe_cmpR op_lt (pe_ix ix_seq (pv 1) (pe_op op_add (pe_ix ix_seq (pv 0) pe_int (fun _ _ => rfl)) pe_int) (fun _ _ => rfl)) (pe_ix ix_seq (pv 1) (pe_ix ix_seq (pv 0) pe_int (fun _ _ => rfl)) (fun _ _ => rfl)) (nomark _)))))) pss_nil)
    (pss_cons (ps_if (pt_cmpR op_eq (pv 2) pe_str (nomark _)) (pss_cons (ps_setComp (i := 3) (CompOk.mk (fr := [1]) (ys := ["_law_course"]) rfl (by decide +kernel) rfl (by decide +kernel) rfl rfl (.cons rfl .nil) (.cons rfl rfl rfl rfl .nil) (by decide) rfl) rfl sc_law_truth.nd rfl rfl (pi_range2 rfl T.n_range (pa_cons (pe_ix ix_seq (pv 0) pe_int (fun _ _ => rfl)) (pa_cons (pe_ix ix_seq (pv 0) pe_int (fun _ _ => rfl)) pa_nil))) (fun C s2 H2 ex pn => ⟨pts_nil, (pe_op op_sub (pe_ix (ix_seqK (K := K) rfl) (pv 1) (pe_op op_add (pv 0) pe_int) (fun _ _ => rfl)) (pe_ix (ix_seqK (K := K) rfl) (pv 1) (pv 0) (fun _ _ => rfl)))⟩))
        (pss_one (ps_ret (pe_callB (call_allL rfl) (by rfl) T.n_all b_all (pa_cons (pe_comp (CompOk.mk (fr := [0]) (ys := ["_law_tree"]) rfl (by decide +kernel) rfl (by decide +kernel) rfl rfl (.cons rfl .nil) (.cons rfl rfl rfl rfl .nil) (by decide) rfl) rfl (pi_list (pv 3)) (fun C s2 H2 ex pn => ⟨pts_nil, (pe_call (ok_law_within T) (hr.mono (by decide)) rfl T.m_law_within T.F_law_within.kp T.b_law_within .nil passE0 (pa_cons (pe_tup (pa_cons (pe_ix (ix_seqK (K := K) rfl) (pv 1) pe_int (fun _ _ => rfl)) (pa_cons (pe_ix (ix_seqK (K := K) rfl) (pv 1) pe_int (fun _ _ => rfl)) pa_nil))) (pa_cons (pv 0) pa_nil)))⟩)) pa_nil))))) pss_nil)
    (pss_cons (ps_set (i := 4) sc_law_truth.nd rfl (Or.inr rfl) (pe_slice sl_list (pv 1) (po_some (pe_ix ix_seq (pv 0) pe_int (fun _ _ => rfl))) (po_some (pe_op op_add (pe_ix ix_seq (pv 0) pe_int (fun _ _ => rfl)) pe_int))))
    (pss_cons (ps_if (pt_cmpR op_eq (pv 2) pe_str (nomark _)) (pss_one (ps_ret (pe_callB (call_allL rfl) (by rfl) T.n_all b_all (pa_cons (pe_comp (CompOk.mk (fr := [0]) (ys := ["_law_tree"]) rfl (by decide +kernel) rfl (by decide +kernel) rfl rfl (.cons rfl .nil) (.cons rfl rfl rfl rfl .nil) (by decide) rfl) rfl (pi_list (pv 4)) (fun C s2 H2 ex pn => ⟨pts_nil, (pe_call (ok_law_within T) (hr.mono (by decide)) rfl T.m_law_within T.F_law_within.kp T.b_law_within .nil passE0 (pa_cons (pe_tup (pa_cons (pe_ix (ix_seqK (K := K) rfl) (pv 1) pe_int (fun _ _ => rfl)) (pa_cons (pe_ix (ix_seqK (K := K) rfl) (pv 1) pe_int (fun _ _ => rfl)) pa_nil))) (pa_cons (pv 0) pa_nil)))⟩)) pa_nil)))) pss_nil)
    (pss_cons (ps_if (pt_cmpR op_eq (pv 2) pe_str (nomark _)) (pss_one (ps_ret (pe_cmpR op_ge (pe_callB (call_maxL rfl) (by rfl) T.n_max b_max (pa_cons (pv 4) pa_nil)) (pe_ix ix_seq (pv 0) pe_int (fun _ _ => rfl)) (nomark _)))) pss_nil)
    (pss_cons (ps_if (pt_cmpR op_eq (pv 2) pe_str (nomark _)) (pss_one (ps_ret (pe_cmpR op_le (pe_callB (call_minL rfl) (by rfl) T.n_min b_min (pa_cons (pv 4) pa_nil)) (pe_ix ix_seq (pv 0) pe_int (fun _ _ => rfl)) (nomark _)))) pss_nil)
    (pss_one (ps_ret (pe_callB (call_anyL rfl) (by rfl) T.n_any b_any (pa_cons (pe_comp (CompOk.mk (fr := [0, 4]) (ys := ["_law_tree", "_law_seen"]) rfl (by decide +kernel) rfl (by decide +kernel) rfl rfl (.cons rfl (.cons rfl .nil)) (.cons rfl rfl rfl rfl (.cons rfl rfl rfl rfl .nil)) (by decide) rfl) rfl (pi_range1 rfl T.n_range (pa_cons (pe_op op_sub (pe_callB call_len (by rfl) T.n_len b_len (pa_cons (pv 4) pa_nil)) pe_int) pa_nil)) (fun C s2 H2 ex pn => ⟨pts_nil, (pe_and (pe_cmpR op_le (pe_callB (call_minLK (K := K) rfl rfl) (by rfl) T.n_min b_min (pa_cons (pe_slice (sl_listK (K := K) rfl) (pv 2) po_none (po_some (pe_op op_add (pv 0) pe_int))) pa_nil)) (pe_ix (ix_seqK (K := K) rfl) (pv 1) pe_int (fun _ _ => rfl)) (nomark _)) (pe_one (pe_cmpR op_ge (pe_callB (call_maxLK (K := K) rfl rfl) (by rfl) T.n_max b_max (pa_cons (pe_slice (sl_listK (K := K) rfl) (pv 2) (po_some (pe_op op_add (pv 0) pe_int)) po_none) pa_nil)) (pe_ix (ix_seqK (K := K) rfl) (pv 1) pe_int (fun _ _ => rfl)) (nomark _))))⟩)) pa_nil))))))))))), ?_⟩
    cases tr with
    | turn t =>
      obtain ⟨g1, g2⟩ := (hg : 0 < t ∧ t < 11)
      simp only [farT] at hf
      walk_at "gzn"
      refine ixT (SqT.of hp) rfl ?_
      walk_at "gzn"
      refine ixT (SqT.of hp) rfl ?_
      walk_at "gzn"
      refine ixL hS (int_at (by omega) (by omega)) (ixT (SqT.of hp) rfl (ixL hS (int_at (by omega) (by omega)) ?_))
      walk_at "gzn"
      have tm := turn_met (cs := cs) g1
      refine ite_by (fun hc => ?_) fun hc => ?_
      · refine ixT (SqT.of hp) rfl ?_
        walk_at "gzn"
        refine ixL hS (int_at (by omega) (by omega)) (ixT (SqT.of hp) rfl (ixL hS (int_at (by omega) (by omega)) ?_))
        walk_at "gzn"
        have := q _ (Same.refl _)
        rw [show decide (cs.getD (t + 1).toNat 0 < cs.getD t.toNat 0) = (waysT (.turn t)).any (metB cs) from by
          rw [Bool.eq_iff_iff, decide_eq_true_eq, tm]
          exact ⟨fun z => ⟨hc, z⟩, fun z => z.2⟩]
        exact this
      · have := q _ (Same.refl _)
        rw [show (waysT (.turn t)).any (metB cs) = false from Bool.eq_false_iff.mpr fun z => hc (tm.mp z).1] at this
        exact this
    | stay i j l h =>
      obtain ⟨g1, g2, g3⟩ := (hg : okT i j)
      simp only [farT] at hf
      walk_at "gzn"
      refine ixT (SqT.of hp) rfl ?_
      walk_at "gzn"
      refine ixT (SqT.of hp) rfl ?_
      walk_at "gzn"
      refine ixT (SqT.of hp) rfl ?_
      walk_at "gzn"
      refine ⟨_, hS, ?_⟩
      rw [seen_eq g1 g2 hf]
      intro d hd
      have sd := same_upd (o := .lst (((List.range (j + 1 - i).toNat).map (cAt cs i)).map V.int)) hd
      have ed : upd H d (.lst (((List.range (j + 1 - i).toNat).map (cAt cs i)).map V.int)) d = some (.lst (((List.range (j + 1 - i).toNat).map (cAt cs i)).map V.int)) := upd_same
      generalize upd H d (.lst (((List.range (j + 1 - i).toNat).map (cAt cs i)).map V.int)) = H1 at sd ed ⊢
      refine ⟨⟨_, SqL.of ed⟩, blk_of it_list (by rw [List.length_map, List.length_map, List.length_range]; exact Nat.le_trans (by omega : _ ≤ 12) (by decide)) (compGo_grow (R := fun _ x (n : Int) => x = V.int n) (p := fun _ => true) (f := fun n => .bl (hold l h n)) (fun _ _ _ _ _ h => h) (All2.ints _) (fun H' s' => SqL.of (s' _ _ ed)) (fun x n _ H2 s2 r Q h => ?_) (fun x n _ _ H2 s2 r Q h => ?_) fun H2 s2 => ?_)⟩
      · walk_at "gzn"
        exact h _ (Same.refl _)
      · subst r
        walk_at "gzn"
        refine ixT (SqT.of ((sd.trans s2) _ _ hp)) rfl (ixT (SqT.of ((sd.trans s2) _ _ hp)) rfl ⟨line2, fun t ht => ?_⟩)
        exact ⟨t, l, _, n, rfl, SqT.of upd_same, h _ (same_upd ht)⟩
      · rw [List.nil_append, filter_tt]
        intro m hm
        refine ⟨m, rfl, ((List.range (j + 1 - i).toNat).map (cAt cs i)).map (hold l h), SqL.of ?_, ?_⟩
        · rw [upd_same]; simp only [List.map_map, Function.comp_def]
        · rw [List.all_map, List.all_map]
          have e : (waysT (.stay i j l h)).any (metB cs) = (List.range (j + 1 - i).toNat).all ((id ∘ hold l h) ∘ cAt cs i) := by
            rw [show (waysT (.stay i j l h)).any (metB cs) = metB cs (atP i j (l, h)) from Bool.or_false _, met_at]
            rfl
          rw [← e]
          exact q _ (sd.trans (s2.trans (same_upd hm)))
    | pace i j l h =>
      obtain ⟨g1, g2, g3⟩ := (hg : okT i j)
      simp only [farT] at hf
      walk_at "gzn"
      refine ixT (SqT.of hp) rfl ?_
      walk_at "gzn"
      refine ixT (SqT.of hp) rfl (ixT (SqT.of hp) rfl ?_)
      walk_at "gzn"
      refine ⟨by omega, by omega, by omega, by omega, blk_of it_rng (by rw [List.length_map, List.length_range]; exact Nat.le_trans (by omega : _ ≤ 12) (by decide)) (compGo_all (R := fun x (k : Nat) => x = V.int (i + k)) (p := fun _ => true) (f := fun k => .int (cs.getD (i + (k : Int) + 1).toNat 0 - cAt cs i k)) trivial (All2.rng _) (fun x k _ r Q h => ?_) (fun x k hk _ r Q h => ?_) ?_)⟩
      · walk_at "gzn"
        exact h
      · subst r
        have hk := List.mem_range.mp hk
        walk_at "gzn"
        refine ixL hS (int_at (by omega) (by omega)) (ixL hS (int_at (by omega) (by omega)) ?_)
        walk_at "gzn"
        exact h
      rw [List.nil_append, filter_tt]
      intro d hd
      rw [show ((List.range (j - i).toNat).map fun (k : Nat) => V.int (cs.getD (i + (k : Int) + 1).toNat 0 - cAt cs i k)) = ((List.range (j - i).toNat).map fun (k : Nat) => cs.getD (i + (k : Int) + 1).toNat 0 - cAt cs i k).map V.int by rw [List.map_map]; rfl]
      generalize eg : ((List.range (j - i).toNat).map fun (k : Nat) => cs.getD (i + (k : Int) + 1).toNat 0 - cAt cs i k) = gs
      have sd := same_upd (o := .lst (gs.map V.int)) hd
      have ed : upd H d (.lst (gs.map V.int)) d = some (.lst (gs.map V.int)) := upd_same
      have hgl : gs.length ≤ 12 := by rw [← eg, List.length_map, List.length_range]; omega
      generalize upd H d (.lst (gs.map V.int)) = H1 at sd ed ⊢
      refine ⟨d, rfl, ⟨_, SqL.of ed⟩, blk_of it_list (by rw [List.length_map]; exact Nat.le_trans hgl (by decide)) (compGo_grow (R := fun _ x (n : Int) => x = V.int n) (p := fun _ => true) (f := fun n => .bl (hold l h n)) (fun _ _ _ _ _ h => h) (All2.ints _) (fun H' s' => SqL.of (s' _ _ ed)) (fun x n _ H2 s2 r Q h => ?_) (fun x n _ _ H2 s2 r Q h => ?_) fun H2 s2 => ?_)⟩
      · walk_at "gzn"
        exact h _ (Same.refl _)
      · subst r
        walk_at "gzn"
        refine ixT (SqT.of ((sd.trans s2) _ _ hp)) rfl (ixT (SqT.of ((sd.trans s2) _ _ hp)) rfl ⟨line2, fun t ht => ?_⟩)
        exact ⟨t, l, _, n, rfl, SqT.of upd_same, h _ (same_upd ht)⟩
      · rw [List.nil_append, filter_tt]
        intro m hm
        refine ⟨m, rfl, gs.map (hold l h), SqL.of ?_, ?_⟩
        · rw [upd_same]; simp only [List.map_map, Function.comp_def]
        · have e : (waysT (.pace i j l h)).any (metB cs) = (gs.map (hold l h)).all id := by
            rw [show (waysT (.pace i j l h)).any (metB cs) = metB cs (stP i j (l, h)) from Bool.or_false _, met_st, List.all_map, ← eg, List.all_map]
            rfl
          rw [← e]
          exact q _ (sd.trans (s2.trans (same_upd hm)))
    | over i j s =>
      obtain ⟨g1, g2, g3⟩ := (hg : okT i j)
      simp only [farT] at hf
      walk_at "gzn"
      refine ixT (SqT.of hp) rfl ?_
      walk_at "gzn"
      refine ixT (SqT.of hp) rfl ?_
      walk_at "gzn"
      refine ixT (SqT.of hp) rfl ?_
      walk_at "gzn"
      refine ⟨_, hS, ?_⟩
      rw [seen_eq g1 g2 hf]
      intro d hd
      have sd := same_upd (o := .lst (((List.range (j + 1 - i).toNat).map (cAt cs i)).map V.int)) hd
      refine ⟨_, SqL.of upd_same, by simp; omega, ixT (SqT.of (sd _ _ hp)) rfl ?_⟩
      walk_at "gzn"
      have := q _ sd
      rw [show decide (s ≤ maxL ((List.range (j + 1 - i).toNat).map (cAt cs i))) = (waysT (.over i j s)).any (metB cs) from by
        rw [Bool.eq_iff_iff, decide_eq_true_eq, max_range (by omega)]
        exact over_iff.symm]
      exact this
    | under i j s =>
      obtain ⟨g1, g2, g3⟩ := (hg : okT i j)
      simp only [farT] at hf
      walk_at "gzn"
      refine ixT (SqT.of hp) rfl ?_
      walk_at "gzn"
      refine ixT (SqT.of hp) rfl ?_
      walk_at "gzn"
      refine ixT (SqT.of hp) rfl ?_
      walk_at "gzn"
      refine ⟨_, hS, ?_⟩
      rw [seen_eq g1 g2 hf]
      intro d hd
      have sd := same_upd (o := .lst (((List.range (j + 1 - i).toNat).map (cAt cs i)).map V.int)) hd
      refine ⟨_, SqL.of upd_same, by simp; omega, ixT (SqT.of (sd _ _ hp)) rfl ?_⟩
      walk_at "gzn"
      have := q _ sd
      rw [show decide (minL ((List.range (j + 1 - i).toNat).map (cAt cs i)) ≤ s) = (waysT (.under i j s)).any (metB cs) from by
        rw [Bool.eq_iff_iff, decide_eq_true_eq, min_range (by omega)]
        exact under_iff.symm]
      exact this
    | rose i j l h =>
      obtain ⟨g1, g2, g3⟩ := (hg.1 : okT i j)
      simp only [farT] at hf
      walk_at "gzn"
      refine ixT (SqT.of hp) rfl ?_
      walk_at "gzn"
      refine ixT (SqT.of hp) rfl ?_
      walk_at "gzn"
      refine ixT (SqT.of hp) rfl ?_
      walk_at "gzn"
      refine ⟨_, hS, ?_⟩
      rw [seen_eq g1 g2 hf]
      intro d hd
      obtain ⟨n, hn1, hn2⟩ : ∃ n, (j + 1 - i).toNat = n ∧ n ≤ 12 := ⟨_, rfl, by omega⟩
      have hri := rose_iff (cs := cs) (i := i) (j := j) (l := l) (h := h)
      rw [hn1] at hri ⊢
      have n1 : 1 ≤ n := by omega
      have sd := same_upd (o := .lst (((List.range n).map (cAt cs i)).map V.int)) hd
      have ed : upd H d (.lst (((List.range n).map (cAt cs i)).map V.int)) d = some (.lst (((List.range n).map (cAt cs i)).map V.int)) := upd_same
      generalize upd H d (.lst (((List.range n).map (cAt cs i)).map V.int)) = H1 at sd ed ⊢
      refine ⟨_, lenL (SqL.of ed), ?_⟩
      rw [List.length_map, List.length_map, List.length_range]
      refine ⟨by omega, by omega, ?_⟩
      rw [show ((n : Int) - 1).toNat = n - 1 by omega]
      refine blk_of it_rng (by rw [List.length_map, List.length_range]; exact Nat.le_trans (by omega : _ ≤ 12) (by decide)) (compGo_grow (R := fun _ x (k : Nat) => x = V.int ((0 : Int) + k)) (p := fun _ => true) (f := fun k => .bl (decide (minL (((List.range n).map (cAt cs i)).take (k + 1)) ≤ l) && decide (h ≤ maxL (((List.range n).map (cAt cs i)).drop (k + 1))))) (fun _ _ _ _ _ h => h) (All2.rng _) (fun _ _ => trivial) (fun x k _ H2 s2 r Q h => ?_) (fun x k hk _ H2 s2 r Q h => ?_) fun H2 s2 => ?_)
      · walk_at "gzn"
        exact h _ (Same.refl _)
      · subst r
        have hk := List.mem_range.mp hk
        have len : ((List.range n).map (cAt cs i)).length = n := by rw [List.length_map, List.length_range]
        have ne1 : ((List.range n).map (cAt cs i)).take (k + 1) ≠ [] := fun z => by
          have := congrArg List.length z
          rw [List.length_take, len] at this
          simp at this
          omega
        have ne2 : ((List.range n).map (cAt cs i)).drop (k + 1) ≠ [] := fun z => by
          have := congrArg List.length z
          rw [List.length_drop, len] at this
          simp at this
          omega
        walk_at "gzn"
        rw [show (0 : Int) + (k : Int) + 1 = ((k + 1 : Nat) : Int) by omega]
        refine ⟨_, SqL.of (s2 _ _ ed), ?_⟩
        rw [cutV_to, ← List.map_take]
        intro p1 hp1
        have u1 := same_upd (o := .lst ((((List.range n).map (cAt cs i)).take (k + 1)).map V.int)) hp1
        refine ⟨_, SqL.of upd_same, ne1, ixT (SqT.of ((sd.trans (s2.trans u1)) _ _ hp)) rfl ?_⟩
        walk_at "gzn"
        refine ite_by (fun hc => ?_) fun hc => ?_
        · refine ⟨_, SqL.of ((s2.trans u1) _ _ ed), ?_⟩
          rw [cutV_from, ← List.map_drop]
          intro p2 hp2
          have u2 := same_upd (o := .lst ((((List.range n).map (cAt cs i)).drop (k + 1)).map V.int)) hp2
          refine ⟨_, SqL.of upd_same, ne2, ixT (SqT.of ((sd.trans (s2.trans (u1.trans u2))) _ _ hp)) rfl ?_⟩
          walk_at "gzn"
          have := h _ (u1.trans u2)
          rw [decide_eq_true hc, Bool.true_and] at this
          exact this
        · have := h _ u1
          rw [decide_eq_false hc, Bool.false_and] at this
          exact this
      · rw [List.nil_append, filter_tt]
        intro m hm
        refine ⟨m, rfl, (List.range (n - 1)).map fun k => decide (minL (((List.range n).map (cAt cs i)).take (k + 1)) ≤ l) && decide (h ≤ maxL (((List.range n).map (cAt cs i)).drop (k + 1))), SqL.of ?_, ?_⟩
        · rw [upd_same]; simp only [List.map_map, Function.comp_def]
        · rw [List.any_map]
          have e : (waysT (.rose i j l h)).any (metB cs) = ((List.range (n - 1)).any fun k => decide (minL (((List.range n).map (cAt cs i)).take (k + 1)) ≤ l) && decide (h ≤ maxL (((List.range n).map (cAt cs i)).drop (k + 1)))) := by
            rw [Bool.eq_iff_iff, rise_any]
            exact hri
          exact (congrArg (fun b => Q (V.bl b) _) e).mp (q _ (sd.trans (s2.trans (same_upd hm))))
end
section
seal L2.PE L2.PS L2.PSs L2.PA
variable {P : Program} {w : World} {K : PySem.W.Frag} {mg : Str → Option Value} {base : Heap}
def sp_event (T : Tx K mg) : Sp := fun vs H Q E => ∃ (p : Addr) (tr : Tr), vs = [.ref p] ∧ H p = some (.tup (trV tr)) ∧ goodT tr ∧ (∀ x H', Same H H' → EvIs T H' x tr → Q (.ref x) H')
theorem ok_law_event (T : Tx K mg) : FnOk P w K mg base (CXX P w) 4 T.a_law_event T.fd_law_event ["_law_tree"] (sp_event T) := by
  refine okN T.F_law_event sc_law_event (fun vs H Q E h => ?_) (fun cdv A outer s H vs Q E hr h => ?_)
  · obtain ⟨p, tr, rfl, _⟩ := h
    rfl
  · obtain ⟨p, tr, rfl, hp, hg, q⟩ := h
    refine ⟨_, (pss_cons (ps_set (i := 1) sc_law_event.nd rfl (Or.inl rfl) (pe_ix ix_seq (pv 0) pe_int (fun _ _ => rfl)))
    (pss_cons (ps_if (pt_cmpR op_eq (pv 1) pe_str (nomark _)) (pss_one (ps_ret (pe_make T.mk_Turned (ok_Turned_init__ T) (hr.mono (by decide)) rfl T.c_Turned T.b_Turned_init__ .nil passE0 (pa_cons (pe_ix ix_seq (pv 0) pe_int (fun _ _ => rfl)) pa_nil)))) pss_nil)
    (pss_cons (ps_if (pt_cmpR op_eq (pv 1) pe_str (nomark _)) (pss_one (ps_ret (pe_make T.mk_Paced (ok_Paced_init__ T) (hr.mono (by decide)) rfl T.c_Paced T.b_Paced_init__ .nil passE0 (pa_cons (pe_ix ix_seq (pv 0) pe_int (fun _ _ => rfl)) (pa_cons (pe_ix ix_seq (pv 0) pe_int (fun _ _ => rfl)) (pa_cons (pe_tup (pa_cons (pe_ix ix_seq (pv 0) pe_int (fun _ _ => rfl)) (pa_cons (pe_ix ix_seq (pv 0) pe_int (fun _ _ => rfl)) pa_nil))) pa_nil)))))) pss_nil)
    (pss_cons (ps_if (pt_cmpR op_eq (pv 1) pe_str (nomark _)) (pss_one (ps_ret (pe_make T.mk_Stayed (ok_Stayed_init__ T) (hr.mono (by decide)) rfl T.c_Stayed T.b_Stayed_init__ .nil passE0 (pa_cons (pe_ix ix_seq (pv 0) pe_int (fun _ _ => rfl)) (pa_cons (pe_ix ix_seq (pv 0) pe_int (fun _ _ => rfl)) (pa_cons (pe_tup (pa_cons (pe_ix ix_seq (pv 0) pe_int (fun _ _ => rfl)) (pa_cons (pe_ix ix_seq (pv 0) pe_int (fun _ _ => rfl)) pa_nil))) pa_nil)))))) pss_nil)
    (pss_cons (ps_if (pt_cmpR op_eq (pv 1) pe_str (nomark _)) (pss_one (ps_ret (pe_make T.mk_Over (ok_Over_init__ T) (hr.mono (by decide)) rfl T.c_Over T.b_Over_init__ .nil passE0 (pa_cons (pe_ix ix_seq (pv 0) pe_int (fun _ _ => rfl)) (pa_cons (pe_ix ix_seq (pv 0) pe_int (fun _ _ => rfl)) (pa_cons (pe_ix ix_seq (pv 0) pe_int (fun _ _ => rfl)) pa_nil)))))) pss_nil)
    (pss_cons (ps_if (pt_cmpR op_eq (pv 1) pe_str (nomark _)) (pss_one (ps_ret (pe_make T.mk_Under (ok_Under_init__ T) (hr.mono (by decide)) rfl T.c_Under T.b_Under_init__ .nil passE0 (pa_cons (pe_ix ix_seq (pv 0) pe_int (fun _ _ => rfl)) (pa_cons (pe_ix ix_seq (pv 0) pe_int (fun _ _ => rfl)) (pa_cons (pe_ix ix_seq (pv 0) pe_int (fun _ _ => rfl)) pa_nil)))))) pss_nil)
    (pss_one (ps_ret (pe_make T.mk_Rose (ok_Rose_init__ T) (hr.mono (by decide)) rfl T.c_Rose T.b_Rose_init__ .nil passE0 (pa_cons (pe_ix ix_seq (pv 0) pe_int (fun _ _ => rfl)) (pa_cons (pe_ix ix_seq (pv 0) pe_int (fun _ _ => rfl)) (pa_cons (pe_ix ix_seq (pv 0) pe_int (fun _ _ => rfl)) (pa_cons (pe_ix ix_seq (pv 0) pe_int (fun _ _ => rfl)) pa_nil))))))))))))), ?_⟩
    cases tr with
    | turn t =>
      walk_at "gzn"
      refine ixT (SqT.of hp) rfl ?_
      walk_at "gzn"
      refine ixT (SqT.of hp) rfl ?_
      intro x dx hx hdx hnd
      have mk := made_new (C := T.C_Turned) (fs := []) hx hdx hnd
      refine ⟨x, dx, t, rfl, upd_same, fun z => absurd hg z, fun hk => ⟨rfl, ?_⟩⟩
      refine q x _ (fun b o e => ?_) ⟨dx, upd_same⟩
      have e2 := (Same.refl H : Same H _) _ _ e
      rw [upd_ne (fun z => by rw [z, hx] at e2; cases e2)]
      exact mk _ _ e2
    | pace i j l h =>
      walk_at "gzn"
      refine ixT (SqT.of hp) rfl ?_
      walk_at "gzn"
      refine ixT (SqT.of hp) rfl ?_
      refine ixT (SqT.of hp) rfl ?_
      refine ixT (SqT.of hp) rfl ?_
      refine ixT (SqT.of hp) rfl ?_
      walk_at "gzn"
      refine ⟨line2, fun y hy => ?_⟩
      have sy := same_upd (o := .tup [ev l, ev h]) hy
      have ey : upd H y (.tup [ev l, ev h]) y = some (.tup [ev l, ev h]) := upd_same
      intro x dx hx hdx hnd
      have mk := made_new (C := T.C_Paced) (fs := []) hx hdx hnd
      refine ⟨x, dx, i, j, _, rfl, upd_same, fun z => absurd hg z, fun hk => ⟨rfl, ?_⟩⟩
      refine q x _ (fun b o e => ?_) ⟨dx, y, upd_same, by rw [upd_ne (fun z => by rw [← z, ey] at hx; cases hx)]; exact mk _ _ ey⟩
      have e2 := (sy : Same H _) _ _ e
      rw [upd_ne (fun z => by rw [z, hx] at e2; cases e2)]
      exact mk _ _ e2
    | stay i j l h =>
      walk_at "gzn"
      refine ixT (SqT.of hp) rfl ?_
      walk_at "gzn"
      refine ixT (SqT.of hp) rfl ?_
      refine ixT (SqT.of hp) rfl ?_
      refine ixT (SqT.of hp) rfl ?_
      refine ixT (SqT.of hp) rfl ?_
      walk_at "gzn"
      refine ⟨line2, fun y hy => ?_⟩
      have sy := same_upd (o := .tup [ev l, ev h]) hy
      have ey : upd H y (.tup [ev l, ev h]) y = some (.tup [ev l, ev h]) := upd_same
      intro x dx hx hdx hnd
      have mk := made_new (C := T.C_Stayed) (fs := []) hx hdx hnd
      refine ⟨x, dx, i, j, _, rfl, upd_same, fun z => absurd hg z, fun hk => ⟨rfl, ?_⟩⟩
      refine q x _ (fun b o e => ?_) ⟨dx, y, upd_same, by rw [upd_ne (fun z => by rw [← z, ey] at hx; cases hx)]; exact mk _ _ ey⟩
      have e2 := (sy : Same H _) _ _ e
      rw [upd_ne (fun z => by rw [z, hx] at e2; cases e2)]
      exact mk _ _ e2
    | over i j s =>
      walk_at "gzn"
      refine ixT (SqT.of hp) rfl ?_
      walk_at "gzn"
      refine ixT (SqT.of hp) rfl ?_
      refine ixT (SqT.of hp) rfl ?_
      refine ixT (SqT.of hp) rfl ?_
      intro x dx hx hdx hnd
      have mk := made_new (C := T.C_Over) (fs := []) hx hdx hnd
      refine ⟨x, dx, i, j, _, rfl, upd_same, fun z => absurd hg z, fun hk => ⟨rfl, ?_⟩⟩
      refine q x _ (fun b o e => ?_) ⟨dx, upd_same⟩
      have e2 := (Same.refl H : Same H _) _ _ e
      rw [upd_ne (fun z => by rw [z, hx] at e2; cases e2)]
      exact mk _ _ e2
    | under i j s =>
      walk_at "gzn"
      refine ixT (SqT.of hp) rfl ?_
      walk_at "gzn"
      refine ixT (SqT.of hp) rfl ?_
      refine ixT (SqT.of hp) rfl ?_
      refine ixT (SqT.of hp) rfl ?_
      intro x dx hx hdx hnd
      have mk := made_new (C := T.C_Under) (fs := []) hx hdx hnd
      refine ⟨x, dx, i, j, _, rfl, upd_same, fun z => absurd hg z, fun hk => ⟨rfl, ?_⟩⟩
      refine q x _ (fun b o e => ?_) ⟨dx, upd_same⟩
      have e2 := (Same.refl H : Same H _) _ _ e
      rw [upd_ne (fun z => by rw [z, hx] at e2; cases e2)]
      exact mk _ _ e2
    | rose i j l h =>
      walk_at "gzn"
      refine ixT (SqT.of hp) rfl ?_
      walk_at "gzn"
      refine ixT (SqT.of hp) rfl ?_
      refine ixT (SqT.of hp) rfl ?_
      refine ixT (SqT.of hp) rfl ?_
      refine ixT (SqT.of hp) rfl ?_
      intro x dx hx hdx hnd
      have mk := made_new (C := T.C_Rose) (fs := []) hx hdx hnd
      refine ⟨x, dx, i, j, l, h, rfl, upd_same, fun z => absurd hg z, fun hk => ⟨rfl, ?_⟩⟩
      refine q x _ (fun b o e => ?_) ⟨dx, upd_same⟩
      have e2 := (Same.refl H : Same H _) _ _ e
      rw [upd_ne (fun z => by rw [z, hx] at e2; cases e2)]
      exact mk _ _ e2
def sp_farthest (K : PySem.W.Frag) : Sp := fun vs H Q _ => ∃ (p : Addr) (tr : Tr), vs = [.ref p] ∧ H p = some (.tup (trV tr)) ∧ Q (.int (farT tr)) H
theorem ok_law_farthest (T : Tx K mg) : FnOk P w K mg base (CXX P w) 1 T.a_law_farthest T.fd_law_farthest ["_law_tree"] (sp_farthest K) := by
  refine okN T.F_law_farthest sc_law_farthest (fun vs H Q E h => ?_) (fun cdv A outer s H vs Q E hr h => ?_)
  · obtain ⟨p, tr, rfl, _⟩ := h
    rfl
  · obtain ⟨p, tr, rfl, hp, q⟩ := h
    refine ⟨_, (pss_cons (ps_if (pt_cmpR op_eq (pe_ix ix_seq (pv 0) pe_int (fun _ _ => rfl)) pe_str (nomark _)) (pss_one (ps_ret (pe_op op_add (pe_ix ix_seq (pv 0) pe_int (fun _ _ => rfl)) pe_int))) pss_nil)
    (pss_one (ps_ret (pe_ix ix_seq (pv 0) pe_int (fun _ _ => rfl))))), ?_⟩
    cases tr
    all_goals
      walk_at "gzn"
      refine ixT (SqT.of hp) rfl ?_
      walk_at "gzn"
      refine ixT (SqT.of hp) rfl ?_
      walk_at "gzn"
      exact q
end
section
seal L2.PE L2.PS L2.PSs L2.PA
variable {P : Program} {w : World} {K : PySem.W.Frag} {mg : Str → Option Value} {base : Heap}
def spanT : Tr → Prop
  | .stay _ _ l h => crossed l h = false
  | .pace _ _ l h => crossed l h = false
  | _ => True
theorem cr_l (y : En) : crossed none y = false := by cases y <;> rfl
theorem cr_r (x : En) : crossed x none = false := by cases x <;> rfl
theorem cr_up {x m : Int} (h : 0 ≤ m) : crossed (some x) (some (x + m)) = false := decide_eq_false (by omega)
def lfI (H0 : Hp) (a : Addr) (k so b : Int) (σ : St) (H : Hp) : Prop := ∃ f l lo mo : Int, σ = [some (.ref a), some (.int k), some (.int so), some (.int 12), some (.int b), some (.int f), some (.int l), some (.int lo), some (.int mo), none, none, none] ∧ H = H0 ∧ 0 ≤ f ∧ (f ≤ l ∧ l ≤ 11) ∧ 0 ≤ mo
def lfJ (H0 : Hp) (a : Addr) (k so b f l : Int) (σ : St) (H : Hp) : Prop := ∃ (lo mo op : Int) (x y : En), σ = [some (.ref a), some (.int k), some (.int so), some (.int 12), some (.int b), some (.int f), some (.int l), some (.int lo), some (.int mo), some (.int op), some (ev x), some (ev y)] ∧ H = H0 ∧ crossed x y = false
def sp_leaf (K : PySem.W.Frag) : Sp := fun vs H Q _ => ∃ (a : Addr) (ns : List Int) (k so b : Int), vs = [.ref a, .int k, .int so, .int 12, .int b] ∧ SqL K H a (ns.map V.int) ∧ Scr ns ∧ (0 ≤ k ∧ k ≤ 900000) ∧ ∀ (p : Addr) (tr : Tr) (H' : Hp), Same H H' → H' p = some (.tup (trV tr)) → goodT tr → spanT tr → Q (.ref p) H'
theorem ok_law_leaf (T : Tx K mg) : FnOk P w K mg base (CXX P w) 2 T.a_law_leaf T.fd_law_leaf ["_law_script", "_law_k", "_law_sort", "_law_turns", "_law_base_here"] (sp_leaf K) := by
  refine okN T.F_law_leaf sc_law_leaf (fun vs H Q E h => ?_) (fun cdv A outer s H vs Q E hr h => ?_)
  · obtain ⟨a, ns, k, so, b, rfl, _⟩ := h
    rfl
  · obtain ⟨a, ns, k, so, b, rfl, hS, hn, hk, q⟩ := h
    refine ⟨_, (pss_cons (ps_set (i := 5) sc_law_leaf.nd rfl (Or.inl rfl) (pe_call (ok_law_draw T) (hr.mono (by decide)) rfl T.m_law_draw T.F_law_draw.kp T.b_law_draw .nil passE0 (pa_cons (pv 0) (pa_cons (pv 1) (pa_cons pe_int (pa_cons (pv 3) pa_nil))))))
    (pss_cons (ps_set (i := 6) sc_law_leaf.nd rfl (Or.inl rfl) (pe_op op_add (pv 5) (pe_call (ok_law_draw T) (hr.mono (by decide)) rfl T.m_law_draw T.F_law_draw.kp T.b_law_draw .nil passE0 (pa_cons (pv 0) (pa_cons (pe_op op_add (pv 1) pe_int) (pa_cons pe_int (pa_cons (pe_op op_sub (pv 3) (pv 5)) pa_nil)))))))
    (pss_cons (ps_set (i := 7) sc_law_leaf.nd rfl (Or.inl rfl) (pe_op op_sub (pe_call (ok_law_draw T) (hr.mono (by decide)) rfl T.m_law_draw T.F_law_draw.kp T.b_law_draw .nil passE0 (pa_cons (pv 0) (pa_cons (pe_op op_add (pv 1) pe_int) (pa_cons pe_int (pa_cons pe_int pa_nil))))) pe_int))
    (pss_cons (ps_set (i := 8) sc_law_leaf.nd rfl (Or.inl rfl) (pe_call (ok_law_draw T) (hr.mono (by decide)) rfl T.m_law_draw T.F_law_draw.kp T.b_law_draw .nil passE0 (pa_cons (pv 0) (pa_cons (pe_op op_add (pv 1) pe_int) (pa_cons pe_int (pa_cons pe_int pa_nil))))))
    (pss_cons (ps_if (pt_cmpR op_eq (pv 2) pe_int (nomark _)) (pss_one (ps_ret (pe_tup (pa_cons pe_str (pa_cons (pv 5) (pa_cons (pv 6) (pa_cons (pe_op op_add (pv 4) (pv 7)) pa_nil))))))) pss_nil)
    (pss_cons (ps_if (pt_cmpR op_eq (pv 2) pe_int (nomark _)) (pss_one (ps_ret (pe_tup (pa_cons pe_str (pa_cons (pv 5) (pa_cons (pv 6) (pa_cons (pe_op op_add (pv 4) (pv 7)) pa_nil))))))) pss_nil)
    (pss_cons (ps_if (pt_cmpR op_eq (pv 2) pe_int (nomark _)) (pss_one (ps_ret (pe_tup (pa_cons pe_str (pa_cons (pv 5) (pa_cons (pv 6) (pa_cons (pe_op op_add (pv 4) (pv 7)) (pa_cons (pe_op op_add (pe_op op_add (pe_op op_add (pv 4) (pv 7)) pe_int) (pe_op op_fdivB (pv 8) pe_int)) pa_nil)))))))) pss_nil)
    (pss_cons (ps_if (PW.pt (pw_and (pt_cmpR op_eq (pv 2) pe_int (nomark _)) (pw_and1 (pt_cmpR op_gt (pv 3) pe_int (nomark _))))) (pss_one (ps_ret (pe_tup (pa_cons pe_str (pa_cons (pe_op op_add pe_int (pe_op op_mod (pv 5) (pe_op op_sub (pv 3) pe_int))) pa_nil))))) pss_nil)
    (pss_cons (ps_set (i := 9) sc_law_leaf.nd rfl (Or.inl rfl) (pe_call (ok_law_draw T) (hr.mono (by decide)) rfl T.m_law_draw T.F_law_draw.kp T.b_law_draw .nil passE0 (pa_cons (pv 0) (pa_cons (pe_op op_add (pv 1) pe_int) (pa_cons pe_int (pa_cons pe_int pa_nil))))))
    (pss_cons (ps_set (i := 10) sc_law_leaf.nd rfl (Or.inl rfl) (pe_op op_sub (pv 7) pe_int))
    (pss_cons (ps_if (pt_cmpR op_eq (pv 2) pe_int (nomark _)) (pss_one (ps_set (i := 10) sc_law_leaf.nd rfl (Or.inl rfl) (pe_op op_add (pv 4) (pv 7)))) pss_nil)
    (pss_cons (ps_set (i := 11) sc_law_leaf.nd rfl (Or.inl rfl) (pe_op op_add (pv 10) (pv 8)))
    (pss_cons (ps_if (PW.pt (pw_or (pt_cmpR op_eq (pv 9) pe_int (nomark _)) (pw_or1 (pt_cmpR op_eq (pv 9) pe_int (nomark _))))) (pss_one (ps_set (i := 10) sc_law_leaf.nd rfl (Or.inl rfl) pe_non)) pss_nil)
    (pss_cons (ps_if (PW.pt (pw_or (pt_cmpR op_eq (pv 9) pe_int (nomark _)) (pw_or1 (pt_cmpR op_eq (pv 9) pe_int (nomark _))))) (pss_one (ps_set (i := 11) sc_law_leaf.nd rfl (Or.inl rfl) pe_non)) pss_nil)
    (pss_cons (ps_if (pt_cmpR op_eq (pv 2) pe_int (nomark _)) (pss_one (ps_ret (pe_tup (pa_cons pe_str (pa_cons (pv 5) (pa_cons (pv 6) (pa_cons (pv 10) (pa_cons (pv 11) pa_nil)))))))) pss_nil)
    (pss_one (ps_ret (pe_tup (pa_cons pe_str (pa_cons (pv 5) (pa_cons (pv 6) (pa_cons (pv 10) (pa_cons (pv 11) pa_nil))))))))))))))))))))))), ?_⟩
    have ret : ∀ (tr : Tr) (p : Addr), H p = none → goodT tr → spanT tr → Q (.ref p) (upd H p (.tup (trV tr))) := fun tr p hp hg hs => q p tr _ (same_upd hp) upd_same hg hs
    refine seq_cut (fun σ H1 => ∃ f : Int, σ = [some (.ref a), some (.int k), some (.int so), some (.int 12), some (.int b), some (.int f), none, none, none, none, none, none] ∧ H1 = H ∧ 0 ≤ f ∧ f < 12) (fun N hN => ?_) ?_
    · walk_at "gzn"
      refine ⟨a, ns, _, _, _, rfl, hS, hn, by omega, by decide, by omega, fun p p1 p2 => ?_⟩
      exact hN _ _ ⟨_, rfl, rfl, p1, p2⟩
    rintro σ H1 ⟨f, rfl, rfl, f1, f2⟩
    refine seq_cut (fun σ H2 => ∃ l : Int, σ = [some (.ref a), some (.int k), some (.int so), some (.int 12), some (.int b), some (.int f), some (.int l), none, none, none, none, none] ∧ H2 = H1 ∧ f ≤ l ∧ l ≤ 11) (fun N hN => ?_) ?_
    · walk_at "gzn"
      refine ⟨a, ns, _, _, _, rfl, hS, hn, by omega, by decide, by omega, fun p p1 p2 => ?_⟩
      walk_at "gzn"
      exact hN _ _ ⟨_, rfl, rfl, by omega, by omega⟩
    rintro σ H2 ⟨l, rfl, rfl, l1, l2⟩
    refine seq_cut (fun σ H3 => ∃ lo : Int, σ = [some (.ref a), some (.int k), some (.int so), some (.int 12), some (.int b), some (.int f), some (.int l), some (.int lo), none, none, none, none] ∧ H3 = H2) (fun N hN => ?_) ?_
    · walk_at "gzn"
      refine ⟨a, ns, _, _, _, rfl, hS, hn, by omega, by decide, by omega, fun p p1 p2 => ?_⟩
      walk_at "gzn"
      exact hN _ _ ⟨_, rfl, rfl⟩
    rintro σ H3 ⟨lo, rfl, rfl⟩
    refine seq_cut (lfI H3 a k so b) (fun N hN => ?_) ?_
    · walk_at "gzn"
      refine ⟨a, ns, _, _, _, rfl, hS, hn, by omega, by decide, by omega, fun p p1 p2 => ?_⟩
      exact hN _ _ ⟨_, _, _, _, rfl, rfl, f1, ⟨l1, l2⟩, p1⟩
    rintro σ H1 ⟨f, l, lo, mo, rfl, rfl, h1, h2, h3⟩
    refine seq_cut (lfI H1 a k so b) (fun N hN => ?_) ?_
    · walk_at "gzn"
      refine ite_by (fun hs => ?_) fun hs => hN _ _ ⟨_, _, _, _, rfl, rfl, h1, h2, h3⟩
      exact ⟨by decide, fun p hp => ret (.over f l _) p hp ⟨h1, h2.1, h2.2⟩ trivial⟩
    rintro σ H2 ⟨f, l, lo, mo, rfl, rfl, h1, h2, h3⟩
    refine seq_cut (lfI H2 a k so b) (fun N hN => ?_) ?_
    · walk_at "gzn"
      refine ite_by (fun hs => ?_) fun hs => hN _ _ ⟨_, _, _, _, rfl, rfl, h1, h2, h3⟩
      exact ⟨by decide, fun p hp => ret (.under f l _) p hp ⟨h1, h2.1, h2.2⟩ trivial⟩
    rintro σ H3 ⟨f, l, lo, mo, rfl, rfl, h1, h2, h3⟩
    refine seq_cut (lfI H3 a k so b) (fun N hN => ?_) ?_
    · walk_at "gzn"
      refine ite_by (fun hs => ?_) fun hs => hN _ _ ⟨_, _, _, _, rfl, rfl, h1, h2, h3⟩
      refine ⟨by decide, bd200 (by decide), by decide, fun p hp => ret (.rose f l _ _) p hp ⟨⟨h1, h2.1, h2.2⟩, by omega⟩ trivial⟩
    rintro σ H1 ⟨f, l, lo, mo, rfl, rfl, h1, h2, h3⟩
    refine seq_cut (lfI H1 a k so b) (fun N hN => ?_) ?_
    · walk_at "gzn"
      refine ite_by (fun hs => ?_) fun hs => hN _ _ ⟨_, _, _, _, rfl, rfl, h1, h2, h3⟩
      exact ⟨by decide, by decide, fun p hp => ret (.turn _) p hp ⟨by omega, by omega⟩ trivial⟩
    rintro σ H2 ⟨f, l, lo, mo, rfl, rfl, h1, h2, h3⟩
    refine seq_cut (fun σ H3 => ∃ op : Int, σ = [some (.ref a), some (.int k), some (.int so), some (.int 12), some (.int b), some (.int f), some (.int l), some (.int lo), some (.int mo), some (.int op), none, none] ∧ H3 = H2) (fun N hN => ?_) ?_
    · walk_at "gzn"
      refine ⟨a, ns, _, _, _, rfl, hS, hn, by omega, by decide, by omega, fun p p1 p2 => ?_⟩
      exact hN _ _ ⟨_, rfl, rfl⟩
    rintro σ H3 ⟨op, rfl, rfl⟩
    refine seq_cut (fun σ H2 => ∃ x : Int, σ = [some (.ref a), some (.int k), some (.int so), some (.int 12), some (.int b), some (.int f), some (.int l), some (.int lo), some (.int mo), some (.int op), some (.int x), none] ∧ H2 = H3) (fun N hN => ?_) ?_
    · walk_at "gzn"
      exact hN _ _ ⟨_, rfl, rfl⟩
    rintro σ H2 ⟨x, rfl, rfl⟩
    refine seq_cut (fun σ H3 => ∃ x : Int, σ = [some (.ref a), some (.int k), some (.int so), some (.int 12), some (.int b), some (.int f), some (.int l), some (.int lo), some (.int mo), some (.int op), some (.int x), none] ∧ H3 = H2) (fun N hN => ?_) ?_
    · walk_at "gzn"
      exact ite_by (fun _ => hN _ _ ⟨_, rfl, rfl⟩) fun _ => hN _ _ ⟨_, rfl, rfl⟩
    rintro σ H3 ⟨x, rfl, rfl⟩
    refine seq_cut (lfJ H3 a k so b f l) (fun N hN => ?_) ?_
    · walk_at "gzn"
      exact hN _ _ ⟨lo, mo, op, some x, some _, rfl, rfl, cr_up h3⟩
    rintro σ H2 ⟨lo, mo, op, x, y, rfl, rfl, hcr⟩
    refine seq_cut (lfJ H2 a k so b f l) (fun N hN => ?_) ?_
    · walk_at "gzn"
      have n_ := hN _ _ ⟨lo, mo, op, none, y, rfl, rfl, cr_l y⟩
      have s_ := hN _ _ ⟨lo, mo, op, x, y, rfl, rfl, hcr⟩
      exact ite_by (fun _ => n_) fun _ => ite_by (fun _ => n_) fun _ => s_
    rintro σ H3 ⟨lo, mo, op, x, y, rfl, rfl, hcr⟩
    refine seq_cut (lfJ H3 a k so b f l) (fun N hN => ?_) ?_
    · walk_at "gzn"
      have n_ := hN _ _ ⟨lo, mo, op, x, none, rfl, rfl, cr_r x⟩
      have s_ := hN _ _ ⟨lo, mo, op, x, y, rfl, rfl, hcr⟩
      exact ite_by (fun _ => n_) fun _ => ite_by (fun _ => n_) fun _ => s_
    rintro σ H2 ⟨lo, mo, op, x, y, rfl, rfl, hcr⟩
    walk_at "gzn"
    refine ite_by (fun _ => ⟨by decide, fun p hp => ret (.stay f l x y) p hp ⟨h1, h2.1, h2.2⟩ hcr⟩) fun _ => ⟨by decide, fun p hp => ret (.pace f l x y) p hp ⟨h1, h2.1, h2.2⟩ hcr⟩
end
section
seal L2.PE L2.PS L2.PSs L2.PA
variable {P : Program} {w : World} {K : PySem.W.Frag} {mg : Str → Option Value} {base : Heap}
def sp_lmet (K : PySem.W.Frag) : Sp := fun vs H Q _ => ∃ (a b : Addr) (cs : List Int) (xs : List V) (ps : List Pa), vs = [.ref a, .ref b] ∧ SqL K H a (cs.map V.int) ∧ SqL K H b xs ∧ Pas H xs ps ∧ (∀ p ∈ ps, 0 ≤ p.2.1 ∧ p.2.1 < (cs.length : Int) ∧ (p.1 = "step" → p.2.1 + 1 < (cs.length : Int))) ∧ Q (.bl (metB cs ps)) H
def inv_lmet (H : Hp) (a b : Addr) (cs : List Int) (ps : List Pa) (i : Nat) (σ : St) (H1 : Hp) : Prop := ∃ (e1 e2 : Option V), σ = [some (.ref a), some (.ref b), e1, e2] ∧ H1 = H ∧ metB cs (ps.take i) = true
theorem met_false {cs : List Int} {ps : List Pa} {p : Pa} (h : p ∈ ps) (hf : hold p.2.2.1 p.2.2.2 (nmAt cs p.1 p.2.1) = false) : metB cs ps = false := by
  unfold metB
  exact List.all_eq_false.mpr ⟨p, h, by rw [hf]; simp⟩
theorem met_next {cs : List Int} {ps : List Pa} {p : Pa} {i : Nat} (h : ps[i]? = some p) (ht : metB cs (ps.take i) = true) (hf : hold p.2.2.1 p.2.2.2 (nmAt cs p.1 p.2.1) = true) : metB cs (ps.take (i + 1)) = true := by
  unfold metB at *
  rw [List.take_succ, h, List.all_append, ht]
  simp [hf]
theorem ok_law_met (T : Tx K mg) : FnOk P w K mg base (CXX P w) 2 T.a_law_met T.fd_law_met ["_law_course", "_law_claim"] (sp_lmet K) := by
  refine okN T.F_law_met sc_law_met (fun vs H Q E h => ?_) (fun cdv A outer s H vs Q E hr h => ?_)
  · obtain ⟨a, b, cs, xs, ps, rfl, _⟩ := h
    rfl
  · obtain ⟨a, b, cs, xs, ps, rfl, hS, hX, hP, hk, q⟩ := h
    refine ⟨_, (pss_cons (ps_for PassesOwn.never rfl (pi_list (pv 1)) (pg_name (i := 2) sc_law_met.nd rfl (Or.inl rfl)) (pss_cons (ps_set (i := 3) sc_law_met.nd rfl (Or.inl rfl) (pe_ix ix_seq (pv 0) (pe_ix ix_seq (pv 2) pe_int (fun _ _ => rfl)) (fun _ _ => rfl)))
        (pss_cons (ps_if (pt_cmpR op_eq (pe_ix ix_seq (pv 2) pe_int (fun _ _ => rfl)) pe_str (nomark _)) (pss_one (ps_set (i := 3) sc_law_met.nd rfl (Or.inl rfl) (pe_op op_sub (pe_ix ix_seq (pv 0) (pe_op op_add (pe_ix ix_seq (pv 2) pe_int (fun _ _ => rfl)) pe_int) (fun _ _ => rfl)) (pe_ix ix_seq (pv 0) (pe_ix ix_seq (pv 2) pe_int (fun _ _ => rfl)) (fun _ _ => rfl))))) pss_nil)
        (pss_one (ps_if (pt_not (pt_val (pe_call (ok_law_within T) (hr.mono (by decide)) rfl T.m_law_within T.F_law_within.kp T.b_law_within .nil passE0 (pa_cons (pe_ix ix_seq (pv 2) pe_int (fun _ _ => rfl)) (pa_cons (pv 3) pa_nil))))) (pss_one (ps_ret pe_bl)) pss_nil)))))
    (pss_one (ps_ret pe_bl))), ?_⟩
    have hl := hP.len
    walk_at "gzn"
    refine ⟨⟨_, hX⟩, by_list (xs := xs) (inv_lmet H a b cs ps) ⟨_, _, rfl, rfl, rfl⟩ ?_ ?_ ?_⟩
    · rintro i σ H1 _ ⟨_, _, _, rfl, _⟩
      exact hX
    · rintro i x σ H1 hx ⟨e1, e2, rfl, rfl, hm⟩
      obtain ⟨p, hp, tp, sp, rfl, h1, h2⟩ := hP.get hx
      obtain ⟨o1, o2, o3⟩ := hk p (List.mem_of_getElem? hp)
      have fin : hold p.2.2.1 p.2.2.2 (nmAt cs p.1 p.2.1) = false → Q (V.bl false) H1 := fun hf => by
        rw [met_false (List.mem_of_getElem? hp) hf] at q
        exact q
      walk_at "gzn"
      refine ixT (SqT.of h1) rfl (ixL hS (int_at o1 o2) (ixT (SqT.of h1) rfl ?_))
      walk_at "gzn"
      by_cases hs : p.1 = "step"
      · rw [if_pos (by rw [hs])]
        have en : nmAt cs p.1 p.2.1 = cs.getD (p.2.1 + 1).toNat 0 - cs.getD p.2.1.toNat 0 := if_pos hs
        refine ixT (SqT.of h1) rfl ?_
        walk_at "gzn"
        refine ixL hS (int_at (by omega) (o3 hs)) (ixT (SqT.of h1) rfl (ixL hS (int_at o1 o2) ?_))
        walk_at "gzn"
        rw [← en]
        refine ixT (SqT.of h1) rfl ?_
        refine ⟨sp, _, _, _, rfl, SqT.of h2, _, rfl, ite_by (fun hc => fin hc) fun hc => ⟨_, _, rfl, rfl, met_next hp hm (by simpa using hc)⟩⟩
      · rw [if_neg fun z => hs (V.str.inj z)]
        have en : nmAt cs p.1 p.2.1 = cs.getD p.2.1.toNat 0 := if_neg hs
        rw [← en]
        refine ixT (SqT.of h1) rfl ?_
        refine ⟨sp, _, _, _, rfl, SqT.of h2, _, rfl, ite_by (fun hc => fin hc) fun hc => ⟨_, _, rfl, rfl, met_next hp hm (by simpa using hc)⟩⟩
    · rintro σ H1 ⟨e1, e2, rfl, rfl, hm⟩
      rw [hl, List.take_length] at hm
      rw [hm] at q
      walk_at "gzn"
      exact q
end
section
seal L2.PE L2.PS L2.PSs L2.PA
variable {P : Program} {w : World} {K : PySem.W.Frag} {mg : Str → Option Value} {base : Heap}
def sp_span (K : PySem.W.Frag) : Sp := fun vs H Q _ => ∃ (p : Addr) (lo hi : En), vs = [.ref p] ∧ H p = some (.tup [ev lo, ev hi]) ∧ crossed lo hi = false ∧ Q (.bl true) H
def inv_span (H : Hp) (p : Addr) (_ : Nat) (σ : St) (H1 : Hp) : Prop := ∃ (e : Option V), σ = [some (.ref p), e] ∧ H1 = H
theorem ok_law_span (T : Tx K mg) : FnOk P w K mg base (CXX P w) 2 T.a_law_span T.fd_law_span ["_law_span_here"] (sp_span K) := by
  refine okN T.F_law_span sc_law_span (fun vs H Q E h => ?_) (fun cdv A outer s H vs Q E hr h => ?_)
  · obtain ⟨p, lo, hi, rfl, _⟩ := h
    rfl
  · obtain ⟨p, lo, hi, rfl, hp, hc, q⟩ := h
    refine ⟨_, (pss_cons (ps_if (PW.pt (pw_or (pt_not (pt_val (pe_callB call_isiA (by rfl) T.n_isinstance b_isinstance (pa_cons (pv 0) (pa_cons (pe_bltn (v := .ty "tuple") rfl T.n_tuple b_tuple rfl) pa_nil))))) (pw_or1 (pt_cmpR op_ne (pe_callB call_len (by rfl) T.n_len b_len (pa_cons (pv 0) pa_nil)) pe_int (nomark _))))) (pss_one (ps_ret pe_bl)) pss_nil)
    (pss_cons (ps_for PassesOwn.never rfl (pi_tup (pv 0)) (pg_name (i := 1) sc_law_span.nd rfl (Or.inl rfl)) (pss_one (ps_if (PW.pt (pw_and (pt_cmp (pc_notN (pv 1))) (pw_and1 (pt_not (pt_val (pe_call (ok_law_whole T) (hr.mono (by decide)) rfl T.m_law_whole T.F_law_whole.kp T.b_law_whole .nil passE0 (pa_cons (pv 1) pa_nil))))))) (pss_one (ps_ret pe_bl)) pss_nil)))
    (pss_one (ps_ret (pe_or (pe_cmp (pc_isN (pe_ix ix_seq (pv 0) pe_int (fun _ _ => rfl)))) (pe_or (pe_cmp (pc_isN (pe_ix ix_seq (pv 0) pe_int (fun _ _ => rfl)))) (pe_one (pe_cmpR op_le (pe_ix ix_seq (pv 0) pe_int (fun _ _ => rfl)) (pe_ix ix_seq (pv 0) pe_int (fun _ _ => rfl)) (nomark _))))))))), ?_⟩
    walk_at "gzn"
    refine isi_tup hp ?_
    walk_at "gzn"
    refine ⟨_, lenT (SqT.of hp), ?_⟩
    walk_at "gzn"
    refine ⟨⟨_, SqT.of hp⟩, by_tup (xs := [ev lo, ev hi]) (inv_span H p) ⟨_, rfl, rfl⟩ ?_ ?_ ?_⟩
    · rintro i σ H1 _ ⟨_, _, rfl⟩
      exact SqT.of hp
    · rintro i x σ H1 hx ⟨e, rfl, rfl⟩
      obtain ⟨n, rfl⟩ : ∃ n : En, x = ev n := by
        match i, hx with
        | 0, hx => cases hx; exact ⟨lo, rfl⟩
        | 1, hx => cases hx; exact ⟨hi, rfl⟩
      walk_at "gzn"
      cases n with
      | none =>
        walk_at "gzn"
        exact ⟨_, rfl, rfl⟩
      | some n =>
        walk_at "gzn"
        refine ⟨_, rfl, .inr ⟨_, rfl⟩, ?_⟩
        simp only [isWhole]
        walk_at "gzn"
        exact ⟨_, rfl, rfl⟩
    · rintro σ H1 ⟨e, rfl, rfl⟩
      rcases lo with _ | lo <;> rcases hi with _ | hi
      all_goals simp only [ev_none, ev_some] at hp
      all_goals
        walk_at "gzn"
        repeat' first
        | exact q
        | refine ixT (SqT.of hp) rfl ?_
        | (walk_at "gzp")
      all_goals
        have hle : lo ≤ hi := by simpa [crossed] using hc
        rw [decide_eq_true hle]
        exact q
end
section
seal L2.PE L2.PS L2.PSs L2.PA
variable {P : Program} {w : World} {K : PySem.W.Frag} {mg : Str → Option Value} {base : Heap}
def okPa (far : Int) (p : Pa) : Prop := (p.1 = "at" ∧ p.2.1 ≤ far ∨ p.1 = "step" ∧ p.2.1 + 1 ≤ far) ∧ 0 ≤ p.2.1 ∧ crossed p.2.2.1 p.2.2.2 = false
def sp_part (K : PySem.W.Frag) : Sp := fun vs H Q _ => ∃ (v : V) (far : Int) (p : Pa), vs = [v, .int far] ∧ IsPa H v p ∧ okPa far p ∧ ∀ H', Same H H' → Q (.bl true) H'
theorem ok_law_part (T : Tx K mg) : FnOk P w K mg base (CXX P w) 3 T.a_law_part T.fd_law_part ["_law_part_here", "_law_far"] (sp_part K) := by
  refine okN T.F_law_part sc_law_part (fun vs H Q E h => ?_) (fun cdv A outer s H vs Q E hr h => ?_)
  · obtain ⟨v, far, p, rfl, _⟩ := h
    rfl
  · obtain ⟨v, far, ⟨kd, t, lo, hi⟩, rfl, ⟨tp, sp, rfl, h1, h2⟩, ⟨hk, h0, hc⟩, q⟩ := h
    refine ⟨_, (pss_cons (ps_if (PW.pt (pw_or (pt_not (pt_val (pe_callB call_isiA (by rfl) T.n_isinstance b_isinstance (pa_cons (pv 0) (pa_cons (pe_bltn (v := .ty "tuple") rfl T.n_tuple b_tuple rfl) pa_nil))))) (pw_or (pt_cmpR op_ne (pe_callB call_len (by rfl) T.n_len b_len (pa_cons (pv 0) pa_nil)) pe_int (nomark _)) (pw_or1 (pt_cmpR op_notIn_seq (pe_ix ix_seq (pv 0) pe_int (fun _ _ => rfl)) (pe_tup (pa_cons pe_str (pa_cons pe_str pa_nil))) (by with_unfolding_all rfl)))))) (pss_one (ps_ret pe_bl)) pss_nil)
    (pss_cons (ps_if (PW.pt (pw_or (pt_not (pt_val (pe_call (ok_law_whole T) (hr.mono (by decide)) rfl T.m_law_whole T.F_law_whole.kp T.b_law_whole .nil passE0 (pa_cons (pe_ix ix_seq (pv 0) pe_int (fun _ _ => rfl)) pa_nil)))) (pw_or (pt_cmpR op_lt (pe_ix ix_seq (pv 0) pe_int (fun _ _ => rfl)) pe_int (nomark _)) (pw_or1 (pt_cmpR op_gt (pe_op op_add (pe_ix ix_seq (pv 0) pe_int (fun _ _ => rfl)) (pe_callTy call_int1 (by rfl) T.n_int b_int (pa_cons (pe_cmpR op_eq (pe_ix ix_seq (pv 0) pe_int (fun _ _ => rfl)) pe_str (nomark _)) pa_nil))) (pv 1) (nomark _)))))) (pss_one (ps_ret pe_bl)) pss_nil)
    (pss_one (ps_ret (pe_call (ok_law_span T) (hr.mono (by decide)) rfl T.m_law_span T.F_law_span.kp T.b_law_span .nil passE0 (pa_cons (pe_ix ix_seq (pv 0) pe_int (fun _ _ => rfl)) pa_nil)))))), ?_⟩
    walk_at "gzn"
    refine isi_tup h1 ?_
    walk_at "gzn"
    refine ⟨_, lenT (SqT.of h1), ?_⟩
    walk_at "gzn"
    refine ixT (SqT.of h1) rfl ?_
    walk_at "gzn"
    refine ⟨line2, fun c hc0 => ?_⟩
    have sc := same_upd (o := .tup [.str "at", .str "step"]) hc0
    refine ⟨c, _, rfl, .inr (SqT.of upd_same), rfl, rfl, ?_⟩
    have hin : inV (V.str kd) [V.str "at", V.str "step"] = true := by
      rcases hk with ⟨rfl, _⟩ | ⟨rfl, _⟩ <;> decide
    generalize upd H c (.tup [.str "at", .str "step"]) = H1 at sc ⊢
    rw [hin]
    walk_at "gzn"
    refine ixT (SqT.of (sc _ _ h1)) rfl ?_
    refine ⟨_, rfl, .inr ⟨_, rfl⟩, ?_⟩
    simp only [isWhole]
    walk_at "gzn"
    refine ixT (SqT.of (sc _ _ h1)) rfl ?_
    walk_at "gzn"
    rw [if_neg (by dsimp only at h0; omega)]
    refine ixT (SqT.of (sc _ _ h1)) rfl (ixT (SqT.of (sc _ _ h1)) rfl ?_)
    walk_at "gzn"
    have hn : ¬ far < t + (if V.str kd = V.str "step" then 1 else 0) := by
      rcases hk with ⟨e, h⟩ | ⟨e, h⟩
      · rw [if_neg (by rw [show kd = "at" from e]; decide)]
        dsimp only at h
        omega
      · rw [if_pos (by rw [show kd = "step" from e])]
        dsimp only at h
        omega
    rw [if_neg hn]
    refine .inr (ixT (SqT.of (sc _ _ h1)) rfl ?_)
    exact ⟨sp, lo, hi, rfl, sc _ _ h2, hc, q _ sc⟩
end
section
seal L2.PE L2.PS L2.PSs L2.PA
variable {P : Program} {w : World} {K : PySem.W.Frag} {mg : Str → Option Value} {base : Heap}
def sp_claims (K : PySem.W.Frag) : Sp := fun vs H Q _ => ∃ (l : Addr) (n far : Int) (ys : List V) (cls : List (List Pa)), vs = [.ref l, .int n, .int far] ∧ H l = some (.lst ys) ∧ All2 (IsCl H) ys cls ∧ (cls.length : Int) = n ∧ (∀ ps ∈ cls, ps.length ≤ 100 ∧ ∀ p ∈ ps, okPa far p) ∧ ∀ H', Same H H' → Q (.bl true) H'
def inv_claims (H : Hp) (l : Addr) (n far : Int) (_ : Nat) (σ : St) (H1 : Hp) : Prop := ∃ (e : Option V), σ = [some (.ref l), some (.int n), some (.int far), e] ∧ Same H H1
theorem ok_law_claims (T : Tx K mg) : FnOk P w K mg base (CXX P w) 4 T.a_law_claims T.fd_law_claims ["_law_some", "_law_many", "_law_far"] (sp_claims K) := by
  refine okN T.F_law_claims sc_law_claims (fun vs H Q E h => ?_) (fun cdv A outer s H vs Q E hr h => ?_)
  · obtain ⟨l, n, far, ys, cls, rfl, _⟩ := h
    rfl
  · obtain ⟨l, n, far, ys, cls, rfl, hl, hy, hn, hk, q⟩ := h
    refine ⟨_, (pss_cons (ps_if (PW.pt (pw_or (pt_not (pt_val (pe_callB call_isiA (by rfl) T.n_isinstance b_isinstance (pa_cons (pv 0) (pa_cons (pe_bltn (v := .ty "list") rfl T.n_list b_list rfl) pa_nil))))) (pw_or1 (pt_cmpR op_ne (pe_callB call_len (by rfl) T.n_len b_len (pa_cons (pv 0) pa_nil)) (pv 1) (nomark _))))) (pss_one (ps_ret pe_bl)) pss_nil)
    (pss_cons (ps_for PassesOwn.never rfl (pi_list (pv 0)) (pg_name (i := 3) sc_law_claims.nd rfl (Or.inl rfl)) (pss_one (ps_if (PW.pt (pw_or (pt_not (pt_val (pe_callB call_isiA (by rfl) T.n_isinstance b_isinstance (pa_cons (pv 3) (pa_cons (pe_bltn (v := .ty "list") rfl T.n_list b_list rfl) pa_nil))))) (pw_or1 (pt_not (pt_val (pe_callB (call_allL rfl) (by rfl) T.n_all b_all (pa_cons (pe_comp (CompOk.mk (fr := [2]) (ys := ["_law_far"]) rfl (by decide +kernel) rfl (by decide +kernel) rfl rfl (.cons rfl .nil) (.cons rfl rfl rfl rfl .nil) (by decide) rfl) rfl (pi_list (pv 3)) (fun C s2 H2 ex pn => ⟨pts_nil, (pe_call (ok_law_part T) (hr.mono (by decide)) rfl T.m_law_part T.F_law_part.kp T.b_law_part .nil passE0 (pa_cons (pv 0) (pa_cons (pv 1) pa_nil)))⟩)) pa_nil))))))) (pss_one (ps_ret pe_bl)) pss_nil)))
    (pss_one (ps_ret pe_bl)))), ?_⟩
    have hlen := hy.len
    walk_at "gzn"
    refine isi_lst hl ?_
    walk_at "gzn"
    refine ⟨_, lenL (SqL.of hl), ?_⟩
    walk_at "gzn"
    rw [if_neg (by omega)]
    refine ⟨⟨_, SqL.of hl⟩, by_list (xs := ys) (inv_claims H l n far) ⟨_, rfl, Same.refl _⟩ ?_ ?_ ?_⟩
    · rintro i σ H1 _ ⟨_, _, s1⟩
      exact SqL.of (s1 _ _ hl)
    · rintro i x σ H1 hx ⟨e, rfl, s1⟩
      obtain ⟨ps, hps, r⟩ := hy.get hx
      obtain ⟨c, xs, rfl, hc, hP⟩ := r.same s1
      obtain ⟨k1, k2⟩ := hk ps (List.mem_of_getElem? hps)
      have pl := hP.len
      walk_at "gzn"
      refine isi_lst hc ?_
      walk_at "gzn"
      refine ⟨⟨_, SqL.of hc⟩, blk_of it_list (Nat.le_trans (by omega : xs.length ≤ 100) (by decide)) (compGo_grow (R := IsPa) (p := fun _ => true) (f := fun _ => .bl true) (fun _ _ _ _ s h => h.same s) hP (fun H' s' => SqL.of (s' _ _ hc)) (fun x p _ H2 s2 r Q h => ?_) (fun x p hp _ H2 s2 r Q h => ?_) fun H2 s2 => ?_)⟩
      · walk_at "gzn"
        exact h _ (Same.refl _)
      · walk_at "gzn"
        exact ⟨x, far, p, rfl, r, k2 p hp, fun H3 s3 => h H3 s3⟩
      · rw [List.nil_append, filter_tt]
        intro m hm
        refine ⟨m, rfl, ps.map fun _ => true, SqL.of ?_, ?_⟩
        · rw [upd_same, List.map_map]; rfl
        · rw [show (ps.map fun _ => true).all id = true by simp]
          walk_at "gzn"
          exact ⟨_, rfl, s1.trans (s2.trans (same_upd hm))⟩
    · rintro σ H1 ⟨e, rfl, s1⟩
      walk_at "gzn"
      exact q _ s1
end
section
seal L2.PE L2.PS L2.PSs L2.PA
variable {P : Program} {w : World} {K : PySem.W.Frag} {mg : Str → Option Value} {base : Heap}
theorem filter_any {α : Type} {p : α → Bool} {l : List α} : 0 < (l.filter p).length ↔ l.any p = true := by
  rw [List.length_pos_iff_exists_mem, List.any_eq_true]
  constructor
  · rintro ⟨x, hx⟩
    exact ⟨x, (List.mem_filter.mp hx).1, (List.mem_filter.mp hx).2⟩
  · rintro ⟨x, hx, hp⟩
    exact ⟨x, List.mem_filter.mpr ⟨hx, hp⟩⟩
def okPs (cs : List Int) (ps : List Pa) : Prop := ∀ p ∈ ps, 0 ≤ p.2.1 ∧ p.2.1 < (cs.length : Int) ∧ (p.1 = "step" → p.2.1 + 1 < (cs.length : Int))
def sp_fitting (K : PySem.W.Frag) : Sp := fun vs H Q _ => ∃ (t w b a : Addr) (tr : Tr) (ys zs : List V) (cs : List Int), vs = [.ref t, .ref w, .ref b, .ref a] ∧ H t = some (.tup (trV tr)) ∧ goodT tr ∧ H w = some (.lst ys) ∧ All2 (IsCl H) ys (waysT tr) ∧ H b = some (.lst zs) ∧ All2 (IsCl H) zs (breaksT tr) ∧ SqL K H a (cs.map V.int) ∧ cs.length ≤ 100 ∧ farT tr < (cs.length : Int) ∧ (waysT tr).length ≤ 200 ∧ (breaksT tr).length ≤ 200 ∧ (∀ ps ∈ waysT tr, okPs cs ps) ∧ (∀ ps ∈ breaksT tr, okPs cs ps) ∧ (breaksT tr).any (metB cs) = !(waysT tr).any (metB cs) ∧ ∀ H', Same H H' → Q (.bl true) H'
theorem ok_law_fitting (T : Tx K mg) : FnOk P w K mg base (CXX P w) 3 T.a_law_fitting T.fd_law_fitting ["_law_tree", "_law_ways", "_law_breaks", "_law_course"] (sp_fitting K) := by
  refine okN T.F_law_fitting sc_law_fitting (fun vs H Q E h => ?_) (fun cdv A outer s H vs Q E hr h => ?_)
  · obtain ⟨t, w, b, a, tr, ys, zs, cs, rfl, _⟩ := h
    rfl
  · obtain ⟨t, w, b, a, tr, ys, zs, cs, rfl, ht, hg, hw, hy, hb, hz0, hS, hc, hf, n1, n2, o1, o2, hx, q⟩ := h
    refine ⟨_, (pss_cons (ps_set (i := 4) sc_law_fitting.nd rfl (Or.inl rfl) (pe_callB call_len (by rfl) T.n_len b_len (pa_cons (pe_comp (CompOk.mk (fr := [3]) (ys := ["_law_course"]) rfl (by decide +kernel) rfl (by decide +kernel) rfl rfl (.cons rfl .nil) (.cons rfl rfl rfl rfl .nil) (by decide) rfl) rfl (pi_list (pv 1)) (fun C s2 H2 ex pn => ⟨(pts_one (pt_val (pe_call (ok_law_met T) (hr.mono (by decide)) rfl T.m_law_met T.F_law_met.kp T.b_law_met .nil passE0 (pa_cons (pv 1) (pa_cons (pv 0) pa_nil))))), (pv 0)⟩)) pa_nil)))
    (pss_cons (ps_set (i := 5) sc_law_fitting.nd rfl (Or.inl rfl) (pe_callB call_len (by rfl) T.n_len b_len (pa_cons (pe_comp (CompOk.mk (fr := [3]) (ys := ["_law_course"]) rfl (by decide +kernel) rfl (by decide +kernel) rfl rfl (.cons rfl .nil) (.cons rfl rfl rfl rfl .nil) (by decide) rfl) rfl (pi_list (pv 2)) (fun C s2 H2 ex pn => ⟨(pts_one (pt_val (pe_call (ok_law_met T) (hr.mono (by decide)) rfl T.m_law_met T.F_law_met.kp T.b_law_met .nil passE0 (pa_cons (pv 1) (pa_cons (pv 0) pa_nil))))), (pv 0)⟩)) pa_nil)))
    (pss_cons (ps_if (pt_val (pe_call (ok_law_truth T) (hr.mono (by decide)) rfl T.m_law_truth T.F_law_truth.kp T.b_law_truth .nil passE0 (pa_cons (pv 0) (pa_cons (pv 3) pa_nil)))) (pss_one (ps_ret (pe_and (pe_cmpR op_gt (pv 4) pe_int (nomark _)) (pe_one (pe_cmpR op_eq (pv 5) pe_int (nomark _)))))) pss_nil)
    (pss_one (ps_ret (pe_and (pe_cmpR op_eq (pv 4) pe_int (nomark _)) (pe_one (pe_cmpR op_gt (pv 5) pe_int (nomark _))))))))), ?_⟩
    have l1 := hy.len
    have l2 := hz0.len
    walk_at "gzn"
    refine ⟨⟨_, SqL.of hw⟩, blk_of it_list (Nat.le_trans (by omega : ys.length ≤ 200) (by decide)) (compGo_sel (R := IsCl) (p := metB cs) (fun _ _ _ _ s h => h.same s) hy (fun H' s' => SqL.of (s' _ _ hw)) (fun x ps hps H2 s2 r Q h => ?_) (fun x H2 s2 Q h => ?_) fun H2 vs_ s2 hz => ?_)⟩
    · obtain ⟨c, xs, rfl, hcl, hP⟩ := r
      walk_at "gzn"
      exact ⟨a, c, cs, xs, ps, rfl, s2.seq hS, SqL.of hcl, hP, o1 ps hps, _, rfl, h _ (Same.refl _)⟩
    · walk_at "gzn"
      exact h
    rw [List.nil_append]
    intro m hm
    have hzl := hz.len
    have sm := s2.trans (same_upd (o := .lst vs_) hm)
    have em : upd H2 m (.lst vs_) m = some (.lst vs_) := upd_same
    generalize upd H2 m (.lst vs_) = H3 at sm em ⊢
    clear hz s2
    refine ⟨_, lenL (SqL.of em), ⟨_, SqL.of (sm _ _ hb)⟩, blk_of it_list (Nat.le_trans (by omega : zs.length ≤ 200) (by decide)) (compGo_sel (R := IsCl) (p := metB cs) (fun _ _ _ _ s h => h.same s) (hz0.imp fun _ _ r => r.same sm) (fun H' s' => SqL.of (s' _ _ (sm _ _ hb))) (fun x ps hps H4 s4 r Q h => ?_) (fun x H4 s4 Q h => ?_) fun H4 ws s4 hws => ?_)⟩
    · obtain ⟨c, xs, rfl, hcl, hP⟩ := r
      walk_at "gzn"
      exact ⟨a, c, cs, xs, ps, rfl, (sm.trans s4).seq hS, SqL.of hcl, hP, o2 ps hps, _, rfl, h _ (Same.refl _)⟩
    · walk_at "gzn"
      exact h
    rw [List.nil_append]
    intro k hk
    have sk := sm.trans (s4.trans (same_upd (o := .lst ws) hk))
    refine ⟨_, lenL (SqL.of upd_same), ?_⟩
    have hwl := hws.len
    have f1 := filter_any (p := metB cs) (l := waysT tr)
    have f2 := filter_any (p := metB cs) (l := breaksT tr)
    refine ⟨t, a, tr, cs, rfl, sk _ _ ht, hg, sk.seq hS, hc, hf, fun H5 s5 => ⟨_, rfl, ?_⟩⟩
    have fin := q _ (sk.trans s5)
    cases hv : (waysT tr).any (metB cs) with
    | true =>
      rw [hv] at hx f1
      rw [hx] at f2
      have a1 := f1.mpr rfl
      have a2 : ¬ 0 < ((breaksT tr).filter (metB cs)).length := fun z => by simpa using f2.mp z
      rw [if_pos rfl, if_pos (by omega), decide_eq_true (by omega)]
      exact fin
    | false =>
      rw [hv] at hx f1
      rw [hx] at f2
      have a1 : ¬ 0 < ((waysT tr).filter (metB cs)).length := fun z => by simpa using f1.mp z
      have a2 := f2.mpr rfl
      rw [if_neg (by simp), if_pos (by omega), decide_eq_true (by omega)]
      exact fin
end
section
seal L2.PE L2.PS L2.PSs L2.PA
variable {P : Program} {w : World} {K : PySem.W.Frag} {mg : Str → Option Value} {base : Heap}
theorem out_iff (s : S2) (n : Int) : (outS s).any (fun o => hold o.1 o.2 n) = !hold s.1 s.2 n := by
  obtain ⟨a, b⟩ := s
  rcases a with _ | a <;> rcases b with _ | b
  · simp [outS, hold, crossed]
  all_goals (rw [Bool.eq_iff_iff]; simp [outS, hold, crossed]; omega)
theorem fail_any (cs : List Int) (ps : List Pa) : (failP ps).any (metB cs) = !metB cs ps := by
  unfold failP
  rw [List.any_flatMap]
  induction ps with
  | nil => rfl
  | cons p ps ih =>
    rw [List.any_cons, ih, List.any_map]
    have e : ((outS p.2.2).any (metB cs ∘ fun o => [((p.1, p.2.1, o) : Pa)])) = !hold p.2.2.1 p.2.2.2 (nmAt cs p.1 p.2.1) := by
      rw [← out_iff]
      congr 1
      funext o
      simp [metB]
    rw [e]
    simp only [metB, List.all_cons, Bool.not_and]
theorem roseB_iff {cs : List Int} {i j l h : Int} (hij : i ≤ j) : ((roseB i j l h).any (metB cs)) = true ↔ ¬ ∃ a b, a < b ∧ b < (j + 1 - i).toNat ∧ cAt cs i a ≤ l ∧ h ≤ cAt cs i b := by
  have one : ∀ k : Nat, k < (j + 1 - i).toNat → (metB cs (atP i (i + (k : Nat) - 1) (some (l + 1), none) ++ atP (i + (k : Nat) + 1) j (none, some (h - 1))) = true ↔ (∀ a, a < k → l < cAt cs i a) ∧ ∀ b, k < b → b < (j + 1 - i).toNat → cAt cs i b < h) := fun k hk => by
    have e : metB cs (atP i (i + (k : Nat) - 1) (some (l + 1), none) ++ atP (i + (k : Nat) + 1) j (none, some (h - 1))) = (metB cs (atP i (i + (k : Nat) - 1) (some (l + 1), none)) && metB cs (atP (i + (k : Nat) + 1) j (none, some (h - 1)))) := by
      unfold metB
      rw [List.all_append]
    rw [e, Bool.and_eq_true, met_at, met_at, List.all_eq_true, List.all_eq_true]
    refine and_congr ⟨fun z a ha => ?_, fun z a ha => ?_⟩ ⟨fun z b hb hn => ?_, fun z b hb => ?_⟩
    · have := (hold_iff.mp (z a (List.mem_range.mpr (by omega)))).1 _ rfl
      omega
    · have ha := List.mem_range.mp ha
      refine hold_iff.mpr ⟨fun x hx => ?_, fun x hx => (nomatch hx)⟩
      cases hx
      have := z a (by omega)
      omega
    · have := (hold_iff.mp (z (b - k - 1) (List.mem_range.mpr (by omega)))).2 _ rfl
      unfold cAt at *
      rw [show i + (k : Int) + 1 + ((b - k - 1 : Nat) : Int) = i + (b : Int) by omega] at this
      omega
    · have hb := List.mem_range.mp hb
      refine hold_iff.mpr ⟨fun x hx => (nomatch hx), fun x hx => ?_⟩
      cases hx
      have := z (k + 1 + b) (by omega) (by omega)
      unfold cAt at *
      rw [show i + ((k + 1 + b : Nat) : Int) = i + (k : Int) + 1 + (b : Int) by omega] at this
      omega
  unfold roseB
  rw [List.any_map, List.any_eq_true]
  constructor
  · rintro ⟨k, hk, hm⟩ ⟨a, b, hab, hb, h1, h2⟩
    have hk := List.mem_range.mp hk
    obtain ⟨m1, m2⟩ := (one k hk).mp hm
    by_cases ha : a < k
    · have := m1 a ha; omega
    · have := m2 b (by omega) hb; omega
  · intro hno
    by_cases hex : ∃ a, a < (j + 1 - i).toNat ∧ cAt cs i a ≤ l
    · obtain ⟨a, ⟨ha, hl⟩, hmin⟩ : ∃ a, (a < (j + 1 - i).toNat ∧ cAt cs i a ≤ l) ∧ ∀ b, b < a → ¬ (b < (j + 1 - i).toNat ∧ cAt cs i b ≤ l) := by
        obtain ⟨a, ha⟩ := hex
        induction a using Nat.strongRecOn with
        | _ a ih =>
          by_cases h9 : ∃ b, b < a ∧ (b < (j + 1 - i).toNat ∧ cAt cs i b ≤ l)
          · obtain ⟨b, hb, z⟩ := h9
            exact ih b hb z
          · exact ⟨a, ha, fun b hb z => h9 ⟨b, hb, z⟩⟩
      refine ⟨a, List.mem_range.mpr ha, (one a ha).mpr ⟨fun b hb => ?_, fun b hb hn => ?_⟩⟩
      · have := hmin b hb
        by_cases hz : cAt cs i b ≤ l
        · exact absurd ⟨by omega, hz⟩ this
        · omega
      · by_cases hz : h ≤ cAt cs i b
        · exact absurd ⟨a, b, hb, hn, hl, hz⟩ hno
        · omega
    · have hn : (j + 1 - i).toNat - 1 < (j + 1 - i).toNat := by omega
      refine ⟨(j + 1 - i).toNat - 1, List.mem_range.mpr hn, (one _ hn).mpr ⟨fun b hb => ?_, fun b hb hn => by omega⟩⟩
      by_cases hz : cAt cs i b ≤ l
      · exact absurd ⟨b, by omega, hz⟩ hex
      · omega
theorem breaks_not {tr : Tr} (hg : goodT tr) (cs : List Int) : (breaksT tr).any (metB cs) = !(waysT tr).any (metB cs) := by
  have one : ∀ ps : List Pa, ([ps].any (metB cs)) = metB cs ps := fun ps => Bool.or_false _
  cases tr with
  | over i j s =>
    show ([atP i j (none, some (s - 1))].any (metB cs)) = !((failP (atP i j (none, some (s - 1)))).any (metB cs))
    rw [one, fail_any, Bool.not_not]
  | under i j s =>
    show ([atP i j (some (s + 1), none)].any (metB cs)) = !((failP (atP i j (some (s + 1), none))).any (metB cs))
    rw [one, fail_any, Bool.not_not]
  | rose i j l h =>
    have e := roseB_iff (cs := cs) (l := l) (h := h) (hg.1 : okT i j).2.1
    have f := rose_iff (cs := cs) (i := i) (j := j) (l := l) (h := h)
    show ((roseB i j l h).any (metB cs)) = !((roseP i j l h).any (metB cs))
    rw [Bool.eq_iff_iff, e, ← f]
    cases (roseP i j l h).any (metB cs) <;> simp
  | turn t =>
    show ((failP (turnP t)).any (metB cs)) = !([turnP t].any (metB cs))
    rw [one, fail_any]
  | stay i j l h =>
    show ((failP (atP i j (l, h))).any (metB cs)) = !([atP i j (l, h)].any (metB cs))
    rw [one, fail_any]
  | pace i j l h =>
    show ((failP (stP i j (l, h))).any (metB cs)) = !([stP i j (l, h)].any (metB cs))
    rw [one, fail_any]
theorem fail_cnt {c : Nat} : ∀ {ps : List Pa}, (∀ p ∈ ps, (outS p.2.2).length = c) → (failP ps).length = ps.length * c
  | [], _ => by simp [failP]
  | p :: ps, h => by
    have ih := fail_cnt (ps := ps) fun q hq => h q (.tail _ hq)
    have h0 := h p (.head _)
    unfold failP at *
    rw [List.flatMap_cons, List.length_append, List.length_map, h0, ih, List.length_cons, Nat.add_mul, Nat.one_mul, Nat.add_comm]
theorem rose_cnt {i j l h : Int} (h0 : 0 ≤ i) (hij : i ≤ j) (hj : j ≤ 11) : ((roseP i j l h).length : Int) = (j - i + 1) * (j - i + 1 - 1) / 2 := by
  have e : (roseP i j l h).length = ((List.range (j - i).toNat).map fun k => (j - i).toNat - k).sum := by
    unfold roseP
    rw [List.length_flatMap]
    congr 1
    refine List.map_congr_left fun k hk => ?_
    rw [List.length_map, at_len]
    omega
  rw [e]
  obtain ⟨m, hm⟩ : ∃ m : Nat, j - i = (m : Int) := ⟨(j - i).toNat, by omega⟩
  have hm2 : m < 12 := by omega
  rw [hm, Int.toNat_natCast]
  have key : ∀ m : Nat, m < 12 → ((((List.range m).map fun k => m - k).sum : Nat) : Int) = ((m : Int) + 1) * ((m : Int) + 1 - 1) / 2 := by decide
  exact key m hm2
theorem roseB_cnt {i j l h : Int} : (roseB i j l h).length = (j + 1 - i).toNat := by
  unfold roseB
  rw [List.length_map, List.length_range]
def endsN (s : S2) : Nat := (if s.1 = none then 0 else 1) + (if s.2 = none then 0 else 1)
theorem out_cnt (s : S2) : (outS s).length = endsN s := by
  obtain ⟨a, b⟩ := s
  cases a <;> cases b <;> simp [outS, endsN]
theorem at_cnt (i j : Int) (s : S2) : (failP (atP i j s)).length = (j + 1 - i).toNat * endsN s := by
  rw [fail_cnt (c := endsN s), at_len]
  intro p hp
  obtain ⟨k, _, rfl⟩ := mem_at hp
  exact out_cnt s
theorem st_cnt (i j : Int) (s : S2) : (failP (stP i j s)).length = (j - i).toNat * endsN s := by
  rw [fail_cnt (c := endsN s), st_len']
  intro p hp
  obtain ⟨k, _, rfl⟩ := mem_st hp
  exact out_cnt s
def okCs (far : Int) (ps : List Pa) : Prop := ps.length ≤ 100 ∧ ∀ p ∈ ps, okPa far p
theorem out_ok {s o : S2} (h : o ∈ outS s) : crossed o.1 o.2 = false := by
  obtain ⟨a, b⟩ := s
  rcases a with _ | a <;> rcases b with _ | b <;> simp [outS] at h
  · subst h; rfl
  · subst h; rfl
  · rcases h with rfl | rfl <;> rfl
theorem okCs_fail {far : Int} {ps qs : List Pa} (h : ∀ p ∈ ps, (p.1 = "at" ∧ p.2.1 ≤ far ∨ p.1 = "step" ∧ p.2.1 + 1 ≤ far) ∧ 0 ≤ p.2.1) (hq : qs ∈ failP ps) : okCs far qs := by
  obtain ⟨p, hp, o, ho, rfl⟩ := mem_fail hq
  obtain ⟨h1, h2⟩ := h p hp
  refine ⟨by show 1 ≤ 100; decide, fun q hq => ?_⟩
  obtain rfl : q = (p.1, p.2.1, o) := by simpa using hq
  exact ⟨h1, h2, out_ok ho⟩
theorem tur_at {far i j : Int} {s : S2} (h0 : 0 ≤ i) (hj : j ≤ far) : ∀ p ∈ atP i j s, (p.1 = "at" ∧ p.2.1 ≤ far ∨ p.1 = "step" ∧ p.2.1 + 1 ≤ far) ∧ 0 ≤ p.2.1 := fun p hp => by
  obtain ⟨k, hk, rfl⟩ := mem_at hp
  exact ⟨.inl ⟨rfl, by show i + (k : Int) ≤ far; omega⟩, by show 0 ≤ i + (k : Int); omega⟩
theorem tur_st {far i j : Int} {s : S2} (h0 : 0 ≤ i) (hj : j ≤ far) : ∀ p ∈ stP i j s, (p.1 = "at" ∧ p.2.1 ≤ far ∨ p.1 = "step" ∧ p.2.1 + 1 ≤ far) ∧ 0 ≤ p.2.1 := fun p hp => by
  obtain ⟨k, hk, rfl⟩ := mem_st hp
  exact ⟨.inr ⟨rfl, by show i + (k : Int) + 1 ≤ far; omega⟩, by show 0 ≤ i + (k : Int); omega⟩
theorem tur_turn {t : Int} (h : 0 < t) : ∀ p ∈ turnP t, (p.1 = "at" ∧ p.2.1 ≤ t + 1 ∨ p.1 = "step" ∧ p.2.1 + 1 ≤ t + 1) ∧ 0 ≤ p.2.1 := fun p hp => by
  simp only [turnP, List.mem_cons, List.not_mem_nil, or_false] at hp
  rcases hp with rfl | rfl
  · exact ⟨.inr ⟨rfl, by show t - 1 + 1 ≤ t + 1; omega⟩, by show 0 ≤ t - 1; omega⟩
  · exact ⟨.inr ⟨rfl, by show t + 1 ≤ t + 1; omega⟩, by show 0 ≤ t; omega⟩
theorem okPa_at {far i j : Int} {s : S2} (h0 : 0 ≤ i) (hj : j ≤ far) (hc : crossed s.1 s.2 = false) : ∀ p ∈ atP i j s, okPa far p := fun p hp => by
  obtain ⟨a, b⟩ := tur_at h0 hj p hp
  obtain ⟨k, hk, rfl⟩ := mem_at hp
  exact ⟨a, b, hc⟩
theorem okPa_st {far i j : Int} {s : S2} (h0 : 0 ≤ i) (hj : j ≤ far) (hc : crossed s.1 s.2 = false) : ∀ p ∈ stP i j s, okPa far p := fun p hp => by
  obtain ⟨a, b⟩ := tur_st h0 hj p hp
  obtain ⟨k, hk, rfl⟩ := mem_st hp
  exact ⟨a, b, hc⟩
theorem okCs_at {far i j : Int} {s : S2} (h0 : 0 ≤ i) (hj : j ≤ far) (h11 : j ≤ 11) (hc : crossed s.1 s.2 = false) : okCs far (atP i j s) := ⟨by rw [at_len]; omega, okPa_at h0 hj hc⟩
theorem okCs_st {far i j : Int} {s : S2} (h0 : 0 ≤ i) (hj : j ≤ far) (h11 : j ≤ 11) (hc : crossed s.1 s.2 = false) : okCs far (stP i j s) := ⟨by rw [st_len']; omega, okPa_st h0 hj hc⟩
theorem ways_cs {tr : Tr} (hg : goodT tr) (hs : spanT tr) : ∀ ps ∈ waysT tr, okCs (farT tr) ps := by
  intro ps hps
  cases tr with
  | over i j s => exact okCs_fail (tur_at (hg : okT i j).1 (Int.le_refl _)) hps
  | under i j s => exact okCs_fail (tur_at (hg : okT i j).1 (Int.le_refl _)) hps
  | rose i j l h =>
    obtain ⟨g1, g2, g3⟩ := (hg.1 : okT i j)
    obtain ⟨k, hk, p, hp, rfl⟩ := mem_rose hps
    refine ⟨by show 2 ≤ 100; decide, fun q hq => ?_⟩
    simp only [List.mem_cons, List.not_mem_nil, or_false] at hq
    rcases hq with rfl | rfl
    · exact ⟨.inl ⟨rfl, by show i + (k : Int) ≤ j; omega⟩, by show 0 ≤ i + (k : Int); omega, rfl⟩
    · exact okPa_at (by omega) (Int.le_refl j) rfl _ hp
  | turn t =>
    obtain rfl : ps = turnP t := by simpa [waysT] using hps
    refine ⟨by show 2 ≤ 100; decide, fun q hq => ?_⟩
    obtain ⟨a, b⟩ := tur_turn (hg : 0 < t ∧ t < 11).1 q hq
    refine ⟨a, b, ?_⟩
    simp only [turnP, List.mem_cons, List.not_mem_nil, or_false] at hq
    rcases hq with rfl | rfl <;> rfl
  | stay i j l h =>
    obtain ⟨g1, g2, g3⟩ := (hg : okT i j)
    obtain rfl : ps = atP i j (l, h) := by simpa [waysT] using hps
    exact okCs_at g1 (Int.le_refl _) g3 hs
  | pace i j l h =>
    obtain ⟨g1, g2, g3⟩ := (hg : okT i j)
    obtain rfl : ps = stP i j (l, h) := by simpa [waysT] using hps
    exact okCs_st g1 (Int.le_refl _) g3 hs
theorem breaks_cs {tr : Tr} (hg : goodT tr) : ∀ ps ∈ breaksT tr, okCs (farT tr) ps := by
  intro ps hps
  cases tr with
  | over i j s =>
    obtain ⟨g1, g2, g3⟩ := (hg : okT i j)
    obtain rfl : ps = atP i j (none, some (s - 1)) := by simpa [breaksT] using hps
    exact okCs_at g1 (Int.le_refl _) g3 rfl
  | under i j s =>
    obtain ⟨g1, g2, g3⟩ := (hg : okT i j)
    obtain rfl : ps = atP i j (some (s + 1), none) := by simpa [breaksT] using hps
    exact okCs_at g1 (Int.le_refl _) g3 rfl
  | rose i j l h =>
    obtain ⟨g1, g2, g3⟩ := (hg.1 : okT i j)
    obtain ⟨k, hk, rfl⟩ := List.mem_map.mp (show ps ∈ (List.range (j + 1 - i).toNat).map (fun (k : Nat) => atP i (i + (k : Nat) - 1) (some (l + 1), none) ++ atP (i + (k : Nat) + 1) j (none, some (h - 1))) from hps)
    have hk := List.mem_range.mp hk
    refine ⟨by rw [List.length_append, at_len, at_len]; omega, fun q hq => ?_⟩
    rcases List.mem_append.mp hq with hq | hq
    · exact okPa_at g1 (by show i + (k : Int) - 1 ≤ j; omega) rfl q hq
    · exact okPa_at (by omega) (Int.le_refl j) rfl q hq
  | turn t => exact okCs_fail (tur_turn (hg : 0 < t ∧ t < 11).1) hps
  | stay i j l h => exact okCs_fail (tur_at (hg : okT i j).1 (Int.le_refl _)) hps
  | pace i j l h => exact okCs_fail (tur_st (hg : okT i j).1 (Int.le_refl _)) hps
theorem okCs.ps {far : Int} {cs : List Int} {ps : List Pa} (h : okCs far ps) (hf : far < (cs.length : Int)) : okPs cs ps := fun p hp => by
  obtain ⟨h1, h2, _⟩ := h.2 p hp
  rcases h1 with ⟨e, h1⟩ | ⟨e, h1⟩
  · exact ⟨h2, by omega, fun z => by rw [e] at z; exact absurd z (by decide)⟩
  · exact ⟨h2, by omega, fun _ => by omega⟩
def cntT : Tr → Int × Int
  | .over i j _ => (j - i + 1, 1)
  | .under i j _ => (j - i + 1, 1)
  | .rose i j _ _ => ((j - i + 1) * (j - i + 1 - 1) / 2, j - i + 1)
  | .turn _ => (1, 2)
  | .stay i j l h => (1, (j - i + 1) * ((if l = none then 0 else 1) + (if h = none then 0 else 1)))
  | .pace i j l h => (1, (j - i + 1 - 1) * ((if l = none then 0 else 1) + (if h = none then 0 else 1)))
theorem ends_int (l h : En) : ((endsN (l, h) : Nat) : Int) = (if l = none then 0 else 1) + (if h = none then 0 else 1) := by
  cases l <;> cases h <;> rfl
theorem cnt_ok {tr : Tr} (hg : goodT tr) : cntT tr = (((waysT tr).length : Int), ((breaksT tr).length : Int)) := by
  cases tr with
  | over i j s =>
    obtain ⟨g1, g2, g3⟩ := (hg : okT i j)
    refine Prod.ext ?_ rfl
    show j - i + 1 = (((failP (atP i j (none, some (s - 1)))).length : Nat) : Int)
    rw [at_cnt, show endsN (none, some (s - 1)) = 1 from rfl]
    omega
  | under i j s =>
    obtain ⟨g1, g2, g3⟩ := (hg : okT i j)
    refine Prod.ext ?_ rfl
    show j - i + 1 = (((failP (atP i j (some (s + 1), none))).length : Nat) : Int)
    rw [at_cnt, show endsN (some (s + 1), none) = 1 from rfl]
    omega
  | rose i j l h =>
    obtain ⟨g1, g2, g3⟩ := (hg.1 : okT i j)
    refine Prod.ext (rose_cnt g1 g2 g3).symm ?_
    show j - i + 1 = (((roseB i j l h).length : Nat) : Int)
    rw [roseB_cnt]
    omega
  | turn t => rfl
  | stay i j l h =>
    obtain ⟨g1, g2, g3⟩ := (hg : okT i j)
    refine Prod.ext rfl ?_
    show (j - i + 1) * ((if l = none then 0 else 1) + (if h = none then 0 else 1)) = (((failP (atP i j (l, h))).length : Nat) : Int)
    rw [at_cnt, Int.natCast_mul, ends_int, Int.toNat_of_nonneg (by omega), show j + 1 - i = j - i + 1 by omega]
  | pace i j l h =>
    obtain ⟨g1, g2, g3⟩ := (hg : okT i j)
    refine Prod.ext rfl ?_
    show (j - i + 1 - 1) * ((if l = none then 0 else 1) + (if h = none then 0 else 1)) = (((failP (stP i j (l, h))).length : Nat) : Int)
    rw [st_cnt, Int.natCast_mul, ends_int, Int.toNat_of_nonneg (by omega), show j - i + 1 - 1 = j - i by omega]
theorem ways_n {tr : Tr} (hg : goodT tr) : (waysT tr).length ≤ 150 := by
  cases tr with
  | over i j s =>
    obtain ⟨g1, g2, g3⟩ := (hg : okT i j)
    show (failP (atP i j (none, some (s - 1)))).length ≤ 150
    rw [at_cnt, show endsN (none, some (s - 1)) = 1 from rfl]
    omega
  | under i j s =>
    obtain ⟨g1, g2, g3⟩ := (hg : okT i j)
    show (failP (atP i j (some (s + 1), none))).length ≤ 150
    rw [at_cnt, show endsN (some (s + 1), none) = 1 from rfl]
    omega
  | rose i j l h =>
    obtain ⟨g1, g2, g3⟩ := (hg.1 : okT i j)
    have := flat_len (f := fun k : Nat => (atP (i + (k : Nat) + 1) j (some h, none)).map fun p => [(("at", i + (k : Nat), none, some l) : Pa), p]) (c := 12) (List.range (j - i).toNat) fun k _ => by
      rw [List.length_map, at_len]
      omega
    rw [List.length_range] at this
    show ((List.range (j - i).toNat).flatMap fun (k : Nat) => (atP (i + (k : Nat) + 1) j (some h, none)).map fun p => [(("at", i + (k : Nat), none, some l) : Pa), p]).length ≤ 150
    omega
  | turn t => show 1 ≤ 150; decide
  | stay i j l h => show 1 ≤ 150; decide
  | pace i j l h => show 1 ≤ 150; decide
theorem breaks_n {tr : Tr} (hg : goodT tr) : (breaksT tr).length ≤ 150 := by
  have two : ∀ s : S2, endsN s ≤ 2 := fun s => by unfold endsN; split <;> split <;> omega
  cases tr with
  | over i j s => show 1 ≤ 150; decide
  | under i j s => show 1 ≤ 150; decide
  | rose i j l h =>
    obtain ⟨g1, g2, g3⟩ := (hg.1 : okT i j)
    show (roseB i j l h).length ≤ 150
    rw [roseB_cnt]
    omega
  | turn t => show 2 ≤ 150; decide
  | stay i j l h =>
    obtain ⟨g1, g2, g3⟩ := (hg : okT i j)
    show (failP (atP i j (l, h))).length ≤ 150
    rw [at_cnt]
    have := Nat.mul_le_mul (show (j + 1 - i).toNat ≤ 12 by omega) (two (l, h))
    omega
  | pace i j l h =>
    obtain ⟨g1, g2, g3⟩ := (hg : okT i j)
    show (failP (stP i j (l, h))).length ≤ 150
    rw [st_cnt]
    have := Nat.mul_le_mul (show (j - i).toNat ≤ 12 by omega) (two (l, h))
    omega
def sp_counts (K : PySem.W.Frag) : Sp := fun vs H Q _ => ∃ (t : Addr) (tr : Tr), vs = [.ref t] ∧ H t = some (.tup (trV tr)) ∧ goodT tr ∧ ∀ p H', Same H H' → H' p = some (.tup [.int (waysT tr).length, .int (breaksT tr).length]) → Q (.ref p) H'
theorem ok_law_counts (T : Tx K mg) : FnOk P w K mg base (CXX P w) 1 T.a_law_counts T.fd_law_counts ["_law_tree"] (sp_counts K) := by
  refine okN T.F_law_counts sc_law_counts (fun vs H Q E h => ?_) (fun cdv A outer s H vs Q E hr h => ?_)
  · obtain ⟨t, tr, rfl, _⟩ := h
    rfl
  · obtain ⟨t, tr, rfl, ht, hg, q⟩ := h
    refine ⟨_, (pss_cons (ps_if (pt_cmpR op_eq (pe_ix ix_seq (pv 0) pe_int (fun _ _ => rfl)) pe_str (nomark _)) (pss_one (ps_ret (pe_tup (pa_cons pe_int (pa_cons pe_int pa_nil))))) pss_nil)
    (pss_cons (ps_set (i := 1) sc_law_counts.nd rfl (Or.inl rfl) (pe_op op_add (pe_op op_sub (pe_ix ix_seq (pv 0) pe_int (fun _ _ => rfl)) (pe_ix ix_seq (pv 0) pe_int (fun _ _ => rfl))) pe_int))
    (pss_cons (ps_if (pt_cmpR op_eq (pe_ix ix_seq (pv 0) pe_int (fun _ _ => rfl)) pe_str (nomark _)) (pss_one (ps_ret (pe_tup (pa_cons (pe_op op_fdivB (pe_op op_mulB (pv 1) (pe_op op_sub (pv 1) pe_int)) pe_int) (pa_cons (pv 1) pa_nil))))) pss_nil)
    (pss_cons (ps_if (PW.pt (pw_or (pt_cmpR op_eq (pe_ix ix_seq (pv 0) pe_int (fun _ _ => rfl)) pe_str (nomark _)) (pw_or1 (pt_cmpR op_eq (pe_ix ix_seq (pv 0) pe_int (fun _ _ => rfl)) pe_str (nomark _))))) (pss_one (ps_ret (pe_tup (pa_cons (pv 1) (pa_cons pe_int pa_nil))))) pss_nil)
    (pss_cons (ps_set (i := 2) sc_law_counts.nd rfl (Or.inl rfl) (pe_op op_add (pe_callTy call_int1 (by rfl) T.n_int b_int (pa_cons (pe_cmp (pc_notN (pe_ix ix_seq (pv 0) pe_int (fun _ _ => rfl)))) pa_nil)) (pe_callTy call_int1 (by rfl) T.n_int b_int (pa_cons (pe_cmp (pc_notN (pe_ix ix_seq (pv 0) pe_int (fun _ _ => rfl)))) pa_nil))))
    (pss_one (ps_ret (pe_tup (pa_cons pe_int (pa_cons (pe_op op_mulB (pe_op op_sub (pv 1) (pe_callTy call_int1 (by rfl) T.n_int b_int (pa_cons (pe_cmpR op_eq (pe_ix ix_seq (pv 0) pe_int (fun _ _ => rfl)) pe_str (nomark _)) pa_nil))) (pv 2)) pa_nil)))))))))), ?_⟩
    have fin : ∀ (a b : Int) (p : Addr), cntT tr = (a, b) → H p = none → Q (.ref p) (upd H p (.tup [.int a, .int b])) := fun a b p e hp => q p _ (same_upd hp) (by
      rw [upd_same]
      rw [cnt_ok hg] at e
      cases e
      rfl)
    cases tr with
    | turn t0 =>
      walk_at "gzn"
      refine ixT (SqT.of ht) rfl ?_
      walk_at "gzn"
      exact ⟨line2, fun p hp => fin 1 2 p rfl hp⟩
    | rose i j l h =>
      obtain ⟨g1, g2, g3⟩ := (hg.1 : okT i j)
      walk_at "gzn"
      refine ixT (SqT.of ht) rfl ?_
      walk_at "gzn"
      refine ixT (SqT.of ht) rfl (ixT (SqT.of ht) rfl ?_)
      walk_at "gzn"
      refine ixT (SqT.of ht) rfl ?_
      walk_at "gzn"
      exact ⟨mul600 (by omega) (by omega), by decide, bd200 (by decide), line2, fun p hp => fin _ _ p rfl hp⟩
    | over i j s =>
      walk_at "gzn"
      refine ixT (SqT.of ht) rfl ?_
      walk_at "gzn"
      refine ixT (SqT.of ht) rfl (ixT (SqT.of ht) rfl ?_)
      walk_at "gzn"
      refine ixT (SqT.of ht) rfl ?_
      walk_at "gzn"
      refine ixT (SqT.of ht) rfl ?_
      walk_at "gzn"
      exact ⟨line2, fun p hp => fin _ _ p rfl hp⟩
    | under i j s =>
      walk_at "gzn"
      refine ixT (SqT.of ht) rfl ?_
      walk_at "gzn"
      refine ixT (SqT.of ht) rfl (ixT (SqT.of ht) rfl ?_)
      walk_at "gzn"
      refine ixT (SqT.of ht) rfl ?_
      walk_at "gzn"
      refine ixT (SqT.of ht) rfl ?_
      walk_at "gzn"
      refine ixT (SqT.of ht) rfl ?_
      walk_at "gzn"
      exact ⟨line2, fun p hp => fin _ _ p rfl hp⟩
    | stay i j l h =>
      obtain ⟨g1, g2, g3⟩ := (hg : okT i j)
      rcases l with _ | l <;> rcases h with _ | h
      all_goals
        walk_at "gzn"
        repeat' first
        | refine ixT (SqT.of ht) rfl ?_
        | (walk_at "gzp")
        | refine .inr (ixT (SqT.of ht) rfl ?_)
      all_goals
        first
        | exact .inr ⟨mul600 (by omega) (by omega), line2, fun p hp => fin _ _ p (by simp [cntT]) hp⟩
        | exact ⟨mul600 (by omega) (by omega), line2, fun p hp => fin _ _ p (by simp [cntT]) hp⟩
    | pace i j l h =>
      obtain ⟨g1, g2, g3⟩ := (hg : okT i j)
      rcases l with _ | l <;> rcases h with _ | h
      all_goals
        walk_at "gzn"
        repeat' first
        | refine ixT (SqT.of ht) rfl ?_
        | (walk_at "gzp")
        | refine .inr (ixT (SqT.of ht) rfl ?_)
      all_goals
        first
        | exact .inr ⟨mul600 (by omega) (by omega), line2, fun p hp => fin _ _ p (by simp [cntT]) hp⟩
        | exact ⟨mul600 (by omega) (by omega), line2, fun p hp => fin _ _ p (by simp [cntT]) hp⟩
end
section
seal L2.PE L2.PS L2.PSs L2.PA
variable {P : Program} {w : World} {K : PySem.W.Frag} {mg : Str → Option Value} {base : Heap}
theorem ev_sz (T : Tx K mg) {H : Hp} {x : Addr} {tr : Tr} (he : EvIs T H x tr) : ∃ C dx fs, H x = some (.ins C dx fs) ∧ Cls K C ∧ Meth K C "sizes" T.a_Event_sizes ∧ List.lookup ("sizes" : Str) fs = none := by
  cases tr with
  | stay i j l h => obtain ⟨dx, p, hx, _⟩ := he; exact ⟨_, _, _, hx, T.cl_Stayed, T.me_Stayed_sizes, rfl⟩
  | pace i j l h => obtain ⟨dx, p, hx, _⟩ := he; exact ⟨_, _, _, hx, T.cl_Paced, T.me_Paced_sizes, rfl⟩
  | over i j s => obtain ⟨dx, hx⟩ := he; exact ⟨_, _, _, hx, T.cl_Over, T.me_Over_sizes, rfl⟩
  | under i j s => obtain ⟨dx, hx⟩ := he; exact ⟨_, _, _, hx, T.cl_Under, T.me_Under_sizes, rfl⟩
  | rose i j l h => obtain ⟨dx, hx⟩ := he; exact ⟨_, _, _, hx, T.cl_Rose, T.me_Rose_sizes, rfl⟩
  | turn t => obtain ⟨dx, hx⟩ := he; exact ⟨_, _, _, hx, T.cl_Turned, T.me_Turned_sizes, rfl⟩
theorem EvIs.nl {T : Tx K mg} {H H' : Hp} {x : Addr} {tr : Tr} (h : EvIs T H x tr) (s : Nl H H') : EvIs T H' x tr := by
  cases tr
  case stay => obtain ⟨dx, p, a, b⟩ := h; exact ⟨dx, p, s _ _ (fun _ z => nomatch z) a, s _ _ (fun _ z => nomatch z) b⟩
  case pace => obtain ⟨dx, p, a, b⟩ := h; exact ⟨dx, p, s _ _ (fun _ z => nomatch z) a, s _ _ (fun _ z => nomatch z) b⟩
  all_goals (obtain ⟨dx, a⟩ := h; exact ⟨dx, s _ _ (fun _ z => nomatch z) a⟩)
theorem far_in {tr : Tr} (hg : goodT tr) : 0 ≤ farT tr ∧ farT tr ≤ 11 := by
  cases tr with
  | stay i j l h => obtain ⟨a, b, c⟩ := (hg : okT i j); exact ⟨by show 0 ≤ j; omega, c⟩
  | pace i j l h => obtain ⟨a, b, c⟩ := (hg : okT i j); exact ⟨by show 0 ≤ j; omega, c⟩
  | over i j s => obtain ⟨a, b, c⟩ := (hg : okT i j); exact ⟨by show 0 ≤ j; omega, c⟩
  | under i j s => obtain ⟨a, b, c⟩ := (hg : okT i j); exact ⟨by show 0 ≤ j; omega, c⟩
  | rose i j l h => obtain ⟨a, b, c⟩ := (hg.1 : okT i j); exact ⟨by show 0 ≤ j; omega, c⟩
  | turn t => obtain ⟨a, b⟩ := (hg : 0 < t ∧ t < 11); exact ⟨by show 0 ≤ t + 1; omega, by show t + 1 ≤ 11; omega⟩
theorem due_dat {K : PySem.W.Frag} {H : Hp} {d : Addr} {m n : Int} (h : H d = some (.tup [.int m, .int n])) : Dat K H (.ref d) (.tuple [.int m, .int n]) := .tup (SqT.of h) (.cons (.int _) (.cons (.int _) .nil))
theorem due_gd (m n : Int) : Gd 1 (.tuple [.int m, .int n]) := .of rfl
theorem cl_mem {H0 H : Hp} {ys : List V} {cls : List (List Pa)} {a : Addr} (h : All2 (IsClf H0 H) ys cls) (ha : V.ref a ∈ ys) : ∃ xs ps, ps ∈ cls ∧ H0 a = none ∧ H a = some (.lst xs) ∧ Pas H xs ps := by
  obtain ⟨i, hi⟩ := List.mem_iff_getElem?.mp ha
  obtain ⟨ps, hp, c, xs, e, n, hx, hP⟩ := h.get hi
  cases e
  exact ⟨xs, ps, List.mem_of_getElem? hp, n, hx, hP⟩
theorem str_ok {far : Int} {ps : List Pa} (h : okCs far ps) : ∀ p ∈ ps, PyData.strOk p.1 = true := fun p hp => by
  rcases (h.2 p hp).1 with ⟨e, _⟩ | ⟨e, _⟩
  · rw [e]; decide +kernel
  · rw [e]; decide +kernel
def chg (ys zs : List V) (l m a : Addr) : Prop := V.ref a ∈ ys ++ zs ∨ a = l ∨ a = m
def inv_app (H1 : Hp) (σ0 : Option V → St) (P : Addr → Prop) (i : Nat) (σ : St) (H2 : Hp) : Prop := ∃ e, σ = σ0 e ∧ Kp P H1 H2 ∧ ∀ a, P a → ∃ xs, H2 a = some (.lst xs) ∧ xs.length ≤ 150 + i
def sp_asked (K : PySem.W.Frag) : Sp := fun vs H Q _ => ∃ (p a b : Addr) (tr : Tr) (cs ds : List Int), vs = [.ref p, .ref a, .ref b] ∧ H p = some (.tup (trV tr)) ∧ goodT tr ∧ spanT tr ∧ SqL K H a (cs.map V.int) ∧ SqL K H b (ds.map V.int) ∧ cs.length = 12 ∧ ds.length = 12 ∧ ∀ H', Same H H' → Q (.bl true) H'
theorem ok_law_asked_of (T : Tx K mg) : FnOk P w K mg base (CXX P w) 5 T.a_law_asked_of T.fd_law_asked_of ["_law_tree", "_law_one", "_law_other"] (sp_asked K) := by
  refine okN T.F_law_asked_of sc_law_asked_of (fun vs H Q E h => ?_) (fun cdv A outer s H vs Q E hr h => ?_)
  · obtain ⟨p, a, b, tr, cs, ds, rfl, _⟩ := h
    rfl
  · obtain ⟨p, a, b, tr, cs, ds, rfl, hp, hg, hsp, hS, hT, hc, hd, q⟩ := h
    refine ⟨_, (pss_cons (ps_set (i := 3) sc_law_asked_of.nd rfl (Or.inl rfl) (pe_call (ok_law_event T) (hr.mono (by decide)) rfl T.m_law_event T.F_law_event.kp T.b_law_event .nil passE0 (pa_cons (pv 0) pa_nil)))
    (pss_cons (ps_set (i := 4) sc_law_asked_of.nd rfl (Or.inl rfl) (pe_call (ok_law_counts T) (hr.mono (by decide)) rfl T.m_law_counts T.F_law_counts.kp T.b_law_counts .nil passE0 (pa_cons (pv 0) pa_nil)))
    (pss_cons (ps_set (i := 5) sc_law_asked_of.nd rfl (Or.inl rfl) (pe_methV0 (pv 3) (ok_Event_sizes T) (hr.mono (by decide)) T.b_Event_sizes .nil passE0))
    (pss_cons (ps_if (PW.pt (pw_or (pt_not (pt_val (pe_callB call_isiA (by rfl) T.n_isinstance b_isinstance (pa_cons (pv 5) (pa_cons (pe_bltn (v := .ty "tuple") rfl T.n_tuple b_tuple rfl) pa_nil))))) (pw_or (pt_cmpR op_ne (pe_callB call_len (by rfl) T.n_len b_len (pa_cons (pv 5) pa_nil)) pe_int (nomark _)) (pw_or (pt_not (pt_val (pe_call (ok_law_whole T) (hr.mono (by decide)) rfl T.m_law_whole T.F_law_whole.kp T.b_law_whole .nil passE0 (pa_cons (pe_ix ix_seq (pv 5) pe_int (fun _ _ => rfl)) pa_nil)))) (pw_or1 (pt_not (pt_val (pe_call (ok_law_whole T) (hr.mono (by decide)) rfl T.m_law_whole T.F_law_whole.kp T.b_law_whole .nil passE0 (pa_cons (pe_ix ix_seq (pv 5) pe_int (fun _ _ => rfl)) pa_nil))))))))) (pss_one (ps_ret pe_bl)) pss_nil)
    (pss_cons (ps_set (i := 6) sc_law_asked_of.nd rfl (Or.inl rfl) (pe_ev (pe_methV0 (pv 3) (ok_Stayed_ways T) (hr.mono (by decide)) T.b_Stayed_ways .nil passE0) (pe_ev (pe_methV0 (pv 3) (ok_Over_ways T) (hr.mono (by decide)) T.b_Over_ways .nil passE0) (pe_ev (pe_methV0 (pv 3) (ok_Under_ways T) (hr.mono (by decide)) T.b_Under_ways .nil passE0) (pe_ev (pe_methV0 (pv 3) (ok_Rose_ways T) (hr.mono (by decide)) T.b_Rose_ways .nil passE0) (pe_ev (pe_methV0 (pv 3) (ok_Paced_ways T) (hr.mono (by decide)) T.b_Paced_ways .nil passE0) (pe_methV0 (pv 3) (ok_Turned_ways T) (hr.mono (by decide)) T.b_Turned_ways .nil passE0)))))))
    (pss_cons (ps_set (i := 7) sc_law_asked_of.nd rfl (Or.inl rfl) (pe_ev (pe_methV0 (pv 3) (ok_Stayed_breaks T) (hr.mono (by decide)) T.b_Stayed_breaks .nil passE0) (pe_ev (pe_methV0 (pv 3) (ok_Over_breaks T) (hr.mono (by decide)) T.b_Over_breaks .nil passE0) (pe_ev (pe_methV0 (pv 3) (ok_Under_breaks T) (hr.mono (by decide)) T.b_Under_breaks .nil passE0) (pe_ev (pe_methV0 (pv 3) (ok_Rose_breaks T) (hr.mono (by decide)) T.b_Rose_breaks .nil passE0) (pe_ev (pe_methV0 (pv 3) (ok_Paced_breaks T) (hr.mono (by decide)) T.b_Paced_breaks .nil passE0) (pe_methV0 (pv 3) (ok_Turned_breaks T) (hr.mono (by decide)) T.b_Turned_breaks .nil passE0)))))))
    (pss_cons (ps_set (i := 8) sc_law_asked_of.nd rfl (Or.inl rfl) (pe_call (ok_law_farthest T) (hr.mono (by decide)) rfl T.m_law_farthest T.F_law_farthest.kp T.b_law_farthest .nil passE0 (pa_cons (pv 0) pa_nil)))
    (pss_cons (ps_if (PW.pt (pw_or (pt_cmpR (op_neD hr.units) (pv 5) (pv 4) (nomark _)) (pw_or (pt_not (pt_val (pe_call (ok_law_claims T) (hr.mono (by decide)) rfl T.m_law_claims T.F_law_claims.kp T.b_law_claims .nil passE0 (pa_cons (pv 6) (pa_cons (pe_ix ix_seq (pv 4) pe_int (fun _ _ => rfl)) (pa_cons (pv 8) pa_nil)))))) (pw_or1 (pt_not (pt_val (pe_call (ok_law_claims T) (hr.mono (by decide)) rfl T.m_law_claims T.F_law_claims.kp T.b_law_claims .nil passE0 (pa_cons (pv 7) (pa_cons (pe_ix ix_seq (pv 4) pe_int (fun _ _ => rfl)) (pa_cons (pv 8) pa_nil)))))))))) (pss_one (ps_ret pe_bl)) pss_nil)
    (pss_cons (ps_if (PW.pt (pw_or (pt_not (pt_val (pe_call (ok_law_fitting T) (hr.mono (by decide)) rfl T.m_law_fitting T.F_law_fitting.kp T.b_law_fitting .nil passE0 (pa_cons (pv 0) (pa_cons (pv 6) (pa_cons (pv 7) (pa_cons (pv 1) pa_nil))))))) (pw_or1 (pt_not (pt_val (pe_call (ok_law_fitting T) (hr.mono (by decide)) rfl T.m_law_fitting T.F_law_fitting.kp T.b_law_fitting .nil passE0 (pa_cons (pv 0) (pa_cons (pv 6) (pa_cons (pv 7) (pa_cons (pv 2) pa_nil)))))))))) (pss_one (ps_ret pe_bl)) pss_nil)
    (pss_cons (ps_set (i := 9) sc_law_asked_of.nd rfl (Or.inl rfl) (pe_tup (pa_cons (pe_comp (CompOk.mk (fr := []) (ys := []) rfl (by decide +kernel) rfl (by decide +kernel) rfl rfl .nil .nil (by decide) rfl) rfl (pi_list (pv 6)) (fun C s2 H2 ex pn => ⟨pts_nil, (pe_callTy (call_list_ofK (K := K) rfl) (by rfl) T.n_list b_list (pa_cons (pv 0) pa_nil))⟩)) (pa_cons (pe_comp (CompOk.mk (fr := []) (ys := []) rfl (by decide +kernel) rfl (by decide +kernel) rfl rfl .nil .nil (by decide) rfl) rfl (pi_list (pv 7)) (fun C s2 H2 ex pn => ⟨pts_nil, (pe_callTy (call_list_ofK (K := K) rfl) (by rfl) T.n_list b_list (pa_cons (pv 0) pa_nil))⟩)) pa_nil))))
    (pss_cons (ps_for PassesOwn.never rfl (pi_list (pe_op op_cat (pv 6) (pv 7))) (pg_name (i := 10) sc_law_asked_of.nd rfl (Or.inl rfl)) (pss_one (ps_expr (pe_bm PySem.F.plainAttrs_list PySem.F.slot_list_append PySem.F.type_list_append mt_append (pv 10) (pa_cons (pe_tup (pa_cons pe_str (pa_cons pe_int (pa_cons (pe_tup (pa_cons pe_int (pa_cons pe_int pa_nil))) pa_nil)))) pa_nil)))))
    (pss_cons (ps_expr (pe_bm PySem.F.plainAttrs_list PySem.F.slot_list_append PySem.F.type_list_append mt_append (pv 6) (pa_cons (pe_lst pa_nil) pa_nil)))
    (pss_cons (ps_expr (pe_bm PySem.F.plainAttrs_list PySem.F.slot_list_append PySem.F.type_list_append mt_append (pv 7) (pa_cons (pe_lst pa_nil) pa_nil)))
    (pss_one (ps_ret (pe_and (pe_cmpR (op_eqD hr.units) (pe_ev (pe_methV0 (pv 3) (ok_Stayed_breaks T) (hr.mono (by decide)) T.b_Stayed_breaks .nil passE0) (pe_ev (pe_methV0 (pv 3) (ok_Over_breaks T) (hr.mono (by decide)) T.b_Over_breaks .nil passE0) (pe_ev (pe_methV0 (pv 3) (ok_Under_breaks T) (hr.mono (by decide)) T.b_Under_breaks .nil passE0) (pe_ev (pe_methV0 (pv 3) (ok_Rose_breaks T) (hr.mono (by decide)) T.b_Rose_breaks .nil passE0) (pe_ev (pe_methV0 (pv 3) (ok_Paced_breaks T) (hr.mono (by decide)) T.b_Paced_breaks .nil passE0) (pe_methV0 (pv 3) (ok_Turned_breaks T) (hr.mono (by decide)) T.b_Turned_breaks .nil passE0)))))) (pe_ix ix_seq (pv 9) pe_int (fun _ _ => rfl)) (nomark _)) (pe_and (pe_cmpR (op_eqD hr.units) (pe_ev (pe_methV0 (pv 3) (ok_Stayed_ways T) (hr.mono (by decide)) T.b_Stayed_ways .nil passE0) (pe_ev (pe_methV0 (pv 3) (ok_Over_ways T) (hr.mono (by decide)) T.b_Over_ways .nil passE0) (pe_ev (pe_methV0 (pv 3) (ok_Under_ways T) (hr.mono (by decide)) T.b_Under_ways .nil passE0) (pe_ev (pe_methV0 (pv 3) (ok_Rose_ways T) (hr.mono (by decide)) T.b_Rose_ways .nil passE0) (pe_ev (pe_methV0 (pv 3) (ok_Paced_ways T) (hr.mono (by decide)) T.b_Paced_ways .nil passE0) (pe_methV0 (pv 3) (ok_Turned_ways T) (hr.mono (by decide)) T.b_Turned_ways .nil passE0)))))) (pe_ix ix_seq (pv 9) pe_int (fun _ _ => rfl)) (nomark _)) (pe_one (pe_cmpR (op_eqD hr.units) (pe_methV0 (pv 3) (ok_Event_sizes T) (hr.mono (by decide)) T.b_Event_sizes .nil passE0) (pv 4) (nomark _)))))))))))))))))))), ?_⟩
    have hff := far_in hg
    have wcs := ways_cs hg hsp
    have bcs := breaks_cs hg
    have wn := ways_n hg
    have bn := breaks_n hg
    refine seq_cut (fun σ H1 => ∃ x, σ = [some (.ref p), some (.ref a), some (.ref b), some (.ref x), none, none, none, none, none, none, none] ∧ Same H H1 ∧ EvIs T H1 x tr) (fun N hN => ?_) ?_
    · walk_at "gzn"
      exact ⟨p, tr, rfl, hp, hg, fun x H1 s1 he => hN _ _ ⟨x, rfl, s1, he⟩⟩
    rintro σ H1 ⟨x, rfl, s1, he⟩
    refine seq_cut (fun σ H2 => ∃ d, σ = [some (.ref p), some (.ref a), some (.ref b), some (.ref x), some (.ref d), none, none, none, none, none, none] ∧ Same H1 H2 ∧ H2 d = some (.tup [.int (waysT tr).length, .int (breaksT tr).length])) (fun N hN => ?_) ?_
    · walk_at "gzn"
      exact ⟨p, tr, rfl, s1 _ _ hp, hg, fun d H2 s2 hd => hN _ _ ⟨d, rfl, s2, hd⟩⟩
    rintro σ H2 ⟨d, rfl, s2, hdu⟩
    refine seq_cut (fun σ H3 => ∃ f, σ = [some (.ref p), some (.ref a), some (.ref b), some (.ref x), some (.ref d), some (.ref f), none, none, none, none, none] ∧ Same H2 H3 ∧ H3 f = some (.tup [.int (waysT tr).length, .int (breaksT tr).length])) (fun N hN => ?_) ?_
    · walk_at "gzn"
      obtain ⟨C, dx, fs, hx, hcl, hme, hlo⟩ := ev_sz T (he.same s2)
      exact ⟨_, _, _, hx, hcl, hme, hlo, x, tr, rfl, he.same s2, hg, fun f H3 s3 hf => hN _ _ ⟨f, rfl, s3, hf⟩⟩
    rintro σ H3 ⟨f, rfl, s3, hf⟩
    have he3 := he.same (s2.trans s3)
    have S3 : Same H H3 := s1.trans (s2.trans s3)
    have hd3 := s3 _ _ hdu
    clear he hdu s1 s2 s3
    refine seq_cut (fun σ H4 => σ = [some (.ref p), some (.ref a), some (.ref b), some (.ref x), some (.ref d), some (.ref f), none, none, none, none, none] ∧ H4 = H3) (fun N hN => ?_) ?_
    · walk_at "gzn"
      refine isi_tup hf ?_
      walk_at "gzn"
      refine ⟨_, lenT (SqT.of hf), ?_⟩
      walk_at "gzn"
      refine ixT (SqT.of hf) rfl ⟨_, rfl, .inr ⟨_, rfl⟩, ?_⟩
      simp only [isWhole]
      walk_at "gzn"
      refine ixT (SqT.of hf) rfl ⟨_, rfl, .inr ⟨_, rfl⟩, ?_⟩
      simp only [isWhole]
      walk_at "gzn"
      exact hN _ _ ⟨rfl, rfl⟩
    rintro σ H4 ⟨rfl, rfl⟩
    refine seq_cut (fun σ H5 => ∃ l ys, σ = [some (.ref p), some (.ref a), some (.ref b), some (.ref x), some (.ref d), some (.ref f), some (.ref l), none, none, none, none] ∧ Same H4 H5 ∧ H4 l = none ∧ H5 l = some (.lst ys) ∧ All2 (IsClf H4 H5) ys (waysT tr)) (fun N hN => ?_) ?_
    · walk_at "gzn"
      exact ev_ways T he3 hg _ fun l ys H5 s5 fl hl hy => hN _ _ ⟨l, ys, rfl, s5, fl, hl, hy⟩
    rintro σ H5 ⟨l, ys, rfl, s5, fl, hl, hy⟩
    refine seq_cut (fun σ H6 => ∃ m zs, σ = [some (.ref p), some (.ref a), some (.ref b), some (.ref x), some (.ref d), some (.ref f), some (.ref l), some (.ref m), none, none, none] ∧ Same H5 H6 ∧ H5 m = none ∧ H6 m = some (.lst zs) ∧ All2 (IsClf H5 H6) zs (breaksT tr)) (fun N hN => ?_) ?_
    · walk_at "gzn"
      exact ev_breaks T (he3.same s5) hg _ fun m zs H6 s6 fm hm hz => hN _ _ ⟨m, zs, rfl, s6, fm, hm, hz⟩
    rintro σ H6 ⟨m, zs, rfl, s6, fm, hm, hz⟩
    have S6 : Same H4 H6 := s5.trans s6
    have hl6 := s6 _ _ hl
    have hy6 := hy.imp fun _ _ r => r.same s6
    have hz6 := hz.imp fun _ _ r => r.back s5
    have fm6 := s5.free fm
    have he6 := he3.same S6
    have hd6 := S6 _ _ hd3
    have hf6 := S6 _ _ hf
    clear he3 hd3 hf hy hz hl fm s5 s6
    have S7 := S3.trans S6
    refine seq_cut (fun σ H7 => σ = [some (.ref p), some (.ref a), some (.ref b), some (.ref x), some (.ref d), some (.ref f), some (.ref l), some (.ref m), some (.int (farT tr)), none, none] ∧ H7 = H6) (fun N hN => ?_) ?_
    · walk_at "gzn"
      exact ⟨p, tr, rfl, S7 _ _ hp, hN _ _ ⟨rfl, rfl⟩⟩
    rintro σ H7 ⟨rfl, rfl⟩
    have cy := hy6.imp fun _ _ r => r.cl
    have cz := hz6.imp fun _ _ r => r.cl
    have gd2 := due_gd (waysT tr).length (breaksT tr).length
    refine seq_cut (fun σ H8 => σ = [some (.ref p), some (.ref a), some (.ref b), some (.ref x), some (.ref d), some (.ref f), some (.ref l), some (.ref m), some (.int (farT tr)), none, none] ∧ Same H7 H8) (fun N hN => ?_) ?_
    · walk_at "gzn"
      refine eq_good (due_dat hf6) (due_dat hd6) gd2 (by decide) ?_
      walk_at "gzn"
      refine ixT (SqT.of hd6) rfl ?_
      refine ⟨l, _, _, ys, _, rfl, hl6, cy, rfl, wcs, fun H8 s8 => ?_⟩
      walk_at "gzn"
      refine ixT (SqT.of (s8 _ _ hd6)) rfl ?_
      refine ⟨m, _, _, zs, _, rfl, s8 _ _ hm, cz.imp fun _ _ r => r.same s8, rfl, bcs, fun H9 s9 => ?_⟩
      walk_at "gzn"
      exact hN _ _ ⟨rfl, s8.trans s9⟩
    rintro σ H8 ⟨rfl, s8⟩
    have okw : ∀ es : List Int, es.length = 12 → ∀ ps ∈ waysT tr, okPs es ps := fun es h ps hps => (wcs ps hps).ps (by omega)
    have okb : ∀ es : List Int, es.length = 12 → ∀ ps ∈ breaksT tr, okPs es ps := fun es h ps hps => (bcs ps hps).ps (by omega)
    refine seq_cut (fun σ H9 => σ = [some (.ref p), some (.ref a), some (.ref b), some (.ref x), some (.ref d), some (.ref f), some (.ref l), some (.ref m), some (.int (farT tr)), none, none] ∧ Same H8 H9) (fun N hN => ?_) ?_
    · walk_at "gzn"
      have F : ∀ (c : Addr) (es : List Int) (H' : Hp) (Q : VK), Same H8 H' → SqL K H c (es.map V.int) → es.length = 12 → (∀ H2, Same H8 H2 → Q (.bl true) H2) → sp_fitting K [.ref p, .ref l, .ref m, .ref c] H' Q E0 := fun c es H' Q s h hl q => by
        have s2 := s8.trans s
        exact ⟨p, l, m, c, tr, ys, zs, es, rfl, (S7.trans s2) _ _ hp, hg, s2 _ _ hl6, cy.imp fun _ _ r => r.same s2, s2 _ _ hm, cz.imp fun _ _ r => r.same s2, (S7.trans s2).seq h, by omega, by omega, by omega, by omega, okw es hl, okb es hl, breaks_not hg es, fun H2 s3 => q H2 (s.trans s3)⟩
      refine F a cs _ _ (Same.refl _) hS hc fun H9 s9 => ?_
      walk_at "gzn"
      refine F b ds _ _ s9 hT hd fun H10 s10 => ?_
      walk_at "gzn"
      exact hN _ _ ⟨rfl, s10⟩
    rintro σ H9 ⟨rfl, s9⟩
    have S9 : Same H7 H9 := s8.trans s9
    clear s8 s9 okw okb
    have hl9 := S9 _ _ hl6
    have hm9 := S9 _ _ hm
    have cy9 := cy.imp fun _ _ r => r.same S9
    have cz9 := cz.imp fun _ _ r => r.same S9
    have ly := cy.len
    have lz := cz.len
    refine seq_cut (fun σ H10 => ∃ k k0 k1 us vs, σ = [some (.ref p), some (.ref a), some (.ref b), some (.ref x), some (.ref d), some (.ref f), some (.ref l), some (.ref m), some (.int (farT tr)), some (.ref k), none] ∧ Same H9 H10 ∧ H10 k = some (.tup [.ref k0, .ref k1]) ∧ H9 k0 = none ∧ H10 k0 = some (.lst us) ∧ All2 (IsClf H9 H10) us (waysT tr) ∧ H9 k1 = none ∧ H10 k1 = some (.lst vs) ∧ All2 (IsClf H9 H10) vs (breaksT tr)) (fun N hN => ?_) ?_
    · walk_at "gzn"
      refine ⟨⟨_, SqL.of hl9⟩, blk_of it_list (Nat.le_trans (by omega : ys.length ≤ 150) (by decide)) (compGo_new (R := IsCl) (R' := IsClf H9) (f := fun ps => ps) (fun _ _ _ _ s' h => h.same s') (fun _ _ _ _ s' h => h.same s') cy9 (bs := []) trivial (fun H' s' => SqL.of (s' _ _ hl9)) (fun x k _ H2 s2 r Q h => ?_) (fun x ps _ H2 s2 r Q h => ?_) fun H2 us s2 hu => ?_)⟩
      · walk_at "gzn"
        exact h
      · obtain ⟨c, xs, rfl, hc, hP⟩ := r
        walk_at "gzn"
        exact ⟨_, .inl (SqL.of hc), fun k hk => h _ _ (same_upd hk) ⟨k, xs, rfl, s2.free hk, upd_same, hP.same (same_upd hk)⟩⟩
      rw [List.nil_append, List.map_id'] at hu
      intro k0 hk0
      have t1 := s2.trans (same_upd (o := .lst us) hk0)
      have e0 : upd H2 k0 (.lst us) k0 = some (.lst us) := upd_same
      have hu1 := hu.imp fun _ _ r => r.same (same_upd (o := .lst us) hk0)
      have f0 := s2.free hk0
      generalize upd H2 k0 (.lst us) = H3 at t1 e0 hu1 ⊢
      clear hu s2 hk0
      walk_at "gzn"
      refine ⟨⟨_, SqL.of (t1 _ _ hm9)⟩, blk_of it_list (Nat.le_trans (by omega : zs.length ≤ 150) (by decide)) (compGo_new (R := IsCl) (R' := IsClf H9) (f := fun ps => ps) (fun _ _ _ _ s' h => h.same s') (fun _ _ _ _ s' h => h.same s') (cz9.imp fun _ _ r => r.same t1) (bs := []) trivial (fun H' s' => SqL.of (s' _ _ (t1 _ _ hm9))) (fun x k _ H2 s2 r Q h => ?_) (fun x ps _ H2 s2 r Q h => ?_) fun H2 vs s2 hv => ?_)⟩
      · walk_at "gzn"
        exact h
      · obtain ⟨c, xs, rfl, hc, hP⟩ := r
        walk_at "gzn"
        exact ⟨_, .inl (SqL.of hc), fun k hk => h _ _ (same_upd hk) ⟨k, xs, rfl, (t1.trans s2).free hk, upd_same, hP.same (same_upd hk)⟩⟩
      rw [List.nil_append, List.map_id'] at hv
      intro k1 hk1
      have t2 := s2.trans (same_upd (o := .lst vs) hk1)
      have e1 : upd H2 k1 (.lst vs) k1 = some (.lst vs) := upd_same
      have hv1 := hv.imp fun _ _ r => r.same (same_upd (o := .lst vs) hk1)
      have f1 := (t1.trans s2).free hk1
      generalize upd H2 k1 (.lst vs) = H10 at t2 e1 hv1 ⊢
      refine ⟨line2, fun k hk => hN _ _ ⟨k, k0, k1, us, vs, rfl, t1.trans (t2.trans (same_upd hk)), upd_same, f0, (t2.trans (same_upd hk)) _ _ e0, hu1.imp fun _ _ r => r.same (t2.trans (same_upd hk)), f1, (same_upd hk) _ _ e1, hv1.imp fun _ _ r => r.same (same_upd hk)⟩⟩
    rintro σ H10 ⟨k, k0, k1, us, vs, rfl, s10, hk, f0, e0, hu, f1, e1, hv⟩
    have S10 : Same H7 H10 := S9.trans s10
    have P7 : ∀ c, chg ys zs l m c → H c = none ∧ ∃ xs, H7 c = some (.lst xs) ∧ xs.length ≤ 150 := fun c hc => by
      rcases hc with hc | rfl | rfl
      · rcases List.mem_append.mp hc with hc | hc
        · obtain ⟨xs, ps, hps, n, h, hP⟩ := cl_mem hy6 hc
          have := (wcs ps hps).1
          have := hP.len
          exact ⟨S3.free n, xs, h, by omega⟩
        · obtain ⟨xs, ps, hps, n, h, hP⟩ := cl_mem hz6 hc
          have := (bcs ps hps).1
          have := hP.len
          exact ⟨S3.free n, xs, h, by omega⟩
      · exact ⟨S3.free fl, _, hl6, by omega⟩
      · exact ⟨S3.free fm6, _, hm, by omega⟩
    refine seq_cut (fun σ H12 => ∃ (e : Option V) (g : Addr) (H11 : Hp), σ = [some (.ref p), some (.ref a), some (.ref b), some (.ref x), some (.ref d), some (.ref f), some (.ref l), some (.ref m), some (.int (farT tr)), some (.ref k), e] ∧ Same H10 H11 ∧ Kp (chg ys zs l m) H11 H12 ∧ ∀ a, chg ys zs l m a → ∃ xs, H12 a = some (.lst xs) ∧ xs.length ≤ 500) (fun N hN => ?_) ?_
    · walk_at "gzn"
      refine ⟨_, S10 _ _ hl6, _, S10 _ _ hm, Nat.le_trans (by omega : ys.length + zs.length ≤ 300) (by decide), fun g hg0 => ?_⟩
      have sg := same_upd (o := .lst (ys ++ zs)) hg0
      have eg : upd H10 g (.lst (ys ++ zs)) g = some (.lst (ys ++ zs)) := upd_same
      generalize upd H10 g (.lst (ys ++ zs)) = H11 at sg eg ⊢
      have gn : ¬ chg ys zs l m g := fun z => by
        obtain ⟨_, xs, h, _⟩ := P7 g z
        rw [S10 _ _ h] at hg0
        cases hg0
      refine ⟨⟨_, SqL.of eg⟩, by_list (xs := ys ++ zs) (inv_app H11 (fun e => [some (.ref p), some (.ref a), some (.ref b), some (.ref x), some (.ref d), some (.ref f), some (.ref l), some (.ref m), some (.int (farT tr)), some (.ref k), e]) (chg ys zs l m)) ⟨_, rfl, Kp.refl, fun c hc => ?_⟩ ?_ ?_ ?_⟩
      · obtain ⟨_, xs, h, hl⟩ := P7 c hc
        exact ⟨xs, (S10.trans sg) _ _ h, hl⟩
      · rintro i σ H2 _ ⟨_, _, kp, _⟩
        exact SqL.of (kp _ _ gn eg)
      · rintro i v σ H2 hv2 ⟨e, rfl, kp, hP⟩
        have hin := List.mem_of_getElem? hv2
        have hi : i < 300 := by
          have := (List.getElem?_eq_some_iff.mp hv2).1
          rw [List.length_append] at this
          omega
        obtain ⟨c, rfl⟩ : ∃ c, v = .ref c := by
          rcases List.mem_append.mp hin with h | h
          · obtain ⟨i, hi⟩ := List.mem_iff_getElem?.mp h
            obtain ⟨_, _, c, _, e, _⟩ := hy6.get hi
            exact ⟨c, e⟩
          · obtain ⟨i, hi⟩ := List.mem_iff_getElem?.mp h
            obtain ⟨_, _, c, _, e, _⟩ := hz6.get hi
            exact ⟨c, e⟩
        have hcP : chg ys zs l m c := .inl hin
        obtain ⟨xs, hx, hxl⟩ := hP c hcP
        walk_at "gzn"
        refine ⟨.inl ⟨rfl, _, SqL.of hx⟩, line2, fun t1 ht1 => ⟨by decide, fun t2 ht2 => ?_⟩⟩
        have u := (same_upd (o := .tup [.int 0, .int 0]) ht1).trans (same_upd (o := .tup [.str "at", .int 0, .ref t1]) ht2)
        refine ⟨xs, u _ _ hx, Nat.lt_of_le_of_lt (by omega : xs.length ≤ 450) (by decide), _, rfl, (kp.same u).put hcP, fun a2 ha2 => ?_⟩
        by_cases e2 : a2 = c
        · subst e2
          exact ⟨_, upd_same, by rw [List.length_append, List.length_singleton]; omega⟩
        · obtain ⟨ws, hw, hwl⟩ := hP a2 ha2
          exact ⟨ws, by rw [upd_ne e2]; exact u _ _ hw, by omega⟩
      · rintro σ H2 ⟨e, rfl, kp, hP⟩
        refine hN _ _ ⟨e, g, H11, rfl, sg, kp, fun c hc => ?_⟩
        obtain ⟨xs, h1, h2⟩ := hP c hc
        rw [List.length_append] at h2
        exact ⟨xs, h1, by omega⟩
    rintro σ H12 ⟨e, g, H11, rfl, s11, kp, hP⟩
    walk_at "gzn"
    obtain ⟨xl, hxl, nl⟩ := hP l (.inr (.inl rfl))
    refine ⟨.inl ⟨rfl, _, SqL.of hxl⟩, Nat.zero_le _, fun p1 hp1 => ?_⟩
    have u1 := same_upd (o := .lst []) hp1
    refine ⟨xl, u1 _ _ hxl, Nat.lt_of_le_of_lt nl (by decide), ?_⟩
    have kp1 := (kp.same u1).put (o := .lst (xl ++ [.ref p1])) (show chg ys zs l m l from .inr (.inl rfl))
    obtain ⟨xm, hxm, nm⟩ : ∃ xs, upd (upd H12 p1 (.lst [])) l (.lst (xl ++ [.ref p1])) m = some (.lst xs) ∧ xs.length ≤ 501 := by
      by_cases e2 : m = l
      · subst e2; exact ⟨_, upd_same, by rw [List.length_append, List.length_singleton]; omega⟩
      · obtain ⟨xs, h1, h2⟩ := hP m (.inr (.inr rfl))
        exact ⟨xs, by rw [upd_ne e2]; exact u1 _ _ h1, by omega⟩
    generalize upd (upd H12 p1 (.lst [])) l (.lst (xl ++ [.ref p1])) = H13 at kp1 hxm ⊢
    refine ⟨.inl ⟨rfl, _, SqL.of hxm⟩, Nat.zero_le _, fun p2 hp2 => ?_⟩
    have u2 := same_upd (o := .lst []) hp2
    refine ⟨xm, u2 _ _ hxm, Nat.lt_of_le_of_lt nm (by decide), ?_⟩
    have kp2 := (kp1.same u2).put (o := .lst (xm ++ [.ref p2])) (show chg ys zs l m m from .inr (.inr rfl))
    generalize upd (upd H13 p2 (.lst [])) m (.lst (xm ++ [.ref p2])) = H14 at kp2 ⊢
    have S11 : Same H7 H11 := S10.trans s11
    have nl14 : Nl H11 H14 := kp2.nl fun c hc => by
      obtain ⟨_, xs, h, _⟩ := P7 c hc
      exact ⟨xs, S11 _ _ h⟩
    have he14 := (he6.same S11).nl nl14
    have hk14 := nl14 k (.tup [.ref k0, .ref k1]) (fun _ z => nomatch z) (s11 _ _ hk)
    have hd14 := nl14 d (.tup [.int (waysT tr).length, .int (breaksT tr).length]) (fun _ z => nomatch z) (S11 _ _ hd6)
    have nP : ∀ c, chg ys zs l m c → H9 c ≠ none := fun c hc z => by
      obtain ⟨_, xs, h, _⟩ := P7 c hc
      rw [S9 _ _ h] at z
      cases z
    have e0' := kp2 _ _ (fun z => nP _ z f0) (s11 _ _ e0)
    have e1' := kp2 _ _ (fun z => nP _ z f1) (s11 _ _ e1)
    have hu14 := hu.imp fun _ _ r => (r.same s11).kp kp2 nl14 nP
    have hv14 := hv.imp fun _ _ r => (r.same s11).kp kp2 nl14 nP
    have S14 : Same H H14 := kp2.new (S7.trans S11) fun c hc => (P7 c hc).1
    refine ev_breaks T he14 hg _ fun r rs H15 s15 _ hr15 hrs => ?_
    walk_at "gzn"
    refine ixT (SqT.of (s15 _ _ hk14)) rfl ?_
    refine eq_good (cls_dat hr15 (hrs.imp fun _ _ r => r.cl)) (cls_dat (s15 _ _ e1') (hv14.imp fun _ _ r => r.same s15)) (gd_Cls fun ps hps => str_ok (bcs ps hps)) (by decide) ?_
    walk_at "gzn"
    refine ev_ways T (he14.same s15) hg _ fun r2 rs2 H16 s16 _ hr16 hrs2 => ?_
    have S16 := s15.trans s16
    walk_at "gzn"
    refine ixT (SqT.of (S16 _ _ hk14)) rfl ?_
    refine eq_good (cls_dat hr16 (hrs2.imp fun _ _ r => r.cl)) (cls_dat (S16 _ _ e0') (hu14.imp fun _ _ r => r.same S16)) (gd_Cls fun ps hps => str_ok (wcs ps hps)) (by decide) ?_
    walk_at "gzn"
    obtain ⟨C, dx, fs, hx, hcl, hme, hlo⟩ := ev_sz T (he14.same S16)
    refine ⟨_, _, _, hx, hcl, hme, hlo, x, tr, rfl, he14.same S16, hg, fun f2 H17 s17 hf2 => ?_⟩
    walk_at "gzn"
    exact eq_good (due_dat hf2) (due_dat ((S16.trans s17) _ _ hd14)) gd2 (by decide) (q _ (S14.trans (S16.trans s17)))
end
section
seal L2.PE L2.PS L2.PSs L2.PA
variable {P : Program} {w : World} {K : PySem.W.Frag} {mg : Str → Option Value} {base : Heap}
def sp_law (K : PySem.W.Frag) : Sp := fun vs H Q _ => ∃ (a : Addr) (ns : List Int), vs = [.ref a] ∧ SqL K H a (ns.map V.int) ∧ Scr ns ∧ ∀ H', Q (.bl true) H'
def inv_law (H : Hp) (a : Addr) (b : Int) (_ : Nat) (σ : St) (H1 : Hp) : Prop := ∃ (e1 e2 e3 e4 : Option V), σ = [some (.ref a), some (.int b), e1, e2, e3, e4] ∧ Same H H1
theorem ok_law (T : Tx K mg) : FnOk P w K mg base (CXX P w) 6 T.a_law T.fd_law ["_law_script"] (sp_law K) := by
  refine okN T.F_law sc_law (fun vs H Q E h => ?_) (fun cdv A outer s H vs Q E hr h => ?_)
  · obtain ⟨a, ns, rfl, _⟩ := h
    rfl
  · obtain ⟨a, ns, rfl, hS, hn, q⟩ := h
    refine ⟨_, (pss_cons (ps_set (i := 1) sc_law.nd rfl (Or.inr rfl) (pe_call (ok_law_base T) (hr.mono (by decide)) rfl T.m_law_base T.F_law_base.kp T.b_law_base .nil passE0 (pa_cons (pv 0) pa_nil)))
    (pss_cons (ps_for PassesOwn.never rfl (pi_range1 rfl T.n_range (pa_cons (pe_op op_add pe_int (pe_op op_fdivB (pe_callB (call_min2 rfl) (by rfl) T.n_min b_min (pa_cons (pe_callB call_len (by rfl) T.n_len b_len (pa_cons (pv 0) pa_nil)) (pa_cons pe_int pa_nil))) pe_int)) pa_nil)) (pg_name (i := 2) sc_law.nd rfl (Or.inr rfl)) (pss_cons (ps_set (i := 3) sc_law.nd rfl (Or.inl rfl) (pe_call (ok_law_leaf T) (hr.mono (by decide)) rfl T.m_law_leaf T.F_law_leaf.kp T.b_law_leaf .nil passE0 (pa_cons (pv 0) (pa_cons (pe_op op_add pe_int (pe_op op_mulB pe_int (pv 2))) (pa_cons (pe_op op_mod (pv 2) pe_int) (pa_cons pe_int (pa_cons (pv 1) pa_nil)))))))
        (pss_cons (ps_setComp (i := 4) (CompOk.mk (fr := [1, 0, 2]) (ys := ["_law_base_here", "_law_script", "_law_k"]) rfl (by decide +kernel) rfl (by decide +kernel) rfl rfl (.cons rfl (.cons rfl (.cons rfl .nil))) (.cons rfl rfl rfl rfl (.cons rfl rfl rfl rfl (.cons rfl rfl rfl rfl .nil))) (by decide) rfl) rfl sc_law.nd rfl rfl (pi_range1 rfl T.n_range (pa_cons pe_int pa_nil)) (fun C s2 H2 ex pn => ⟨pts_nil, (pe_op op_add (pv 1) (pe_call (ok_law_draw T) (hr.mono (by decide)) rfl T.m_law_draw T.F_law_draw.kp T.b_law_draw .nil passE0 (pa_cons (pv 2) (pa_cons (pe_op op_add (pe_op op_add pe_int (pe_op op_mulB pe_int (pv 3))) (pv 0)) (pa_cons pe_int (pa_cons pe_int pa_nil))))))⟩))
        (pss_cons (ps_setComp (i := 5) (CompOk.mk (fr := [1, 0, 2]) (ys := ["_law_base_here", "_law_script", "_law_k"]) rfl (by decide +kernel) rfl (by decide +kernel) rfl rfl (.cons rfl (.cons rfl (.cons rfl .nil))) (.cons rfl rfl rfl rfl (.cons rfl rfl rfl rfl (.cons rfl rfl rfl rfl .nil))) (by decide) rfl) rfl sc_law.nd rfl rfl (pi_range1 rfl T.n_range (pa_cons pe_int pa_nil)) (fun C s2 H2 ex pn => ⟨pts_nil, (pe_op op_add (pv 1) (pe_call (ok_law_draw T) (hr.mono (by decide)) rfl T.m_law_draw T.F_law_draw.kp T.b_law_draw .nil passE0 (pa_cons (pv 2) (pa_cons (pe_op op_add (pe_op op_add pe_int (pe_op op_mulB pe_int (pv 3))) (pv 0)) (pa_cons pe_int (pa_cons pe_int pa_nil))))))⟩))
        (pss_one (ps_if (pt_not (pt_val (pe_call (ok_law_asked_of T) (hr.mono (by decide)) rfl T.m_law_asked_of T.F_law_asked_of.kp T.b_law_asked_of .nil passE0 (pa_cons (pv 3) (pa_cons (pv 4) (pa_cons (pv 5) pa_nil)))))) (pss_one (ps_ret pe_bl)) pss_nil))))))
    (pss_one (ps_ret pe_bl)))), ?_⟩
    have hlen := hn.1
    walk_at "gzn"
    refine ⟨a, ns, rfl, hS, hn, fun b H1 s1 => ?_⟩
    walk_at "gzn"
    refine ⟨_, lenL (s1.seq hS), ?_⟩
    rw [List.length_map]
    walk_at "gzn"
    refine ⟨by decide, bd200 (by decide), by omega, by omega, ?_⟩
    have hN : (6 + (if 60 < (ns.length : Int) then 60 else (ns.length : Int)) / 4).toNat ≤ 30 := by split <;> omega
    generalize (6 + (if 60 < (ns.length : Int) then 60 else (ns.length : Int)) / 4).toNat = n at hN ⊢
    refine by_range (inv_law H1 a b) ⟨_, _, _, _, rfl, Same.refl _⟩ ?_ ?_
    · rintro i σ H4 hi ⟨e1, e2, e3, e4, rfl, s4⟩
      have S4 := s1.trans s4
      walk_at "gzn"
      refine ⟨mul600 (by decide) (by omega), by decide, ?_⟩
      refine ⟨a, ns, _, _, _, rfl, S4.seq hS, hn, by omega, fun p tr H5 s5 hp hg hsp => ?_⟩
      have S5 := S4.trans s5
      walk_at "gzn"
      refine ⟨by decide, by decide, blk_of it_rng (by decide) (compGo_some (P := fun _ => True) trivial (fun x _ Q h => ?_) (fun x hx Q h => ?_) fun cs hcs _ => ?_)⟩
      · walk_at "gzn"
        exact h
      · obtain ⟨k, hk, rfl⟩ := List.mem_map.mp hx
        have hk := List.mem_range.mp hk
        walk_at "gzn"
        refine ⟨mul600 (by decide) (by omega), ?_⟩
        refine ⟨a, ns, _, _, _, rfl, S5.seq hS, hn, by omega, by decide, by decide, fun p _ _ => ?_⟩
        walk_at "gzn"
        exact h _ trivial
      have hcs : cs.length = 12 := by rw [hcs]; decide
      rw [List.nil_append]
      intro c hc
      have sc := same_upd (o := .lst (cs.map V.int)) hc
      have c2 : upd H5 c (.lst (cs.map V.int)) c = some (.lst (cs.map V.int)) := upd_same
      generalize upd H5 c (.lst (cs.map V.int)) = H6 at sc c2 ⊢
      have S6 := S5.trans sc
      walk_at "gzn"
      refine ⟨by decide, by decide, blk_of it_rng (by decide) (compGo_some (P := fun _ => True) trivial (fun x _ Q h => ?_) (fun x hx Q h => ?_) fun ds hds _ => ?_)⟩
      · walk_at "gzn"
        exact h
      · obtain ⟨k, hk, rfl⟩ := List.mem_map.mp hx
        have hk := List.mem_range.mp hk
        walk_at "gzn"
        refine ⟨mul600 (by decide) (by omega), ?_⟩
        refine ⟨a, ns, _, _, _, rfl, S6.seq hS, hn, by omega, by decide, by decide, fun p _ _ => ?_⟩
        walk_at "gzn"
        exact h _ trivial
      have hds : ds.length = 12 := by rw [hds]; decide
      rw [List.nil_append]
      intro d hd
      have sd := same_upd (o := .lst (ds.map V.int)) hd
      refine ⟨p, c, d, tr, cs, ds, rfl, (sc.trans sd) _ _ hp, hg, hsp, SqL.of (sd _ _ c2), SqL.of upd_same, hcs, hds, fun H7 s7 => ?_⟩
      walk_at "gzn"
      exact ⟨_, _, _, _, rfl, s4.trans (s5.trans (sc.trans (sd.trans s7)))⟩
    · rintro σ H4 ⟨e1, e2, e3, e4, rfl, s4⟩
      walk_at "gzn"
      exact q _
end
theorem fin_mk {l : PySem.W.OpenLaw} {w : World} {K : PySem.W.Frag} {h : Heap} {mg : Str → Option Value} {fa : Addr} (X : K.In h) (G : h.Ns mainGlobals mg) (hfa : mg "law" = some (.ref fa))
    {f_outside : Addr} {od_outside an_outside : Option Addr} {sl_outside : Array (Option Value)} {oc_outside kV_outside dc_outside pm_outside cd_outside ct_outside : Value}
    {f_failures : Addr} {od_failures an_failures : Option Addr} {sl_failures : Array (Option Value)} {oc_failures kV_failures dc_failures pm_failures cd_failures ct_failures : Value}
    {f_parts_at : Addr} {od_parts_at an_parts_at : Option Addr} {sl_parts_at : Array (Option Value)} {oc_parts_at kV_parts_at dc_parts_at pm_parts_at cd_parts_at ct_parts_at : Value}
    {f_Event_sizes : Addr} {od_Event_sizes an_Event_sizes : Option Addr} {sl_Event_sizes : Array (Option Value)} {oc_Event_sizes kV_Event_sizes dc_Event_sizes pm_Event_sizes cd_Event_sizes ct_Event_sizes : Value}
    {f_Spanned_init__ : Addr} {od_Spanned_init__ an_Spanned_init__ : Option Addr} {sl_Spanned_init__ : Array (Option Value)} {oc_Spanned_init__ kV_Spanned_init__ dc_Spanned_init__ pm_Spanned_init__ cd_Spanned_init__ ct_Spanned_init__ : Value}
    {f_Spanned_all_at : Addr} {od_Spanned_all_at an_Spanned_all_at : Option Addr} {sl_Spanned_all_at : Array (Option Value)} {oc_Spanned_all_at kV_Spanned_all_at dc_Spanned_all_at pm_Spanned_all_at cd_Spanned_all_at ct_Spanned_all_at : Value}
    {f_Stayed_init__ : Addr} {od_Stayed_init__ an_Stayed_init__ : Option Addr} {sl_Stayed_init__ : Array (Option Value)} {oc_Stayed_init__ kV_Stayed_init__ dc_Stayed_init__ pm_Stayed_init__ cd_Stayed_init__ ct_Stayed_init__ : Value}
    {f_Stayed_ways : Addr} {od_Stayed_ways an_Stayed_ways : Option Addr} {sl_Stayed_ways : Array (Option Value)} {oc_Stayed_ways kV_Stayed_ways dc_Stayed_ways pm_Stayed_ways cd_Stayed_ways ct_Stayed_ways : Value}
    {f_Stayed_breaks : Addr} {od_Stayed_breaks an_Stayed_breaks : Option Addr} {sl_Stayed_breaks : Array (Option Value)} {oc_Stayed_breaks kV_Stayed_breaks dc_Stayed_breaks pm_Stayed_breaks cd_Stayed_breaks ct_Stayed_breaks : Value}
    {f_Over_init__ : Addr} {od_Over_init__ an_Over_init__ : Option Addr} {sl_Over_init__ : Array (Option Value)} {oc_Over_init__ kV_Over_init__ dc_Over_init__ pm_Over_init__ cd_Over_init__ ct_Over_init__ : Value}
    {f_Over_ways : Addr} {od_Over_ways an_Over_ways : Option Addr} {sl_Over_ways : Array (Option Value)} {oc_Over_ways kV_Over_ways dc_Over_ways pm_Over_ways cd_Over_ways ct_Over_ways : Value}
    {f_Over_breaks : Addr} {od_Over_breaks an_Over_breaks : Option Addr} {sl_Over_breaks : Array (Option Value)} {oc_Over_breaks kV_Over_breaks dc_Over_breaks pm_Over_breaks cd_Over_breaks ct_Over_breaks : Value}
    {f_Under_init__ : Addr} {od_Under_init__ an_Under_init__ : Option Addr} {sl_Under_init__ : Array (Option Value)} {oc_Under_init__ kV_Under_init__ dc_Under_init__ pm_Under_init__ cd_Under_init__ ct_Under_init__ : Value}
    {f_Under_ways : Addr} {od_Under_ways an_Under_ways : Option Addr} {sl_Under_ways : Array (Option Value)} {oc_Under_ways kV_Under_ways dc_Under_ways pm_Under_ways cd_Under_ways ct_Under_ways : Value}
    {f_Under_breaks : Addr} {od_Under_breaks an_Under_breaks : Option Addr} {sl_Under_breaks : Array (Option Value)} {oc_Under_breaks kV_Under_breaks dc_Under_breaks pm_Under_breaks cd_Under_breaks ct_Under_breaks : Value}
    {f_Rose_init__ : Addr} {od_Rose_init__ an_Rose_init__ : Option Addr} {sl_Rose_init__ : Array (Option Value)} {oc_Rose_init__ kV_Rose_init__ dc_Rose_init__ pm_Rose_init__ cd_Rose_init__ ct_Rose_init__ : Value}
    {f_Rose_ways : Addr} {od_Rose_ways an_Rose_ways : Option Addr} {sl_Rose_ways : Array (Option Value)} {oc_Rose_ways kV_Rose_ways dc_Rose_ways pm_Rose_ways cd_Rose_ways ct_Rose_ways : Value}
    {f_Rose_breaks : Addr} {od_Rose_breaks an_Rose_breaks : Option Addr} {sl_Rose_breaks : Array (Option Value)} {oc_Rose_breaks kV_Rose_breaks dc_Rose_breaks pm_Rose_breaks cd_Rose_breaks ct_Rose_breaks : Value}
    {f_Paced_init__ : Addr} {od_Paced_init__ an_Paced_init__ : Option Addr} {sl_Paced_init__ : Array (Option Value)} {oc_Paced_init__ kV_Paced_init__ dc_Paced_init__ pm_Paced_init__ cd_Paced_init__ ct_Paced_init__ : Value}
    {f_Paced_all_steps : Addr} {od_Paced_all_steps an_Paced_all_steps : Option Addr} {sl_Paced_all_steps : Array (Option Value)} {oc_Paced_all_steps kV_Paced_all_steps dc_Paced_all_steps pm_Paced_all_steps cd_Paced_all_steps ct_Paced_all_steps : Value}
    {f_Paced_ways : Addr} {od_Paced_ways an_Paced_ways : Option Addr} {sl_Paced_ways : Array (Option Value)} {oc_Paced_ways kV_Paced_ways dc_Paced_ways pm_Paced_ways cd_Paced_ways ct_Paced_ways : Value}
    {f_Paced_breaks : Addr} {od_Paced_breaks an_Paced_breaks : Option Addr} {sl_Paced_breaks : Array (Option Value)} {oc_Paced_breaks kV_Paced_breaks dc_Paced_breaks pm_Paced_breaks cd_Paced_breaks ct_Paced_breaks : Value}
    {f_Turned_init__ : Addr} {od_Turned_init__ an_Turned_init__ : Option Addr} {sl_Turned_init__ : Array (Option Value)} {oc_Turned_init__ kV_Turned_init__ dc_Turned_init__ pm_Turned_init__ cd_Turned_init__ ct_Turned_init__ : Value}
    {f_Turned_both_steps : Addr} {od_Turned_both_steps an_Turned_both_steps : Option Addr} {sl_Turned_both_steps : Array (Option Value)} {oc_Turned_both_steps kV_Turned_both_steps dc_Turned_both_steps pm_Turned_both_steps cd_Turned_both_steps ct_Turned_both_steps : Value}
    {f_Turned_ways : Addr} {od_Turned_ways an_Turned_ways : Option Addr} {sl_Turned_ways : Array (Option Value)} {oc_Turned_ways kV_Turned_ways dc_Turned_ways pm_Turned_ways cd_Turned_ways ct_Turned_ways : Value}
    {f_Turned_breaks : Addr} {od_Turned_breaks an_Turned_breaks : Option Addr} {sl_Turned_breaks : Array (Option Value)} {oc_Turned_breaks kV_Turned_breaks dc_Turned_breaks pm_Turned_breaks cd_Turned_breaks ct_Turned_breaks : Value}
    {f_law_draw : Addr} {od_law_draw an_law_draw : Option Addr} {sl_law_draw : Array (Option Value)} {oc_law_draw kV_law_draw dc_law_draw pm_law_draw cd_law_draw ct_law_draw : Value}
    {f_law_base : Addr} {od_law_base an_law_base : Option Addr} {sl_law_base : Array (Option Value)} {oc_law_base kV_law_base dc_law_base pm_law_base cd_law_base ct_law_base : Value}
    {f_law_whole : Addr} {od_law_whole an_law_whole : Option Addr} {sl_law_whole : Array (Option Value)} {oc_law_whole kV_law_whole dc_law_whole pm_law_whole cd_law_whole ct_law_whole : Value}
    {f_law_within : Addr} {od_law_within an_law_within : Option Addr} {sl_law_within : Array (Option Value)} {oc_law_within kV_law_within dc_law_within pm_law_within cd_law_within ct_law_within : Value}
    {f_law_leaf : Addr} {od_law_leaf an_law_leaf : Option Addr} {sl_law_leaf : Array (Option Value)} {oc_law_leaf kV_law_leaf dc_law_leaf pm_law_leaf cd_law_leaf ct_law_leaf : Value}
    {f_law_truth : Addr} {od_law_truth an_law_truth : Option Addr} {sl_law_truth : Array (Option Value)} {oc_law_truth kV_law_truth dc_law_truth pm_law_truth cd_law_truth ct_law_truth : Value}
    {f_law_event : Addr} {od_law_event an_law_event : Option Addr} {sl_law_event : Array (Option Value)} {oc_law_event kV_law_event dc_law_event pm_law_event cd_law_event ct_law_event : Value}
    {f_law_farthest : Addr} {od_law_farthest an_law_farthest : Option Addr} {sl_law_farthest : Array (Option Value)} {oc_law_farthest kV_law_farthest dc_law_farthest pm_law_farthest cd_law_farthest ct_law_farthest : Value}
    {f_law_counts : Addr} {od_law_counts an_law_counts : Option Addr} {sl_law_counts : Array (Option Value)} {oc_law_counts kV_law_counts dc_law_counts pm_law_counts cd_law_counts ct_law_counts : Value}
    {f_law_span : Addr} {od_law_span an_law_span : Option Addr} {sl_law_span : Array (Option Value)} {oc_law_span kV_law_span dc_law_span pm_law_span cd_law_span ct_law_span : Value}
    {f_law_part : Addr} {od_law_part an_law_part : Option Addr} {sl_law_part : Array (Option Value)} {oc_law_part kV_law_part dc_law_part pm_law_part cd_law_part ct_law_part : Value}
    {f_law_claims : Addr} {od_law_claims an_law_claims : Option Addr} {sl_law_claims : Array (Option Value)} {oc_law_claims kV_law_claims dc_law_claims pm_law_claims cd_law_claims ct_law_claims : Value}
    {f_law_met : Addr} {od_law_met an_law_met : Option Addr} {sl_law_met : Array (Option Value)} {oc_law_met kV_law_met dc_law_met pm_law_met cd_law_met ct_law_met : Value}
    {f_law_fitting : Addr} {od_law_fitting an_law_fitting : Option Addr} {sl_law_fitting : Array (Option Value)} {oc_law_fitting kV_law_fitting dc_law_fitting pm_law_fitting cd_law_fitting ct_law_fitting : Value}
    {f_law_asked_of : Addr} {od_law_asked_of an_law_asked_of : Option Addr} {sl_law_asked_of : Array (Option Value)} {oc_law_asked_of kV_law_asked_of dc_law_asked_of pm_law_asked_of cd_law_asked_of ct_law_asked_of : Value}
    {f_law : Addr} {od_law an_law : Option Addr} {sl_law : Array (Option Value)} {oc_law kV_law dc_law pm_law cd_law ct_law : Value}
    {C_GazeError : Addr}
    {C_NoEvent : Addr}
    {C_Event : Addr}
    {C_Spanned : Addr}
    {C_Stayed : Addr}
    {C_Over : Addr}
    {C_Under : Addr}
    {C_Rose : Addr}
    {C_Paced : Addr}
    {C_Turned : Addr}
    {tk_LT : Tok}
    (a_outside : PySem.W.nsIn K mainGlobals "outside" = some (some (.ref f_outside))) (l_outside : K.lookup f_outside = some ⟨oc_outside, od_outside, .func (PySem.W.fnOf "outside" "outside" (defArgs s_outside) (defBody s_outside) (defScope s_outside) .none kV_outside dc_outside pm_outside an_outside cd_outside ct_outside), sl_outside⟩) (c_outside : PySem.W.codeIn K cd_outside "outside" = true) (k_outside : PySem.W.keepIn K (.ref f_outside) = true)
    (a_failures : PySem.W.nsIn K mainGlobals "failures" = some (some (.ref f_failures))) (l_failures : K.lookup f_failures = some ⟨oc_failures, od_failures, .func (PySem.W.fnOf "failures" "failures" (defArgs s_failures) (defBody s_failures) (defScope s_failures) .none kV_failures dc_failures pm_failures an_failures cd_failures ct_failures), sl_failures⟩) (c_failures : PySem.W.codeIn K cd_failures "failures" = true) (k_failures : PySem.W.keepIn K (.ref f_failures) = true)
    (a_parts_at : PySem.W.nsIn K mainGlobals "parts_at" = some (some (.ref f_parts_at))) (l_parts_at : K.lookup f_parts_at = some ⟨oc_parts_at, od_parts_at, .func (PySem.W.fnOf "parts_at" "parts_at" (defArgs s_parts_at) (defBody s_parts_at) (defScope s_parts_at) .none kV_parts_at dc_parts_at pm_parts_at an_parts_at cd_parts_at ct_parts_at), sl_parts_at⟩) (c_parts_at : PySem.W.codeIn K cd_parts_at "parts_at" = true) (k_parts_at : PySem.W.keepIn K (.ref f_parts_at) = true)
    (a_Event_sizes : PySem.W.findIn K (.ref C_Event) "sizes" = some (some (.ref f_Event_sizes))) (l_Event_sizes : K.lookup f_Event_sizes = some ⟨oc_Event_sizes, od_Event_sizes, .func (PySem.W.fnOf "sizes" "Event.sizes" (defArgs s_Event_sizes) (defBody s_Event_sizes) (defScope s_Event_sizes) .none kV_Event_sizes dc_Event_sizes pm_Event_sizes an_Event_sizes cd_Event_sizes ct_Event_sizes), sl_Event_sizes⟩) (c_Event_sizes : PySem.W.codeIn K cd_Event_sizes "Event.sizes" = true) (k_Event_sizes : PySem.W.keepIn K (.ref f_Event_sizes) = true)
    (a_Spanned_init__ : PySem.W.findIn K (.ref C_Spanned) "__init__" = some (some (.ref f_Spanned_init__))) (l_Spanned_init__ : K.lookup f_Spanned_init__ = some ⟨oc_Spanned_init__, od_Spanned_init__, .func (PySem.W.fnOf "__init__" "Spanned.__init__" (defArgs s_Spanned_init__) (defBody s_Spanned_init__) (defScope s_Spanned_init__) .none kV_Spanned_init__ dc_Spanned_init__ pm_Spanned_init__ an_Spanned_init__ cd_Spanned_init__ ct_Spanned_init__), sl_Spanned_init__⟩) (c_Spanned_init__ : PySem.W.codeIn K cd_Spanned_init__ "Spanned.__init__" = true) (k_Spanned_init__ : PySem.W.keepIn K (.ref f_Spanned_init__) = true)
    (a_Spanned_all_at : PySem.W.findIn K (.ref C_Spanned) "all_at" = some (some (.ref f_Spanned_all_at))) (l_Spanned_all_at : K.lookup f_Spanned_all_at = some ⟨oc_Spanned_all_at, od_Spanned_all_at, .func (PySem.W.fnOf "all_at" "Spanned.all_at" (defArgs s_Spanned_all_at) (defBody s_Spanned_all_at) (defScope s_Spanned_all_at) .none kV_Spanned_all_at dc_Spanned_all_at pm_Spanned_all_at an_Spanned_all_at cd_Spanned_all_at ct_Spanned_all_at), sl_Spanned_all_at⟩) (c_Spanned_all_at : PySem.W.codeIn K cd_Spanned_all_at "Spanned.all_at" = true) (k_Spanned_all_at : PySem.W.keepIn K (.ref f_Spanned_all_at) = true)
    (a_Stayed_init__ : PySem.W.findIn K (.ref C_Stayed) "__init__" = some (some (.ref f_Stayed_init__))) (l_Stayed_init__ : K.lookup f_Stayed_init__ = some ⟨oc_Stayed_init__, od_Stayed_init__, .func (PySem.W.fnOf "__init__" "Stayed.__init__" (defArgs s_Stayed_init__) (defBody s_Stayed_init__) (defScope s_Stayed_init__) .none kV_Stayed_init__ dc_Stayed_init__ pm_Stayed_init__ an_Stayed_init__ cd_Stayed_init__ ct_Stayed_init__), sl_Stayed_init__⟩) (c_Stayed_init__ : PySem.W.codeIn K cd_Stayed_init__ "Stayed.__init__" = true) (k_Stayed_init__ : PySem.W.keepIn K (.ref f_Stayed_init__) = true)
    (a_Stayed_ways : PySem.W.findIn K (.ref C_Stayed) "ways" = some (some (.ref f_Stayed_ways))) (l_Stayed_ways : K.lookup f_Stayed_ways = some ⟨oc_Stayed_ways, od_Stayed_ways, .func (PySem.W.fnOf "ways" "Stayed.ways" (defArgs s_Stayed_ways) (defBody s_Stayed_ways) (defScope s_Stayed_ways) .none kV_Stayed_ways dc_Stayed_ways pm_Stayed_ways an_Stayed_ways cd_Stayed_ways ct_Stayed_ways), sl_Stayed_ways⟩) (c_Stayed_ways : PySem.W.codeIn K cd_Stayed_ways "Stayed.ways" = true) (k_Stayed_ways : PySem.W.keepIn K (.ref f_Stayed_ways) = true)
    (a_Stayed_breaks : PySem.W.findIn K (.ref C_Stayed) "breaks" = some (some (.ref f_Stayed_breaks))) (l_Stayed_breaks : K.lookup f_Stayed_breaks = some ⟨oc_Stayed_breaks, od_Stayed_breaks, .func (PySem.W.fnOf "breaks" "Stayed.breaks" (defArgs s_Stayed_breaks) (defBody s_Stayed_breaks) (defScope s_Stayed_breaks) .none kV_Stayed_breaks dc_Stayed_breaks pm_Stayed_breaks an_Stayed_breaks cd_Stayed_breaks ct_Stayed_breaks), sl_Stayed_breaks⟩) (c_Stayed_breaks : PySem.W.codeIn K cd_Stayed_breaks "Stayed.breaks" = true) (k_Stayed_breaks : PySem.W.keepIn K (.ref f_Stayed_breaks) = true)
    (a_Over_init__ : PySem.W.findIn K (.ref C_Over) "__init__" = some (some (.ref f_Over_init__))) (l_Over_init__ : K.lookup f_Over_init__ = some ⟨oc_Over_init__, od_Over_init__, .func (PySem.W.fnOf "__init__" "Over.__init__" (defArgs s_Over_init__) (defBody s_Over_init__) (defScope s_Over_init__) .none kV_Over_init__ dc_Over_init__ pm_Over_init__ an_Over_init__ cd_Over_init__ ct_Over_init__), sl_Over_init__⟩) (c_Over_init__ : PySem.W.codeIn K cd_Over_init__ "Over.__init__" = true) (k_Over_init__ : PySem.W.keepIn K (.ref f_Over_init__) = true)
    (a_Over_ways : PySem.W.findIn K (.ref C_Over) "ways" = some (some (.ref f_Over_ways))) (l_Over_ways : K.lookup f_Over_ways = some ⟨oc_Over_ways, od_Over_ways, .func (PySem.W.fnOf "ways" "Over.ways" (defArgs s_Over_ways) (defBody s_Over_ways) (defScope s_Over_ways) .none kV_Over_ways dc_Over_ways pm_Over_ways an_Over_ways cd_Over_ways ct_Over_ways), sl_Over_ways⟩) (c_Over_ways : PySem.W.codeIn K cd_Over_ways "Over.ways" = true) (k_Over_ways : PySem.W.keepIn K (.ref f_Over_ways) = true)
    (a_Over_breaks : PySem.W.findIn K (.ref C_Over) "breaks" = some (some (.ref f_Over_breaks))) (l_Over_breaks : K.lookup f_Over_breaks = some ⟨oc_Over_breaks, od_Over_breaks, .func (PySem.W.fnOf "breaks" "Over.breaks" (defArgs s_Over_breaks) (defBody s_Over_breaks) (defScope s_Over_breaks) .none kV_Over_breaks dc_Over_breaks pm_Over_breaks an_Over_breaks cd_Over_breaks ct_Over_breaks), sl_Over_breaks⟩) (c_Over_breaks : PySem.W.codeIn K cd_Over_breaks "Over.breaks" = true) (k_Over_breaks : PySem.W.keepIn K (.ref f_Over_breaks) = true)
    (a_Under_init__ : PySem.W.findIn K (.ref C_Under) "__init__" = some (some (.ref f_Under_init__))) (l_Under_init__ : K.lookup f_Under_init__ = some ⟨oc_Under_init__, od_Under_init__, .func (PySem.W.fnOf "__init__" "Under.__init__" (defArgs s_Under_init__) (defBody s_Under_init__) (defScope s_Under_init__) .none kV_Under_init__ dc_Under_init__ pm_Under_init__ an_Under_init__ cd_Under_init__ ct_Under_init__), sl_Under_init__⟩) (c_Under_init__ : PySem.W.codeIn K cd_Under_init__ "Under.__init__" = true) (k_Under_init__ : PySem.W.keepIn K (.ref f_Under_init__) = true)
    (a_Under_ways : PySem.W.findIn K (.ref C_Under) "ways" = some (some (.ref f_Under_ways))) (l_Under_ways : K.lookup f_Under_ways = some ⟨oc_Under_ways, od_Under_ways, .func (PySem.W.fnOf "ways" "Under.ways" (defArgs s_Under_ways) (defBody s_Under_ways) (defScope s_Under_ways) .none kV_Under_ways dc_Under_ways pm_Under_ways an_Under_ways cd_Under_ways ct_Under_ways), sl_Under_ways⟩) (c_Under_ways : PySem.W.codeIn K cd_Under_ways "Under.ways" = true) (k_Under_ways : PySem.W.keepIn K (.ref f_Under_ways) = true)
    (a_Under_breaks : PySem.W.findIn K (.ref C_Under) "breaks" = some (some (.ref f_Under_breaks))) (l_Under_breaks : K.lookup f_Under_breaks = some ⟨oc_Under_breaks, od_Under_breaks, .func (PySem.W.fnOf "breaks" "Under.breaks" (defArgs s_Under_breaks) (defBody s_Under_breaks) (defScope s_Under_breaks) .none kV_Under_breaks dc_Under_breaks pm_Under_breaks an_Under_breaks cd_Under_breaks ct_Under_breaks), sl_Under_breaks⟩) (c_Under_breaks : PySem.W.codeIn K cd_Under_breaks "Under.breaks" = true) (k_Under_breaks : PySem.W.keepIn K (.ref f_Under_breaks) = true)
    (a_Rose_init__ : PySem.W.findIn K (.ref C_Rose) "__init__" = some (some (.ref f_Rose_init__))) (l_Rose_init__ : K.lookup f_Rose_init__ = some ⟨oc_Rose_init__, od_Rose_init__, .func (PySem.W.fnOf "__init__" "Rose.__init__" (defArgs s_Rose_init__) (defBody s_Rose_init__) (defScope s_Rose_init__) .none kV_Rose_init__ dc_Rose_init__ pm_Rose_init__ an_Rose_init__ cd_Rose_init__ ct_Rose_init__), sl_Rose_init__⟩) (c_Rose_init__ : PySem.W.codeIn K cd_Rose_init__ "Rose.__init__" = true) (k_Rose_init__ : PySem.W.keepIn K (.ref f_Rose_init__) = true)
    (a_Rose_ways : PySem.W.findIn K (.ref C_Rose) "ways" = some (some (.ref f_Rose_ways))) (l_Rose_ways : K.lookup f_Rose_ways = some ⟨oc_Rose_ways, od_Rose_ways, .func (PySem.W.fnOf "ways" "Rose.ways" (defArgs s_Rose_ways) (defBody s_Rose_ways) (defScope s_Rose_ways) .none kV_Rose_ways dc_Rose_ways pm_Rose_ways an_Rose_ways cd_Rose_ways ct_Rose_ways), sl_Rose_ways⟩) (c_Rose_ways : PySem.W.codeIn K cd_Rose_ways "Rose.ways" = true) (k_Rose_ways : PySem.W.keepIn K (.ref f_Rose_ways) = true)
    (a_Rose_breaks : PySem.W.findIn K (.ref C_Rose) "breaks" = some (some (.ref f_Rose_breaks))) (l_Rose_breaks : K.lookup f_Rose_breaks = some ⟨oc_Rose_breaks, od_Rose_breaks, .func (PySem.W.fnOf "breaks" "Rose.breaks" (defArgs s_Rose_breaks) (defBody s_Rose_breaks) (defScope s_Rose_breaks) .none kV_Rose_breaks dc_Rose_breaks pm_Rose_breaks an_Rose_breaks cd_Rose_breaks ct_Rose_breaks), sl_Rose_breaks⟩) (c_Rose_breaks : PySem.W.codeIn K cd_Rose_breaks "Rose.breaks" = true) (k_Rose_breaks : PySem.W.keepIn K (.ref f_Rose_breaks) = true)
    (a_Paced_init__ : PySem.W.findIn K (.ref C_Paced) "__init__" = some (some (.ref f_Paced_init__))) (l_Paced_init__ : K.lookup f_Paced_init__ = some ⟨oc_Paced_init__, od_Paced_init__, .func (PySem.W.fnOf "__init__" "Paced.__init__" (defArgs s_Paced_init__) (defBody s_Paced_init__) (defScope s_Paced_init__) .none kV_Paced_init__ dc_Paced_init__ pm_Paced_init__ an_Paced_init__ cd_Paced_init__ ct_Paced_init__), sl_Paced_init__⟩) (c_Paced_init__ : PySem.W.codeIn K cd_Paced_init__ "Paced.__init__" = true) (k_Paced_init__ : PySem.W.keepIn K (.ref f_Paced_init__) = true)
    (a_Paced_all_steps : PySem.W.findIn K (.ref C_Paced) "all_steps" = some (some (.ref f_Paced_all_steps))) (l_Paced_all_steps : K.lookup f_Paced_all_steps = some ⟨oc_Paced_all_steps, od_Paced_all_steps, .func (PySem.W.fnOf "all_steps" "Paced.all_steps" (defArgs s_Paced_all_steps) (defBody s_Paced_all_steps) (defScope s_Paced_all_steps) .none kV_Paced_all_steps dc_Paced_all_steps pm_Paced_all_steps an_Paced_all_steps cd_Paced_all_steps ct_Paced_all_steps), sl_Paced_all_steps⟩) (c_Paced_all_steps : PySem.W.codeIn K cd_Paced_all_steps "Paced.all_steps" = true) (k_Paced_all_steps : PySem.W.keepIn K (.ref f_Paced_all_steps) = true)
    (a_Paced_ways : PySem.W.findIn K (.ref C_Paced) "ways" = some (some (.ref f_Paced_ways))) (l_Paced_ways : K.lookup f_Paced_ways = some ⟨oc_Paced_ways, od_Paced_ways, .func (PySem.W.fnOf "ways" "Paced.ways" (defArgs s_Paced_ways) (defBody s_Paced_ways) (defScope s_Paced_ways) .none kV_Paced_ways dc_Paced_ways pm_Paced_ways an_Paced_ways cd_Paced_ways ct_Paced_ways), sl_Paced_ways⟩) (c_Paced_ways : PySem.W.codeIn K cd_Paced_ways "Paced.ways" = true) (k_Paced_ways : PySem.W.keepIn K (.ref f_Paced_ways) = true)
    (a_Paced_breaks : PySem.W.findIn K (.ref C_Paced) "breaks" = some (some (.ref f_Paced_breaks))) (l_Paced_breaks : K.lookup f_Paced_breaks = some ⟨oc_Paced_breaks, od_Paced_breaks, .func (PySem.W.fnOf "breaks" "Paced.breaks" (defArgs s_Paced_breaks) (defBody s_Paced_breaks) (defScope s_Paced_breaks) .none kV_Paced_breaks dc_Paced_breaks pm_Paced_breaks an_Paced_breaks cd_Paced_breaks ct_Paced_breaks), sl_Paced_breaks⟩) (c_Paced_breaks : PySem.W.codeIn K cd_Paced_breaks "Paced.breaks" = true) (k_Paced_breaks : PySem.W.keepIn K (.ref f_Paced_breaks) = true)
    (a_Turned_init__ : PySem.W.findIn K (.ref C_Turned) "__init__" = some (some (.ref f_Turned_init__))) (l_Turned_init__ : K.lookup f_Turned_init__ = some ⟨oc_Turned_init__, od_Turned_init__, .func (PySem.W.fnOf "__init__" "Turned.__init__" (defArgs s_Turned_init__) (defBody s_Turned_init__) (defScope s_Turned_init__) .none kV_Turned_init__ dc_Turned_init__ pm_Turned_init__ an_Turned_init__ cd_Turned_init__ ct_Turned_init__), sl_Turned_init__⟩) (c_Turned_init__ : PySem.W.codeIn K cd_Turned_init__ "Turned.__init__" = true) (k_Turned_init__ : PySem.W.keepIn K (.ref f_Turned_init__) = true)
    (a_Turned_both_steps : PySem.W.findIn K (.ref C_Turned) "both_steps" = some (some (.ref f_Turned_both_steps))) (l_Turned_both_steps : K.lookup f_Turned_both_steps = some ⟨oc_Turned_both_steps, od_Turned_both_steps, .func (PySem.W.fnOf "both_steps" "Turned.both_steps" (defArgs s_Turned_both_steps) (defBody s_Turned_both_steps) (defScope s_Turned_both_steps) .none kV_Turned_both_steps dc_Turned_both_steps pm_Turned_both_steps an_Turned_both_steps cd_Turned_both_steps ct_Turned_both_steps), sl_Turned_both_steps⟩) (c_Turned_both_steps : PySem.W.codeIn K cd_Turned_both_steps "Turned.both_steps" = true) (k_Turned_both_steps : PySem.W.keepIn K (.ref f_Turned_both_steps) = true)
    (a_Turned_ways : PySem.W.findIn K (.ref C_Turned) "ways" = some (some (.ref f_Turned_ways))) (l_Turned_ways : K.lookup f_Turned_ways = some ⟨oc_Turned_ways, od_Turned_ways, .func (PySem.W.fnOf "ways" "Turned.ways" (defArgs s_Turned_ways) (defBody s_Turned_ways) (defScope s_Turned_ways) .none kV_Turned_ways dc_Turned_ways pm_Turned_ways an_Turned_ways cd_Turned_ways ct_Turned_ways), sl_Turned_ways⟩) (c_Turned_ways : PySem.W.codeIn K cd_Turned_ways "Turned.ways" = true) (k_Turned_ways : PySem.W.keepIn K (.ref f_Turned_ways) = true)
    (a_Turned_breaks : PySem.W.findIn K (.ref C_Turned) "breaks" = some (some (.ref f_Turned_breaks))) (l_Turned_breaks : K.lookup f_Turned_breaks = some ⟨oc_Turned_breaks, od_Turned_breaks, .func (PySem.W.fnOf "breaks" "Turned.breaks" (defArgs s_Turned_breaks) (defBody s_Turned_breaks) (defScope s_Turned_breaks) .none kV_Turned_breaks dc_Turned_breaks pm_Turned_breaks an_Turned_breaks cd_Turned_breaks ct_Turned_breaks), sl_Turned_breaks⟩) (c_Turned_breaks : PySem.W.codeIn K cd_Turned_breaks "Turned.breaks" = true) (k_Turned_breaks : PySem.W.keepIn K (.ref f_Turned_breaks) = true)
    (a_law_draw : PySem.W.nsIn K mainGlobals "_law_draw" = some (some (.ref f_law_draw))) (l_law_draw : K.lookup f_law_draw = some ⟨oc_law_draw, od_law_draw, .func (PySem.W.fnOf "_law_draw" "_law_draw" (defArgs s_law_draw) (defBody s_law_draw) (defScope s_law_draw) .none kV_law_draw dc_law_draw pm_law_draw an_law_draw cd_law_draw ct_law_draw), sl_law_draw⟩) (c_law_draw : PySem.W.codeIn K cd_law_draw "_law_draw" = true) (k_law_draw : PySem.W.keepIn K (.ref f_law_draw) = true)
    (a_law_base : PySem.W.nsIn K mainGlobals "_law_base" = some (some (.ref f_law_base))) (l_law_base : K.lookup f_law_base = some ⟨oc_law_base, od_law_base, .func (PySem.W.fnOf "_law_base" "_law_base" (defArgs s_law_base) (defBody s_law_base) (defScope s_law_base) .none kV_law_base dc_law_base pm_law_base an_law_base cd_law_base ct_law_base), sl_law_base⟩) (c_law_base : PySem.W.codeIn K cd_law_base "_law_base" = true) (k_law_base : PySem.W.keepIn K (.ref f_law_base) = true)
    (a_law_whole : PySem.W.nsIn K mainGlobals "_law_whole" = some (some (.ref f_law_whole))) (l_law_whole : K.lookup f_law_whole = some ⟨oc_law_whole, od_law_whole, .func (PySem.W.fnOf "_law_whole" "_law_whole" (defArgs s_law_whole) (defBody s_law_whole) (defScope s_law_whole) .none kV_law_whole dc_law_whole pm_law_whole an_law_whole cd_law_whole ct_law_whole), sl_law_whole⟩) (c_law_whole : PySem.W.codeIn K cd_law_whole "_law_whole" = true) (k_law_whole : PySem.W.keepIn K (.ref f_law_whole) = true)
    (a_law_within : PySem.W.nsIn K mainGlobals "_law_within" = some (some (.ref f_law_within))) (l_law_within : K.lookup f_law_within = some ⟨oc_law_within, od_law_within, .func (PySem.W.fnOf "_law_within" "_law_within" (defArgs s_law_within) (defBody s_law_within) (defScope s_law_within) .none kV_law_within dc_law_within pm_law_within an_law_within cd_law_within ct_law_within), sl_law_within⟩) (c_law_within : PySem.W.codeIn K cd_law_within "_law_within" = true) (k_law_within : PySem.W.keepIn K (.ref f_law_within) = true)
    (a_law_leaf : PySem.W.nsIn K mainGlobals "_law_leaf" = some (some (.ref f_law_leaf))) (l_law_leaf : K.lookup f_law_leaf = some ⟨oc_law_leaf, od_law_leaf, .func (PySem.W.fnOf "_law_leaf" "_law_leaf" (defArgs s_law_leaf) (defBody s_law_leaf) (defScope s_law_leaf) .none kV_law_leaf dc_law_leaf pm_law_leaf an_law_leaf cd_law_leaf ct_law_leaf), sl_law_leaf⟩) (c_law_leaf : PySem.W.codeIn K cd_law_leaf "_law_leaf" = true) (k_law_leaf : PySem.W.keepIn K (.ref f_law_leaf) = true)
    (a_law_truth : PySem.W.nsIn K mainGlobals "_law_truth" = some (some (.ref f_law_truth))) (l_law_truth : K.lookup f_law_truth = some ⟨oc_law_truth, od_law_truth, .func (PySem.W.fnOf "_law_truth" "_law_truth" (defArgs s_law_truth) (defBody s_law_truth) (defScope s_law_truth) .none kV_law_truth dc_law_truth pm_law_truth an_law_truth cd_law_truth ct_law_truth), sl_law_truth⟩) (c_law_truth : PySem.W.codeIn K cd_law_truth "_law_truth" = true) (k_law_truth : PySem.W.keepIn K (.ref f_law_truth) = true)
    (a_law_event : PySem.W.nsIn K mainGlobals "_law_event" = some (some (.ref f_law_event))) (l_law_event : K.lookup f_law_event = some ⟨oc_law_event, od_law_event, .func (PySem.W.fnOf "_law_event" "_law_event" (defArgs s_law_event) (defBody s_law_event) (defScope s_law_event) .none kV_law_event dc_law_event pm_law_event an_law_event cd_law_event ct_law_event), sl_law_event⟩) (c_law_event : PySem.W.codeIn K cd_law_event "_law_event" = true) (k_law_event : PySem.W.keepIn K (.ref f_law_event) = true)
    (a_law_farthest : PySem.W.nsIn K mainGlobals "_law_farthest" = some (some (.ref f_law_farthest))) (l_law_farthest : K.lookup f_law_farthest = some ⟨oc_law_farthest, od_law_farthest, .func (PySem.W.fnOf "_law_farthest" "_law_farthest" (defArgs s_law_farthest) (defBody s_law_farthest) (defScope s_law_farthest) .none kV_law_farthest dc_law_farthest pm_law_farthest an_law_farthest cd_law_farthest ct_law_farthest), sl_law_farthest⟩) (c_law_farthest : PySem.W.codeIn K cd_law_farthest "_law_farthest" = true) (k_law_farthest : PySem.W.keepIn K (.ref f_law_farthest) = true)
    (a_law_counts : PySem.W.nsIn K mainGlobals "_law_counts" = some (some (.ref f_law_counts))) (l_law_counts : K.lookup f_law_counts = some ⟨oc_law_counts, od_law_counts, .func (PySem.W.fnOf "_law_counts" "_law_counts" (defArgs s_law_counts) (defBody s_law_counts) (defScope s_law_counts) .none kV_law_counts dc_law_counts pm_law_counts an_law_counts cd_law_counts ct_law_counts), sl_law_counts⟩) (c_law_counts : PySem.W.codeIn K cd_law_counts "_law_counts" = true) (k_law_counts : PySem.W.keepIn K (.ref f_law_counts) = true)
    (a_law_span : PySem.W.nsIn K mainGlobals "_law_span" = some (some (.ref f_law_span))) (l_law_span : K.lookup f_law_span = some ⟨oc_law_span, od_law_span, .func (PySem.W.fnOf "_law_span" "_law_span" (defArgs s_law_span) (defBody s_law_span) (defScope s_law_span) .none kV_law_span dc_law_span pm_law_span an_law_span cd_law_span ct_law_span), sl_law_span⟩) (c_law_span : PySem.W.codeIn K cd_law_span "_law_span" = true) (k_law_span : PySem.W.keepIn K (.ref f_law_span) = true)
    (a_law_part : PySem.W.nsIn K mainGlobals "_law_part" = some (some (.ref f_law_part))) (l_law_part : K.lookup f_law_part = some ⟨oc_law_part, od_law_part, .func (PySem.W.fnOf "_law_part" "_law_part" (defArgs s_law_part) (defBody s_law_part) (defScope s_law_part) .none kV_law_part dc_law_part pm_law_part an_law_part cd_law_part ct_law_part), sl_law_part⟩) (c_law_part : PySem.W.codeIn K cd_law_part "_law_part" = true) (k_law_part : PySem.W.keepIn K (.ref f_law_part) = true)
    (a_law_claims : PySem.W.nsIn K mainGlobals "_law_claims" = some (some (.ref f_law_claims))) (l_law_claims : K.lookup f_law_claims = some ⟨oc_law_claims, od_law_claims, .func (PySem.W.fnOf "_law_claims" "_law_claims" (defArgs s_law_claims) (defBody s_law_claims) (defScope s_law_claims) .none kV_law_claims dc_law_claims pm_law_claims an_law_claims cd_law_claims ct_law_claims), sl_law_claims⟩) (c_law_claims : PySem.W.codeIn K cd_law_claims "_law_claims" = true) (k_law_claims : PySem.W.keepIn K (.ref f_law_claims) = true)
    (a_law_met : PySem.W.nsIn K mainGlobals "_law_met" = some (some (.ref f_law_met))) (l_law_met : K.lookup f_law_met = some ⟨oc_law_met, od_law_met, .func (PySem.W.fnOf "_law_met" "_law_met" (defArgs s_law_met) (defBody s_law_met) (defScope s_law_met) .none kV_law_met dc_law_met pm_law_met an_law_met cd_law_met ct_law_met), sl_law_met⟩) (c_law_met : PySem.W.codeIn K cd_law_met "_law_met" = true) (k_law_met : PySem.W.keepIn K (.ref f_law_met) = true)
    (a_law_fitting : PySem.W.nsIn K mainGlobals "_law_fitting" = some (some (.ref f_law_fitting))) (l_law_fitting : K.lookup f_law_fitting = some ⟨oc_law_fitting, od_law_fitting, .func (PySem.W.fnOf "_law_fitting" "_law_fitting" (defArgs s_law_fitting) (defBody s_law_fitting) (defScope s_law_fitting) .none kV_law_fitting dc_law_fitting pm_law_fitting an_law_fitting cd_law_fitting ct_law_fitting), sl_law_fitting⟩) (c_law_fitting : PySem.W.codeIn K cd_law_fitting "_law_fitting" = true) (k_law_fitting : PySem.W.keepIn K (.ref f_law_fitting) = true)
    (a_law_asked_of : PySem.W.nsIn K mainGlobals "_law_asked_of" = some (some (.ref f_law_asked_of))) (l_law_asked_of : K.lookup f_law_asked_of = some ⟨oc_law_asked_of, od_law_asked_of, .func (PySem.W.fnOf "_law_asked_of" "_law_asked_of" (defArgs s_law_asked_of) (defBody s_law_asked_of) (defScope s_law_asked_of) .none kV_law_asked_of dc_law_asked_of pm_law_asked_of an_law_asked_of cd_law_asked_of ct_law_asked_of), sl_law_asked_of⟩) (c_law_asked_of : PySem.W.codeIn K cd_law_asked_of "_law_asked_of" = true) (k_law_asked_of : PySem.W.keepIn K (.ref f_law_asked_of) = true)
    (a_law : PySem.W.nsIn K mainGlobals "law" = some (some (.ref f_law))) (l_law : K.lookup f_law = some ⟨oc_law, od_law, .func (PySem.W.fnOf "law" "law" (defArgs s_law) (defBody s_law) (defScope s_law) .none kV_law dc_law pm_law an_law cd_law ct_law), sl_law⟩) (c_law : PySem.W.codeIn K cd_law "law" = true) (k_law : PySem.W.keepIn K (.ref f_law) = true)
    (z_all : PySem.W.nsIn K mainGlobals "all" = some none)
    (z_any : PySem.W.nsIn K mainGlobals "any" = some none)
    (z_bool : PySem.W.nsIn K mainGlobals "bool" = some none)
    (z_int : PySem.W.nsIn K mainGlobals "int" = some none)
    (z_isinstance : PySem.W.nsIn K mainGlobals "isinstance" = some none)
    (z_len : PySem.W.nsIn K mainGlobals "len" = some none)
    (z_list : PySem.W.nsIn K mainGlobals "list" = some none)
    (z_max : PySem.W.nsIn K mainGlobals "max" = some none)
    (z_min : PySem.W.nsIn K mainGlobals "min" = some none)
    (z_range : PySem.W.nsIn K mainGlobals "range" = some none)
    (z_tuple : PySem.W.nsIn K mainGlobals "tuple" = some none)
    (e_GazeError : PySem.W.nsIn K mainGlobals "GazeError" = some (some (.ref C_GazeError)))
    (e_NoEvent : PySem.W.nsIn K mainGlobals "NoEvent" = some (some (.ref C_NoEvent)))
    (e_Event : PySem.W.nsIn K mainGlobals "Event" = some (some (.ref C_Event)))
    (e_Spanned : PySem.W.nsIn K mainGlobals "Spanned" = some (some (.ref C_Spanned)))
    (e_Stayed : PySem.W.nsIn K mainGlobals "Stayed" = some (some (.ref C_Stayed)))
    (e_Over : PySem.W.nsIn K mainGlobals "Over" = some (some (.ref C_Over)))
    (e_Under : PySem.W.nsIn K mainGlobals "Under" = some (some (.ref C_Under)))
    (e_Rose : PySem.W.nsIn K mainGlobals "Rose" = some (some (.ref C_Rose)))
    (e_Paced : PySem.W.nsIn K mainGlobals "Paced" = some (some (.ref C_Paced)))
    (e_Turned : PySem.W.nsIn K mainGlobals "Turned" = some (some (.ref C_Turned)))
    (pg_Event : PySem.W.plainGet K C_Event Str.empty = true) (hd_Event : PySem.W.hasDictIn K C_Event = true) (po_Event : PySem.W.plainOver K C_Event = true) (sa_Event : PySem.W.findIn K (.ref C_Event) "__setattr__" = some (some (.builtin "object.__setattr__")))
    (fn_Event_sizes : PySem.W.isFn K (.ref f_Event_sizes) = true)
    (pg_Spanned : PySem.W.plainGet K C_Spanned Str.empty = true) (hd_Spanned : PySem.W.hasDictIn K C_Spanned = true) (po_Spanned : PySem.W.plainOver K C_Spanned = true) (sa_Spanned : PySem.W.findIn K (.ref C_Spanned) "__setattr__" = some (some (.builtin "object.__setattr__")))
    (no_Spanned_first : PySem.W.findIn K (.ref C_Spanned) "first" = some none)
    (no_Spanned_last : PySem.W.findIn K (.ref C_Spanned) "last" = some none)
    (in_Spanned_sizes : PySem.W.findIn K (.ref C_Spanned) "sizes" = some (some (.ref f_Event_sizes)))
    (fn_Spanned_init__ : PySem.W.isFn K (.ref f_Spanned_init__) = true)
    (mk_Spanned : PySem.W.makesIn K C_Spanned = true) (kc_Spanned : PySem.W.keepIn K (.ref C_Spanned) = true)
    (fn_Spanned_all_at : PySem.W.isFn K (.ref f_Spanned_all_at) = true)
    (pg_Stayed : PySem.W.plainGet K C_Stayed Str.empty = true) (hd_Stayed : PySem.W.hasDictIn K C_Stayed = true) (po_Stayed : PySem.W.plainOver K C_Stayed = true) (sa_Stayed : PySem.W.findIn K (.ref C_Stayed) "__setattr__" = some (some (.builtin "object.__setattr__")))
    (no_Stayed_first : PySem.W.findIn K (.ref C_Stayed) "first" = some none)
    (no_Stayed_last : PySem.W.findIn K (.ref C_Stayed) "last" = some none)
    (no_Stayed_stretch : PySem.W.findIn K (.ref C_Stayed) "stretch" = some none)
    (in_Stayed_sizes : PySem.W.findIn K (.ref C_Stayed) "sizes" = some (some (.ref f_Event_sizes)))
    (fn_Stayed_init__ : PySem.W.isFn K (.ref f_Stayed_init__) = true)
    (mk_Stayed : PySem.W.makesIn K C_Stayed = true) (kc_Stayed : PySem.W.keepIn K (.ref C_Stayed) = true)
    (in_Stayed_all_at : PySem.W.findIn K (.ref C_Stayed) "all_at" = some (some (.ref f_Spanned_all_at)))
    (fn_Stayed_ways : PySem.W.isFn K (.ref f_Stayed_ways) = true)
    (fn_Stayed_breaks : PySem.W.isFn K (.ref f_Stayed_breaks) = true)
    (pg_Over : PySem.W.plainGet K C_Over Str.empty = true) (hd_Over : PySem.W.hasDictIn K C_Over = true) (po_Over : PySem.W.plainOver K C_Over = true) (sa_Over : PySem.W.findIn K (.ref C_Over) "__setattr__" = some (some (.builtin "object.__setattr__")))
    (no_Over_first : PySem.W.findIn K (.ref C_Over) "first" = some none)
    (no_Over_last : PySem.W.findIn K (.ref C_Over) "last" = some none)
    (no_Over_sill : PySem.W.findIn K (.ref C_Over) "sill" = some none)
    (in_Over_sizes : PySem.W.findIn K (.ref C_Over) "sizes" = some (some (.ref f_Event_sizes)))
    (fn_Over_init__ : PySem.W.isFn K (.ref f_Over_init__) = true)
    (mk_Over : PySem.W.makesIn K C_Over = true) (kc_Over : PySem.W.keepIn K (.ref C_Over) = true)
    (in_Over_all_at : PySem.W.findIn K (.ref C_Over) "all_at" = some (some (.ref f_Spanned_all_at)))
    (fn_Over_ways : PySem.W.isFn K (.ref f_Over_ways) = true)
    (fn_Over_breaks : PySem.W.isFn K (.ref f_Over_breaks) = true)
    (pg_Under : PySem.W.plainGet K C_Under Str.empty = true) (hd_Under : PySem.W.hasDictIn K C_Under = true) (po_Under : PySem.W.plainOver K C_Under = true) (sa_Under : PySem.W.findIn K (.ref C_Under) "__setattr__" = some (some (.builtin "object.__setattr__")))
    (no_Under_first : PySem.W.findIn K (.ref C_Under) "first" = some none)
    (no_Under_last : PySem.W.findIn K (.ref C_Under) "last" = some none)
    (no_Under_sill : PySem.W.findIn K (.ref C_Under) "sill" = some none)
    (in_Under_sizes : PySem.W.findIn K (.ref C_Under) "sizes" = some (some (.ref f_Event_sizes)))
    (fn_Under_init__ : PySem.W.isFn K (.ref f_Under_init__) = true)
    (mk_Under : PySem.W.makesIn K C_Under = true) (kc_Under : PySem.W.keepIn K (.ref C_Under) = true)
    (in_Under_all_at : PySem.W.findIn K (.ref C_Under) "all_at" = some (some (.ref f_Spanned_all_at)))
    (fn_Under_ways : PySem.W.isFn K (.ref f_Under_ways) = true)
    (fn_Under_breaks : PySem.W.isFn K (.ref f_Under_breaks) = true)
    (pg_Rose : PySem.W.plainGet K C_Rose Str.empty = true) (hd_Rose : PySem.W.hasDictIn K C_Rose = true) (po_Rose : PySem.W.plainOver K C_Rose = true) (sa_Rose : PySem.W.findIn K (.ref C_Rose) "__setattr__" = some (some (.builtin "object.__setattr__")))
    (no_Rose_first : PySem.W.findIn K (.ref C_Rose) "first" = some none)
    (no_Rose_last : PySem.W.findIn K (.ref C_Rose) "last" = some none)
    (no_Rose_low : PySem.W.findIn K (.ref C_Rose) "low" = some none)
    (no_Rose_high : PySem.W.findIn K (.ref C_Rose) "high" = some none)
    (in_Rose_sizes : PySem.W.findIn K (.ref C_Rose) "sizes" = some (some (.ref f_Event_sizes)))
    (fn_Rose_init__ : PySem.W.isFn K (.ref f_Rose_init__) = true)
    (mk_Rose : PySem.W.makesIn K C_Rose = true) (kc_Rose : PySem.W.keepIn K (.ref C_Rose) = true)
    (in_Rose_all_at : PySem.W.findIn K (.ref C_Rose) "all_at" = some (some (.ref f_Spanned_all_at)))
    (fn_Rose_ways : PySem.W.isFn K (.ref f_Rose_ways) = true)
    (fn_Rose_breaks : PySem.W.isFn K (.ref f_Rose_breaks) = true)
    (pg_Paced : PySem.W.plainGet K C_Paced Str.empty = true) (hd_Paced : PySem.W.hasDictIn K C_Paced = true) (po_Paced : PySem.W.plainOver K C_Paced = true) (sa_Paced : PySem.W.findIn K (.ref C_Paced) "__setattr__" = some (some (.builtin "object.__setattr__")))
    (no_Paced_first : PySem.W.findIn K (.ref C_Paced) "first" = some none)
    (no_Paced_last : PySem.W.findIn K (.ref C_Paced) "last" = some none)
    (no_Paced_stretch : PySem.W.findIn K (.ref C_Paced) "stretch" = some none)
    (in_Paced_sizes : PySem.W.findIn K (.ref C_Paced) "sizes" = some (some (.ref f_Event_sizes)))
    (fn_Paced_init__ : PySem.W.isFn K (.ref f_Paced_init__) = true)
    (mk_Paced : PySem.W.makesIn K C_Paced = true) (kc_Paced : PySem.W.keepIn K (.ref C_Paced) = true)
    (in_Paced_all_at : PySem.W.findIn K (.ref C_Paced) "all_at" = some (some (.ref f_Spanned_all_at)))
    (fn_Paced_ways : PySem.W.isFn K (.ref f_Paced_ways) = true)
    (fn_Paced_breaks : PySem.W.isFn K (.ref f_Paced_breaks) = true)
    (fn_Paced_all_steps : PySem.W.isFn K (.ref f_Paced_all_steps) = true)
    (pg_Turned : PySem.W.plainGet K C_Turned Str.empty = true) (hd_Turned : PySem.W.hasDictIn K C_Turned = true) (po_Turned : PySem.W.plainOver K C_Turned = true) (sa_Turned : PySem.W.findIn K (.ref C_Turned) "__setattr__" = some (some (.builtin "object.__setattr__")))
    (no_Turned_turn : PySem.W.findIn K (.ref C_Turned) "turn" = some none)
    (in_Turned_sizes : PySem.W.findIn K (.ref C_Turned) "sizes" = some (some (.ref f_Event_sizes)))
    (fn_Turned_init__ : PySem.W.isFn K (.ref f_Turned_init__) = true)
    (mk_Turned : PySem.W.makesIn K C_Turned = true) (kc_Turned : PySem.W.keepIn K (.ref C_Turned) = true)
    (fn_Turned_ways : PySem.W.isFn K (.ref f_Turned_ways) = true)
    (fn_Turned_breaks : PySem.W.isFn K (.ref f_Turned_breaks) = true)
    (fn_Turned_both_steps : PySem.W.isFn K (.ref f_Turned_both_steps) = true)
    (ga_Spanned_init__ : PySem.W.specialIn K (.ref C_Spanned) "__getattribute__" = some (some (.builtin "type.__getattribute__"))) (rd_Spanned_init__ : PySem.W.readsIn K C_Spanned (.type "type") = true) (fc_Spanned_init__ : PySem.W.findCls K (.ref C_Spanned) (.type "type") "__init__" = some (.val (.ref f_Spanned_init__)))
    (x1_NoEvent : PySem.W.excIn K C_NoEvent [.type "ValueError", .type "Exception", .type "BaseException", .type "object"] "ValueError.__new__" = true)
    (x2_NoEvent : PySem.W.mroIn K C_NoEvent (.type "object") = some true)
    (x3_NoEvent : PySem.W.mroIn K C_NoEvent (.type "BaseException") = some true)
    (x4_NoEvent : PySem.W.findIn K (.ref C_NoEvent) "__getattribute__" = some (some (.builtin "BaseException.__getattribute__")))
    (x5_NoEvent : PySem.W.findIn K (.ref C_NoEvent) "__getattr__" = some none)
    (x6_NoEvent : PySem.W.findIn K (.ref C_NoEvent) "__class__" = some (some (.builtin "object.__class__")))
    (zLT : PySem.W.nsIn K mainGlobals "LAST_TURN" = some (some (.int 11 tk_LT)))
    : ∃ fd : FuncData, (∀ (s : Shared) (v : Value), BindsTo s fd ⟨[v], []⟩ [("_law_script", v)]) ∧ ∀ base : Heap, K.In base → base.Ns mainGlobals mg → FnOk l.prog w K mg base (CXX l.prog w) 6 fa fd ["_law_script"] (sp_law K) := by
  have e := hfa.symm.trans (PySem.W.mg_of X G a_law)
  cases e
  have F_outside := fun_mk (st := s_outside) l_outside c_outside k_outside
  have b_outside := F_outside.binds (ps := ["one"]) fun _ _ _ _ _ _ us hl => match us, hl with | [_], _ => rfl
  have F_failures := fun_mk (st := s_failures) l_failures c_failures k_failures
  have b_failures := F_failures.binds (ps := ["claim"]) fun _ _ _ _ _ _ us hl => match us, hl with | [_], _ => rfl
  have F_parts_at := fun_mk (st := s_parts_at) l_parts_at c_parts_at k_parts_at
  have b_parts_at := F_parts_at.binds (ps := ["first", "last", "one"]) fun _ _ _ _ _ _ us hl => match us, hl with | [_, _, _], _ => rfl
  have F_Event_sizes := fun_mk (st := s_Event_sizes) l_Event_sizes c_Event_sizes k_Event_sizes
  have b_Event_sizes := F_Event_sizes.binds (ps := ["self"]) fun _ _ _ _ _ _ us hl => match us, hl with | [_], _ => rfl
  have F_Spanned_init__ := fun_mk (st := s_Spanned_init__) l_Spanned_init__ c_Spanned_init__ k_Spanned_init__
  have b_Spanned_init__ := F_Spanned_init__.binds (ps := ["self", "first", "last"]) fun _ _ _ _ _ _ us hl => match us, hl with | [_, _, _], _ => rfl
  have F_Spanned_all_at := fun_mk (st := s_Spanned_all_at) l_Spanned_all_at c_Spanned_all_at k_Spanned_all_at
  have b_Spanned_all_at := F_Spanned_all_at.binds (ps := ["self", "one"]) fun _ _ _ _ _ _ us hl => match us, hl with | [_, _], _ => rfl
  have F_Stayed_init__ := fun_mk (st := s_Stayed_init__) l_Stayed_init__ c_Stayed_init__ k_Stayed_init__
  have b_Stayed_init__ := F_Stayed_init__.binds (ps := ["self", "first", "last", "stretch"]) fun _ _ _ _ _ _ us hl => match us, hl with | [_, _, _, _], _ => rfl
  have F_Stayed_ways := fun_mk (st := s_Stayed_ways) l_Stayed_ways c_Stayed_ways k_Stayed_ways
  have b_Stayed_ways := F_Stayed_ways.binds (ps := ["self"]) fun _ _ _ _ _ _ us hl => match us, hl with | [_], _ => rfl
  have F_Stayed_breaks := fun_mk (st := s_Stayed_breaks) l_Stayed_breaks c_Stayed_breaks k_Stayed_breaks
  have b_Stayed_breaks := F_Stayed_breaks.binds (ps := ["self"]) fun _ _ _ _ _ _ us hl => match us, hl with | [_], _ => rfl
  have F_Over_init__ := fun_mk (st := s_Over_init__) l_Over_init__ c_Over_init__ k_Over_init__
  have b_Over_init__ := F_Over_init__.binds (ps := ["self", "first", "last", "sill"]) fun _ _ _ _ _ _ us hl => match us, hl with | [_, _, _, _], _ => rfl
  have F_Over_ways := fun_mk (st := s_Over_ways) l_Over_ways c_Over_ways k_Over_ways
  have b_Over_ways := F_Over_ways.binds (ps := ["self"]) fun _ _ _ _ _ _ us hl => match us, hl with | [_], _ => rfl
  have F_Over_breaks := fun_mk (st := s_Over_breaks) l_Over_breaks c_Over_breaks k_Over_breaks
  have b_Over_breaks := F_Over_breaks.binds (ps := ["self"]) fun _ _ _ _ _ _ us hl => match us, hl with | [_], _ => rfl
  have F_Under_init__ := fun_mk (st := s_Under_init__) l_Under_init__ c_Under_init__ k_Under_init__
  have b_Under_init__ := F_Under_init__.binds (ps := ["self", "first", "last", "sill"]) fun _ _ _ _ _ _ us hl => match us, hl with | [_, _, _, _], _ => rfl
  have F_Under_ways := fun_mk (st := s_Under_ways) l_Under_ways c_Under_ways k_Under_ways
  have b_Under_ways := F_Under_ways.binds (ps := ["self"]) fun _ _ _ _ _ _ us hl => match us, hl with | [_], _ => rfl
  have F_Under_breaks := fun_mk (st := s_Under_breaks) l_Under_breaks c_Under_breaks k_Under_breaks
  have b_Under_breaks := F_Under_breaks.binds (ps := ["self"]) fun _ _ _ _ _ _ us hl => match us, hl with | [_], _ => rfl
  have F_Rose_init__ := fun_mk (st := s_Rose_init__) l_Rose_init__ c_Rose_init__ k_Rose_init__
  have b_Rose_init__ := F_Rose_init__.binds (ps := ["self", "first", "last", "low", "high"]) fun _ _ _ _ _ _ us hl => match us, hl with | [_, _, _, _, _], _ => rfl
  have F_Rose_ways := fun_mk (st := s_Rose_ways) l_Rose_ways c_Rose_ways k_Rose_ways
  have b_Rose_ways := F_Rose_ways.binds (ps := ["self"]) fun _ _ _ _ _ _ us hl => match us, hl with | [_], _ => rfl
  have F_Rose_breaks := fun_mk (st := s_Rose_breaks) l_Rose_breaks c_Rose_breaks k_Rose_breaks
  have b_Rose_breaks := F_Rose_breaks.binds (ps := ["self"]) fun _ _ _ _ _ _ us hl => match us, hl with | [_], _ => rfl
  have F_Paced_init__ := fun_mk (st := s_Paced_init__) l_Paced_init__ c_Paced_init__ k_Paced_init__
  have b_Paced_init__ := F_Paced_init__.binds (ps := ["self", "first", "last", "stretch"]) fun _ _ _ _ _ _ us hl => match us, hl with | [_, _, _, _], _ => rfl
  have F_Paced_all_steps := fun_mk (st := s_Paced_all_steps) l_Paced_all_steps c_Paced_all_steps k_Paced_all_steps
  have b_Paced_all_steps := F_Paced_all_steps.binds (ps := ["self"]) fun _ _ _ _ _ _ us hl => match us, hl with | [_], _ => rfl
  have F_Paced_ways := fun_mk (st := s_Paced_ways) l_Paced_ways c_Paced_ways k_Paced_ways
  have b_Paced_ways := F_Paced_ways.binds (ps := ["self"]) fun _ _ _ _ _ _ us hl => match us, hl with | [_], _ => rfl
  have F_Paced_breaks := fun_mk (st := s_Paced_breaks) l_Paced_breaks c_Paced_breaks k_Paced_breaks
  have b_Paced_breaks := F_Paced_breaks.binds (ps := ["self"]) fun _ _ _ _ _ _ us hl => match us, hl with | [_], _ => rfl
  have F_Turned_init__ := fun_mk (st := s_Turned_init__) l_Turned_init__ c_Turned_init__ k_Turned_init__
  have b_Turned_init__ := F_Turned_init__.binds (ps := ["self", "turn"]) fun _ _ _ _ _ _ us hl => match us, hl with | [_, _], _ => rfl
  have F_Turned_both_steps := fun_mk (st := s_Turned_both_steps) l_Turned_both_steps c_Turned_both_steps k_Turned_both_steps
  have b_Turned_both_steps := F_Turned_both_steps.binds (ps := ["self"]) fun _ _ _ _ _ _ us hl => match us, hl with | [_], _ => rfl
  have F_Turned_ways := fun_mk (st := s_Turned_ways) l_Turned_ways c_Turned_ways k_Turned_ways
  have b_Turned_ways := F_Turned_ways.binds (ps := ["self"]) fun _ _ _ _ _ _ us hl => match us, hl with | [_], _ => rfl
  have F_Turned_breaks := fun_mk (st := s_Turned_breaks) l_Turned_breaks c_Turned_breaks k_Turned_breaks
  have b_Turned_breaks := F_Turned_breaks.binds (ps := ["self"]) fun _ _ _ _ _ _ us hl => match us, hl with | [_], _ => rfl
  have F_law_draw := fun_mk (st := s_law_draw) l_law_draw c_law_draw k_law_draw
  have b_law_draw := F_law_draw.binds (ps := ["_law_script", "_law_k", "_law_prime", "_law_many"]) fun _ _ _ _ _ _ us hl => match us, hl with | [_, _, _, _], _ => rfl
  have F_law_base := fun_mk (st := s_law_base) l_law_base c_law_base k_law_base
  have b_law_base := F_law_base.binds (ps := ["_law_script"]) fun _ _ _ _ _ _ us hl => match us, hl with | [_], _ => rfl
  have F_law_whole := fun_mk (st := s_law_whole) l_law_whole c_law_whole k_law_whole
  have b_law_whole := F_law_whole.binds (ps := ["_law_found"]) fun _ _ _ _ _ _ us hl => match us, hl with | [_], _ => rfl
  have F_law_within := fun_mk (st := s_law_within) l_law_within c_law_within k_law_within
  have b_law_within := F_law_within.binds (ps := ["_law_span_here", "_law_number"]) fun _ _ _ _ _ _ us hl => match us, hl with | [_, _], _ => rfl
  have F_law_leaf := fun_mk (st := s_law_leaf) l_law_leaf c_law_leaf k_law_leaf
  have b_law_leaf := F_law_leaf.binds (ps := ["_law_script", "_law_k", "_law_sort", "_law_turns", "_law_base_here"]) fun _ _ _ _ _ _ us hl => match us, hl with | [_, _, _, _, _], _ => rfl
  have F_law_truth := fun_mk (st := s_law_truth) l_law_truth c_law_truth k_law_truth
  have b_law_truth := F_law_truth.binds (ps := ["_law_tree", "_law_course"]) fun _ _ _ _ _ _ us hl => match us, hl with | [_, _], _ => rfl
  have F_law_event := fun_mk (st := s_law_event) l_law_event c_law_event k_law_event
  have b_law_event := F_law_event.binds (ps := ["_law_tree"]) fun _ _ _ _ _ _ us hl => match us, hl with | [_], _ => rfl
  have F_law_farthest := fun_mk (st := s_law_farthest) l_law_farthest c_law_farthest k_law_farthest
  have b_law_farthest := F_law_farthest.binds (ps := ["_law_tree"]) fun _ _ _ _ _ _ us hl => match us, hl with | [_], _ => rfl
  have F_law_counts := fun_mk (st := s_law_counts) l_law_counts c_law_counts k_law_counts
  have b_law_counts := F_law_counts.binds (ps := ["_law_tree"]) fun _ _ _ _ _ _ us hl => match us, hl with | [_], _ => rfl
  have F_law_span := fun_mk (st := s_law_span) l_law_span c_law_span k_law_span
  have b_law_span := F_law_span.binds (ps := ["_law_span_here"]) fun _ _ _ _ _ _ us hl => match us, hl with | [_], _ => rfl
  have F_law_part := fun_mk (st := s_law_part) l_law_part c_law_part k_law_part
  have b_law_part := F_law_part.binds (ps := ["_law_part_here", "_law_far"]) fun _ _ _ _ _ _ us hl => match us, hl with | [_, _], _ => rfl
  have F_law_claims := fun_mk (st := s_law_claims) l_law_claims c_law_claims k_law_claims
  have b_law_claims := F_law_claims.binds (ps := ["_law_some", "_law_many", "_law_far"]) fun _ _ _ _ _ _ us hl => match us, hl with | [_, _, _], _ => rfl
  have F_law_met := fun_mk (st := s_law_met) l_law_met c_law_met k_law_met
  have b_law_met := F_law_met.binds (ps := ["_law_course", "_law_claim"]) fun _ _ _ _ _ _ us hl => match us, hl with | [_, _], _ => rfl
  have F_law_fitting := fun_mk (st := s_law_fitting) l_law_fitting c_law_fitting k_law_fitting
  have b_law_fitting := F_law_fitting.binds (ps := ["_law_tree", "_law_ways", "_law_breaks", "_law_course"]) fun _ _ _ _ _ _ us hl => match us, hl with | [_, _, _, _], _ => rfl
  have F_law_asked_of := fun_mk (st := s_law_asked_of) l_law_asked_of c_law_asked_of k_law_asked_of
  have b_law_asked_of := F_law_asked_of.binds (ps := ["_law_tree", "_law_one", "_law_other"]) fun _ _ _ _ _ _ us hl => match us, hl with | [_, _, _], _ => rfl
  have F_law := fun_mk (st := s_law) l_law c_law k_law
  have b_law := F_law.binds (ps := ["_law_script"]) fun _ _ _ _ _ _ us hl => match us, hl with | [_], _ => rfl
  have T : ∃ T : Tx K mg, T.a_law = fa ∧ T.fd_law = PySem.W.fnOf "law" "law" (defArgs s_law) (defBody s_law) (defScope s_law) .none kV_law dc_law pm_law an_law cd_law ct_law := ⟨{ a_outside := f_outside, fd_outside := _, F_outside := F_outside, b_outside := b_outside, m_outside := PySem.W.mg_of X G a_outside, a_failures := f_failures, fd_failures := _, F_failures := F_failures, b_failures := b_failures, m_failures := PySem.W.mg_of X G a_failures, a_parts_at := f_parts_at, fd_parts_at := _, F_parts_at := F_parts_at, b_parts_at := b_parts_at, m_parts_at := PySem.W.mg_of X G a_parts_at, a_Event_sizes := f_Event_sizes, fd_Event_sizes := _, F_Event_sizes := F_Event_sizes, b_Event_sizes := b_Event_sizes, a_Spanned_init__ := f_Spanned_init__, fd_Spanned_init__ := _, F_Spanned_init__ := F_Spanned_init__, b_Spanned_init__ := b_Spanned_init__, a_Spanned_all_at := f_Spanned_all_at, fd_Spanned_all_at := _, F_Spanned_all_at := F_Spanned_all_at, b_Spanned_all_at := b_Spanned_all_at, a_Stayed_init__ := f_Stayed_init__, fd_Stayed_init__ := _, F_Stayed_init__ := F_Stayed_init__, b_Stayed_init__ := b_Stayed_init__, a_Stayed_ways := f_Stayed_ways, fd_Stayed_ways := _, F_Stayed_ways := F_Stayed_ways, b_Stayed_ways := b_Stayed_ways, a_Stayed_breaks := f_Stayed_breaks, fd_Stayed_breaks := _, F_Stayed_breaks := F_Stayed_breaks, b_Stayed_breaks := b_Stayed_breaks, a_Over_init__ := f_Over_init__, fd_Over_init__ := _, F_Over_init__ := F_Over_init__, b_Over_init__ := b_Over_init__, a_Over_ways := f_Over_ways, fd_Over_ways := _, F_Over_ways := F_Over_ways, b_Over_ways := b_Over_ways, a_Over_breaks := f_Over_breaks, fd_Over_breaks := _, F_Over_breaks := F_Over_breaks, b_Over_breaks := b_Over_breaks, a_Under_init__ := f_Under_init__, fd_Under_init__ := _, F_Under_init__ := F_Under_init__, b_Under_init__ := b_Under_init__, a_Under_ways := f_Under_ways, fd_Under_ways := _, F_Under_ways := F_Under_ways, b_Under_ways := b_Under_ways, a_Under_breaks := f_Under_breaks, fd_Under_breaks := _, F_Under_breaks := F_Under_breaks, b_Under_breaks := b_Under_breaks, a_Rose_init__ := f_Rose_init__, fd_Rose_init__ := _, F_Rose_init__ := F_Rose_init__, b_Rose_init__ := b_Rose_init__, a_Rose_ways := f_Rose_ways, fd_Rose_ways := _, F_Rose_ways := F_Rose_ways, b_Rose_ways := b_Rose_ways, a_Rose_breaks := f_Rose_breaks, fd_Rose_breaks := _, F_Rose_breaks := F_Rose_breaks, b_Rose_breaks := b_Rose_breaks, a_Paced_init__ := f_Paced_init__, fd_Paced_init__ := _, F_Paced_init__ := F_Paced_init__, b_Paced_init__ := b_Paced_init__, a_Paced_all_steps := f_Paced_all_steps, fd_Paced_all_steps := _, F_Paced_all_steps := F_Paced_all_steps, b_Paced_all_steps := b_Paced_all_steps, a_Paced_ways := f_Paced_ways, fd_Paced_ways := _, F_Paced_ways := F_Paced_ways, b_Paced_ways := b_Paced_ways, a_Paced_breaks := f_Paced_breaks, fd_Paced_breaks := _, F_Paced_breaks := F_Paced_breaks, b_Paced_breaks := b_Paced_breaks, a_Turned_init__ := f_Turned_init__, fd_Turned_init__ := _, F_Turned_init__ := F_Turned_init__, b_Turned_init__ := b_Turned_init__, a_Turned_both_steps := f_Turned_both_steps, fd_Turned_both_steps := _, F_Turned_both_steps := F_Turned_both_steps, b_Turned_both_steps := b_Turned_both_steps, a_Turned_ways := f_Turned_ways, fd_Turned_ways := _, F_Turned_ways := F_Turned_ways, b_Turned_ways := b_Turned_ways, a_Turned_breaks := f_Turned_breaks, fd_Turned_breaks := _, F_Turned_breaks := F_Turned_breaks, b_Turned_breaks := b_Turned_breaks, a_law_draw := f_law_draw, fd_law_draw := _, F_law_draw := F_law_draw, b_law_draw := b_law_draw, m_law_draw := PySem.W.mg_of X G a_law_draw, a_law_base := f_law_base, fd_law_base := _, F_law_base := F_law_base, b_law_base := b_law_base, m_law_base := PySem.W.mg_of X G a_law_base, a_law_whole := f_law_whole, fd_law_whole := _, F_law_whole := F_law_whole, b_law_whole := b_law_whole, m_law_whole := PySem.W.mg_of X G a_law_whole, a_law_within := f_law_within, fd_law_within := _, F_law_within := F_law_within, b_law_within := b_law_within, m_law_within := PySem.W.mg_of X G a_law_within, a_law_leaf := f_law_leaf, fd_law_leaf := _, F_law_leaf := F_law_leaf, b_law_leaf := b_law_leaf, m_law_leaf := PySem.W.mg_of X G a_law_leaf, a_law_truth := f_law_truth, fd_law_truth := _, F_law_truth := F_law_truth, b_law_truth := b_law_truth, m_law_truth := PySem.W.mg_of X G a_law_truth, a_law_event := f_law_event, fd_law_event := _, F_law_event := F_law_event, b_law_event := b_law_event, m_law_event := PySem.W.mg_of X G a_law_event, a_law_farthest := f_law_farthest, fd_law_farthest := _, F_law_farthest := F_law_farthest, b_law_farthest := b_law_farthest, m_law_farthest := PySem.W.mg_of X G a_law_farthest, a_law_counts := f_law_counts, fd_law_counts := _, F_law_counts := F_law_counts, b_law_counts := b_law_counts, m_law_counts := PySem.W.mg_of X G a_law_counts, a_law_span := f_law_span, fd_law_span := _, F_law_span := F_law_span, b_law_span := b_law_span, m_law_span := PySem.W.mg_of X G a_law_span, a_law_part := f_law_part, fd_law_part := _, F_law_part := F_law_part, b_law_part := b_law_part, m_law_part := PySem.W.mg_of X G a_law_part, a_law_claims := f_law_claims, fd_law_claims := _, F_law_claims := F_law_claims, b_law_claims := b_law_claims, m_law_claims := PySem.W.mg_of X G a_law_claims, a_law_met := f_law_met, fd_law_met := _, F_law_met := F_law_met, b_law_met := b_law_met, m_law_met := PySem.W.mg_of X G a_law_met, a_law_fitting := f_law_fitting, fd_law_fitting := _, F_law_fitting := F_law_fitting, b_law_fitting := b_law_fitting, m_law_fitting := PySem.W.mg_of X G a_law_fitting, a_law_asked_of := f_law_asked_of, fd_law_asked_of := _, F_law_asked_of := F_law_asked_of, b_law_asked_of := b_law_asked_of, m_law_asked_of := PySem.W.mg_of X G a_law_asked_of, a_law := fa, fd_law := _, F_law := F_law, b_law := b_law, m_law := PySem.W.mg_of X G a_law, n_all := PySem.W.mg_none_of X G z_all, n_any := PySem.W.mg_none_of X G z_any, n_bool := PySem.W.mg_none_of X G z_bool, n_int := PySem.W.mg_none_of X G z_int, n_isinstance := PySem.W.mg_none_of X G z_isinstance, n_len := PySem.W.mg_none_of X G z_len, n_list := PySem.W.mg_none_of X G z_list, n_max := PySem.W.mg_none_of X G z_max, n_min := PySem.W.mg_none_of X G z_min, n_range := PySem.W.mg_none_of X G z_range, n_tuple := PySem.W.mg_none_of X G z_tuple, C_GazeError := C_GazeError, c_GazeError := PySem.W.mg_of X G e_GazeError, C_NoEvent := C_NoEvent, c_NoEvent := PySem.W.mg_of X G e_NoEvent, C_Event := C_Event, c_Event := PySem.W.mg_of X G e_Event, C_Spanned := C_Spanned, c_Spanned := PySem.W.mg_of X G e_Spanned, C_Stayed := C_Stayed, c_Stayed := PySem.W.mg_of X G e_Stayed, C_Over := C_Over, c_Over := PySem.W.mg_of X G e_Over, C_Under := C_Under, c_Under := PySem.W.mg_of X G e_Under, C_Rose := C_Rose, c_Rose := PySem.W.mg_of X G e_Rose, C_Paced := C_Paced, c_Paced := PySem.W.mg_of X G e_Paced, C_Turned := C_Turned, c_Turned := PySem.W.mg_of X G e_Turned, cl_Event := ⟨pg_Event, hd_Event, po_Event, sa_Event⟩, me_Event_sizes := ⟨a_Event_sizes, fn_Event_sizes, k_Event_sizes⟩, cl_Spanned := ⟨pg_Spanned, hd_Spanned, po_Spanned, sa_Spanned⟩, no_Spanned_first := no_Spanned_first, no_Spanned_last := no_Spanned_last, me_Spanned_sizes := ⟨in_Spanned_sizes, fn_Event_sizes, k_Event_sizes⟩, mk_Spanned := ⟨mk_Spanned, a_Spanned_init__, fn_Spanned_init__, kc_Spanned⟩, me_Spanned_all_at := ⟨a_Spanned_all_at, fn_Spanned_all_at, k_Spanned_all_at⟩, cl_Stayed := ⟨pg_Stayed, hd_Stayed, po_Stayed, sa_Stayed⟩, no_Stayed_first := no_Stayed_first, no_Stayed_last := no_Stayed_last, no_Stayed_stretch := no_Stayed_stretch, me_Stayed_sizes := ⟨in_Stayed_sizes, fn_Event_sizes, k_Event_sizes⟩, mk_Stayed := ⟨mk_Stayed, a_Stayed_init__, fn_Stayed_init__, kc_Stayed⟩, me_Stayed_all_at := ⟨in_Stayed_all_at, fn_Spanned_all_at, k_Spanned_all_at⟩, me_Stayed_ways := ⟨a_Stayed_ways, fn_Stayed_ways, k_Stayed_ways⟩, me_Stayed_breaks := ⟨a_Stayed_breaks, fn_Stayed_breaks, k_Stayed_breaks⟩, cl_Over := ⟨pg_Over, hd_Over, po_Over, sa_Over⟩, no_Over_first := no_Over_first, no_Over_last := no_Over_last, no_Over_sill := no_Over_sill, me_Over_sizes := ⟨in_Over_sizes, fn_Event_sizes, k_Event_sizes⟩, mk_Over := ⟨mk_Over, a_Over_init__, fn_Over_init__, kc_Over⟩, me_Over_all_at := ⟨in_Over_all_at, fn_Spanned_all_at, k_Spanned_all_at⟩, me_Over_ways := ⟨a_Over_ways, fn_Over_ways, k_Over_ways⟩, me_Over_breaks := ⟨a_Over_breaks, fn_Over_breaks, k_Over_breaks⟩, cl_Under := ⟨pg_Under, hd_Under, po_Under, sa_Under⟩, no_Under_first := no_Under_first, no_Under_last := no_Under_last, no_Under_sill := no_Under_sill, me_Under_sizes := ⟨in_Under_sizes, fn_Event_sizes, k_Event_sizes⟩, mk_Under := ⟨mk_Under, a_Under_init__, fn_Under_init__, kc_Under⟩, me_Under_all_at := ⟨in_Under_all_at, fn_Spanned_all_at, k_Spanned_all_at⟩, me_Under_ways := ⟨a_Under_ways, fn_Under_ways, k_Under_ways⟩, me_Under_breaks := ⟨a_Under_breaks, fn_Under_breaks, k_Under_breaks⟩, cl_Rose := ⟨pg_Rose, hd_Rose, po_Rose, sa_Rose⟩, no_Rose_first := no_Rose_first, no_Rose_last := no_Rose_last, no_Rose_low := no_Rose_low, no_Rose_high := no_Rose_high, me_Rose_sizes := ⟨in_Rose_sizes, fn_Event_sizes, k_Event_sizes⟩, mk_Rose := ⟨mk_Rose, a_Rose_init__, fn_Rose_init__, kc_Rose⟩, me_Rose_all_at := ⟨in_Rose_all_at, fn_Spanned_all_at, k_Spanned_all_at⟩, me_Rose_ways := ⟨a_Rose_ways, fn_Rose_ways, k_Rose_ways⟩, me_Rose_breaks := ⟨a_Rose_breaks, fn_Rose_breaks, k_Rose_breaks⟩, cl_Paced := ⟨pg_Paced, hd_Paced, po_Paced, sa_Paced⟩, no_Paced_first := no_Paced_first, no_Paced_last := no_Paced_last, no_Paced_stretch := no_Paced_stretch, me_Paced_sizes := ⟨in_Paced_sizes, fn_Event_sizes, k_Event_sizes⟩, mk_Paced := ⟨mk_Paced, a_Paced_init__, fn_Paced_init__, kc_Paced⟩, me_Paced_all_at := ⟨in_Paced_all_at, fn_Spanned_all_at, k_Spanned_all_at⟩, me_Paced_ways := ⟨a_Paced_ways, fn_Paced_ways, k_Paced_ways⟩, me_Paced_breaks := ⟨a_Paced_breaks, fn_Paced_breaks, k_Paced_breaks⟩, me_Paced_all_steps := ⟨a_Paced_all_steps, fn_Paced_all_steps, k_Paced_all_steps⟩, cl_Turned := ⟨pg_Turned, hd_Turned, po_Turned, sa_Turned⟩, no_Turned_turn := no_Turned_turn, me_Turned_sizes := ⟨in_Turned_sizes, fn_Event_sizes, k_Event_sizes⟩, mk_Turned := ⟨mk_Turned, a_Turned_init__, fn_Turned_init__, kc_Turned⟩, me_Turned_ways := ⟨a_Turned_ways, fn_Turned_ways, k_Turned_ways⟩, me_Turned_breaks := ⟨a_Turned_breaks, fn_Turned_breaks, k_Turned_breaks⟩, me_Turned_both_steps := ⟨a_Turned_both_steps, fn_Turned_both_steps, k_Turned_both_steps⟩, cf_Spanned_init__ := ⟨ga_Spanned_init__, rd_Spanned_init__, fc_Spanned_init__, k_Spanned_init__⟩, xc_NoEvent := ⟨x1_NoEvent, x2_NoEvent, x3_NoEvent, x4_NoEvent, x5_NoEvent, x6_NoEvent⟩, g_LAST_TURN := ⟨_, PySem.W.mg_of X G zLT⟩ }, rfl, rfl⟩
  obtain ⟨T, e1, e2⟩ := T
  refine ⟨PySem.W.fnOf "law" "law" (defArgs s_law) (defBody s_law) (defScope s_law) .none kV_law dc_law pm_law an_law cd_law ct_law, fun s v => .of_eq rfl, fun base _ _ => ?_⟩
  rw [← e1, ← e2]
  exact ok_law T
theorem walk {l : PySem.W.OpenLaw} {q : Program} {loose : List Str} {XP : (Str → Option Value) → Heap → Prop} {YP : World → Heap → Prop} {d : DefRec} {K : Params → PySem.W.Frag} (hn : l.most = some 63) (hdf : d.params.defaults = [])
    (hY : ∀ (w : World) (h : Heap), YP w h → (K w.params).In h)
    (F : ∀ (w : World) (mg : Str → Option Value) (fa : Addr) (h : Heap), (K w.params).In h → h.Ns mainGlobals mg → mg d.name = some (.ref fa) →
      ∃ fd : FuncData, (∀ (s : Shared) (u : Value), BindsTo s fd ⟨[u], []⟩ [("_law_script", u)]) ∧ ∀ base : Heap, (K w.params).In base → base.Ns mainGlobals mg → FnOk l.prog w (K w.params) mg base (CXX l.prog w) 6 fa fd ["_law_script"] (sp_law (K w.params))) :
    PySem.W.WalkO q loose XP YP l.row.toRowW d [] (fun f vs => PySem.call f vs) :=
  Gz.walk_big (k := 6) (x := "_law_script") (CX := fun w => CXX l.prog w) (sp := fun w => sp_law (K w.params)) hn hdf ⟨rfl, by decide, by decide⟩ hY F (fun _ _ a ns hl hS => ⟨a, ns, rfl, hS, hl, fun _ => rfl⟩) fun _ _ _ _ _ z => noCXX z
end K61
def PySem.W.Fast.tw1607312742778126311 : Unit := ()
def PySem.W.Fast.tw9195410980848400231 : Unit := ()
def PySem.W.Fast.tw12550656601215135806 : Unit := ()
def PySem.W.Fast.tw720729459771310113 : Unit := ()
def PySem.W.Fast.tw11659003925348080221 : Unit := ()
def PySem.W.Fast.tw4977848689505073215 : Unit := ()
def PySem.W.Fast.tw9374108559408661961 : Unit := ()
def PySem.W.Fast.tw6260355939094176079 : Unit := ()
def PySem.W.Fast.tw922440698598640748 : Unit := ()
def PySem.W.Fast.tw2519518483854199096 : Unit := ()
def PySem.W.Fast.tw6122013037935623372 : Unit := ()
def PySem.W.Fast.tw1198593297357796693 : Unit := ()
def PySem.W.Fast.tw1835781712251944199 : Unit := ()
def PySem.W.Fast.tw9857667417878819280 : Unit := ()
def PySem.W.Fast.tw3657453451611084237 : Unit := ()
def PySem.W.Fast.tw7173214199924802600 : Unit := ()
def PySem.W.Fast.tw6799826508866298338 : Unit := ()
def PySem.W.Fast.tw9222463622334237090 : Unit := ()
def PySem.W.Fast.tw4371669587918994719 : Unit := ()
def PySem.W.Fast.tw3693279992554328510 : Unit := ()
def PySem.W.Fast.tw8522714262063586691 : Unit := ()
def PySem.W.Fast.tw16091574682499627967 : Unit := ()
def PySem.W.Fast.tw2939011061281784805 : Unit := ()
def PySem.W.Fast.tw4061245591048650121 : Unit := ()
def PySem.W.Fast.tw10448879972332676766 : Unit := ()
def PySem.W.Fast.tw12047770519940765479 : Unit := ()
def PySem.W.Fast.tw4489485022688052258 : Unit := ()
def PySem.W.Fast.tw15694733931148998631 : Unit := ()
def PySem.W.Fast.tw1269128568538423984 : Unit := ()
def PySem.W.Fast.tw13900076601626296607 : Unit := ()
def PySem.W.Fast.tw2952906276860832903 : Unit := ()
def PySem.W.Fast.tw15797185122809250567 : Unit := ()
def PySem.W.Fast.tw7122673854836160933 : Unit := ()
def PySem.W.Fast.tw13119116007325864610 : Unit := ()
def PySem.W.Fast.tw5864586318313292570 : Unit := ()
def PySem.W.Fast.tw5142083736464552222 : Unit := ()
def PySem.W.Fast.tw3789340471455769452 : Unit := ()
def PySem.W.Fast.tw9543353601075416647 : Unit := ()
def PySem.W.Fast.tw10583587864479524629 : Unit := ()
def PySem.W.Fast.tw17222657040545312581 : Unit := ()
def PySem.W.Fast.tw13388877006029989094 : Unit := ()
def PySem.W.Fast.tw6900008057647294437 : Unit := ()
def PySem.W.Fast.tw9026647259569727221 : Unit := ()
def PySem.W.Fast.tw7883918778710434442 : Unit := ()
def PySem.W.Fast.tw14356496737429330492 : Unit := ()
def PySem.W.Fast.tw12856063085259970678 : Unit := ()
def PySem.W.Fast.tw9807081093470860217 : Unit := ()
def PySem.W.Fast.tw10220659363348709372 : Unit := ()
def PySem.W.Fast.tw10176314617643423982 : Unit := ()
def PySem.W.Fast.tw9567227970027658686 : Unit := ()
def PySem.W.Fast.tw16511949521737321485 : Unit := ()
def PySem.W.Fast.tw5771223500961738772 : Unit := ()
def PySem.W.Fast.tw9096048011871346783 : Unit := ()
def PySem.W.Fast.tw17383184905755266151 : Unit := ()
def PySem.W.Fast.tw5654823673559505278 : Unit := ()
def PySem.W.Fast.tw6046116836842561138 : Unit := ()
def PySem.W.Fast.tw2223554976591737385 : Unit := ()
def PySem.W.Fast.tw6245250146039179303 : Unit := ()
def PySem.W.Fast.tw5050319771608161857 : Unit := ()
def PySem.W.Fast.tw14311529929935281146 : Unit := ()
def PySem.W.Fast.tw13456720602466786761 : Unit := ()
def PySem.W.Fast.tw15190968166829059111 : Unit := ()
def PySem.W.Fast.tw7562206711096096812 : Unit := ()
def PySem.W.Fast.tw17098783429537434582 : Unit := ()
def PySem.W.Fast.tw3314303773072112084 : Unit := ()
def PySem.W.Fast.tw15876789655242027666 : Unit := ()
def PySem.W.Fast.tw13902017372356291412 : Unit := ()
def PySem.W.Fast.tw540020859603102869 : Unit := ()
def PySem.W.Fast.tw3694046678454682852 : Unit := ()
def PySem.W.Fast.tw9108226996098769618 : Unit := ()
def PySem.W.Fast.tw3701574764286063807 : Unit := ()
def PySem.W.Fast.tw10139426039098935769 : Unit := ()
def PySem.W.Fast.tw13009172128799951453 : Unit := ()
def PySem.W.Fast.tw15930038284015471855 : Unit := ()
def PySem.W.Fast.tw4815140897532543110 : Unit := ()
def PySem.W.Fast.tw13880027186211981749 : Unit := ()
def PySem.W.Fast.tw3789131337964747075 : Unit := ()
def PySem.W.Fast.tw3538078944257233726 : Unit := ()
def PySem.W.Fast.tw11879606844287657576 : Unit := ()
def PySem.W.Fast.tw2930588914570709742 : Unit := ()
def PySem.W.Fast.tw8859457324967394226 : Unit := ()
def PySem.W.Fast.tw11439513934537669318 : Unit := ()
def PySem.W.Fast.tw17174454672575165504 : Unit := ()
def PySem.W.Fast.tw9378968523246056323 : Unit := ()
def PySem.W.Fast.tw1777368793736696220 : Unit := ()
def PySem.W.Fast.tw344182542705980347 : Unit := ()
def PySem.W.Fast.tw15106952947650333361 : Unit := ()
def PySem.W.Fast.tw3563648757075446173 : Unit := ()
def PySem.W.Fast.tw5178052005851247121 : Unit := ()
def PySem.W.Fast.tw17995455576043398083 : Unit := ()
def PySem.W.Fast.tw7368694635563474574 : Unit := ()
def PySem.W.Fast.tw18196417802759005418 : Unit := ()
def PySem.W.Fast.tw17174372619612585422 : Unit := ()
def PySem.W.Fast.tw13364537775525962345 : Unit := ()
def PySem.W.Fast.tw13124941851270206504 : Unit := ()
def PySem.W.Fast.tw17984238802053738518 : Unit := ()
def PySem.W.Fast.tw17531745284313440509 : Unit := ()
def PySem.W.Fast.tw8400920574250472842 : Unit := ()
def PySem.W.Fast.tw17883082897699296316 : Unit := ()
def PySem.W.Fast.tw15395026648514999473 : Unit := ()
def PySem.W.Fast.tw3501475974605862721 : Unit := ()
def PySem.W.Fast.tw8569172021762788598 : Unit := ()
def PySem.W.Fast.tw6641444290856183932 : Unit := ()
def PySem.W.Fast.tw16408744032688032561 : Unit := ()
def PySem.W.Fast.tw4946109290207197474 : Unit := ()
def PySem.W.Fast.tw8695589466865913883 : Unit := ()
def PySem.W.Fast.tw5729899375653146002 : Unit := ()
def PySem.W.Fast.tw16465804629573290866 : Unit := ()
def PySem.W.Fast.tw11445368395033309635 : Unit := ()
def PySem.W.Fast.tw243352157526095799 : Unit := ()
def PySem.W.Fast.tw3531467656333181026 : Unit := ()
def PySem.W.Fast.tw201428122113949987 : Unit := ()
def PySem.W.Fast.tw10953645923561718031 : Unit := ()
def PySem.W.Fast.tw9176285181778724624 : Unit := ()
def PySem.W.Fast.tw2369148352551149565 : Unit := ()
def PySem.W.Fast.tw13876462833089289665 : Unit := ()
def PySem.W.Fast.tw6470563352686847921 : Unit := ()
def PySem.W.Fast.tw13447408299821928378 : Unit := ()
def PySem.W.Fast.tw15741283812036773222 : Unit := ()
def PySem.W.Fast.tw4156747194027775471 : Unit := ()
def PySem.W.Fast.tw3371590827885922291 : Unit := ()
def PySem.W.Fast.tw12367973562010399110 : Unit := ()
def PySem.W.Fast.tw13727015553494544629 : Unit := ()
def PySem.W.Fast.tw5195544315016868885 : Unit := ()
def PySem.W.Fast.tw6429633374411023239 : Unit := ()
def PySem.W.Fast.tw315009091859375588 : Unit := ()
def PySem.W.Fast.tw9939451167457827885 : Unit := ()
def PySem.W.Fast.tw5127850720778974673 : Unit := ()
def PySem.W.Fast.tw1390114925429983010 : Unit := ()
def PySem.W.Fast.tw95093012450182493 : Unit := ()
def PySem.W.Fast.tw10797396295574332514 : Unit := ()
def PySem.W.Fast.tw1143209833392410948 : Unit := ()
def PySem.W.Fast.tw8851995337989434041 : Unit := ()
def PySem.W.Fast.tw9427428087623661389 : Unit := ()
def PySem.W.Fast.tw13058444167685102429 : Unit := ()
def PySem.W.Fast.tw13003783891696854323 : Unit := ()
def PySem.W.Fast.tw17099999041152261281 : Unit := ()
def PySem.W.Fast.tw16914672234892401400 : Unit := ()
def PySem.W.Fast.tw12947137434029715827 : Unit := ()
def PySem.W.Fast.tw15334145432151247290 : Unit := ()
def PySem.W.Fast.tw409987322348587956 : Unit := ()
def PySem.W.Fast.tw881160029453643826 : Unit := ()
def PySem.W.Fast.tw260078194328773899 : Unit := ()
def PySem.W.Fast.tw18097749931964869739 : Unit := ()
def PySem.W.Fast.tw12629087326909704904 : Unit := ()
def PySem.W.Fast.tw650492603580394808 : Unit := ()
def PySem.W.Fast.tw9245823450961913616 : Unit := ()
def PySem.W.Fast.tw18186376468534606097 : Unit := ()
def PySem.W.Fast.tw8398819250248825032 : Unit := ()
def PySem.W.Fast.tw3431201102124080878 : Unit := ()
def PySem.W.Fast.tw10843468568104162257 : Unit := ()
def PySem.W.Fast.tw11041933395439554860 : Unit := ()
def PySem.W.Fast.tw2883993900492835849 : Unit := ()
def PySem.W.Fast.tw2872584345143603193 : Unit := ()
def PySem.W.Fast.tw15120364151901986140 : Unit := ()
def PySem.W.Fast.tw3225360453244345262 : Unit := ()
def PySem.W.Fast.tw16442168846026012977 : Unit := ()
def PySem.W.Fast.tw1722834201296638684 : Unit := ()
def PySem.W.Fast.tw18297159840344421828 : Unit := ()
def PySem.W.Fast.tw1032835229693566776 : Unit := ()
def PySem.W.Fast.tw1420796483863603243 : Unit := ()
def PySem.W.Fast.tw17431368851913084444 : Unit := ()
def PySem.W.Fast.tw11038104547444594483 : Unit := ()
def PySem.W.Fast.tw12275461950711931051 : Unit := ()
def PySem.W.Fast.tw8313414639426891986 : Unit := ()
def PySem.W.Fast.tw12161941038735306538 : Unit := ()
def PySem.W.Fast.tw7782463192358312216 : Unit := ()
def PySem.W.Fast.tw1244771730867401369 : Unit := ()
def PySem.W.Fast.tw17469991614573217580 : Unit := ()
def PySem.W.Fast.tw3956903043201175051 : Unit := ()
def PySem.W.Fast.tw2510423635907393972 : Unit := ()
def PySem.W.Fast.tw3289312785569987373 : Unit := ()
def PySem.W.Fast.tw8568978271584329188 : Unit := ()
def PySem.W.Fast.tw5634007691433912260 : Unit := ()
def PySem.W.Fast.tw3348032944725906545 : Unit := ()
def PySem.W.Fast.tw6541197172000808924 : Unit := ()
def PySem.W.Fast.tw5532423359455559846 : Unit := ()
def PySem.W.Fast.tw17332903623199713620 : Unit := ()
def PySem.W.Fast.tw816296376786626827 : Unit := ()
def PySem.W.Fast.tw16875817890923941665 : Unit := ()
def PySem.W.Fast.tw15599451774487200953 : Unit := ()
def PySem.W.Fast.tw5836275638335858013 : Unit := ()
def PySem.W.Fast.tw6912271914916887610 : Unit := ()
def PySem.W.Fast.tw8096738247703809507 : Unit := ()
def PySem.W.Fast.tw5736408890344557212 : Unit := ()
def PySem.W.Fast.tw13071385194805330980 : Unit := ()
def PySem.W.Fast.tw14235855341777512624 : Unit := ()
def PySem.W.Fast.tw8041029031324019169 : Unit := ()
def PySem.W.Fast.tw15395015309718267318 : Unit := ()
def PySem.W.Fast.tw14107254317947646308 : Unit := ()
def PySem.W.Fast.tw6866856163170416072 : Unit := ()
def PySem.W.Fast.tw11939476052967024278 : Unit := ()
def PySem.W.Fast.tw14109245100338466279 : Unit := ()
def PySem.W.Fast.tw13754261615848864105 : Unit := ()
def PySem.W.Fast.tw5229999449473771499 : Unit := ()
def PySem.W.Fast.tw3999369709703693240 : Unit := ()
def PySem.W.Fast.tw16110717515794374859 : Unit := ()
def PySem.W.Fast.tw13407097553919066427 : Unit := ()
def PySem.W.Fast.tw9686657740916712303 : Unit := ()
def PySem.W.Fast.tw13517229148992492154 : Unit := ()
def PySem.W.Fast.tw3425078845639360128 : Unit := ()
def PySem.W.Fast.tw14068780551323011313 : Unit := ()
def PySem.W.Fast.tw3113131111467183248 : Unit := ()
def PySem.W.Fast.tw16481978688910567472 : Unit := ()
def PySem.W.Fast.tw6439436843063739285 : Unit := ()
def PySem.W.Fast.tw11750392728745606758 : Unit := ()
def PySem.W.Fast.tw16360664340984962786 : Unit := ()
def PySem.W.Fast.tw6616903262732022797 : Unit := ()
def PySem.W.Fast.tw11531888586805543779 : Unit := ()
def PySem.W.Fast.tw2271935380830730882 : Unit := ()
def PySem.W.Fast.tw890302427617989967 : Unit := ()
def PySem.W.Fast.tw7613067379394078991 : Unit := ()
def PySem.W.Fast.tw350841397165035031 : Unit := ()
def PySem.W.Fast.tw10956987618007015783 : Unit := ()
def PySem.W.Fast.tw7393880355141113021 : Unit := ()
def PySem.W.Fast.tw2392840494382661574 : Unit := ()
def PySem.W.Fast.tw6023468026462567278 : Unit := ()
def PySem.W.Fast.tw12227208417789040208 : Unit := ()
def PySem.W.Fast.tw2431610851240680592 : Unit := ()
def PySem.W.Fast.tw3182925056101693294 : Unit := ()
def PySem.W.Fast.tw3812592634531842654 : Unit := ()
def PySem.W.Fast.tw3810940216468395026 : Unit := ()
def PySem.W.Fast.tw1362636480692173148 : Unit := ()
def PySem.W.Fast.tw10938462851822029759 : Unit := ()
def PySem.W.Fast.tw17108316416659680066 : Unit := ()
def PySem.W.Fast.tw2134801518429118852 : Unit := ()
def PySem.W.Fast.tw2805571350885973813 : Unit := ()
def PySem.W.Fast.tw17032639928454513576 : Unit := ()
def PySem.W.Fast.tw4770816113054026085 : Unit := ()
def PySem.W.Fast.tw17748655444078312210 : Unit := ()
def PySem.W.Fast.tw13958729509806265517 : Unit := ()
def PySem.W.Fast.tw12290344343476229282 : Unit := ()
def PySem.W.Fast.tw8606585250828133273 : Unit := ()
def PySem.W.Fast.tw4517463977984125149 : Unit := ()
def PySem.W.Fast.tw15466296959040332215 : Unit := ()
def PySem.W.Fast.tw11454672805316379055 : Unit := ()
def PySem.W.Fast.tw12707085854987117703 : Unit := ()
def PySem.W.Fast.tw4849626922160169896 : Unit := ()
def PySem.W.Fast.tw18044058933893745716 : Unit := ()
def PySem.W.Fast.tw11121568907914345579 : Unit := ()
def PySem.W.Fast.tw15602570047990904398 : Unit := ()
def PySem.W.Fast.tw16985502874708083413 : Unit := ()
def PySem.W.Fast.tw5531027250986196828 : Unit := ()
def PySem.W.Fast.tw7793305764817125321 : Unit := ()
def PySem.W.Fast.tw12558110855556135639 : Unit := ()
def PySem.W.Fast.tw8225135886337128273 : Unit := ()
def PySem.W.Fast.tw8655955318023079008 : Unit := ()
def PySem.W.Fast.tw15732278073325708099 : Unit := ()
def PySem.W.Fast.tw10973016706538010961 : Unit := ()
def PySem.W.Fast.tw9523292075095526460 : Unit := ()
def PySem.W.Fast.tw5137203080805008626 : Unit := ()
def PySem.W.Fast.tw7051790354876904809 : Unit := ()
def PySem.W.Fast.tw17080234969500759164 : Unit := ()
def PySem.W.Fast.tw8629899914994202588 : Unit := ()
def PySem.W.Fast.tw8912425583423066958 : Unit := ()
def PySem.W.Fast.tw15196491032918216251 : Unit := ()
def PySem.W.Fast.tw4401691064315878901 : Unit := ()
def PySem.W.Fast.tw2661759215800652458 : Unit := ()
def PySem.W.Fast.tw15502354605301457939 : Unit := ()
def PySem.W.Fast.tw3911843622030326489 : Unit := ()
def PySem.W.Fast.tw14467632023268422733 : Unit := ()
def PySem.W.Fast.tw15699789336391129552 : Unit := ()
def PySem.W.Fast.tw695275203824492090 : Unit := ()
def PySem.W.Fast.tw4128939982198373689 : Unit := ()
def PySem.W.Fast.tw17083045172470116531 : Unit := ()
def PySem.W.Fast.tw16168522801000047557 : Unit := ()
def PySem.W.Fast.tw8264018171816587620 : Unit := ()
def PySem.W.Fast.tw5207012258668018505 : Unit := ()
def PySem.W.Fast.tw14145524610758472608 : Unit := ()
def PySem.W.Fast.tw16483355580960516954 : Unit := ()
def PySem.W.Fast.tw10998289030109085596 : Unit := ()
def PySem.W.Fast.tw4430472764880048520 : Unit := ()
def PySem.W.Fast.tw11894678765024448893 : Unit := ()
def PySem.W.Fast.tw1734806980921401790 : Unit := ()
def PySem.W.Fast.tw7718717816307427993 : Unit := ()
def PySem.W.Fast.tw2235268999036860227 : Unit := ()
def PySem.W.Fast.tw1786283878619697967 : Unit := ()
def PySem.W.Fast.tw7283327797101896897 : Unit := ()
def PySem.W.Fast.tw2173195242317655095 : Unit := ()
def PySem.W.Fast.tw17609364796837485384 : Unit := ()
def PySem.W.Fast.tw13886932829590295197 : Unit := ()
def PySem.W.Fast.tw6122215728816385448 : Unit := ()
def PySem.W.Fast.tw8601811453531663265 : Unit := ()
def PySem.W.Fast.tw8888010406643713838 : Unit := ()
def PySem.W.Fast.tw7134086578163592786 : Unit := ()
def PySem.W.Fast.tw14164976204844902444 : Unit := ()
def PySem.W.Fast.tw14950828599516068715 : Unit := ()
def PySem.W.Fast.tw17453413486415112817 : Unit := ()
def PySem.W.Fast.tw1964176658905094204 : Unit := ()
def PySem.W.Fast.tw8119353294313001314 : Unit := ()
def PySem.W.Fast.tw2104582002252449029 : Unit := ()
def PySem.W.Fast.tw17053204569392239244 : Unit := ()
def PySem.W.Fast.tw17948319879013845469 : Unit := ()
def PySem.W.Fast.tw6368855422397164485 : Unit := ()
def PySem.W.Fast.tw1411140443208632898 : Unit := ()
def PySem.W.Fast.tw15001573961700799140 : Unit := ()
def PySem.W.Fast.tw8821102628674785614 : Unit := ()
def PySem.W.Fast.tw15169669032211871901 : Unit := ()
def PySem.W.Fast.tw9205878554342393783 : Unit := ()
def PySem.W.Fast.tw12454034054332053603 : Unit := ()
def PySem.W.Fast.tw5313675462444469352 : Unit := ()
def PySem.W.Fast.tw12945372914257256393 : Unit := ()
def PySem.W.Fast.tw8608123174515710539 : Unit := ()
def PySem.W.Fast.tw4680357491624354754 : Unit := ()
def PySem.W.Fast.tw3936719428027920421 : Unit := ()
def PySem.W.Fast.tw2335748790409153378 : Unit := ()
def PySem.W.Fast.tw17519591532481339275 : Unit := ()
def PySem.W.Fast.tw6310327947594099060 : Unit := ()
def PySem.W.Fast.tw17930681505380963132 : Unit := ()
def PySem.W.Fast.tw13309450374527671650 : Unit := ()
def PySem.W.Fast.tw17139622869612638861 : Unit := ()
def PySem.W.Fast.tw15287270216130609092 : Unit := ()
def PySem.W.Fast.tw16615567083351543319 : Unit := ()
def PySem.W.Fast.tw10191821834628144071 : Unit := ()
def PySem.W.Fast.tw76108460031339283 : Unit := ()
def PySem.W.Fast.tw8295350416324156358 : Unit := ()
def PySem.W.Fast.tw1474913769371884869 : Unit := ()
def PySem.W.Fast.tw34408172462488091 : Unit := ()
def PySem.W.Fast.tw15777700402710784845 : Unit := ()
def PySem.W.Fast.tw6638373766073219565 : Unit := ()
def PySem.W.Fast.tw5909277008352750144 : Unit := ()
def PySem.W.Fast.tw11919388731646036787 : Unit := ()
def PySem.W.Fast.tw6585860560700538266 : Unit := ()
def PySem.W.Fast.tw10888935977515921061 : Unit := ()
def PySem.W.Fast.tw4721002512714590524 : Unit := ()
def PySem.W.Fast.tw17832703993454084395 : Unit := ()
def PySem.W.Fast.tw17822888429019447037 : Unit := ()
def PySem.W.Fast.tw15708630587920296082 : Unit := ()
def PySem.W.Fast.tw6612881955489685620 : Unit := ()
def PySem.W.Fast.tw11323333130350106074 : Unit := ()
def PySem.W.Fast.tw2283921359942384873 : Unit := ()
def PySem.W.Fast.tw9051114317057555909 : Unit := ()
def PySem.W.Fast.tw7318806610417351905 : Unit := ()
def PySem.W.Fast.tw12809376627230209229 : Unit := ()
def PySem.W.Fast.tw2252985493663458511 : Unit := ()
def PySem.W.Fast.tw2818421651001733521 : Unit := ()
def PySem.W.Fast.tw9587528361300879650 : Unit := ()
def PySem.W.Fast.tw9906840359175048073 : Unit := ()
def PySem.W.Fast.tw18396086309436521718 : Unit := ()
def PySem.W.Fast.tw17560232447578940339 : Unit := ()
def PySem.W.Fast.tw5791074969346163255 : Unit := ()
def PySem.W.Fast.tw7602066919984700220 : Unit := ()
def PySem.W.Fast.tw17987206992686711954 : Unit := ()
def PySem.W.Fast.tw5160784375501172457 : Unit := ()
def PySem.W.Fast.tw3941592173936383301 : Unit := ()
def PySem.W.Fast.tw11040364903114855744 : Unit := ()
def PySem.W.Fast.tw2505581893823907907 : Unit := ()
def PySem.W.Fast.tw1318018612250653265 : Unit := ()
def PySem.W.Fast.tw8331515444540363463 : Unit := ()
def PySem.W.Fast.tw6181779439302990922 : Unit := ()
def PySem.W.Fast.tw3677137062927646281 : Unit := ()
def PySem.W.Fast.tw4324149756802344883 : Unit := ()
def PySem.W.Fast.tw4567899151780687606 : Unit := ()
def PySem.W.Fast.tw5254170624573776367 : Unit := ()
def PySem.W.Fast.tw16950697648841983281 : Unit := ()
def PySem.W.Fast.tw1949600142509419508 : Unit := ()
def PySem.W.Fast.tw16821110646132965306 : Unit := ()
def PySem.W.Fast.tw17921012476589991499 : Unit := ()
def PySem.W.Fast.tw2915195855751699848 : Unit := ()
def PySem.W.Fast.tw1259585053826021566 : Unit := ()
def PySem.W.Fast.tw14679059435589096776 : Unit := ()
def PySem.W.Fast.tw1319660881362119859 : Unit := ()
def PySem.W.Fast.tw16035483087353091680 : Unit := ()
def PySem.W.Fast.tw12733286055521000241 : Unit := ()
def PySem.W.Fast.tw6625143912732929239 : Unit := ()
def PySem.W.Fast.tw11147895722463703758 : Unit := ()
def PySem.W.Fast.tw11489746015958136181 : Unit := ()
def PySem.W.Fast.tw12352481231037038081 : Unit := ()
def PySem.W.Fast.tw4146736523845470797 : Unit := ()
def PySem.W.Fast.tw16993941839856598980 : Unit := ()
def PySem.W.Fast.tw16501133891399216659 : Unit := ()
def PySem.W.Fast.tw5963265016690192407 : Unit := ()
def PySem.W.Fast.tw11485770490734811068 : Unit := ()
def PySem.W.Fast.tw8473667426580590145 : Unit := ()
def PySem.W.Fast.tw7006339913307964123 : Unit := ()
def PySem.W.Fast.tw8000981779308454959 : Unit := ()
def PySem.W.Fast.tw1129268774442131634 : Unit := ()
def PySem.W.Fast.tw15106997940177403560 : Unit := ()
def PySem.W.Fast.tw12867564219105818691 : Unit := ()
def PySem.W.Fast.tw7891843192016233884 : Unit := ()
def PySem.W.Fast.tw7909527402729928434 : Unit := ()
def PySem.W.Fast.tw2254554135618447466 : Unit := ()
def PySem.W.Fast.tw11831564835229809046 : Unit := ()
def PySem.W.Fast.tw14827342194018851626 : Unit := ()
def PySem.W.Fast.tw1535787631783789274 : Unit := ()
def PySem.W.Fast.tw10172512576302720391 : Unit := ()
def PySem.W.Fast.tw9251744455810454695 : Unit := ()
def PySem.W.Fast.tw10270529238713489316 : Unit := ()
def PySem.W.Fast.tw7320483310351738760 : Unit := ()
def PySem.W.Fast.tw16120602772627552479 : Unit := ()
def PySem.W.Fast.tw2191555570980651443 : Unit := ()
def PySem.W.Fast.tw7722764540910807508 : Unit := ()
def PySem.W.Fast.tw9537301605741272763 : Unit := ()
def PySem.W.Fast.tw4888339645417413375 : Unit := ()
def PySem.W.Fast.tw11512161030460434206 : Unit := ()
def PySem.W.Fast.tw4989792164802496643 : Unit := ()
def PySem.W.Fast.tw3545475941982223435 : Unit := ()
def PySem.W.Fast.tw3714790736692481703 : Unit := ()
def PySem.W.Fast.tw11970948564312617937 : Unit := ()
def PySem.W.Fast.tw17357755681680722134 : Unit := ()
def PySem.W.Fast.tw7236437661800373829 : Unit := ()
def PySem.W.Fast.tw9905636746460744842 : Unit := ()
def PySem.W.Fast.tw18063501748737523873 : Unit := ()
def PySem.W.Fast.tw15232225684300491922 : Unit := ()
def PySem.W.Fast.tw4808249517027373282 : Unit := ()
def PySem.W.Fast.tw2055448566681235741 : Unit := ()
def PySem.W.Fast.tw11669176814652445046 : Unit := ()
def PySem.W.Fast.tw16629978146932764943 : Unit := ()
def PySem.W.Fast.tw10227153404524466337 : Unit := ()
def PySem.W.Fast.tw6110300156234078595 : Unit := ()
def PySem.W.Fast.tw2253410537483333005 : Unit := ()
def PySem.W.Fast.tw1597244400209712252 : Unit := ()
def PySem.W.Fast.tw4616978671955430848 : Unit := ()
def PySem.W.Fast.tw8334315947943973052 : Unit := ()
def PySem.W.Fast.tw3251417429493969173 : Unit := ()
def PySem.W.Fast.tw16011265506543025340 : Unit := ()
def PySem.W.Fast.tw1190005349037886943 : Unit := ()
def PySem.W.Fast.tw5263848468878832858 : Unit := ()
def PySem.W.Fast.tw1009148260899945087 : Unit := ()
def PySem.W.Fast.tw9837816961013917160 : Unit := ()
def PySem.W.Fast.tw17139152309136676300 : Unit := ()
def PySem.W.Fast.tw6913165772255540962 : Unit := ()
def PySem.W.Fast.tw14736336664953881849 : Unit := ()
def PySem.W.Fast.tw1856012550567705285 : Unit := ()
def PySem.W.Fast.tw15740400477382194170 : Unit := ()
def PySem.W.Fast.tw11318686571333447875 : Unit := ()
def PySem.W.Fast.tw2043248002313360578 : Unit := ()
def PySem.W.Fast.tw2136157892005180092 : Unit := ()
def PySem.W.Fast.tw18244798356945098711 : Unit := ()
def PySem.W.Fast.tw12954073507183309532 : Unit := ()
def PySem.W.Fast.tw9474401277172092970 : Unit := ()
def PySem.W.Fast.tw11978617420990802420 : Unit := ()
def PySem.W.Fast.tw4978220270426887313 : Unit := ()
def PySem.W.Fast.tw489149225990127656 : Unit := ()
def PySem.W.Fast.tw11006057943258444084 : Unit := ()
def PySem.W.Fast.tw14017126140277445887 : Unit := ()
def PySem.W.Fast.tw13496906381610859772 : Unit := ()
def PySem.W.Fast.tw2022364202990556044 : Unit := ()
def PySem.W.Fast.tw17584910666072875791 : Unit := ()
def PySem.W.Fast.tw4032257562346111507 : Unit := ()
def PySem.W.Fast.tw15139778420641500013 : Unit := ()
def PySem.W.Fast.tw14055828924721642684 : Unit := ()
def PySem.W.Fast.tw251922134219328568 : Unit := ()
def PySem.W.Fast.tw5651647762750604125 : Unit := ()
def PySem.W.Fast.tw11302015886132883364 : Unit := ()
def PySem.W.Fast.tw7334341859764564782 : Unit := ()
def PySem.W.Fast.tw1379763441848794290 : Unit := ()
def PySem.W.Fast.tw12689880881032066804 : Unit := ()
def PySem.W.Fast.tw3353500288570290164 : Unit := ()
def PySem.W.Fast.tw13785700390144583510 : Unit := ()
open PySem PySem.W PyProof.Rows
set_option maxRecDepth 100000 in
set_option maxHeartbeats 0 in
theorem PySem.Challenge.cw_gaze_k61_ways_and_breaks_holds : PySem.Challenge.rw_gaze_k61_ways_and_breaks.Holds := by
  w_on; o_law; k_head; (case hw => w_witness2)
  k_fill
  refine K61.walk (l := PySem.Challenge.rw_gaze_k61_ways_and_breaks) rfl rfl (fun w h Y => PySem.W.kIn_of Y) ?F
  case F =>
    intro w mg fa h KX G hmg
    refine' K61.fin_mk KX G hmg ?a_outside ?l_outside ?c_outside ?k_outside ?a_failures ?l_failures ?c_failures ?k_failures ?a_parts_at ?l_parts_at ?c_parts_at ?k_parts_at ?a_Event_sizes ?l_Event_sizes ?c_Event_sizes ?k_Event_sizes ?a_Spanned_init__ ?l_Spanned_init__ ?c_Spanned_init__ ?k_Spanned_init__ ?a_Spanned_all_at ?l_Spanned_all_at ?c_Spanned_all_at ?k_Spanned_all_at ?a_Stayed_init__ ?l_Stayed_init__ ?c_Stayed_init__ ?k_Stayed_init__ ?a_Stayed_ways ?l_Stayed_ways ?c_Stayed_ways ?k_Stayed_ways ?a_Stayed_breaks ?l_Stayed_breaks ?c_Stayed_breaks ?k_Stayed_breaks ?a_Over_init__ ?l_Over_init__ ?c_Over_init__ ?k_Over_init__ ?a_Over_ways ?l_Over_ways ?c_Over_ways ?k_Over_ways ?a_Over_breaks ?l_Over_breaks ?c_Over_breaks ?k_Over_breaks ?a_Under_init__ ?l_Under_init__ ?c_Under_init__ ?k_Under_init__ ?a_Under_ways ?l_Under_ways ?c_Under_ways ?k_Under_ways ?a_Under_breaks ?l_Under_breaks ?c_Under_breaks ?k_Under_breaks ?a_Rose_init__ ?l_Rose_init__ ?c_Rose_init__ ?k_Rose_init__ ?a_Rose_ways ?l_Rose_ways ?c_Rose_ways ?k_Rose_ways ?a_Rose_breaks ?l_Rose_breaks ?c_Rose_breaks ?k_Rose_breaks ?a_Paced_init__ ?l_Paced_init__ ?c_Paced_init__ ?k_Paced_init__ ?a_Paced_all_steps ?l_Paced_all_steps ?c_Paced_all_steps ?k_Paced_all_steps ?a_Paced_ways ?l_Paced_ways ?c_Paced_ways ?k_Paced_ways ?a_Paced_breaks ?l_Paced_breaks ?c_Paced_breaks ?k_Paced_breaks ?a_Turned_init__ ?l_Turned_init__ ?c_Turned_init__ ?k_Turned_init__ ?a_Turned_both_steps ?l_Turned_both_steps ?c_Turned_both_steps ?k_Turned_both_steps ?a_Turned_ways ?l_Turned_ways ?c_Turned_ways ?k_Turned_ways ?a_Turned_breaks ?l_Turned_breaks ?c_Turned_breaks ?k_Turned_breaks ?a_law_draw ?l_law_draw ?c_law_draw ?k_law_draw ?a_law_base ?l_law_base ?c_law_base ?k_law_base ?a_law_whole ?l_law_whole ?c_law_whole ?k_law_whole ?a_law_within ?l_law_within ?c_law_within ?k_law_within ?a_law_leaf ?l_law_leaf ?c_law_leaf ?k_law_leaf ?a_law_truth ?l_law_truth ?c_law_truth ?k_law_truth ?a_law_event ?l_law_event ?c_law_event ?k_law_event ?a_law_farthest ?l_law_farthest ?c_law_farthest ?k_law_farthest ?a_law_counts ?l_law_counts ?c_law_counts ?k_law_counts ?a_law_span ?l_law_span ?c_law_span ?k_law_span ?a_law_part ?l_law_part ?c_law_part ?k_law_part ?a_law_claims ?l_law_claims ?c_law_claims ?k_law_claims ?a_law_met ?l_law_met ?c_law_met ?k_law_met ?a_law_fitting ?l_law_fitting ?c_law_fitting ?k_law_fitting ?a_law_asked_of ?l_law_asked_of ?c_law_asked_of ?k_law_asked_of ?a_law ?l_law ?c_law ?k_law ?z_all ?z_any ?z_bool ?z_int ?z_isinstance ?z_len ?z_list ?z_max ?z_min ?z_range ?z_tuple ?e_GazeError ?e_NoEvent ?e_Event ?e_Spanned ?e_Stayed ?e_Over ?e_Under ?e_Rose ?e_Paced ?e_Turned ?pg_Event ?hd_Event ?po_Event ?sa_Event ?fn_Event_sizes ?pg_Spanned ?hd_Spanned ?po_Spanned ?sa_Spanned ?no_Spanned_first ?no_Spanned_last ?in_Spanned_sizes ?fn_Spanned_init__ ?mk_Spanned ?kc_Spanned ?fn_Spanned_all_at ?pg_Stayed ?hd_Stayed ?po_Stayed ?sa_Stayed ?no_Stayed_first ?no_Stayed_last ?no_Stayed_stretch ?in_Stayed_sizes ?fn_Stayed_init__ ?mk_Stayed ?kc_Stayed ?in_Stayed_all_at ?fn_Stayed_ways ?fn_Stayed_breaks ?pg_Over ?hd_Over ?po_Over ?sa_Over ?no_Over_first ?no_Over_last ?no_Over_sill ?in_Over_sizes ?fn_Over_init__ ?mk_Over ?kc_Over ?in_Over_all_at ?fn_Over_ways ?fn_Over_breaks ?pg_Under ?hd_Under ?po_Under ?sa_Under ?no_Under_first ?no_Under_last ?no_Under_sill ?in_Under_sizes ?fn_Under_init__ ?mk_Under ?kc_Under ?in_Under_all_at ?fn_Under_ways ?fn_Under_breaks ?pg_Rose ?hd_Rose ?po_Rose ?sa_Rose ?no_Rose_first ?no_Rose_last ?no_Rose_low ?no_Rose_high ?in_Rose_sizes ?fn_Rose_init__ ?mk_Rose ?kc_Rose ?in_Rose_all_at ?fn_Rose_ways ?fn_Rose_breaks ?pg_Paced ?hd_Paced ?po_Paced ?sa_Paced ?no_Paced_first ?no_Paced_last ?no_Paced_stretch ?in_Paced_sizes ?fn_Paced_init__ ?mk_Paced ?kc_Paced ?in_Paced_all_at ?fn_Paced_ways ?fn_Paced_breaks ?fn_Paced_all_steps ?pg_Turned ?hd_Turned ?po_Turned ?sa_Turned ?no_Turned_turn ?in_Turned_sizes ?fn_Turned_init__ ?mk_Turned ?kc_Turned ?fn_Turned_ways ?fn_Turned_breaks ?fn_Turned_both_steps ?ga_Spanned_init__ ?rd_Spanned_init__ ?fc_Spanned_init__ ?x1_NoEvent ?x2_NoEvent ?x3_NoEvent ?x4_NoEvent ?x5_NoEvent ?x6_NoEvent ?zLT
    (case e_GazeError => k_is)
    (case e_NoEvent => k_is)
    (case e_Event => k_is)
    (case e_Spanned => k_is)
    (case e_Stayed => k_is)
    (case e_Over => k_is)
    (case e_Under => k_is)
    (case e_Rose => k_is)
    (case e_Paced => k_is)
    (case e_Turned => k_is)
    (case a_outside => k_is)
    (case l_outside => k_is)
    (case c_outside => k_is)
    (case k_outside => k_is)
    (case a_failures => k_is)
    (case l_failures => k_is)
    (case c_failures => k_is)
    (case k_failures => k_is)
    (case a_parts_at => k_is)
    (case l_parts_at => k_is)
    (case c_parts_at => k_is)
    (case k_parts_at => k_is)
    (case a_Event_sizes => k_is)
    (case l_Event_sizes => k_is)
    (case c_Event_sizes => k_is)
    (case k_Event_sizes => k_is)
    (case a_Spanned_init__ => k_is)
    (case l_Spanned_init__ => k_is)
    (case c_Spanned_init__ => k_is)
    (case k_Spanned_init__ => k_is)
    (case a_Spanned_all_at => k_is)
    (case l_Spanned_all_at => k_is)
    (case c_Spanned_all_at => k_is)
    (case k_Spanned_all_at => k_is)
    (case a_Stayed_init__ => k_is)
    (case l_Stayed_init__ => k_is)
    (case c_Stayed_init__ => k_is)
    (case k_Stayed_init__ => k_is)
    (case a_Stayed_ways => k_is)
    (case l_Stayed_ways => k_is)
    (case c_Stayed_ways => k_is)
    (case k_Stayed_ways => k_is)
    (case a_Stayed_breaks => k_is)
    (case l_Stayed_breaks => k_is)
    (case c_Stayed_breaks => k_is)
    (case k_Stayed_breaks => k_is)
    (case a_Over_init__ => k_is)
    (case l_Over_init__ => k_is)
    (case c_Over_init__ => k_is)
    (case k_Over_init__ => k_is)
    (case a_Over_ways => k_is)
    (case l_Over_ways => k_is)
    (case c_Over_ways => k_is)
    (case k_Over_ways => k_is)
    (case a_Over_breaks => k_is)
    (case l_Over_breaks => k_is)
    (case c_Over_breaks => k_is)
    (case k_Over_breaks => k_is)
    (case a_Under_init__ => k_is)
    (case l_Under_init__ => k_is)
    (case c_Under_init__ => k_is)
    (case k_Under_init__ => k_is)
    (case a_Under_ways => k_is)
    (case l_Under_ways => k_is)
    (case c_Under_ways => k_is)
    (case k_Under_ways => k_is)
    (case a_Under_breaks => k_is)
    (case l_Under_breaks => k_is)
    (case c_Under_breaks => k_is)
    (case k_Under_breaks => k_is)
    (case a_Rose_init__ => k_is)
    (case l_Rose_init__ => k_is)
    (case c_Rose_init__ => k_is)
    (case k_Rose_init__ => k_is)
    (case a_Rose_ways => k_is)
    (case l_Rose_ways => k_is)
    (case c_Rose_ways => k_is)
    (case k_Rose_ways => k_is)
    (case a_Rose_breaks => k_is)
    (case l_Rose_breaks => k_is)
    (case c_Rose_breaks => k_is)
    (case k_Rose_breaks => k_is)
    (case a_Paced_init__ => k_is)
    (case l_Paced_init__ => k_is)
    (case c_Paced_init__ => k_is)
    (case k_Paced_init__ => k_is)
    (case a_Paced_all_steps => k_is)
    (case l_Paced_all_steps => k_is)
    (case c_Paced_all_steps => k_is)
    (case k_Paced_all_steps => k_is)
    (case a_Paced_ways => k_is)
    (case l_Paced_ways => k_is)
    (case c_Paced_ways => k_is)
    (case k_Paced_ways => k_is)
    (case a_Paced_breaks => k_is)
    (case l_Paced_breaks => k_is)
    (case c_Paced_breaks => k_is)
    (case k_Paced_breaks => k_is)
    (case a_Turned_init__ => k_is)
    (case l_Turned_init__ => k_is)
    (case c_Turned_init__ => k_is)
    (case k_Turned_init__ => k_is)
    (case a_Turned_both_steps => k_is)
    (case l_Turned_both_steps => k_is)
    (case c_Turned_both_steps => k_is)
    (case k_Turned_both_steps => k_is)
    (case a_Turned_ways => k_is)
    (case l_Turned_ways => k_is)
    (case c_Turned_ways => k_is)
    (case k_Turned_ways => k_is)
    (case a_Turned_breaks => k_is)
    (case l_Turned_breaks => k_is)
    (case c_Turned_breaks => k_is)
    (case k_Turned_breaks => k_is)
    (case a_law_draw => k_is)
    (case l_law_draw => k_is)
    (case c_law_draw => k_is)
    (case k_law_draw => k_is)
    (case a_law_base => k_is)
    (case l_law_base => k_is)
    (case c_law_base => k_is)
    (case k_law_base => k_is)
    (case a_law_whole => k_is)
    (case l_law_whole => k_is)
    (case c_law_whole => k_is)
    (case k_law_whole => k_is)
    (case a_law_within => k_is)
    (case l_law_within => k_is)
    (case c_law_within => k_is)
    (case k_law_within => k_is)
    (case a_law_leaf => k_is)
    (case l_law_leaf => k_is)
    (case c_law_leaf => k_is)
    (case k_law_leaf => k_is)
    (case a_law_truth => k_is)
    (case l_law_truth => k_is)
    (case c_law_truth => k_is)
    (case k_law_truth => k_is)
    (case a_law_event => k_is)
    (case l_law_event => k_is)
    (case c_law_event => k_is)
    (case k_law_event => k_is)
    (case a_law_farthest => k_is)
    (case l_law_farthest => k_is)
    (case c_law_farthest => k_is)
    (case k_law_farthest => k_is)
    (case a_law_counts => k_is)
    (case l_law_counts => k_is)
    (case c_law_counts => k_is)
    (case k_law_counts => k_is)
    (case a_law_span => k_is)
    (case l_law_span => k_is)
    (case c_law_span => k_is)
    (case k_law_span => k_is)
    (case a_law_part => k_is)
    (case l_law_part => k_is)
    (case c_law_part => k_is)
    (case k_law_part => k_is)
    (case a_law_claims => k_is)
    (case l_law_claims => k_is)
    (case c_law_claims => k_is)
    (case k_law_claims => k_is)
    (case a_law_met => k_is)
    (case l_law_met => k_is)
    (case c_law_met => k_is)
    (case k_law_met => k_is)
    (case a_law_fitting => k_is)
    (case l_law_fitting => k_is)
    (case c_law_fitting => k_is)
    (case k_law_fitting => k_is)
    (case a_law_asked_of => k_is)
    (case l_law_asked_of => k_is)
    (case c_law_asked_of => k_is)
    (case k_law_asked_of => k_is)
    (case a_law => k_is)
    (case l_law => k_is)
    (case c_law => k_is)
    (case k_law => k_is)
    (case z_all => k_is)
    (case z_any => k_is)
    (case z_bool => k_is)
    (case z_int => k_is)
    (case z_isinstance => k_is)
    (case z_len => k_is)
    (case z_list => k_is)
    (case z_max => k_is)
    (case z_min => k_is)
    (case z_range => k_is)
    (case z_tuple => k_is)
    (case pg_Event => k_is)
    (case hd_Event => k_is)
    (case po_Event => k_is)
    (case sa_Event => k_is)
    (case fn_Event_sizes => k_is)
    (case pg_Spanned => k_is)
    (case hd_Spanned => k_is)
    (case po_Spanned => k_is)
    (case sa_Spanned => k_is)
    (case no_Spanned_first => k_is)
    (case no_Spanned_last => k_is)
    (case in_Spanned_sizes => k_is)
    (case fn_Spanned_init__ => k_is)
    (case mk_Spanned => k_is)
    (case kc_Spanned => k_is)
    (case fn_Spanned_all_at => k_is)
    (case pg_Stayed => k_is)
    (case hd_Stayed => k_is)
    (case po_Stayed => k_is)
    (case sa_Stayed => k_is)
    (case no_Stayed_first => k_is)
    (case no_Stayed_last => k_is)
    (case no_Stayed_stretch => k_is)
    (case in_Stayed_sizes => k_is)
    (case fn_Stayed_init__ => k_is)
    (case mk_Stayed => k_is)
    (case kc_Stayed => k_is)
    (case in_Stayed_all_at => k_is)
    (case fn_Stayed_ways => k_is)
    (case fn_Stayed_breaks => k_is)
    (case pg_Over => k_is)
    (case hd_Over => k_is)
    (case po_Over => k_is)
    (case sa_Over => k_is)
    (case no_Over_first => k_is)
    (case no_Over_last => k_is)
    (case no_Over_sill => k_is)
    (case in_Over_sizes => k_is)
    (case fn_Over_init__ => k_is)
    (case mk_Over => k_is)
    (case kc_Over => k_is)
    (case in_Over_all_at => k_is)
    (case fn_Over_ways => k_is)
    (case fn_Over_breaks => k_is)
    (case pg_Under => k_is)
    (case hd_Under => k_is)
    (case po_Under => k_is)
    (case sa_Under => k_is)
    (case no_Under_first => k_is)
    (case no_Under_last => k_is)
    (case no_Under_sill => k_is)
    (case in_Under_sizes => k_is)
    (case fn_Under_init__ => k_is)
    (case mk_Under => k_is)
    (case kc_Under => k_is)
    (case in_Under_all_at => k_is)
    (case fn_Under_ways => k_is)
    (case fn_Under_breaks => k_is)
    (case pg_Rose => k_is)
    (case hd_Rose => k_is)
    (case po_Rose => k_is)
    (case sa_Rose => k_is)
    (case no_Rose_first => k_is)
    (case no_Rose_last => k_is)
    (case no_Rose_low => k_is)
    (case no_Rose_high => k_is)
    (case in_Rose_sizes => k_is)
    (case fn_Rose_init__ => k_is)
    (case mk_Rose => k_is)
    (case kc_Rose => k_is)
    (case in_Rose_all_at => k_is)
    (case fn_Rose_ways => k_is)
    (case fn_Rose_breaks => k_is)
    (case pg_Paced => k_is)
    (case hd_Paced => k_is)
    (case po_Paced => k_is)
    (case sa_Paced => k_is)
    (case no_Paced_first => k_is)
    (case no_Paced_last => k_is)
    (case no_Paced_stretch => k_is)
    (case in_Paced_sizes => k_is)
    (case fn_Paced_init__ => k_is)
    (case mk_Paced => k_is)
    (case kc_Paced => k_is)
    (case in_Paced_all_at => k_is)
    (case fn_Paced_ways => k_is)
    (case fn_Paced_breaks => k_is)
    (case fn_Paced_all_steps => k_is)
    (case pg_Turned => k_is)
    (case hd_Turned => k_is)
    (case po_Turned => k_is)
    (case sa_Turned => k_is)
    (case no_Turned_turn => k_is)
    (case in_Turned_sizes => k_is)
    (case fn_Turned_init__ => k_is)
    (case mk_Turned => k_is)
    (case kc_Turned => k_is)
    (case fn_Turned_ways => k_is)
    (case fn_Turned_breaks => k_is)
    (case fn_Turned_both_steps => k_is)
    (case ga_Spanned_init__ => k_is)
    (case rd_Spanned_init__ => k_is)
    (case fc_Spanned_init__ => k_is)
    (case x1_NoEvent => k_exc)
    (case x2_NoEvent => k_is)
    (case x3_NoEvent => k_is)
    (case x4_NoEvent => k_is)
    (case x5_NoEvent => k_is)
    (case x6_NoEvent => k_is)
    (case zLT => k_is)
#print axioms PySem.Challenge.cw_gaze_k61_ways_and_breaks_holds
