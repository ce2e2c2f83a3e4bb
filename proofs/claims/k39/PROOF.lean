import PyProof.Rows.All
import Wide.All
import OpenK.AllK
import Wide.FinOn
import Lean
import PyProof.EqAt
import PyProof.EqKinds
import PyProof.TupleCall
import KE.KSortAsk
import KE.KSortTup
import KE.KRevIter
import KE.LcSums
import KE.KDictSum
import KE.KDictList
import PyProof.AttrMissHeap
import PySem.Challenge.RW_gaze_k39_tubes
set_option Elab.async false
set_option linter.all false
set_option maxRecDepth 100000
namespace L2
open PySem PySem.Spec PyProof.Rows
abbrev Key := Sum Int Str
def keyIs : Key → Value → Bool
  | .inl k, v => Value.isInt k v
  | .inr x, v => Value.isStrOf x v
def keyH (w : World) : Key → Int
  | .inl k => hashInt k
  | .inr x => hashStr w x
theorem keyIs_shape : ∀ {k : Key} {v : Value}, keyIs k v = true → (∃ i t, k = Sum.inl i ∧ v = Value.int i t) ∨ (∃ x t, k = Sum.inr x ∧ v = Value.str x t)
  | .inl i, v, h => by
    obtain ⟨t, e⟩ := Value.isInt_shape (k := i) (v := v) h
    exact .inl ⟨i, t, rfl, e⟩
  | .inr x, v, h => by
    obtain ⟨t, e⟩ := Value.isStrOf_shape (x := x) (v := v) h
    exact .inr ⟨x, t, rfl, e⟩
theorem key_ll (a b : Int) : decide ((Sum.inl a : Key) = Sum.inl b) = (a == b) := by
  by_cases e : a = b
  · subst e; simp
  · have h : ¬ (Sum.inl a : Key) = Sum.inl b := fun q => e (Sum.inl.inj q)
    rw [decide_eq_false h]
    exact (beq_eq_false_iff_ne.mpr e).symm
theorem key_rr (a b : Str) : decide ((Sum.inr a : Key) = Sum.inr b) = decide (a = b) := by
  by_cases e : a = b
  · subst e; simp
  · have h : ¬ (Sum.inr a : Key) = Sum.inr b := fun q => e (Sum.inr.inj q)
    rw [decide_eq_false h, decide_eq_false e]
theorem key_lr (a : Int) (b : Str) : decide ((Sum.inl a : Key) = Sum.inr b) = false := decide_eq_false (fun q => nomatch q)
theorem key_rl (a : Str) (b : Int) : decide ((Sum.inr a : Key) = Sum.inl b) = false := decide_eq_false (fun q => nomatch q)
def mixKind (prog : Program) (w : World) : PySem.KeyKind prog w Key where
  is := keyIs
  hash := keyH w
  inj := fun v a b ha hb => by
    rcases keyIs_shape ha with ⟨i, t, rfl, rfl⟩ | ⟨x, t, rfl, rfl⟩
    · rcases keyIs_shape hb with ⟨j, u, rfl, e⟩ | ⟨y, u, rfl, e⟩
      · injection e with e1 _; rw [e1]
      · exact nomatch e
    · rcases keyIs_shape hb with ⟨j, u, rfl, e⟩ | ⟨y, u, rfl, e⟩
      · exact nomatch e
      · injection e with e1 _; rw [e1]
  byValue := fun k v h => by
    rcases keyIs_shape h with ⟨i, t, rfl, rfl⟩ | ⟨x, t, rfl, rfl⟩ <;> rfl
  pyHash := fun hv h => by
    rcases keyIs_shape hv with ⟨i, t, rfl, rfl⟩ | ⟨x, t, rfl, rfl⟩
    · exact wpAny_pyHash_int h
    · exact wpAny_pyHash_str h
  eqBool := fun hu hv h => by
    rcases keyIs_shape hu with ⟨i, t, rfl, rfl⟩ | ⟨x, t, rfl, rfl⟩
    · rcases keyIs_shape hv with ⟨j, u, rfl, rfl⟩ | ⟨y, u, rfl, rfl⟩
      · rw [key_ll] at h; exact wpAny_eqBool_int h
      · rw [key_lr] at h; exact SeqAt.EqAt.int_str i t y u _ _ _ _ h
    · rcases keyIs_shape hv with ⟨j, u, rfl, rfl⟩ | ⟨y, u, rfl, rfl⟩
      · rw [key_rl] at h; exact SeqAt.EqAt.str_int x t j u _ _ _ _ h
      · rw [key_rr] at h; exact wpAny_eqBool_str h
  «strs» := fun k x t v h => by
    rcases keyIs_shape h with ⟨i, u, rfl, e⟩ | ⟨y, u, rfl, e⟩
    · exact nomatch e
    · injection e with e1 _
      subst e1
      cases v <;> rfl
end L2
namespace L2
open PySem PySem.Spec PyProof.Rows
inductive V where
  | non | bl (b : Bool) | int (i : Int) | str (x : Str) | byt (b : Array UInt8) | flt (b : UInt64) | ref (a : Addr) | ty (n : String)
  deriving DecidableEq
def RelV : V → Value → Prop
  | .non, u => u = Value.none
  | .bl b, u => u = Value.bool b
  | .int i, u => ∃ t, u = Value.int i t
  | .str x, u => ∃ t, u = Value.str x t
  | .byt b, u => ∃ t, u = Value.bytes b t
  | .flt b, u => ∃ t, u = Value.float b t
  | .ref a, u => u = Value.ref a
  | .ty n, u => u = Value.type n
abbrev Vals : List V → List Value → Prop := Paired RelV
theorem Vals.length {xs : List V} {us : List Value} (r : Vals xs us) : xs.length = us.length := Paired.length r
theorem Vals.get : ∀ {xs : List V} {us : List Value} {i : Nat} {x : V}, Vals xs us → xs[i]? = some x → ∃ u, us[i]? = some u ∧ RelV x u
  | _, _, _, _, .nil, e => by simp at e
  | _, _, 0, _, .cons r _, e => by simp at e; subst e; exact ⟨_, rfl, r⟩
  | _, _, i + 1, x, .cons _ t, e => by
    obtain ⟨u, h1, h2⟩ := Vals.get (i := i) (x := x) t (by simpa using e)
    exact ⟨u, by simpa using h1, h2⟩
theorem Vals.set {x : V} {u : Value} (r : RelV x u) : ∀ {xs : List V} {us : List Value} (i : Nat), Vals xs us → Vals (xs.set i x) (us.set i u)
  | _, _, _, .nil => .nil
  | _, _, 0, .cons _ t => .cons r t
  | _, _, i + 1, .cons q t => .cons q (Vals.set r i t)
theorem Vals.append : ∀ {xs ys : List V} {us ws : List Value}, Vals xs us → Vals ys ws → Vals (xs ++ ys) (us ++ ws)
  | _, _, _, _, .nil, s => s
  | _, _, _, _, .cons r t, s => .cons r (Vals.append t s)
theorem Vals.take : ∀ {xs : List V} {us : List Value} (n : Nat), Vals xs us → Vals (xs.take n) (us.take n)
  | _, _, 0, _ => .nil
  | _, _, _ + 1, .nil => .nil
  | _, _, n + 1, .cons r t => .cons r (Vals.take n t)
theorem Vals.drop : ∀ {xs : List V} {us : List Value} (n : Nat), Vals xs us → Vals (xs.drop n) (us.drop n)
  | _, _, 0, r => r
  | _, _, _ + 1, .nil => .nil
  | _, _, n + 1, .cons _ t => Vals.drop n t
def RelO : Option V → Option Value → Prop
  | some v, some u => RelV v u
  | none, none => True
  | _, _ => False
def KV {κ : Type} : List (κ × V) → List (κ × Value) → Prop := Paired fun (p : κ × V) (q : κ × Value) => p.1 = q.1 ∧ RelV p.2 q.2
def kV : Key → V
  | .inl i => .int i
  | .inr x => .str x
inductive HO where
  | lst (xs : List V)
  | tup (xs : List V)
  | dK (kvs : List (Key × V)) | dT (kvs : List (List Key × V))
  | set (S : Int → Bool) (n : Nat)
  | ins (C dx : Addr) (fs : List (Str × V))
  | own (x : Addr)
  | xd (fs : List (Str × V))
  | met (f x : Addr)
  | rng (lo hi : Int)
  | frz (o : Obj) (u : HO)
  | tbl (ps : Array Value)
  | ext (φ : Heap → Prop)
abbrev Hp := Addr → Option HO
def upd (H : Hp) (a : Addr) (o : HO) : Hp := fun b => if b = a then some o else H b
theorem upd_same {H : Hp} {a : Addr} {o : HO} : upd H a o a = some o := by unfold upd; rw [if_pos rfl]
theorem upd_ne {H : Hp} {a b : Addr} {o : HO} (h : b ≠ a) : upd H a o b = H b := by unfold upd; rw [if_neg h]
theorem ne_of {H : Hp} {a b : Addr} {o u : HO} (h : H a = some o) (h' : H b = some u) (d : o ≠ u) : a ≠ b := by
  intro e; subst e; rw [h] at h'; exact d (Option.some.inj h')
theorem ne_of_none {H : Hp} {a b : Addr} {o : HO} (h : H a = some o) (h' : H b = none) : a ≠ b := by
  intro e; subst e; rw [h] at h'; cases h'
section
variable (P : Program) (w : World)
def ObjOk (H : Hp) (h : Heap) (a : Addr) : HO → Prop
  | .lst xs => xs.length ≤ sizeLine ∧ ∃ (its : List Value) (n : Nat), Vals xs its ∧ h.get? a = some { cls := .type "list", data := .seq its.toArray n }
  | .tup xs => xs.length ≤ sizeLine ∧ ∃ its : List Value, Vals xs its ∧ IsTup h a its.toArray
  | .dK kvs => kvs.length ≤ sizeLine ∧ (a == sysModules) = false ∧ ∃ vs, KV kvs vs ∧ h.DictOf (mixKind P w) a vs
  | .dT kvs => kvs.length ≤ sizeLine ∧ (a == sysModules) = false ∧ ∃ xs : List (List Key × Addr × Value),
      Paired (fun (p : List Key × V) (q : List Key × Addr × Value) => p.1 = q.1 ∧ H q.2.1 = some (.tup (p.1.map kV)) ∧ RelV p.2 q.2.2) kvs xs ∧
      ∃ o es ep, h.get? a = some o ∧ o.ExactDict ∧ o.data = .dict es ep ∧ es.toList = xs.map (entryOfKey (tupleKind (mixKind P w))) ∧ (xs.map (·.1)).Nodup
  | .set S n => h.SetOf (intKind P w) a S n
  | .ins C dx fs => H dx = some (.own a) ∧ fs.length ≤ 1000 ∧ dx ≠ a ∧ h.get? a = some (PySem.W.instObj C dx) ∧
      ∃ mA, h.Ns1 dx mA ∧ (∀ f, RelO (fs.lookup f) (mA f)) ∧ PySem.Within mA (fs.map (·.1))
  | .own _ => ∃ o, h.get? a = some o
  | .xd fs => ∃ mA, h.Ns1 a mA ∧ ∀ f, RelO (fs.lookup f) (mA f)
  | .rng lo hi => ∃ t u v, h.get? a = some { cls := .type "range", data := .fields #[.int lo t, .int hi u, .int 1 v] }
  | .frz o u => h.get? a = some o ∧ ObjOk H h a u
  | .tbl ps => h.get? a = some { cls := .none, data := .fields ps }
  | .met f x => h.get? a = some (PySem.W.methodObj (.ref f) (.ref x))
  | .ext φ => φ h ∧ (∃ o, h.get? a = some o) ∧ ∀ h1 h2 : Heap, φ h1 → (∀ o, h1.get? a = some o → h2.get? a = some o) → φ h2
def HOk (H : Hp) (h : Heap) : Prop := ∀ a o, H a = some o → ObjOk P w H h a o
end
section
variable {P : Program} {w : World} {H H' : Hp} {h h' : Heap} {a : Addr} {o : HO}
theorem ObjOk.lt (x : ObjOk P w H h a o) : a < h.objs.size := by
  cases o with
  | lst xs => obtain ⟨_, _, _, _, e⟩ := x; exact Heap.lt_size e
  | tup xs => obtain ⟨_, _, _, p⟩ := x; exact p.lt
  | dK kvs => obtain ⟨_, _, _, _, o, _, _, e, _⟩ := x; exact Heap.lt_size e
  | dT kvs => obtain ⟨_, _, _, _, o, _, _, e, _⟩ := x; exact Heap.lt_size e
  | set S n => obtain ⟨o, _, _, _, e, _⟩ := x; exact Heap.lt_size e
  | ins C dx fs => obtain ⟨_, _, _, e, _⟩ := x; exact Heap.lt_size e
  | own y => obtain ⟨_, e⟩ := x; exact Heap.lt_size e
  | xd fs => obtain ⟨_, ⟨_, _, _, e, _⟩, _⟩ := x; exact Heap.lt_size e
  | rng lo hi => obtain ⟨_, _, _, e⟩ := x; exact Heap.lt_size e
  | frz ob u => obtain ⟨e, _⟩ := x; exact Heap.lt_size e
  | tbl ps => exact Heap.lt_size (show h.get? a = some _ from x)
  | met f y => exact Heap.lt_size (show h.get? a = some _ from x)
  | ext φ => obtain ⟨_, ⟨_, e⟩, _⟩ := x; exact Heap.lt_size e
theorem Paired.mapP {α β : Type} {F G : α → β → Prop} : ∀ {l₁ : List α} {l₂ : List β}, Paired F l₁ l₂ → (∀ a b, F a b → G a b) → Paired G l₁ l₂
  | _, _, .nil, _ => .nil
  | _, _, .cons r t, f => .cons (f _ _ r) (Paired.mapP t f)
theorem ObjOk.stay (x : ObjOk P w H h a o) (k : ∀ b u, (b = a ∨ H b = some (.own a)) → h.get? b = some u → h'.get? b = some u)
    (ho : ∀ b, H b = some (.own a) → H' b = some (.own a)) (ht : ∀ b xs, H b = some (.tup xs) → H' b = some (.tup xs)) : ObjOk P w H' h' a o := by
  induction o with
  | lst xs => obtain ⟨z, its, n, r, e⟩ := x; exact ⟨z, its, n, r, k _ _ (.inl rfl) e⟩
  | tup xs => obtain ⟨z, its, r, ob, e, c⟩ := x; exact ⟨z, its, r, ob, k _ _ (.inl rfl) e, c⟩
  | dK kvs => obtain ⟨z, y, vs, r, ob, es, ep, e, c⟩ := x; exact ⟨z, y, vs, r, ob, es, ep, k _ _ (.inl rfl) e, c⟩
  | dT kvs =>
    obtain ⟨z, y, xs, r, ob, es, ep, e, c⟩ := x
    exact ⟨z, y, xs, Paired.mapP r fun p q z => ⟨z.1, ht _ _ z.2.1, z.2.2⟩, ob, es, ep, k _ _ (.inl rfl) e, c⟩
  | set S n => obtain ⟨ob, es, ep, t, e, c⟩ := x; exact ⟨ob, es, ep, t, k _ _ (.inl rfl) e, c⟩
  | ins C dx fs =>
    obtain ⟨d, z, ne, e, mA, ⟨od, es, ep, e2, c⟩, r⟩ := x
    exact ⟨ho _ d, z, ne, k _ _ (.inl rfl) e, mA, ⟨od, es, ep, k _ _ (.inr d) e2, c⟩, r⟩
  | own y => obtain ⟨ob, e⟩ := x; exact ⟨ob, k _ _ (.inl rfl) e⟩
  | xd fs => obtain ⟨mA, ⟨od, es, ep, e, c⟩, r⟩ := x; exact ⟨mA, ⟨od, es, ep, k _ _ (.inl rfl) e, c⟩, r⟩
  | rng lo hi => obtain ⟨t, u, v, e⟩ := x; exact ⟨t, u, v, k _ _ (.inl rfl) e⟩
  | frz ob u ih => obtain ⟨e, q⟩ := x; exact ⟨k _ _ (.inl rfl) e, ih q⟩
  | tbl ps =>
    have e : h.get? a = some { cls := .none, data := .fields ps } := x
    show h'.get? a = some { cls := .none, data := .fields ps }
    exact k a _ (.inl rfl) e
  | met f y =>
    have e : h.get? a = some (PySem.W.methodObj (.ref f) (.ref y)) := x
    show h'.get? a = some (PySem.W.methodObj (.ref f) (.ref y))
    exact k a _ (.inl rfl) e
  | ext φ => obtain ⟨p, ⟨o, e⟩, st⟩ := x; exact ⟨st _ _ p fun o q => k _ _ (.inl rfl) q, ⟨o, k _ _ (.inl rfl) e⟩, st⟩
theorem HOk.lt (x : HOk P w H h) (e : H a = some o) : a < h.objs.size := (x a o e).lt
theorem HOk.fresh (x : HOk P w H h) (e : h.objs.size ≤ a) : H a = none := by
  cases q : H a with
  | none => rfl
  | some u => exact absurd (Nat.lt_of_lt_of_le (x.lt q) e) (Nat.lt_irrefl _)
theorem HOk.kept (x : HOk P w H h) (k : ∀ b u, h.get? b = some u → h'.get? b = some u) : HOk P w H h' := fun a o e =>
  (x a o e).stay (fun b u _ q => k b u q) (fun _ q => q) fun _ _ q => q
theorem HOk.laid (x : HOk P w H h) (k : ∀ b u, h.get? b = some u → h'.get? b = some u) (hp : h.objs.size ≤ a) (new : ObjOk P w (upd H a o) h' a o) : HOk P w (upd H a o) h' := fun b u e => by
  have hn := x.fresh hp
  by_cases hb : b = a
  · subst hb; rw [upd_same] at e; cases e; exact new
  · rw [upd_ne hb] at e
    exact (x b u e).stay (fun c v _ q => k c v q) (fun c q => by rw [upd_ne (ne_of_none q hn)]; exact q) fun c xs q => by rw [upd_ne (ne_of_none q hn)]; exact q
end
def Rd (H : Hp) (a : Addr) (u : HO) : Prop := H a = some u ∨ ∃ o, H a = some (.frz o u)
theorem Rd.of {H : Hp} {a : Addr} {u : HO} (h : H a = some u) : Rd H a u := .inl h
theorem Rd.ok {P : Program} {w : World} {H : Hp} {h : Heap} {a : Addr} {u : HO} (r : Rd H a u) (x : HOk P w H h) : ObjOk P w H h a u := by
  rcases r with r | ⟨o, r⟩
  · exact x a u r
  · obtain ⟨_, q⟩ := x a _ r
    exact q
def Mut : Option HO → Prop
  | some (.lst _) => True
  | some (.dK _) => True
  | some (.dT _) => True
  | some (.set _ _) => True
  | some (.ins _ _ _) => True
  | some (.ext _) => True
  | _ => False
section
variable {P : Program} {w : World} {H : Hp} {h h' : Heap} {x e : Addr} {o' : HO}
theorem HOk.write (ok : HOk P w H h) (mu : Mut (H x)) (he : e = x ∨ H e = some (.own x)) (k : ∀ b u, b ≠ e → h.get? b = some u → h'.get? b = some u) (heo : ∃ u, h'.get? e = some u)
    (new : ObjOk P w (upd H x o') h' x o') : HOk P w (upd H x o') h' := fun b u q => by
  have nown : ∀ c y, H c = some (.own y) → c ≠ x := fun c y r z => by subst z; rw [r] at mu; exact mu
  have ntup : ∀ c xs, H c = some (.tup xs) → c ≠ x := fun c xs r z => by subst z; rw [r] at mu; exact mu
  by_cases hb : b = x
  · subst hb; rw [upd_same] at q; cases q; exact new
  · rw [upd_ne hb] at q
    by_cases hbe : b = e
    · have q' : H b = some (.own x) := by
        rcases he with z | z
        · exact absurd (hbe.trans z) hb
        · rw [hbe]; exact z
      rw [q] at q'; cases q'
      obtain ⟨v, hv⟩ := heo
      exact ⟨v, by rw [hbe]; exact hv⟩
    · refine (ok b u q).stay (fun c v hc r => k c v ?_ r) (fun c r => by rw [upd_ne (nown c b r)]; exact r) fun c xs r => by rw [upd_ne (ntup c xs r)]; exact r
      rcases hc with rfl | hc
      · exact hbe
      · rintro rfl
        rcases he with z | z
        · exact nown c b hc z
        · rw [hc] at z; cases z; exact hb rfl
end
structure Un (fs ex : List Addr) (H H' : Hp) (h h' : Heap) : Prop where
  keep : ∀ b o, h.get? b = some o → H b = none → b ∉ fs → b ∉ ex → h'.get? b = some o
  slot : ∀ b o, h.get? b = some o → H b = none → b ∈ fs → b ∉ ex → ∃ sl, h'.get? b = some { o with slots := sl }
  free : ∀ b o, h.get? b = some o → H b = none → b ∉ ex → H' b = none
  there : ∀ b o, h.get? b = some o → b ∉ ex → ∃ o', h'.get? b = some o'
  tups : ∀ b xs, H b = some (.tup xs) → H' b = some (.tup xs)
  frzs : ∀ b o u, H b = some (.frz o u) → H' b = some (.frz o u)
  tbls : ∀ b ps, H b = some (.tbl ps) → ∃ more, H' b = some (.tbl (ps ++ more))
section
variable {fs fs' ex ex' : List Addr} {H H1 H2 : Hp} {h h1 h2 h' : Heap} {a x e : Addr} {o : HO}
theorem Un.any (u : Un fs ex H H1 h h1) {b : Addr} {ob : Obj} (q : h.get? b = some ob) (n : H b = none) (hx : b ∉ ex) : ∃ sl, h1.get? b = some { ob with slots := sl } := by
  by_cases hb : b ∈ fs
  · exact u.slot b ob q n hb hx
  · exact ⟨ob.slots, u.keep b ob q n hb hx⟩
theorem Un.trans (a : Un fs ex H H1 h h1) (b : Un fs ex H1 H2 h1 h2) : Un fs ex H H2 h h2 where
  keep := fun c ob q n hc hx => b.keep c ob (a.keep c ob q n hc hx) (a.free c ob q n hx) hc hx
  slot := fun c ob q n hc hx => by
    obtain ⟨sl, e1⟩ := a.slot c ob q n hc hx
    obtain ⟨sl', e2⟩ := b.slot c _ e1 (a.free c ob q n hx) hc hx
    exact ⟨sl', e2⟩
  free := fun c ob q n hx => by
    obtain ⟨o', e1⟩ := a.there c ob q hx
    exact b.free c o' e1 (a.free c ob q n hx) hx
  there := fun c ob q hx => by
    obtain ⟨o', e1⟩ := a.there c ob q hx
    exact b.there c o' e1 hx
  tups := fun c xs q => b.tups c xs (a.tups c xs q)
  frzs := fun c ob xs q => b.frzs c ob xs (a.frzs c ob xs q)
  tbls := fun c ps q => by
    obtain ⟨m1, e1⟩ := a.tbls c ps q
    obtain ⟨m2, e2⟩ := b.tbls c _ e1
    exact ⟨m1 ++ m2, by rw [e2, Array.append_assoc]⟩
theorem Un.kept (k : ∀ b u, h.get? b = some u → h'.get? b = some u) : Un fs ex H H h h' :=
  ⟨fun b ob q _ _ _ => k b ob q, fun b ob q _ _ _ => ⟨ob.slots, k b ob q⟩, fun _ _ _ n _ => n, fun b ob q _ => ⟨ob, k b ob q⟩, fun _ _ q => q, fun _ _ _ q => q, fun _ ps q => ⟨#[], by rw [q]; simp⟩⟩
theorem Un.refl : Un fs ex H H h h := Un.kept fun _ _ q => q
theorem Un.laid (k : ∀ b u, h.get? b = some u → h'.get? b = some u) (hp : h.objs.size ≤ a) (hn : H a = none) : Un fs ex H (upd H a o) h h' where
  keep := fun b u q _ _ _ => k b u q
  slot := fun b u q _ _ _ => ⟨u.slots, k b u q⟩
  free := fun b u q n _ => by rw [upd_ne (Nat.ne_of_lt (Nat.lt_of_lt_of_le (Heap.lt_size q) hp))]; exact n
  there := fun b u q _ => ⟨u, k b u q⟩
  tups := fun b xs q => by rw [upd_ne (ne_of_none q hn)]; exact q
  frzs := fun b u xs q => by rw [upd_ne (ne_of_none q hn)]; exact q
  tbls := fun b ps q => ⟨#[], by rw [upd_ne (ne_of_none q hn), q]; simp⟩
theorem Un.write (mu : Mut (H x)) (he : e = x ∨ H e = some (.own x)) (k : ∀ b u, b ≠ e → h.get? b = some u → h'.get? b = some u) (heo : ∃ u, h'.get? e = some u) : Un fs ex H (upd H x o) h h' := by
  have hx : ∀ b, H b = none → b ≠ x := fun b n z => by subst z; rw [n] at mu; exact mu
  have hb : ∀ b, H b = none → b ≠ e := fun b n z => by
    subst z
    rcases he with r | r
    · exact hx b n r
    · rw [n] at r; cases r
  have hm : ∀ b u, H b = some u → ¬ Mut (some u) → b ≠ x := fun b u q nm z => by subst z; rw [q] at mu; exact nm mu
  refine ⟨fun b u q n _ _ => k b u (hb b n) q, fun b u q n _ _ => ⟨u.slots, k b u (hb b n) q⟩, fun b u q n _ => by rw [upd_ne (hx b n)]; exact n, fun b u q _ => ?_,
    fun b xs q => by rw [upd_ne (hm b _ q fun z => z)]; exact q, fun b u xs q => by rw [upd_ne (hm b _ q fun z => z)]; exact q, fun b ps q => ⟨#[], by rw [upd_ne (hm b _ q fun z => z), q]; simp⟩⟩
  by_cases hbe : b = e
  · subst hbe; exact heo
  · exact ⟨u, k b u hbe q⟩
end
def trk (h : Heap) (H : Hp) : List Addr := (List.range h.objs.size).filter fun a => (H a).isSome
def hidT (h : Heap) (H : Hp) : Heap := PySem.W.hideAll h (trk h H)
theorem hidT_size (h : Heap) (H : Hp) : (hidT h H).objs.size = h.objs.size := PySem.W.hideAll_size _ _
theorem hidT_get {h : Heap} {H : Hp} {b : Addr} {o : Obj} (e : h.get? b = some o) (n : H b = none) : (hidT h H).get? b = some o :=
  PySem.W.hideAll_get _ e fun hm => by
    have q : (H b).isSome = true := (List.mem_filter.mp hm).2
    rw [n] at q; simp at q
theorem of_hidT {h : Heap} {H : Hp} {b : Addr} {o : Obj} (e : (hidT h H).get? b = some o) : h.get? b = some o ∧ H b = none := by
  have e' : h.get? b = some o := PySem.W.of_hideAll (trk h H) e
  refine ⟨e', ?_⟩
  cases q : H b with
  | none => rfl
  | some x =>
    have hm : b ∈ trk h H := List.mem_filter.mpr ⟨List.mem_range.mpr (Heap.lt_size e'), by simp [q]⟩
    have z : (hidT h H).get? b = none := PySem.W.hideAll_none (trk h H) hm
    rw [z] at e; cases e
def allNews (g h : Heap) (L : Addr) : List (Addr × Obj) := (List.range h.objs.size).filterMap fun a => if a = L ∨ (g.get? a).isSome = true then none else (h.get? a).map fun o => (a, o)
def rest (g h : Heap) (L d : Addr) : List (Addr × Obj) := (allNews g h L).filter fun p => decide (p.1 ≠ d)
end L2
namespace L2
open PySem PySem.Spec PyProof.Rows
structure Mod (K : PySem.W.Frag) (mg : Str → Option Value) (base : Heap) : Prop where
  kin : K.In base
  glob : base.Ns mainGlobals mg
  blt : ∃ mb, base.Ns builtinsNs mb ∧ ∀ x : Str, x ≠ "__name__" → mb x = bootBuiltins x
  nolimit : base.NoLimit
structure Cx where
  prog : Program
  w : World
  K : PySem.W.Frag
  mg : Str → Option Value
  base : Heap
  A : Around
  N : List Str
  s₀ : Shared
  H₀ : Hp
  env : Env
  outer : List Env
  stack : List Env
  ex : List Addr
  fn : Str → Bool
  calm : Bool
  pn : List (Addr × Obj)
  xe : Value → Shared → Prop
def frs (l : List Env) : List Addr := l.filterMap (·.frame)
abbrev Cx.fs (X : Cx) : List Addr := frs X.outer
def Vis (sc : Scope) (x : Str) : Prop := sc.names.lookup x = some .local ∨ sc.names.lookup x = some .cell ∨ sc.names.lookup x = some .free
def Loc (sc : Scope) (x : Str) : Prop := sc.names.lookup x = some .local ∨ sc.names.lookup x = some .cell
def Look (env : Env) (h : Heap) (m : Str → Option Value) (x : Str) (u : Value) : Prop :=
  (env.kindOf x = some .local ∧ m x = some u) ∨ ((env.kindOf x = some .cell ∨ env.kindOf x = some .free) ∧ ∃ c, env.cells.lookup x = some c ∧ h.IsCell c (some u))
structure Cx.Ok (X : Cx) : Prop where
  mod : Mod X.K X.mg X.base
  kind : X.env.scope.kind = .function
  glob : X.env.globals = mainGlobals
  blt : X.env.builtins = builtinsNs
  above : X.s₀.heap.objs.size ≤ X.env.locals
  inj : ∀ x y c, X.env.cells.lookup x = some c → X.env.cells.lookup y = some c → x = y
  has : ∀ x, (X.env.kindOf x = some .cell ∨ X.env.kindOf x = some .free) → ∃ c, X.env.cells.lookup x = some c
  cab : ∀ x c, X.fn x = true → X.env.cells.lookup x = some c → X.s₀.heap.objs.size ≤ c
  hd : X.calm = true → X.A.handled = none
  frames : X.A.frames = some X.stack
  stk : X.stack = X.outer ∨ (X.stack = X.env :: X.outer ∧ X.env.frame = some X.env.locals)
  exf : ∀ b ∈ X.ex, b ≠ X.env.locals ∧ ∀ x c, X.env.cells.lookup x = some c → c ≠ b
  bs : ∀ b o, X.base.get? b = some o → X.s₀.heap.get? b = some o ∧ X.H₀ b = none
  bsz : X.base.objs.size ≤ X.s₀.heap.objs.size
  noex : ∀ b o, X.base.get? b = some o → b ∉ X.ex
  exfs : ∀ b ∈ X.ex, b ∉ X.fs
  funs : X.s₀.heap.FunFrames X.base X.outer
  frf : ∀ b ∈ X.fs, X.H₀ b = none
structure Inv (X : Cx) (pins : List (Addr × Obj)) (σ : List (Option V)) (H : Hp) (s : Shared) : Prop where
  ok : X.Ok
  os : s.os = X.s₀.os
  bare : AllBare s.gens
  base : Un X.fs X.ex X.H₀ H X.s₀.heap s.heap
  loc : ∃ m, s.heap.Ns X.env.locals m ∧ ∀ (i : Nat) (x : Str) (v : V), X.N[i]? = some x → σ[i]? = some (some v) → Vis X.env.scope x → ∃ u, RelV v u ∧ Look X.env s.heap m x u
  cell : ∀ x c, X.env.cells.lookup x = some c → ∃ v, s.heap.IsCell c v
  free : H X.env.locals = none
  freeC : ∀ x c, X.env.cells.lookup x = some c → H c = none
  pin : ∀ p ∈ X.pn ++ pins, s.heap.get? p.1 = some p.2 ∧ H p.1 = none ∧ p.1 ≠ X.env.locals ∧ p.1 ∉ X.fs ∧ ∀ v, p.2.data ≠ .cell v
  hok : HOk X.prog X.w H s.heap
  len : σ.length = X.N.length
section
variable {X : Cx} {pins : List (Addr × Obj)} {σ : List (Option V)} {H H' : Hp} {s : Shared} {h' : Heap}
theorem Cx.Ok.nofr (ok : X.Ok) {b : Addr} {o : Obj} (e : X.base.get? b = some o) : b ∉ X.fs := fun hb => by
  have := (ok.funs.mem hb).1
  rw [e] at this; cases this
theorem Inv.bs (I : Inv X pins σ H s) : ∀ b o, X.base.get? b = some o → s.heap.get? b = some o ∧ H b = none := fun b o e =>
  ⟨I.base.keep b o (I.ok.bs b o e).1 (I.ok.bs b o e).2 (I.ok.nofr e) (I.ok.noex b o e), I.base.free b o (I.ok.bs b o e).1 (I.ok.bs b o e).2 (I.ok.noex b o e)⟩
theorem Inv.bk (I : Inv X pins σ H s) : ∀ b o, X.base.get? b = some o → s.heap.get? b = some o := fun b o e => (I.bs b o e).1
theorem Inv.mod (I : Inv X pins σ H s) : Mod X.K X.mg X.base := I.ok.mod
theorem Inv.kIn (I : Inv X pins σ H s) : X.K.In s.heap := I.ok.mod.kin.keeps I.bk
theorem Inv.lt (I : Inv X pins σ H s) : X.env.locals < s.heap.objs.size := let ⟨_, hn, _⟩ := I.loc; hn.lt
theorem Inv.sz (I : Inv X pins σ H s) : X.s₀.heap.objs.size ≤ s.heap.objs.size := Nat.le_trans I.ok.above (Nat.le_of_lt I.lt)
theorem Inv.nofs (I : Inv X pins σ H s) {a : Addr} (h : s.heap.objs.size ≤ a) : a ∉ X.fs := fun hb => by
  obtain ⟨_, o, ho, _⟩ := I.ok.funs.mem hb
  exact absurd (Nat.lt_of_lt_of_le (Heap.lt_size ho) (Nat.le_trans I.sz h)) (Nat.lt_irrefl _)
theorem Inv.cne (I : Inv X pins σ H s) : ∀ x c, X.env.cells.lookup x = some c → c ≠ X.env.locals := fun x c e z => by
  obtain ⟨v, o, ho, hd⟩ := I.cell x c e
  obtain ⟨m, ⟨o', es, ep, ho', hd', _⟩, _⟩ := I.loc
  rw [z, ho'] at ho; cases ho; rw [hd'] at hd; cases hd
theorem Inv.funs (I : Inv X pins σ H s) : s.heap.FunFrames X.base X.outer := by
  have all : ∀ (l : List Env), (∀ b ∈ frs l, b ∈ X.fs) → X.s₀.heap.FunFrames X.base l → s.heap.FunFrames X.base l := by
    intro l
    induction l with
    | nil => intro _ _; trivial
    | cons env r ih =>
      intro hs hl
      obtain ⟨hk, ⟨L, o, hf, hn, ho, hd⟩, hr⟩ := hl
      have hL : L ∈ X.fs := hs L (by unfold frs; rw [List.filterMap_cons, hf]; exact List.mem_cons_self)
      obtain ⟨sl, e⟩ := I.base.slot L o ho (I.ok.frf L hL) hL fun z => I.ok.exfs L z hL
      exact ⟨hk, ⟨L, _, hf, hn, e, hd⟩, ih (fun b hb => hs b (by unfold frs; rw [List.filterMap_cons, hf]; exact List.mem_cons_of_mem _ hb)) hr⟩
  exact all X.outer (fun _ hb => hb) I.ok.funs
theorem Inv.stack (I : Inv X pins σ H s) : s.heap.FunFrames X.base X.stack := by
  rcases I.ok.stk with e | ⟨e, hf⟩
  · rw [e]; exact I.funs
  · rw [e]
    obtain ⟨m, hn, _⟩ := I.loc
    refine .cons (by rw [I.ok.kind]; decide) hf hn ?_ I.funs
    exact Heap.get?_none_of_le (Nat.le_trans I.ok.bsz I.ok.above)
theorem Inv.stkSub (I : Inv X pins σ H s) : ∀ b ∈ frs X.stack, b ∈ X.env.locals :: X.fs := fun b hb => by
  rcases I.ok.stk with e | ⟨e, hf⟩
  · rw [e] at hb; exact List.mem_cons_of_mem _ hb
  · rw [e] at hb
    unfold frs at hb
    rw [List.filterMap_cons, hf] at hb
    exact hb
theorem Inv.stkFree (I : Inv X pins σ H s) : ∀ b ∈ frs X.stack, H b = none := fun b hb => by
  rcases List.mem_cons.mp (I.stkSub b hb) with e | hb
  · rw [e]; exact I.free
  · obtain ⟨_, o, ho, _⟩ := I.ok.funs.mem hb
    exact I.base.free b o ho (I.ok.frf b hb) fun z => I.ok.exfs b z hb
theorem Inv.step {g' : Array GenState} {t' : Nat} {d' : Drawn} {ch : List Addr} (I : Inv X pins σ H s)
    (hch : ∀ b ∈ ch, (b ∈ X.ex ∨ X.s₀.heap.objs.size ≤ b) ∧ b ≠ X.env.locals ∧ (∀ x c, X.env.cells.lookup x = some c → c ≠ b) ∧ ∀ p ∈ X.pn ++ pins, p.1 ≠ b)
    (keep : ∀ b o, b ≠ X.env.locals → b ∉ X.fs → b ∉ ch → s.heap.get? b = some o → H b = none → h'.get? b = some o)
    (slot : ∀ b o, b ≠ X.env.locals → b ∈ X.fs → b ∉ ch → s.heap.get? b = some o → H b = none → ∃ sl, h'.get? b = some { o with slots := sl }) (free : ∀ b o, b ∉ ch → s.heap.get? b = some o → H b = none → H' b = none)
    (there : ∀ b o, b ∉ ch → s.heap.get? b = some o → ∃ o', h'.get? b = some o')
    (tups : ∀ b xs, H b = some (.tup xs) → H' b = some (.tup xs)) (frzs : ∀ b o u, H b = some (.frz o u) → H' b = some (.frz o u)) (tbls : ∀ b ps, H b = some (.tbl ps) → ∃ more, H' b = some (.tbl (ps ++ more)))
    (ns : ∀ m, s.heap.Ns X.env.locals m → h'.Ns X.env.locals m) (hok : HOk X.prog X.w H' h') (hg : AllBare g') :
    Inv X pins σ H' { s with heap := h', gens := g', drawn := d', toks := t' } := by
  have neL : ∀ b o, X.s₀.heap.get? b = some o → b ≠ X.env.locals := fun b o e => Nat.ne_of_lt (Nat.lt_of_lt_of_le (Heap.lt_size e) I.ok.above)
  have neC : ∀ b o, X.s₀.heap.get? b = some o → b ∉ X.ex → b ∉ ch := fun b o e hx hb => by
    rcases (hch b hb).1 with z | z
    · exact hx z
    · exact absurd (Nat.lt_of_lt_of_le (Heap.lt_size e) z) (Nat.lt_irrefl _)
  have cellK : ∀ x c, X.env.cells.lookup x = some c → ∀ v, s.heap.IsCell c v → h'.IsCell c v := fun x c e v ⟨o, ho, hd⟩ => by
    have nch : c ∉ ch := fun z => (hch c z).2.2.1 x c e rfl
    by_cases hc : c ∈ X.fs
    · obtain ⟨sl, q⟩ := slot c o (I.cne x c e) hc nch ho (I.freeC x c e)
      exact ⟨_, q, hd⟩
    · exact ⟨o, keep c o (I.cne x c e) hc nch ho (I.freeC x c e), hd⟩
  refine ⟨I.ok, I.os, hg, ⟨fun b o e n hb hx => ?_, fun b o e n hb hx => ?_, fun b o e n hx => ?_, fun b o e hx => ?_, fun b xs e => tups b xs (I.base.tups b xs e), fun b o xs e => frzs b o xs (I.base.frzs b o xs e), fun b ps e => ?_⟩, ?_, fun x c e => ?_, ?_, fun x c e => ?_, fun p hp => ?_, hok, I.len⟩
  · exact keep b o (neL b o e) hb (neC b o e hx) (I.base.keep b o e n hb hx) (I.base.free b o e n hx)
  · obtain ⟨sl, e1⟩ := I.base.slot b o e n hb hx
    obtain ⟨sl', e2⟩ := slot b _ (neL b o e) hb (neC b o e hx) e1 (I.base.free b o e n hx)
    exact ⟨sl', e2⟩
  · obtain ⟨o', e1⟩ := I.base.there b o e hx
    exact free b o' (neC b o e hx) e1 (I.base.free b o e n hx)
  · obtain ⟨o', e1⟩ := I.base.there b o e hx
    exact there b o' (neC b o e hx) e1
  · obtain ⟨m1, e1⟩ := I.base.tbls b ps e
    obtain ⟨m2, e2⟩ := tbls b _ e1
    exact ⟨m1 ++ m2, by rw [e2, Array.append_assoc]⟩
  · obtain ⟨m, hn, hl⟩ := I.loc
    refine ⟨m, ns m hn, fun i x v e1 e2 e3 => ?_⟩
    obtain ⟨u, r, l⟩ := hl i x v e1 e2 e3
    refine ⟨u, r, ?_⟩
    rcases l with l | ⟨k, c, e, z⟩
    · exact .inl l
    · exact .inr ⟨k, c, e, cellK x c e _ z⟩
  · obtain ⟨v, z⟩ := I.cell x c e
    exact ⟨v, cellK x c e v z⟩
  · obtain ⟨m, ⟨o, _, _, ho, _⟩, _⟩ := I.loc
    exact free _ o (fun z => (hch _ z).2.1 rfl) ho I.free
  · obtain ⟨v, o, ho, hd⟩ := I.cell x c e
    exact free c o (fun z => (hch c z).2.2.1 x c e rfl) ho (I.freeC x c e)
  · obtain ⟨e, n, ne, nf, d⟩ := I.pin p hp
    have nch : p.1 ∉ ch := fun z => (hch p.1 z).2.2.2 p hp rfl
    exact ⟨keep p.1 p.2 ne nf nch e n, free p.1 p.2 nch e n, ne, nf, d⟩
theorem Inv.un {t' : Nat} (I : Inv X pins σ H s) (u : Un X.fs [] H H' s.heap h') (hok : HOk X.prog X.w H' h') : Inv X pins σ H' { s with heap := h', toks := t' } := by
  obtain ⟨m, ⟨o, es, ep, ho, r⟩, _⟩ := id I.loc
  obtain ⟨sl, hL⟩ := u.any ho I.free (by simp)
  exact I.step (g' := s.gens) (d' := s.drawn) (ch := []) (fun _ z => nomatch z) (fun b o _ hb _ e n => u.keep b o e n hb (by simp)) (fun b o _ hb _ e n => u.slot b o e n hb (by simp)) (fun b o _ e n => u.free b o e n (by simp)) (fun b o _ e => u.there b o e (by simp)) u.tups u.frzs u.tbls (fun m' hm => by
    obtain ⟨o', es', ep', ho', r'⟩ := hm
    rw [ho] at ho'; cases ho'
    exact ⟨_, es', ep', hL, r'⟩) hok I.bare
theorem Inv.call {g' : Array GenState} {t' : Nat} {d' : Drawn} {ch : List Addr} (I : Inv X pins σ H s) (u : Un (frs X.stack) ch H H' s.heap h') (hok : HOk X.prog X.w H' h') (hg : AllBare g')
    (hch : ∀ b ∈ ch, (b ∈ X.ex ∨ X.s₀.heap.objs.size ≤ b) ∧ b ≠ X.env.locals ∧ (∀ x c, X.env.cells.lookup x = some c → c ≠ b) ∧ ∀ p ∈ X.pn ++ pins, p.1 ≠ b) :
    Inv X pins σ H' { s with heap := h', gens := g', drawn := d', toks := t' } := by
  obtain ⟨m, ⟨o, es, ep, ho, r⟩, _⟩ := id I.loc
  obtain ⟨sl, hL⟩ := u.any ho I.free fun z => (hch _ z).2.1 rfl
  exact I.step (ch := ch) hch (fun b o hL hb hc e n => u.keep b o e n (fun z => (List.mem_cons.mp (I.stkSub b z)).elim hL hb) hc) (fun b o _ _ hc e n => u.any e n hc) (fun b o hc e n => u.free b o e n hc) (fun b o hc e => u.there b o e hc) u.tups u.frzs u.tbls (fun m' hm => by
    obtain ⟨o', es', ep', ho', r'⟩ := hm
    rw [ho] at ho'; cases ho'
    exact ⟨_, es', ep', hL, r'⟩) hok hg
theorem Inv.turned {t' : Nat} {it : Addr} (I : Inv X pins σ H s) (k : ∀ b o, b ≠ it → s.heap.get? b = some o → h'.get? b = some o) (hn : H it = none) (hL : it ≠ X.env.locals)
    (h1 : it ∈ X.ex ∨ X.s₀.heap.objs.size ≤ it) (h2 : ∀ x c, X.env.cells.lookup x = some c → c ≠ it) (h3 : ∀ p ∈ X.pn ++ pins, p.1 ≠ it) : Inv X pins σ H { s with heap := h', toks := t' } := by
  have nit : ∀ b u, H b = some u → b ≠ it := fun b u e z => by rw [z, hn] at e; cases e
  refine I.step (g' := s.gens) (d' := s.drawn) (ch := [it]) (fun b hb => ?_) (fun b o _ _ hc e _ => k b o (fun z => hc (by simp [z])) e) (fun b o _ _ hc e _ => ⟨o.slots, k b o (fun z => hc (by simp [z])) e⟩) (fun _ _ _ _ n => n)
    (fun b o hc e => ⟨o, k b o (fun z => hc (by simp [z])) e⟩) (fun _ _ e => e) (fun _ _ _ e => e) (fun b ps e => ⟨#[], by rw [e]; simp⟩) (fun m hm => ?_) (fun b u e => ?_) I.bare
  · have e : b = it := by simpa using hb
    subst e
    exact ⟨h1, hL, h2, h3⟩
  · obtain ⟨o, es, ep, ho, r⟩ := hm
    exact ⟨o, es, ep, k _ o (Ne.symm hL) ho, r⟩
  · refine (I.hok b u e).stay (fun c v hc q => k c v ?_ q) (fun _ q => q) fun _ _ q => q
    rcases hc with z | z
    · rw [z]; exact nit b u e
    · exact nit c _ z
theorem Inv.tok (I : Inv X pins σ H s) (t : Nat) : Inv X pins σ H { s with toks := t } := I.un (h' := s.heap) (t' := t) Un.refl I.hok
theorem Inv.kept {t' : Nat} (I : Inv X pins σ H s) (k : ∀ b u, s.heap.get? b = some u → h'.get? b = some u) : Inv X pins σ H { s with heap := h', toks := t' } := I.un (Un.kept k) (I.hok.kept k)
theorem Inv.laid {a : Addr} {o : HO} {t' : Nat} (I : Inv X pins σ H s) (k : ∀ b u, s.heap.get? b = some u → h'.get? b = some u) (hp : s.heap.objs.size ≤ a) (new : ObjOk X.prog X.w (upd H a o) h' a o) :
    Inv X pins σ (upd H a o) { s with heap := h', toks := t' } := I.un (Un.laid k hp (I.hok.fresh hp)) (I.hok.laid k hp new)
theorem Inv.write {x e : Addr} {o : HO} {t' : Nat} (I : Inv X pins σ H s) (mu : Mut (H x)) (he : e = x ∨ H e = some (.own x)) (k : ∀ b u, b ≠ e → s.heap.get? b = some u → h'.get? b = some u) (heo : ∃ u, h'.get? e = some u)
    (new : ObjOk X.prog X.w (upd H x o) h' x o) : Inv X pins σ (upd H x o) { s with heap := h', toks := t' } := I.un (Un.write mu he k heo) (I.hok.write mu he k heo new)
theorem Inv.pins_of {pins' : List (Addr × Obj)} (I : Inv X pins σ H s) (h : ∀ p ∈ pins', s.heap.get? p.1 = some p.2 ∧ H p.1 = none ∧ p.1 ≠ X.env.locals ∧ p.1 ∉ X.fs ∧ ∀ v, p.2.data ≠ .cell v) : Inv X pins' σ H s :=
  ⟨I.ok, I.os, I.bare, I.base, I.loc, I.cell, I.free, I.freeC, fun p hp => (List.mem_append.mp hp).elim (fun z => I.pin p (List.mem_append_left _ z)) (h p), I.hok, I.len⟩
theorem nodup_ix {N : List Str} (hN : N.Nodup) {i j : Nat} {x : Str} (a : N[i]? = some x) (b : N[j]? = some x) : i = j := by
  obtain ⟨h1, e1⟩ := List.getElem?_eq_some_iff.mp a
  obtain ⟨h2, e2⟩ := List.getElem?_eq_some_iff.mp b
  exact (List.getElem_inj hN).mp (e1.trans e2.symm)
theorem store_ok2 {M : Model} {A : Around} {E : Value → Shared → Prop} {i : Nat} {x : Str} {v : V} {u : Value} {Q : Unit → Shared → Prop} (I : Inv X pins σ H s) (hN : X.N.Nodup) (hi : X.N[i]? = some x) (hx : Loc X.env.scope x) (r : RelV v u)
    (h : ∀ s', Inv X pins (σ.set i (some v)) H s' → (∃ a, Heap.SameBut a s.heap s'.heap ∧ (a = X.env.locals ∨ X.env.cells.lookup x = some a)) → Q () s') (hf : X.fn x = true ∨ X.env.scope.names.lookup x = some .local := by first | exact .inl rfl | exact .inr rfl | assumption) : wpAny M A (storeName X.env x u) Q E s := by
  obtain ⟨m, hn, hl⟩ := id I.loc
  have hcls : (X.env.scope.kind == .class || (X.env.scope.kind == .module && X.env.locals != X.env.globals)) = false := by rw [I.ok.kind]; rfl
  have hiσ : i < σ.length := by rw [I.len]; exact (List.getElem?_eq_some_iff.mp hi).1
  have cne := I.cne
  have tracked : ∀ {a : Addr} {h' : Heap}, (∃ o, s.heap.get? a = some o ∧ H a = none) → Heap.SameBut a s.heap h' → HOk X.prog X.w H h' := fun {a h'} ha hs b ob e => by
    obtain ⟨_, _, hfree⟩ := ha
    refine (I.hok b ob e).stay (fun c w' hc q => (hs.2 c ?_).trans q) (fun _ q => q) fun _ _ q => q
    rintro rfl
    rcases hc with rfl | hc
    · rw [hfree] at e; cases e
    · rw [hfree] at hc; cases hc
  rcases hx with hk | hk
  · refine wpAny_storeName_local hk hn (fun h' hn' hs => ?_) hcls
    obtain ⟨oL, _, _, hoL, _⟩ := id hn
    refine h _ ⟨I.ok, I.os, I.bare, ⟨fun b o e n hb hx => ?_, fun b o e n hb hx => ?_, I.base.free, fun b o e hx => ?_, I.base.tups, I.base.frzs, I.base.tbls⟩, ⟨_, hn', fun j y v' e1 e2 e3 => ?_⟩, fun y c e => ?_, I.free, I.freeC, fun p hp => ?_, tracked ⟨oL, hoL, I.free⟩ hs, by simpa using I.len⟩ ⟨_, hs, .inl rfl⟩
    · exact (hs.2 b (Nat.ne_of_lt (Nat.lt_of_lt_of_le (Heap.lt_size e) I.ok.above))).trans (I.base.keep b o e n hb hx)
    · obtain ⟨sl, e1⟩ := I.base.slot b o e n hb hx
      exact ⟨sl, (hs.2 b (Nat.ne_of_lt (Nat.lt_of_lt_of_le (Heap.lt_size e) I.ok.above))).trans e1⟩
    · obtain ⟨o', e1⟩ := I.base.there b o e hx
      exact ⟨o', (hs.2 b (Nat.ne_of_lt (Nat.lt_of_lt_of_le (Heap.lt_size e) I.ok.above))).trans e1⟩
    · by_cases hj : j = i
      · subst hj
        rw [hi] at e1; cases e1
        rw [List.getElem?_set_self hiσ] at e2
        cases e2
        exact ⟨u, r, .inl ⟨hk, by simp⟩⟩
      · rw [List.getElem?_set_ne (Ne.symm hj)] at e2
        obtain ⟨u', r', q⟩ := hl j y v' e1 e2 e3
        refine ⟨u', r', ?_⟩
        rcases q with ⟨k, e⟩ | ⟨k, c, e, z⟩
        · refine .inl ⟨k, ?_⟩
          have : y ≠ x := fun e => hj (nodup_ix hN e1 (e ▸ hi))
          simp [this, e]
        · exact .inr ⟨k, c, e, z.sameBut hs (cne y c e)⟩
    · obtain ⟨w', z⟩ := I.cell y c e
      exact ⟨w', z.sameBut hs (cne y c e)⟩
    · obtain ⟨e, n, ne, nf, d⟩ := I.pin p hp
      exact ⟨(hs.2 p.1 ne).trans e, n, ne, nf, d⟩
  · have hfn : X.fn x = true := by
      rcases hf with z | z
      · exact z
      · rw [z] at hk; cases hk
    obtain ⟨c, hc⟩ := I.ok.has x (.inl hk)
    obtain ⟨w', z⟩ := I.cell x c hc
    refine wpAny_storeName_cell I.ok.kind hk hc z (fun h' hc' hs => ?_)
    obtain ⟨oc, hoc, hocd⟩ := id z
    refine h { s with heap := h' } ⟨I.ok, I.os, I.bare, ⟨fun b o e n hb hx => ?_, fun b o e n hb hx => ?_, I.base.free, fun b o e hx => ?_, I.base.tups, I.base.frzs, I.base.tbls⟩, ⟨m, hn.sameBut hs (Ne.symm (cne x c hc)), fun j y v' e1 e2 e3 => ?_⟩, fun y c' e => ?_, I.free, I.freeC, fun p hp => ?_, tracked ⟨oc, hoc, I.freeC x c hc⟩ hs, by simpa using I.len⟩ ⟨c, hs, .inr hc⟩
    · exact (hs.2 b (Nat.ne_of_lt (Nat.lt_of_lt_of_le (Heap.lt_size e) (I.ok.cab x c hfn hc)))).trans (I.base.keep b o e n hb hx)
    · obtain ⟨sl, e1⟩ := I.base.slot b o e n hb hx
      exact ⟨sl, (hs.2 b (Nat.ne_of_lt (Nat.lt_of_lt_of_le (Heap.lt_size e) (I.ok.cab x c hfn hc)))).trans e1⟩
    · obtain ⟨o', e1⟩ := I.base.there b o e hx
      exact ⟨o', (hs.2 b (Nat.ne_of_lt (Nat.lt_of_lt_of_le (Heap.lt_size e) (I.ok.cab x c hfn hc)))).trans e1⟩
    · by_cases hj : j = i
      · subst hj
        rw [hi] at e1; cases e1
        rw [List.getElem?_set_self hiσ] at e2
        cases e2
        exact ⟨u, r, .inr ⟨.inl hk, c, hc, hc'⟩⟩
      · rw [List.getElem?_set_ne (Ne.symm hj)] at e2
        obtain ⟨u', r', q⟩ := hl j y v' e1 e2 e3
        refine ⟨u', r', ?_⟩
        rcases q with q | ⟨k, c', e, z'⟩
        · exact .inl q
        · refine .inr ⟨k, c', e, z'.sameBut hs ?_⟩
          rintro rfl
          exact hj (nodup_ix hN e1 (I.ok.inj _ _ _ e hc ▸ hi))
    · by_cases hcc : c' = c
      · subst hcc; exact ⟨_, hc'⟩
      · obtain ⟨w2, z2⟩ := I.cell y c' e
        exact ⟨w2, z2.sameBut hs hcc⟩
    · obtain ⟨e, n, ne, nf, d⟩ := I.pin p hp
      refine ⟨(hs.2 p.1 ?_).trans e, n, ne, nf, d⟩
      intro q
      rw [q, hoc] at e
      have q' : oc = p.2 := Option.some.inj e
      exact d w' (by rw [← q']; exact hocd)
theorem store_ok {M : Model} {A : Around} {E : Value → Shared → Prop} {i : Nat} {x : Str} {v : V} {u : Value} {Q : Unit → Shared → Prop} (I : Inv X pins σ H s) (hN : X.N.Nodup) (hi : X.N[i]? = some x) (hx : Loc X.env.scope x) (r : RelV v u)
    (h : ∀ s', Inv X pins (σ.set i (some v)) H s' → Q () s') (hf : X.fn x = true ∨ X.env.scope.names.lookup x = some .local := by first | exact .inl rfl | exact .inr rfl | assumption) : wpAny M A (storeName X.env x u) Q E s :=
  store_ok2 I hN hi hx r (fun s' I' _ => h s' I') hf
theorem Inv.call' {s' : Shared} {ch : List Addr} (I : Inv X pins σ H s) (ho : s'.os = s.os) (u : Un (frs X.stack) ch H H' s.heap s'.heap) (hok : HOk X.prog X.w H' s'.heap) (hg : AllBare s'.gens)
    (hch : ∀ b ∈ ch, (b ∈ X.ex ∨ X.s₀.heap.objs.size ≤ b) ∧ b ≠ X.env.locals ∧ (∀ x c, X.env.cells.lookup x = some c → c ≠ b) ∧ ∀ p ∈ X.pn ++ pins, p.1 ≠ b) : Inv X pins σ H' s' := by
  obtain ⟨h', g', d', t', o'⟩ := s'
  have e : o' = s.os := ho
  subst e
  exact I.call (g' := g') (t' := t') (d' := d') u hok hg hch
end
abbrev XK := Value → Option Addr → Hp → Prop
abbrev St := List (Option V)
abbrev VK := V → Hp → Prop
abbrev TE := St → Hp → VK → Prop
abbrev TT := St → Hp → (Bool → Hp → Prop) → Prop
abbrev TA := St → Hp → (List V → Hp → Prop) → Prop
structure Ends where
  nx : St → Hp → Prop
  rt : VK
  bk : St → Hp → Prop := fun _ _ => False
  ct : St → Hp → Prop := fun _ _ => False
abbrev TS := Ends → St → Hp → Prop
def EP (X : Cx) (pins : List (Addr × Obj)) (σ : St) (Q : VK) (u : Value) (s' : Shared) : Prop := ∃ v H', Inv X pins σ H' s' ∧ RelV v u ∧ Q v H'
def TP (X : Cx) (pins : List (Addr × Obj)) (σ : St) (Q : Bool → Hp → Prop) (b : Bool) (s' : Shared) : Prop := ∃ H', Inv X pins σ H' s' ∧ Q b H'
def AP (X : Cx) (pins : List (Addr × Obj)) (σ : St) (Q : List V → Hp → Prop) (us : List Value) (s' : Shared) : Prop := ∃ vs H', Inv X pins σ H' s' ∧ Vals vs us ∧ Q vs H'
def SP (X : Cx) (pins : List (Addr × Obj)) (D : Ends) (f : Flow) (s' : Shared) : Prop :=
  match f with
  | .next => ∃ σ' H', Inv X pins σ' H' s' ∧ D.nx σ' H'
  | .brk => ∃ σ' H', Inv X pins σ' H' s' ∧ D.bk σ' H'
  | .cont => ∃ σ' H', Inv X pins σ' H' s' ∧ D.ct σ' H'
  | .ret u => ∃ v σ' H', Inv X pins σ' H' s' ∧ RelV v u ∧ D.rt v H'
def PE (X : Cx) (e : Expr) (t : TE) : Prop :=
  ∀ (pins : List (Addr × Obj)) (s : Shared) (σ : St) (H : Hp) (Q : VK), Inv X pins σ H s → t σ H Q → wpAny (model X.prog X.w) X.A (eval e X.env) (EP X pins σ Q) X.xe s
def PT (X : Cx) (e : Expr) (t : TT) : Prop :=
  ∀ (pins : List (Addr × Obj)) (s : Shared) (σ : St) (H : Hp) (Q : Bool → Hp → Prop), Inv X pins σ H s → t σ H Q → wpAny (model X.prog X.w) X.A (isTrue e X.env (eval e X.env)) (TP X pins σ Q) X.xe s
def PW (X : Cx) (e : Expr) (t : TT) : Prop :=
  ∀ (whole : Sem Value) (pins : List (Addr × Obj)) (s : Shared) (σ : St) (H : Hp) (Q : Bool → Hp → Prop), Inv X pins σ H s → t σ H Q → wpAny (model X.prog X.w) X.A (isTrue e X.env whole) (TP X pins σ Q) X.xe s
theorem PW.pt {X : Cx} {e : Expr} {t : TT} (h : PW X e t) : PT X e t := h _
def PA (X : Cx) (es : List Expr) (t : TA) : Prop :=
  ∀ (pos : Pos) (pins : List (Addr × Obj)) (s : Shared) (σ : St) (H : Hp) (Q : List V → Hp → Prop), Inv X pins σ H s → t σ H Q → wpAny (model X.prog X.w) X.A (spliced (backTo pos (starEach es X.env))) (AP X pins σ Q) X.xe s
def PS (X : Cx) (st : Stmt) (t : TS) : Prop :=
  ∀ (pins : List (Addr × Obj)) (s : Shared) (σ : St) (H : Hp) (D : Ends), Inv X pins σ H s → t D σ H → wpAny (model X.prog X.w) X.A (exec st X.env) (SP X pins D) X.xe s
def PSs (X : Cx) (st : List Stmt) (t : TS) : Prop :=
  ∀ (pins : List (Addr × Obj)) (s : Shared) (σ : St) (H : Hp) (D : Ends), Inv X pins σ H s → t D σ H → wpAny (model X.prog X.w) X.A (execs st X.env) (SP X pins D) X.xe s
theorem thn {α : Type} {t : Sem α} {Q Q' : α → Shared → Prop} {M : Model} {A : Around} {E : Value → Shared → Prop} {s : Shared} (h : wpAny M A t Q E s) (hQ : ∀ a s, Q a s → Q' a s) : wpAny M A t Q' E s := wpAny_mono h hQ fun _ _ x => x
end L2
namespace L2
open PySem PySem.Spec PyProof.Rows
section
variable {X : Cx}
def tVar (i : Nat) : TE := fun σ H Q => ∃ v, σ[i]? = some (some v) ∧ Q v H
def tC (v : V) : TE := fun _ H Q => Q v H
theorem pe_var {i : Nat} {x : Str} {pos : Pos} (hN : X.N[i]? = some x) (hv : Vis X.env.scope x) (hd : (x == ("__debug__" : Str)) = false := by decide) (hcd : (x == ("__classdict__" : Str)) = false := by decide) : PE X (.Name x pos) (tVar i) := by
  intro pins s σ H Q I h
  obtain ⟨v, e, h⟩ := h
  obtain ⟨m, hn, hl⟩ := I.loc
  obtain ⟨u, r, l⟩ := hl i x v hN e hv
  have fin : EP X pins σ Q u s := ⟨v, H, I, r, h⟩
  rcases l with ⟨hk, hm⟩ | ⟨hk, c, hc, hcell⟩
  · exact wpAny_Name (wpAny_loadName_local I.ok.kind hk hn hm fin) hd
  · rcases hk with hk | hk
    · exact wpAny_Name (wpAny_loadName_cell I.ok.kind hk hc hcell fin) hd
    · exact wpAny_Name (wpAny_loadName_free I.ok.kind hk hc hcell fin hcd) hd
theorem pe_int {i j pos} : PE X (.Constant (.int i) j pos) (tC (.int i)) := fun _ _ _ H _ I h => wpAny_Constant_int ⟨.int i, H, I.tok _, ⟨_, rfl⟩, h⟩
theorem pe_bl {b j pos} : PE X (.Constant (.bool b) j pos) (tC (.bl b)) := fun _ _ _ H _ I h => Constant_bool ⟨.bl b, H, I, rfl, h⟩
theorem pe_non {j pos} : PE X (.Constant .none j pos) (tC .non) := fun _ _ _ H _ I h => Constant_none ⟨.non, H, I, rfl, h⟩
def Gl (X : Cx) (x : Str) : Prop := X.env.kindOf x = some .globalImplicit
theorem ld_glob {E : Value → Shared → Prop} {pins : List (Addr × Obj)} {s : Shared} {σ : St} {H : Hp} {x : Str} {u : Value} {pos : Pos} {Q : Value → Shared → Prop} (I : Inv X pins σ H s) (hg : Gl X x) (hm : X.mg x = some u) (h : Q u s)
    (hd : (x == ("__debug__" : Str)) = false := by decide) : wpAny (model X.prog X.w) X.A (eval (.Name x pos) X.env) Q E s :=
  Calls.Name_function_global I.ok.kind hg (Calls.loadGlobal_global (by rw [I.ok.glob]; exact I.mod.glob.keeps I.bk) hm h) hd
theorem ld_blt {E : Value → Shared → Prop} {pins : List (Addr × Obj)} {s : Shared} {σ : St} {H : Hp} {x : Str} {u : Value} {pos : Pos} {Q : Value → Shared → Prop} (I : Inv X pins σ H s) (hg : Gl X x) (hm : X.mg x = none) (hv : bootBuiltins x = some u) (h : Q u s)
    (hn : x ≠ "__name__" := by decide) (hd : (x == ("__debug__" : Str)) = false := by decide) : wpAny (model X.prog X.w) X.A (eval (.Name x pos) X.env) Q E s := by
  obtain ⟨mb, h1, h2⟩ := I.mod.blt
  exact Calls.Name_function_global I.ok.kind hg (Calls.loadGlobal_builtin (by rw [I.ok.glob]; exact I.mod.glob.keeps I.bk) hm (by rw [I.ok.blt]; exact h1.keeps I.bk) ((h2 x hn).trans hv) h) hd
theorem pe_bltn {x : Str} {v : V} {u : Value} {pos : Pos} (hg : Gl X x) (hm : X.mg x = none) (hv : bootBuiltins x = some u) (r : RelV v u) (hn : x ≠ "__name__" := by decide) (hd : (x == ("__debug__" : Str)) = false := by decide) : PE X (.Name x pos) (tC v) :=
  fun _ _ _ H _ I h => ld_blt I hg hm hv ⟨v, H, I, r, h⟩ hn hd
variable {a b : Expr} {ta tb : TE} {pos : Pos}
def PC (X : Cx) (op : CmpOp) (a b : Expr) (t : TE) : Prop :=
  ∀ (pins : List (Addr × Obj)) (s : Shared) (σ : St) (H : Hp) (Q : VK), Inv X pins σ H s → t σ H Q →
    wpAny (model X.prog X.w) X.A (eval a X.env) (fun v s₁ => wpAny (model X.prog X.w) X.A (eval b X.env) (fun u s₂ => wpAny (model X.prog X.w) X.A (compareOp op v u) (EP X pins σ Q) X.xe s₂) X.xe s₁) X.xe s
theorem nobehind (b : Expr) {op : CmpOp} (h : op ≠ .In) (h2 : op ≠ .NotIn) : behindInMarks op b = false := by
  have e1 : (op == CmpOp.In) = false := by cases op <;> first | rfl | exact absurd rfl h
  have e2 : (op == CmpOp.NotIn) = false := by cases op <;> first | rfl | exact absurd rfl h2
  cases b <;> simp [behindInMarks, e1, e2]
def tIsN (ta : TE) : TE := fun σ H Q => ta σ H fun x H1 => Q (.bl (decide (x = .non))) H1
def tNotN (ta : TE) : TE := fun σ H Q => ta σ H fun x H1 => Q (.bl (!decide (x = .non))) H1
theorem RelV.none_iff {x : V} {v : Value} (r : RelV x v) : (v == Value.none) = decide (x = .non) := by
  cases x with
  | non => cases r; rfl
  | bl _ => cases r; rfl
  | int _ => obtain ⟨t, rfl⟩ := r; rfl
  | str _ => obtain ⟨t, rfl⟩ := r; rfl
  | byt _ => obtain ⟨t, rfl⟩ := r; rfl
  | flt _ => obtain ⟨t, rfl⟩ := r; rfl
  | ref _ => cases r; rfl
  | ty _ => cases r; rfl
theorem pc_isN {j pos'} (ha : PE X a ta) : PC X .Is a (.Constant .none j pos') (tIsN ta) := by
  intro pins s σ H Q I h
  refine thn (ha pins s σ H _ I h) fun v s1 ⟨x, H1, I1, r1, q1⟩ => ?_
  exact Constant_none (is_none_gen ⟨.bl _, H1, I1, by rw [r1.none_iff]; rfl, q1⟩)
theorem pc_notN {j pos'} (ha : PE X a ta) : PC X .IsNot a (.Constant .none j pos') (tNotN ta) := by
  intro pins s σ H Q I h
  refine thn (ha pins s σ H _ I h) fun v s1 ⟨x, H1, I1, r1, q1⟩ => ?_
  exact Constant_none (isnot_none_gen ⟨.bl _, H1, I1, by rw [r1.none_iff]; rfl, q1⟩)
def tB (t : TE) : TT := fun σ H Q => t σ H fun x H1 => ∃ c, x = .bl c ∧ Q c H1
theorem pe_cmp {op : CmpOp} {t : TE} (h : PC X op a b t) (h1 : behindInMarks op b = false := by first | exact nobehind _ (by decide) (by decide) | rfl) : PE X (.Compare a [op] [b] pos) t := fun pins s σ H Q I hw => wpAny_Compare1 (h pins s σ H Q I hw) h1
theorem pt_cmp {op : CmpOp} {t : TE} (h : PC X op a b t) (h1 : behindInMarks op b = false := by first | exact nobehind _ (by decide) (by decide) | rfl) : PT X (.Compare a [op] [b] pos) (tB t) := by
  intro pins s σ H Q I hw
  refine wpAny_isTrue_Compare1 (thn (h pins s σ H _ I hw) fun v s1 h1 => thn h1 fun u s2 h2 => thn h2 fun c s3 ⟨x, H1, I1, r1, q1⟩ => ?_) h1
  obtain ⟨d, rfl, q⟩ := q1
  cases r1
  exact wpAny_truthy_bool ⟨H1, I1, q⟩
theorem pt_val {e : Expr} {t : TE} (h : PE X e t) (he : ∀ whole, isTrue e X.env whole = (do let v ← whole; standAt e.pos; holding [v] (truthy v)) := by intro _; rfl) : PT X e (tB t) := by
  intro pins s σ H Q I hw
  refine isTrue_plain (thn (h pins s σ H _ I hw) fun v s1 ⟨x, H1, I1, r1, q1⟩ => ?_) (he _)
  obtain ⟨d, rfl, q⟩ := q1
  cases r1
  exact wpAny_truthy_bool ⟨H1, I1, q⟩
variable {tA tB' : TT} {rest : List Expr}
def tAnd (t u : TT) : TT := fun σ H Q => t σ H fun c H1 => if c = true then u σ H1 Q else Q false H1
def tOr (t u : TT) : TT := fun σ H Q => t σ H fun c H1 => if c = true then Q true H1 else u σ H1 Q
def tNot (t : TT) : TT := fun σ H Q => t σ H fun c H1 => Q (!c) H1
theorem pw_and1 (ha : PT X a tA) : PW X (.BoolOp .And [a] pos) tA := by
  intro wh pins s σ H Q I h
  refine isTrue_and (thn (ha pins s σ H Q I h) fun c s1 e => ?_)
  cases c with
  | true => exact isTrue_and_nil e
  | false => exact e
theorem pw_or1 (ha : PT X a tA) : PW X (.BoolOp .Or [a] pos) tA := by
  intro wh pins s σ H Q I h
  refine isTrue_or (thn (ha pins s σ H Q I h) fun c s1 e => ?_)
  cases c with
  | false => exact isTrue_or_nil e
  | true => exact e
theorem pw_and (ha : PT X a tA) (hb : PW X (.BoolOp .And (b :: rest) pos) tB') : PW X (.BoolOp .And (a :: b :: rest) pos) (tAnd tA tB') := by
  intro wh pins s σ H Q I h
  refine isTrue_and (thn (ha pins s σ H _ I h) fun c s1 ⟨H1, I1, q1⟩ => ?_)
  cases c with
  | true => exact hb wh pins s1 σ H1 Q I1 q1
  | false => exact ⟨H1, I1, q1⟩
theorem pw_or (ha : PT X a tA) (hb : PW X (.BoolOp .Or (b :: rest) pos) tB') : PW X (.BoolOp .Or (a :: b :: rest) pos) (tOr tA tB') := by
  intro wh pins s σ H Q I h
  refine isTrue_or (thn (ha pins s σ H _ I h) fun c s1 ⟨H1, I1, q1⟩ => ?_)
  cases c with
  | true => exact ⟨H1, I1, q1⟩
  | false => exact hb wh pins s1 σ H1 Q I1 q1
theorem pt_not (ha : PT X a tA) : PT X (.UnaryOp .Not a pos) (tNot tA) := by
  intro pins s σ H Q I h
  exact isTrue_not (ha pins s σ H (fun c H1 => Q (!c) H1) I h)
def tAndV (ta tb : TE) : TE := fun σ H Q => ta σ H fun x H1 => ∃ c, x = .bl c ∧ if c = true then tb σ H1 Q else Q (.bl false) H1
def tOrV (ta tb : TE) : TE := fun σ H Q => ta σ H fun x H1 => ∃ c, x = .bl c ∧ if c = true then Q (.bl true) H1 else tb σ H1 Q
def tNotV (ta : TE) : TE := fun σ H Q => ta σ H fun x H1 => ∃ c, x = .bl c ∧ Q (.bl (!c)) H1
theorem pe_one {op} {t : TE} (h : PE X a t) : PE X (.BoolOp op [a] pos) t := fun pins s σ H Q I hw => BoolOp_one (h pins s σ H Q I hw)
theorem pe_and (ha : PE X a ta) (hb : PE X (.BoolOp .And (b :: rest) pos) tb) : PE X (.BoolOp .And (a :: b :: rest) pos) (tAndV ta tb) := by
  intro pins s σ H Q I h
  refine BoolOp_and (thn (ha pins s σ H _ I h) fun v s1 ⟨x, H1, I1, r1, q1⟩ => ?_)
  obtain ⟨c, rfl, q1⟩ := q1
  cases r1
  refine wpAny_truthy_bool ?_
  cases c with
  | true => exact hb pins s1 σ H1 Q I1 q1
  | false => exact ⟨.bl false, H1, I1, rfl, q1⟩
theorem pe_or (ha : PE X a ta) (hb : PE X (.BoolOp .Or (b :: rest) pos) tb) : PE X (.BoolOp .Or (a :: b :: rest) pos) (tOrV ta tb) := by
  intro pins s σ H Q I h
  refine BoolOp_or (thn (ha pins s σ H _ I h) fun v s1 ⟨x, H1, I1, r1, q1⟩ => ?_)
  obtain ⟨c, rfl, q1⟩ := q1
  cases r1
  refine wpAny_truthy_bool ?_
  cases c with
  | false => exact hb pins s1 σ H1 Q I1 q1
  | true => exact ⟨.bl true, H1, I1, rfl, q1⟩
theorem pe_not (ha : PE X a ta) : PE X (.UnaryOp .Not a pos) (tNotV ta) := by
  intro pins s σ H Q I h
  refine UnaryOp_ (thn (ha pins s σ H _ I h) fun v s1 ⟨x, H1, I1, r1, q1⟩ => ?_)
  obtain ⟨c, rfl, q1⟩ := q1
  cases r1
  exact not_of (wpAny_truthy_bool ⟨.bl (!c), H1, I1, rfl, q1⟩)
def tIf (t : TT) (ta tb : TE) : TE := fun σ H Q => t σ H fun c H1 => if c = true then ta σ H1 Q else tb σ H1 Q
theorem pe_ifExp {c : Expr} (hc : PT X c tA) (ha : PE X a ta) (hb : PE X b tb) : PE X (.IfExp c a b pos) (tIf tA ta tb) := by
  intro pins s σ H Q I h
  refine wpAny_IfExp (thn (hc pins s σ H _ I h) fun d s1 ⟨H1, I1, q1⟩ => ?_)
  cases d with
  | true => exact ha pins s1 σ H1 Q I1 q1
  | false => exact hb pins s1 σ H1 Q I1 q1
end
end L2
namespace L2
open PySem PySem.Spec PyProof.Rows
def SqL (K : PySem.W.Frag) (H : Hp) (a : Addr) (xs : List V) : Prop :=
  Rd H a (.lst xs) ∨
    ∃ (o : Obj) (its : Array Value) (n : Nat), K.lookup a = some o ∧ o.cls = .type "list" ∧ o.dict = none ∧ o.data = .seq its n ∧ its.size ≤ sizeLine ∧ Vals xs its.toList
def SqT (K : PySem.W.Frag) (H : Hp) (a : Addr) (xs : List V) : Prop :=
  Rd H a (.tup xs) ∨
    ∃ (o : Obj) (its : Array Value) (n : Nat), K.lookup a = some o ∧ o.cls = .type "tuple" ∧ o.data = .seq its n ∧ its.size ≤ sizeLine ∧ Vals xs its.toList
def absV : Value → Option V
  | .none => some .non
  | .bool b => some (.bl b)
  | .int i _ => some (.int i)
  | .str x _ => some (.str x)
  | .bytes b _ => some (.byt b)
  | .float b _ => some (.flt b)
  | .ref a => some (.ref a)
  | .type n => some (.ty n)
  | _ => none
theorem RelV.abs {x : V} {u : Value} (r : RelV x u) : absV u = some x := by
  cases x with
  | non => cases r; rfl
  | bl _ => cases r; rfl
  | int _ => obtain ⟨t, rfl⟩ := r; rfl
  | str _ => obtain ⟨t, rfl⟩ := r; rfl
  | byt _ => obtain ⟨t, rfl⟩ := r; rfl
  | flt _ => obtain ⟨t, rfl⟩ := r; rfl
  | ref _ => cases r; rfl
  | ty _ => cases r; rfl
theorem RelV.inj {x y : V} {u : Value} (r : RelV x u) (q : RelV y u) : x = y := Option.some.inj (r.abs.symm.trans q.abs)
theorem Vals.inj : ∀ {xs ys : List V} {us : List Value}, Vals xs us → Vals ys us → xs = ys
  | _, _, _, .nil, .nil => rfl
  | _, _, _, .cons r t, .cons r' t' => by rw [r.inj r', Vals.inj t t']
section
variable {X : Cx} {pins : List (Addr × Obj)} {σ : St} {H : Hp} {s : Shared} {a : Addr} {xs ys : List V}
theorem SqL.of {K : PySem.W.Frag} (h : H a = some (.lst xs)) : SqL K H a xs := .inl (.inl h)
theorem SqT.of {K : PySem.W.Frag} (h : H a = some (.tup xs)) : SqT K H a xs := .inl (.inl h)
theorem Inv.list (I : Inv X pins σ H s) (h : SqL X.K H a xs) : ∃ its : List Value, Vals xs its ∧ PlainL s.heap a its.toArray ∧ xs.length ≤ sizeLine := by
  rcases h with h | ⟨o, its, n, hk, hc, hd, hs, hz, r⟩
  · obtain ⟨z, its, n, r, e⟩ := h.ok I.hok
    exact ⟨its, r, ⟨_, n, e, rfl, rfl, rfl⟩, z⟩
  · refine ⟨its.toList, r, ⟨o, n, I.kIn a o hk, hc, hd, by simpa using hs⟩, ?_⟩
    have e := r.length
    simp only [Array.length_toList] at e
    omega
theorem Inv.tuple (I : Inv X pins σ H s) (h : SqT X.K H a xs) : ∃ its : List Value, Vals xs its ∧ IsTup s.heap a its.toArray ∧ xs.length ≤ sizeLine := by
  rcases h with h | ⟨o, its, n, hk, hc, hs, hz, r⟩
  · obtain ⟨z, its, r, p⟩ := h.ok I.hok
    exact ⟨its, r, p, z⟩
  · refine ⟨its.toList, r, ⟨o, I.kIn a o hk, hc, n, by simpa using hs⟩, ?_⟩
    have e := r.length
    simp only [Array.length_toList] at e
    omega
theorem Inv.list_inj (I : Inv X pins σ H s) (h : SqL X.K H a xs) (h' : SqL X.K H a ys) : xs = ys := by
  obtain ⟨its, r, ⟨o, n, e, _, _, d⟩, _⟩ := I.list h
  obtain ⟨its', r', ⟨o', n', e', _, _, d'⟩, _⟩ := I.list h'
  rw [e] at e'; cases e'
  rw [d] at d'
  injection d' with d1 _
  have : its = its' := by simpa using congrArg Array.toList d1
  subst this
  exact r.inj r'
theorem Inv.tuple_inj (I : Inv X pins σ H s) (h : SqT X.K H a xs) (h' : SqT X.K H a ys) : xs = ys := by
  obtain ⟨its, r, ⟨o, e, _, n, d⟩, _⟩ := I.tuple h
  obtain ⟨its', r', ⟨o', e', _, n', d'⟩, _⟩ := I.tuple h'
  rw [e] at e'; cases e'
  rw [d] at d'
  injection d' with d1 _
  have : its = its' := by simpa using congrArg Array.toList d1
  subst this
  exact r.inj r'
end
abbrev Cx.wish (X : Cx) (E : Value → Shared → Prop) : Cx := { X with xe := E }
abbrev Cx.nox (X : Cx) : Cx := X.wish fun _ _ => False
theorem Cx.Ok.wish {X : Cx} (ok : X.Ok) (E : Value → Shared → Prop) : (X.wish E).Ok :=
  ⟨ok.mod, ok.kind, ok.glob, ok.blt, ok.above, ok.inj, ok.has, ok.cab, ok.hd, ok.frames, ok.stk, ok.exf, ok.bs, ok.bsz, ok.noex, ok.exfs, ok.funs, ok.frf⟩
theorem Cx.Ok.unwish {X : Cx} {E : Value → Shared → Prop} (ok : (X.wish E).Ok) : X.Ok :=
  ⟨ok.mod, ok.kind, ok.glob, ok.blt, ok.above, ok.inj, ok.has, ok.cab, ok.hd, ok.frames, ok.stk, ok.exf, ok.bs, ok.bsz, ok.noex, ok.exfs, ok.funs, ok.frf⟩
section
variable {X : Cx} {pins : List (Addr × Obj)} {σ : St} {H : Hp} {s : Shared} {E : Value → Shared → Prop}
theorem Inv.wish (I : Inv X pins σ H s) (E : Value → Shared → Prop) : Inv (X.wish E) pins σ H s := ⟨I.ok.wish E, I.os, I.bare, I.base, I.loc, I.cell, I.free, I.freeC, I.pin, I.hok, I.len⟩
theorem Inv.unwish (I : Inv (X.wish E) pins σ H s) : Inv X pins σ H s := ⟨I.ok.unwish, I.os, I.bare, I.base, I.loc, I.cell, I.free, I.freeC, I.pin, I.hok, I.len⟩
theorem SP.unwish {D : Ends} {f : Flow} {s' : Shared} (h : SP (X.wish E) pins D f s') : SP X pins D f s' := by
  cases f with
  | next => obtain ⟨σ', H', I, q⟩ := h; exact ⟨σ', H', I.unwish, q⟩
  | brk => obtain ⟨σ', H', I, q⟩ := h; exact ⟨σ', H', I.unwish, q⟩
  | cont => obtain ⟨σ', H', I, q⟩ := h; exact ⟨σ', H', I.unwish, q⟩
  | ret u => obtain ⟨v, σ', H', I, r, q⟩ := h; exact ⟨v, σ', H', I.unwish, r, q⟩
theorem PSs.nox {st : List Stmt} {t : TS} (h : PSs X.nox st t) : PSs X st t := fun pins s σ H D I hw =>
  wpAny_mono (h pins s σ H D (I.wish _) hw) (fun _ _ q => q.unwish) fun _ _ z => False.elim z
end
section
variable {X : Cx} {st : Stmt} {rest : List Stmt} {t u : TS} {e : Expr} {te : TE} {pos : Pos}
def tNext : TS := fun D σ H => D.nx σ H
def tSeq (t u : TS) : TS := fun D σ H => t { D with nx := u D } σ H
theorem pss_nil : PSs X [] tNext := fun _ _ σ H _ I h => wpAny_execs_nil ⟨σ, H, I, h⟩
theorem pss_cons (h1 : PS X st t) (h2 : PSs X rest u) : PSs X (st :: rest) (tSeq t u) := by
  intro pins s σ H D I h
  refine wpAny_execs_cons (thn (h1 pins s σ H { D with nx := u D } I h) fun f s1 q => ?_)
  cases f with
  | next =>
    obtain ⟨σ', H', I', q⟩ := q
    exact h2 pins s1 σ' H' D I' q
  | ret v => exact q
  | brk => exact q
  | cont => exact q
theorem pss_one (h1 : PS X st t) : PSs X [st] t := by
  intro pins s σ H D I h
  refine wpAny_execs_cons (thn (h1 pins s σ H D I h) fun f s1 q => ?_)
  cases f with
  | next => exact wpAny_execs_nil q
  | ret v => exact q
  | brk => exact q
  | cont => exact q
theorem Inv.quiet {pins : List (Addr × Obj)} {σ : St} {H : Hp} {s : Shared} (I : Inv X pins σ H s) : interactive X.env = false := by simp [interactive, I.ok.kind]
def tDrop (te : TE) : TS := fun D σ H => te σ H fun _ H1 => D.nx σ H1
theorem ps_expr (he : PE X e te) (hs : swapsWith e none pos.line X.env = pure false := by rfl) : PS X (.Expr e pos) (tDrop te) := by
  intro pins s σ H D I h
  exact wpAny_Expr_any (thn (he pins s σ H _ I h) fun v s1 ⟨x, H1, I1, r1, q1⟩ => ⟨σ, H1, I1, q1⟩) I.quiet hs
def tRet (te : TE) : TS := fun D σ H => te σ H D.rt
theorem ps_ret (he : PE X e te) : PS X (.Return (some e) pos) (tRet te) := by
  intro pins s σ H D I h
  exact wpAny_Return_some (thn (he pins s σ H _ I h) fun v s1 ⟨x, H1, I1, r1, q1⟩ => ⟨x, σ, H1, I1, r1, q1⟩)
def tIfS (c : TT) (t u : TS) : TS := fun D σ H => c σ H fun b H1 => if b = true then t D σ H1 else u D σ H1
theorem ps_if {c : Expr} {a b : List Stmt} {tc : TT} (hc : PT X c tc) (ha : PSs X a t) (hb : PSs X b u) : PS X (.If c a b pos) (tIfS tc t u) := by
  intro pins s σ H D I h
  refine wpAny_If (thn (hc pins s σ H _ I h) fun d s1 ⟨H1, I1, q1⟩ => ?_)
  cases d with
  | true => exact ha pins s1 σ H1 D I1 q1
  | false => exact hb pins s1 σ H1 D I1 q1
end
abbrev TG := V → St → Hp → (St → Hp → Prop) → Prop
abbrev TGs := List V → St → Hp → (St → Hp → Prop) → Prop
def PG (X : Cx) (target : Expr) (t : TG) : Prop :=
  ∀ (pins : List (Addr × Obj)) (s : Shared) (σ : St) (H : Hp) (v : V) (u : Value) (Q : St → Hp → Prop), Inv X pins σ H s → RelV v u → t v σ H Q →
    wpAny (model X.prog X.w) X.A (assign target X.env u) (fun _ s' => ∃ σ' H', Inv X pins σ' H' s' ∧ Q σ' H') X.xe s
def PGs (X : Cx) (ts : List Expr) (t : TGs) : Prop :=
  ∀ (pins : List (Addr × Obj)) (s : Shared) (σ : St) (H : Hp) (vs : List V) (us : List Value) (Q : St → Hp → Prop), Inv X pins σ H s → Vals vs us → t vs σ H Q →
    wpAny (model X.prog X.w) X.A (assignInOrder ((assignEach ts X.env).map (·.2)) us) (fun _ s' => ∃ σ' H', Inv X pins σ' H' s' ∧ Q σ' H') X.xe s
abbrev TSet := V → V → V → Hp → (Hp → Prop) → Prop
def PSet (X : Cx) (t : TSet) : Prop :=
  ∀ (pins : List (Addr × Obj)) (s : Shared) (σ : St) (H : Hp) (o i v : V) (ov iv u : Value) (Q : Hp → Prop), Inv X pins σ H s → RelV o ov → RelV i iv → RelV v u → t o i v H Q →
    wpAny (model X.prog X.w) X.A (setItem ov iv u) (fun _ s' => ∃ H', Inv X pins σ H' s' ∧ Q H') X.xe s
section
variable {X : Cx} {pos : Pos}
def gName (i : Nat) : TG := fun v σ H Q => Q (σ.set i (some v)) H
theorem pg_name {i : Nat} {x : Str} (hN : X.N.Nodup) (hi : X.N[i]? = some x) (hx : Loc X.env.scope x) (hf : X.fn x = true ∨ X.env.scope.names.lookup x = some .local := by first | exact .inl rfl | exact .inr rfl | assumption) : PG X (.Name x pos) (gName i) := by
  intro pins s σ H v u Q I r h
  exact wpAny_assign_Name (store_ok I hN hi hx r (fun s' I' => ⟨_, H, I', h⟩) hf)
def gNil : TGs := fun vs σ H Q => vs = [] ∧ Q σ H
def gCons (t : TG) (u : TGs) : TGs := fun vs σ H Q => ∃ v r, vs = v :: r ∧ t v σ H fun σ' H' => u r σ' H' Q
theorem pgs_nil : PGs X [] gNil := by
  intro pins s σ H vs us Q I r h
  obtain ⟨e, h⟩ := h
  subst e
  cases r
  exact assignInOrder_nil ⟨σ, H, I, h⟩
theorem pgs_cons {e : Expr} {es : List Expr} {t : TG} {u : TGs} (h1 : PG X e t) (h2 : PGs X es u)
    (hs : (assignEach (e :: es) X.env).map (·.2) = assign e X.env :: (assignEach es X.env).map (·.2) := by rfl) : PGs X (e :: es) (gCons t u) := by
  intro pins s σ H vs us Q I r h
  obtain ⟨v, vr, e1, h⟩ := h
  subst e1
  cases r with
  | cons r rr =>
    rw [hs]
    refine assignInOrder_cons (thn (h1 pins s σ H _ _ _ I r h) fun _ s1 ⟨σ1, H1, I1, q1⟩ => ?_)
    exact h2 pins s1 σ1 H1 _ _ Q I1 rr q1
def gTup (K : PySem.W.Frag) (n : Nat) (t : TGs) : TG := fun v σ H Q => ∃ a xs, v = .ref a ∧ SqT K H a xs ∧ xs.length = n ∧ t xs σ H Q
theorem pg_tup {es : List Expr} {k : Nat} {t : TGs} {n : Nat} (hc : X.calm = true) (h : PGs X es t)
    (hn : (assignEach es X.env).length = n := by rfl) (hst : (assignEach es X.env).findIdx? (·.1) = none := by rfl) : PG X (.Tuple es k pos) (gTup X.K n t) := by
  intro pins s σ H v u Q I r hw
  obtain ⟨a, xs, e1, hq, hl, hw⟩ := hw
  subst e1
  cases r
  obtain ⟨its, rv, ht, hz⟩ := I.tuple hq
  refine assign_Tuple_tuple (I.ok.hd hc) ht (by simp [hn, ← hl, rv.length]) hst fun h' hx => ?_
  have I1 : Inv X pins σ H { s with heap := h' } := I.kept (t' := s.toks) fun b o e => hx b o (Nat.ne_of_lt (Heap.lt_size e)) e
  exact h pins _ σ H xs _ Q I1 (by simpa using rv) hw
def gSub (to ti : TE) (t : TSet) : TG := fun v σ H Q => to σ H fun o H1 => ti σ H1 fun i H2 => t o i v H2 fun H3 => Q σ H3
theorem pg_sub {o i : Expr} {to ti : TE} {t : TSet} (ho : PE X o to) (hi : PE X i ti) (hs : PSet X t)
    (ha : ∀ v, assign (.Subscript o i pos) X.env v = (do
      let ov ← holding [v] (eval o X.env)
      let iv ← holding [v, ov] (eval i X.env)
      standAt pos
      holding [v, ov, iv] (setItem ov iv v)
      release [v, ov, iv] []) := by intro _; rfl) : PG X (.Subscript o i pos) (gSub to ti t) := by
  intro pins s σ H v u Q I r h
  rw [ha]
  refine wpAny_bind (wpAny_holding (thn (ho pins s σ H _ I h) fun ov s1 ⟨x, H1, I1, r1, q1⟩ => ?_))
  refine wpAny_bind (wpAny_holding (thn (hi pins s1 σ H1 _ I1 q1) fun iv s2 ⟨y, H2, I2, r2, q2⟩ => ?_))
  refine wpAny_bind (wpAny_standAt (wpAny_bind (wpAny_holding (thn (hs pins s2 σ H2 x y v ov iv u _ I2 r1 r2 r q2) fun _ s3 ⟨H3, I3, q3⟩ => ?_))))
  exact wpAny_release ⟨σ, H3, I3, q3⟩
def tAsg (te : TE) (g : TG) : TS := fun D σ H => te σ H fun x H1 => g x σ H1 D.nx
theorem ps_asg {tg e : Expr} {te : TE} {g : TG} (he : PE X e te) (hg : PG X tg g) (hs : swapsWithSole [tg] e pos.line X.env = pure false := by rfl) (hw : swappedStores [tg] e X.env = pure none := by rfl)
    (h1 : (assignEach [tg] X.env).map (·.2) = [assign tg X.env] := by rfl) : PS X (.Assign [tg] e pos) (tAsg te g) := by
  intro pins s σ H D I h
  refine wpAny_Assign_stores (thn (he pins s σ H _ I h) fun v s1 ⟨x, H1, I1, r1, q1⟩ => ?_) hs hw
  rw [h1]
  exact thn (hg pins s1 σ H1 x v _ I1 r1 q1) fun _ s2 q => q
theorem ps_set {i : Nat} {x : Str} {e : Expr} {te : TE} {pos' : Pos} (hN : X.N.Nodup) (hi : X.N[i]? = some x) (hx : Loc X.env.scope x) (he : PE X e te) (hs : swapsWith e (some (.Name x pos')) pos.line X.env = pure false := by rfl) (hf : X.fn x = true ∨ X.env.scope.names.lookup x = some .local := by first | exact .inl rfl | exact .inr rfl | assumption) :
    PS X (.Assign [.Name x pos'] e pos) (tAsg te (gName i)) := by
  intro pins s σ H D I h
  refine wpAny_Assign_Name (thn (he pins s σ H _ I h) fun v s1 ⟨y, H1, I1, r1, q1⟩ => ?_) hs
  exact store_ok I1 hN hi hx r1 (fun s2 I2 => ⟨_, H1, I2, q1⟩) hf
end
section
variable {X : Cx} {pos : Pos}
end
structure It where
  go : Nat → Hp → Prop
  yld : Nat → Hp → V → Hp → Prop
  stop : Nat → Hp → Prop
def FpOk (X : Cx) (pins : List (Addr × Obj)) (H : Hp) (b : Addr) : Prop :=
  H b = none ∧ b ≠ X.env.locals ∧ b ∉ X.fs ∧ (b ∈ X.ex ∨ X.s₀.heap.objs.size ≤ b) ∧ (∀ x c, X.env.cells.lookup x = some c → c ≠ b) ∧ ∀ p ∈ X.pn ++ pins, p.1 ≠ b
theorem Inv.fpOk {X : Cx} {pins : List (Addr × Obj)} {σ : St} {H H' : Hp} {s : Shared} {b : Addr} (I : Inv X pins σ H s) (hb : s.heap.objs.size ≤ b) (hn : H' b = none) : FpOk X pins H' b := by
  refine ⟨hn, Nat.ne_of_gt (Nat.lt_of_lt_of_le I.lt hb), I.nofs hb, .inr (Nat.le_trans I.sz hb), fun x c e z => ?_, fun p hp z => ?_⟩
  · obtain ⟨v, q⟩ := I.cell x c e
    exact absurd (Nat.lt_of_lt_of_le q.lt (by rw [z]; exact hb)) (Nat.lt_irrefl _)
  · exact absurd (Nat.lt_of_lt_of_le (Heap.lt_size (I.pin p hp).1) (by rw [z]; exact hb)) (Nat.lt_irrefl _)
structure Turn (P : Program) (w : World) (K : PySem.W.Frag) (tg : Expr) (J : It) (fp : List Addr) (it : Addr) (tn : Nat → Heap → Prop) : Prop where
  mem : it ∈ fp
  obj : ∀ i h, tn i h → ∀ b ∈ fp, ∃ o, h.get? b = some o ∧ ∀ v, o.data ≠ .cell v
  keep : ∀ i h h', tn i h → (∀ b ∈ fp, ∀ o, h.get? b = some o → h'.get? b = some o) → tn i h'
  item : ∀ (X : Cx), X.prog = P → X.w = w → X.K = K → X.calm = true → ∀ (i : Nat) (pins : List (Addr × Obj)) (s : Shared) (σ : St) (H : Hp) (E : Value → Shared → Prop), Inv X pins σ H s → (∀ b ∈ fp, FpOk X pins H b) → tn i s.heap → J.go i H →
    wpAny (model P w) X.A (pyNext (.ref it)) (fun r s1 => ∃ u, r = some u ∧
      wpAny (model P w) X.A (letOwnedTupleGo tg (.ref it) u) (fun _ s2 => ∃ x H', Inv X pins σ H' s2 ∧ RelV x u ∧ J.yld i H x H' ∧ tn (i + 1) s2.heap ∧ ∀ b ∈ fp, H' b = none) E s1) E s
  done : ∀ (X : Cx), X.prog = P → X.w = w → X.K = K → X.calm = true → ∀ (i : Nat) (pins : List (Addr × Obj)) (s : Shared) (σ : St) (H : Hp) (E : Value → Shared → Prop), Inv X pins σ H s → (∀ b ∈ fp, FpOk X pins H b) → tn i s.heap → J.stop i H →
    wpAny (model P w) X.A (pyNext (.ref it)) (fun r s1 => r = none ∧ Inv X pins σ H s1) E s
  self : ∀ (A : Around) (i : Nat) (s : Shared) (Q : Value → Shared → Prop) (E : Value → Shared → Prop), tn i s.heap → Q (.ref it) s → wpAny (model P w) A (pyIter (.ref it)) Q E s
abbrev TI := St → Hp → (It → Hp → Prop) → Prop
def PIE (X : Cx) (pins : List (Addr × Obj)) (σ : St) (tg : Expr) (R : It → Hp → Prop) (itv : Value) (s2 : Shared) : Prop :=
  ∃ (it : Addr) (fp : List Addr) (tn : Nat → Heap → Prop) (J : It) (H' : Hp), itv = .ref it ∧ Inv X pins σ H' s2 ∧ Turn X.prog X.w X.K tg J fp it tn ∧ tn 0 s2.heap ∧ (∀ b ∈ fp, FpOk X pins H' b) ∧ R J H'
def PI (X : Cx) (tg iter : Expr) (wi : TI) : Prop :=
  ∀ (pins : List (Addr × Obj)) (s : Shared) (σ : St) (H : Hp) (R : It → Hp → Prop), Inv X pins σ H s → wi σ H R →
    wpAny (model X.prog X.w) X.A (eval iter X.env) (fun v s1 => wpAny (model X.prog X.w) X.A (pyIter v) (PIE X pins σ tg R) X.xe s1) X.xe s
theorem go_of {M : Model} {A : Around} {E : Value → Shared → Prop} {s : Shared} {tg : Expr} {it : Addr} {u : Value} {o : Obj} {n : String} {vs : Array Value} {Q : Unit → Shared → Prop} (ho : s.heap.get? it = some o) (hc : o.cls = .type n) (hd : o.data = .fields vs)
    (hn : ["enumerate", "zip", "dict_itemiterator", "dict_reverseitemiterator", "odict_iterator", "itertools.zip_longest", "itertools.pairwise"].contains n = false) (hQ : Q () s) : wpAny M A (letOwnedTupleGo tg (.ref it) u) Q E s := by
  unfold letOwnedTupleGo
  cases tg <;> first
    | exact wpAny_pure hQ
    | (cases u <;> first
        | exact wpAny_pure hQ
        | (refine wpAny_bind (wpAny_load ho ?_)
           rw [hc, hd]
           show wpAny M A (if (["enumerate", "zip", "dict_itemiterator", "dict_reverseitemiterator", "odict_iterator", "itertools.zip_longest", "itertools.pairwise"].contains n && vs[0]? == some (rawInt _)) = true then _ else _) Q E s
           rw [if_neg (by intro h; rw [hn, Bool.false_and] at h; cases h)]
           exact wpAny_pure hQ))
def Itl (K : PySem.W.Frag) (a : Addr) : It :=
  ⟨fun i H => ∃ xs x, SqL K H a xs ∧ xs[i]? = some x, fun i H x H' => H' = H ∧ ∀ xs, SqL K H a xs → xs[i]? = some x, fun i H => ∃ xs, SqL K H a xs ∧ xs.length ≤ i⟩
def Itt (K : PySem.W.Frag) (a : Addr) : It :=
  ⟨fun i H => ∃ xs x, SqT K H a xs ∧ xs[i]? = some x, fun i H x H' => H' = H ∧ ∀ xs, SqT K H a xs → xs[i]? = some x, fun i H => ∃ xs, SqT K H a xs ∧ xs.length ≤ i⟩
def Itr (lo : Int) (n : Nat) : It := ⟨fun i _ => i < n, fun i H x H' => H' = H ∧ x = .int (lo + i), fun i _ => n ≤ i⟩
theorem turn_list {P : Program} {w : World} {K : PySem.W.Frag} {tg : Expr} (a it : Addr) : Turn P w K tg (Itl K a) [it] it (fun i h => h.IsListIter it a i) where
  mem := by simp
  obj := fun i h st b hb => by
    have e : b = it := by simpa using hb
    subst e
    obtain ⟨o, e, c, d⟩ := st
    exact ⟨o, e, fun v z => by rw [d] at z; cases z⟩
  keep := fun i h h' st k => st.at fun o e => k it (by simp) o e
  item := by
    intro X hP hw hK hc i pins s σ H E I hf st hg
    subst hP hw hK
    obtain ⟨xs, x, hq, hx⟩ := hg
    obtain ⟨its, rv, p, hz⟩ := I.list hq
    obtain ⟨u, hu, ru⟩ := rv.get hx
    obtain ⟨f0, f1, f2, f3, f4, f5⟩ := hf it (by simp)
    refine wpAny_pyNext_list_item st p.isList (x := u) (by simpa using hu) fun h' st' sb => ?_
    have I1 : Inv X pins σ H { s with heap := h' } := I.turned (t' := s.toks) (fun b o hb e => (sb.2 b hb).trans e) f0 f1 f3 f4 f5
    obtain ⟨o, e, c, d⟩ := id st'
    exact ⟨u, rfl, go_of (s := { s with heap := h' }) e c d (by decide) ⟨x, H, I1, ru, ⟨rfl, fun ys hy => by rw [I.list_inj hy hq]; exact hx⟩, st', fun b hb => (hf b hb).1⟩⟩
  done := by
    intro X hP hw hK hc i pins s σ H E I hf st hg
    subst hP hw hK
    obtain ⟨xs, hq, hx⟩ := hg
    obtain ⟨its, rv, p, hz⟩ := I.list hq
    obtain ⟨f0, f1, f2, f3, f4, f5⟩ := hf it (by simp)
    have hl := rv.length
    exact wpAny_pyNext_list_end (I.ok.hd hc) st p.isList (by simp; omega) fun h' eb => ⟨rfl, I.turned (t' := s.toks) (fun b o hb e => eb b o hb e) f0 f1 f3 f4 f5⟩
  self := fun _ _ _ _ _ st h => wpAny_pyIter_listiter st h
theorem turn_tuple {P : Program} {w : World} {K : PySem.W.Frag} {tg : Expr} (a it : Addr) : Turn P w K tg (Itt K a) [it] it (fun i h => h.IsTupleIter it a i) where
  mem := by simp
  obj := fun i h st b hb => by
    have e : b = it := by simpa using hb
    subst e
    obtain ⟨o, e, c, d⟩ := st
    exact ⟨o, e, fun v z => by rw [d] at z; cases z⟩
  keep := fun i h h' st k => st.at fun o e => k it (by simp) o e
  item := by
    intro X hP hw hK hc i pins s σ H E I hf st hg
    subst hP hw hK
    obtain ⟨xs, x, hq, hx⟩ := hg
    obtain ⟨its, rv, p, hz⟩ := I.tuple hq
    obtain ⟨u, hu, ru⟩ := rv.get hx
    obtain ⟨f0, f1, f2, f3, f4, f5⟩ := hf it (by simp)
    refine wpAny_pyNext_tuple_item st (show s.heap.IsTuple a its.toArray from p) (x := u) (by simpa using hu) fun h' st' sb => ?_
    have I1 : Inv X pins σ H { s with heap := h' } := I.turned (t' := s.toks) (fun b o hb e => (sb.2 b hb).trans e) f0 f1 f3 f4 f5
    obtain ⟨o, e, c, d⟩ := id st'
    exact ⟨u, rfl, go_of (s := { s with heap := h' }) e c d (by decide) ⟨x, H, I1, ru, ⟨rfl, fun ys hy => by rw [I.tuple_inj hy hq]; exact hx⟩, st', fun b hb => (hf b hb).1⟩⟩
  done := by
    intro X hP hw hK hc i pins s σ H E I hf st hg
    subst hP hw hK
    obtain ⟨xs, hq, hx⟩ := hg
    obtain ⟨its, rv, p, hz⟩ := I.tuple hq
    obtain ⟨f0, f1, f2, f3, f4, f5⟩ := hf it (by simp)
    have hl := rv.length
    exact wpAny_pyNext_tuple_end (I.ok.hd hc) st (show s.heap.IsTuple a its.toArray from p) (by simp; omega) fun h' eb => ⟨rfl, I.turned (t' := s.toks) (fun b o hb e => eb b o hb e) f0 f1 f3 f4 f5⟩
  self := fun _ _ _ _ _ st h => wpAny_pyIter_tupleiter st h
theorem turn_range {P : Program} {w : World} {K : PySem.W.Frag} {tg : Expr} (it : Addr) (lo : Int) (n : Nat) : Turn P w K tg (Itr lo n) [it] it (fun i h => IsRangeIter h it (lo + (i : Nat) * 1) ((n : Int) - (i : Nat)) 1) where
  mem := by simp
  obj := fun i h st b hb => by
    have e : b = it := by simpa using hb
    subst e
    exact ⟨_, st, fun v z => by
      have z' : Data.fields _ = Data.cell v := z
      cases z'⟩
  keep := fun i h h' st k => k it (by simp) _ st
  item := by
    intro X hP hw hK hc i pins s σ H E I hf st hg
    subst hP hw hK
    obtain ⟨f0, f1, f2, f3, f4, f5⟩ := hf it (by simp)
    have W := Walks.range (prog := X.prog) (w := X.w) (I.ok.hd hc) it lo 1 n
    refine W.item i s _ _ hg st fun v h' tk hv st' kk => ?_
    obtain ⟨t, rfl⟩ := hv
    have I1 : Inv X pins σ H { s with heap := h', toks := tk } := I.turned (fun b o hb e => kk b o (by simpa using hb) e) f0 f1 f3 f4 f5
    refine ⟨_, rfl, go_of (s := { s with heap := h', toks := tk }) (n := "range_iterator") st' rfl rfl (by decide) ⟨.int (lo + i), H, I1, ⟨t, ?_⟩, ⟨rfl, rfl⟩, st', fun b hb => (hf b hb).1⟩⟩
    rw [Int.mul_one]
  done := by
    intro X hP hw hK hc i pins s σ H E I hf st hg
    subst hP hw hK
    obtain ⟨f0, f1, f2, f3, f4, f5⟩ := hf it (by simp)
    exact wpAny_pyNext_range_end (I.ok.hd hc) st (by have : n ≤ i := hg; omega) fun h' eb => ⟨rfl, I.turned (t' := s.toks) (fun b o hb e => eb b o hb e) f0 f1 f3 f4 f5⟩
  self := fun _ _ _ _ _ st h => wpAny_pyIter_rangeiter st h
end L2
namespace L2
open PySem PySem.Spec PyProof.Rows
section
variable {X : Cx} {tg : Expr}
def iList (K : PySem.W.Frag) (tl : TE) : TI := fun σ H R => tl σ H fun x H1 => ∃ a, x = .ref a ∧ (∃ xs, SqL K H1 a xs) ∧ R (Itl K a) H1
def iTup (K : PySem.W.Frag) (tl : TE) : TI := fun σ H R => tl σ H fun x H1 => ∃ a, x = .ref a ∧ (∃ xs, SqT K H1 a xs) ∧ R (Itt K a) H1
theorem pi_list {l : Expr} {tl : TE} (hl : PE X l tl) : PI X tg l (iList X.K tl) := by
  intro pins s σ H R I h
  refine thn (hl pins s σ H _ I h) fun v s1 ⟨x, H1, I1, r1, q1⟩ => ?_
  obtain ⟨a, e, ⟨xs, hq⟩, q⟩ := q1
  subst e
  cases r1
  obtain ⟨its, rv, p, hz⟩ := I1.list hq
  refine wpAny_pyIter_list p.isList ?_
  refine ⟨s1.heap.objs.size, [s1.heap.objs.size], _, _, H1, rfl, I1.kept (t' := s1.toks) fun b o e => Heap.get?_push_of_some _ e, turn_list a _, ⟨_, Heap.get?_push_size _ rfl, rfl, rfl⟩, fun b hb => ?_, q⟩
  have e : b = s1.heap.objs.size := by simpa using hb
  subst e
  exact I1.fpOk (Nat.le_refl _) (I1.hok.fresh (Nat.le_refl _))
theorem pi_tup {l : Expr} {tl : TE} (hl : PE X l tl) : PI X tg l (iTup X.K tl) := by
  intro pins s σ H R I h
  refine thn (hl pins s σ H _ I h) fun v s1 ⟨x, H1, I1, r1, q1⟩ => ?_
  obtain ⟨a, e, ⟨xs, hq⟩, q⟩ := q1
  subst e
  cases r1
  obtain ⟨its, rv, p, hz⟩ := I1.tuple hq
  refine wpAny_pyIter_tuple (show s1.heap.IsTuple a its.toArray from p) ?_
  refine ⟨s1.heap.objs.size, [s1.heap.objs.size], _, _, H1, rfl, I1.kept (t' := s1.toks) fun b o e => Heap.get?_push_of_some _ e, turn_tuple a _, ⟨_, Heap.get?_push_size _ rfl, rfl, rfl⟩, fun b hb => ?_, q⟩
  have e : b = s1.heap.objs.size := by simpa using hb
  subst e
  exact I1.fpOk (Nat.le_refl _) (I1.hok.fresh (Nat.le_refl _))
theorem range_it {pins : List (Addr × Obj)} {σ : St} {H : Hp} {s : Shared} {R : It → Hp → Prop} {E : Value → Shared → Prop} {lo hi : Int} {t u v : Tok} {tk : Nat} (I : Inv X pins σ H s) (h1 : -(2 ^ 62) ≤ lo) (h2 : lo < 2 ^ 62) (h3 : -(2 ^ 62) ≤ hi) (h4 : hi < 2 ^ 62)
    (q : R (Itr lo (hi - lo).toNat) H) : wpAny (model X.prog X.w) X.A (pyIter (.ref s.heap.objs.size)) (PIE X pins σ tg R) E { s with heap := s.heap.push { cls := .type "range", data := .fields #[.int lo t, .int hi u, .int 1 v] }, toks := tk } := by
  refine wpAny_pyIter_range (IsRange.new ..) (small_one h1 h2 h3 h4) ?_
  have I1 : Inv X pins σ H { s with heap := s.heap.push { cls := .type "range", data := .fields #[.int lo t, .int hi u, .int 1 v] }, toks := tk } := I.kept fun b o e => Heap.get?_push_of_some _ e
  refine ⟨(s.heap.push { cls := .type "range", data := .fields #[.int lo t, .int hi u, .int 1 v] }).objs.size, [(s.heap.push { cls := .type "range", data := .fields #[.int lo t, .int hi u, .int 1 v] }).objs.size], _, _, H, rfl,
    I1.kept (t' := tk) fun b o e => Heap.get?_push_of_some _ e, turn_range _ lo (hi - lo).toNat, ?_, fun b hb => ?_, q⟩
  · have e1 : lo + ((0 : Nat) : Int) * 1 = lo := by simp
    have e2 : (((hi - lo).toNat : Nat) : Int) - ((0 : Nat) : Int) = Builtin.Range.rangeSize lo hi 1 := by rw [rangeSize_one]; split <;> omega
    show IsRangeIter _ _ (lo + ((0 : Nat) : Int) * 1) ((((hi - lo).toNat : Nat) : Int) - ((0 : Nat) : Int)) 1
    rw [e1, e2]
    exact Heap.get?_push_size _ rfl
  · have e : b = (s.heap.push { cls := .type "range", data := .fields #[.int lo t, .int hi u, .int 1 v] }).objs.size := by simpa using hb
    subst e
    exact I1.fpOk (Nat.le_refl _) (I1.hok.fresh (Nat.le_refl _))
def iRng1 (ta : TA) : TI := fun σ H R => ta σ H fun vs H1 => ∃ j : Int, vs = [.int j] ∧ -(2 ^ 62) ≤ j ∧ j < 2 ^ 62 ∧ R (Itr 0 j.toNat) H1
def iRng2 (ta : TA) : TI := fun σ H R => ta σ H fun vs H1 => ∃ i j : Int, vs = [.int i, .int j] ∧ (-(2 ^ 62) ≤ i ∧ i < 2 ^ 62 ∧ -(2 ^ 62) ≤ j ∧ j < 2 ^ 62) ∧ R (Itr i (j - i).toNat) H1
theorem pi_range1 {a : Expr} {ta : TA} {p pos : Pos} (hg : Gl X "range") (hm : X.mg "range" = none) (ha : PA X [a] ta) (hs : starEach [a] X.env = [(false, eval a X.env)] := by rfl) : PI X tg (.Call (.Name "range" p) [a] [] pos) (iRng1 ta) := by
  intro pins s σ H R I h
  refine Call_ (ld_blt I hg hm boot_range (PyProof.Rows.callWith_type1 (thn (ha pos pins s σ H _ I h) fun us s1 ⟨vs, H1, I1, r1, q1⟩ => ?_) hs rfl))
  obtain ⟨j, e, q1, q2, q⟩ := q1
  subst e
  cases r1 with
  | cons r rr =>
    cases rr
    obtain ⟨t, rfl⟩ := r
    exact call_range_1 (range_it I1 (by omega) (by omega) q1 q2 (by simpa using q))
theorem pi_range2 {a b : Expr} {ta : TA} {p pos : Pos} (hg : Gl X "range") (hm : X.mg "range" = none) (ha : PA X [a, b] ta) (hs : starEach [a, b] X.env = [(false, eval a X.env), (false, eval b X.env)] := by rfl) (hs2 : starEach [b] X.env = [(false, eval b X.env)] := by rfl) :
    PI X tg (.Call (.Name "range" p) [a, b] [] pos) (iRng2 ta) := by
  intro pins s σ H R I h
  refine Call_ (ld_blt I hg hm boot_range (PyProof.Rows.callWith_type1 (thn (ha pos pins s σ H _ I h) fun us s1 ⟨vs, H1, I1, r1, q1⟩ => ?_) (by rw [hs, hs2]) (by rw [hs2]; rfl)))
  obtain ⟨i, j, e, ⟨q1, q2, q3, q4⟩, q⟩ := q1
  subst e
  cases r1 with
  | cons r rr =>
    cases rr with
    | cons r' rr =>
      cases rr
      obtain ⟨t, rfl⟩ := r
      obtain ⟨t', rfl⟩ := r'
      exact call_range_2 (range_it I1 q1 q2 q3 q4 q)
def tFor (wi : TI) (g : TG) (tb : TS) : TS := fun D σ H => wi σ H fun J H1 => ∃ W : Nat → Nat → St → Hp → Prop, (∃ m, W 0 m σ H1) ∧ ∀ i m σ H, W i m σ H →
  (J.stop i H ∧ D.nx σ H) ∨ (J.go i H ∧ ∃ N : St → Hp → Prop, (∀ σ' H', N σ' H' → ∃ m', m' < m ∧ W (i + 1) m' σ' H') ∧ ∀ x H', J.yld i H x H' → g x σ H' fun σ2 H2 => tb { D with nx := N, ct := N, bk := D.nx } σ2 H2)
def pinsAt (fp : List Addr) (h : Heap) : List (Addr × Obj) := fp.filterMap fun b => (h.get? b).map fun o => (b, o)
theorem mem_pinsAt {fp : List Addr} {h : Heap} {b : Addr} {o : Obj} (hb : b ∈ fp) (e : h.get? b = some o) : (b, o) ∈ pinsAt fp h := List.mem_filterMap.mpr ⟨b, hb, by rw [e]; rfl⟩
theorem of_pinsAt {fp : List Addr} {h : Heap} {p : Addr × Obj} (hp : p ∈ pinsAt fp h) : p.1 ∈ fp ∧ h.get? p.1 = some p.2 := by
  obtain ⟨b, hb, e⟩ := List.mem_filterMap.mp hp
  cases q : h.get? b with
  | none => rw [q] at e; cases e
  | some o =>
    rw [q] at e
    have e' : (b, o) = p := Option.some.inj e
    subst e'
    exact ⟨hb, q⟩
theorem Inv.pinned {pins : List (Addr × Obj)} {σ : St} {H : Hp} {s : Shared} {fp : List Addr} (I : Inv X pins σ H s) (hf : ∀ b ∈ fp, FpOk X pins H b) (ho : ∀ b ∈ fp, ∃ o, s.heap.get? b = some o ∧ ∀ v, o.data ≠ .cell v) : Inv X (pins ++ pinsAt fp s.heap) σ H s :=
  I.pins_of fun p hp => (List.mem_append.mp hp).elim (fun z => I.pin p (List.mem_append_right _ z)) fun z => by
    obtain ⟨hb, e⟩ := of_pinsAt z
    obtain ⟨f0, f1, f2, _⟩ := hf p.1 hb
    obtain ⟨o, e', d⟩ := ho p.1 hb
    rw [e] at e'; cases e'
    exact ⟨e, f0, f1, f2, d⟩
theorem Inv.unpinned {pins pl : List (Addr × Obj)} {σ : St} {H : Hp} {s : Shared} (I : Inv X (pins ++ pl) σ H s) : Inv X pins σ H s := I.pins_of fun p hp => I.pin p (List.mem_append_right _ (List.mem_append_left _ hp))
theorem ps_for {iter : Expr} {body : List Stmt} {wi : TI} {g : TG} {tb : TS} {pos : Pos} (hp : PassesOwn (model X.prog X.w) X.A X.env X.xe) (hc : X.calm = true) (hi : PI X tg iter wi) (hg : PG X tg g) (hb : PSs X body tb)
    (hs : ∀ x, foldedSetIterable iter X.env x = pure x := by intro _; rfl) : PS X (.For tg iter body [] pos) (tFor wi g tb) := by
  intro pins s σ H D I h
  refine wpAny_For (thn (hi pins s σ H _ I h) fun v s1 h1 => thn h1 fun itv s2 h2 => ?_) hs
  obtain ⟨it, fp, tn, J, H2, e, I2, T, st2, f2, W, ⟨m0, w0⟩, turn⟩ := h2
  subst e
  have stat : ∀ {H' : Hp}, (∀ b ∈ fp, H' b = none) → ∀ b ∈ fp, FpOk X pins H' b := fun hn b hb => ⟨hn b hb, (f2 b hb).2⟩
  refine codeAny_forLoop_any (fun n s' => ∃ i σ' H', Inv X pins σ' H' s' ∧ tn i s'.heap ∧ (∀ b ∈ fp, H' b = none) ∧ W i n σ' H') ?_ m0 ⟨0, σ, H2, I2, st2, fun b hb => (f2 b hb).1, w0⟩
  rintro n s3 ⟨i, σ3, H3, I3, st3, fr3, w3⟩
  rcases turn i n σ3 H3 w3 with ⟨stop, qn⟩ | ⟨go, N, hN, step⟩
  · refine wpAny_passesOwn hp (thn (T.done X rfl rfl rfl hc i pins s3 σ3 H3 X.xe I3 (stat fr3) st3 stop) fun r s4 ⟨hr, I4⟩ => ?_)
    subst hr
    exact wpAny_execs_nil ⟨σ3, H3, I4, qn⟩
  · refine wpAny_passesOwn hp (thn (T.item X rfl rfl rfl hc i pins s3 σ3 H3 X.xe I3 (stat fr3) st3 go) fun r s4 ⟨u, hr, h4⟩ => ?_)
    subst hr
    refine wpAny_passesOwn hp (thn h4 fun _ s5 ⟨x, H5, I5, r5, y5, st5, fr5⟩ => ?_)
    have I5' := I5.pinned (stat fr5) (T.obj _ _ st5)
    refine wpAny_passesOwn hp (thn (hg _ s5 σ3 H5 x u _ I5' r5 (step x H5 y5)) fun _ s6 ⟨σ6, H6, I6, q6⟩ => ?_)
    refine wpAny_passesOwn hp (thn (hb _ s6 σ6 H6 _ I6 q6) fun f s7 q7 => ?_)
    have again : ∀ {σ7 : St} {H7 : Hp}, Inv X (pins ++ pinsAt fp s5.heap) σ7 H7 s7 → N σ7 H7 → ∃ m, m < n ∧ ∃ i σ' H', Inv X pins σ' H' s7 ∧ tn i s7.heap ∧ (∀ b ∈ fp, H' b = none) ∧ W i m σ' H' := fun {σ7 H7} I7 n7 => by
      obtain ⟨m', hm, w7⟩ := hN σ7 H7 n7
      refine ⟨m', hm, i + 1, σ7, H7, I7.unpinned, T.keep _ _ _ st5 fun b hb o e => (I7.pin (b, o) (List.mem_append_right _ (List.mem_append_right _ (mem_pinsAt hb e)))).1, fun b hb => ?_, w7⟩
      obtain ⟨o, e, d⟩ := T.obj _ _ st5 b hb
      exact (I7.pin (b, o) (List.mem_append_right _ (List.mem_append_right _ (mem_pinsAt hb e)))).2.1
    cases f with
    | next => obtain ⟨σ7, H7, I7, n7⟩ := q7; exact again I7 n7
    | cont => obtain ⟨σ7, H7, I7, n7⟩ := q7; exact again I7 n7
    | brk => obtain ⟨σ7, H7, I7, q7⟩ := q7; exact ⟨σ7, H7, I7.unpinned, q7⟩
    | ret v => obtain ⟨x7, σ7, H7, I7, r7, q7⟩ := q7; exact ⟨x7, σ7, H7, I7.unpinned, r7, q7⟩
end
theorem for_list {K : PySem.W.Frag} {a : Addr} {xs : List V} {g : TG} {tb : TS} {D : Ends} {σ : St} {H : Hp} (Pv : Nat → St → Hp → Prop) (h0 : Pv 0 σ H) (hl : ∀ i σ H, i ≤ xs.length → Pv i σ H → SqL K H a xs)
    (hs : ∀ i x σ H, xs[i]? = some x → Pv i σ H → g x σ H fun σ2 H2 => tb { D with nx := Pv (i + 1), ct := Pv (i + 1), bk := D.nx } σ2 H2) (hd : ∀ σ H, Pv xs.length σ H → D.nx σ H) :
    ∃ W : Nat → Nat → St → Hp → Prop, (∃ m, W 0 m σ H) ∧ ∀ i m σ H, W i m σ H →
      ((Itl K a).stop i H ∧ D.nx σ H) ∨ ((Itl K a).go i H ∧ ∃ N : St → Hp → Prop, (∀ σ' H', N σ' H' → ∃ m', m' < m ∧ W (i + 1) m' σ' H') ∧ ∀ x H', (Itl K a).yld i H x H' → g x σ H' fun σ2 H2 => tb { D with nx := N, ct := N, bk := D.nx } σ2 H2) := by
  refine ⟨fun i m σ H => m = xs.length - i ∧ i ≤ xs.length ∧ Pv i σ H, ⟨xs.length, by simp, Nat.zero_le _, h0⟩, ?_⟩
  rintro i m σ H ⟨rfl, hi, p⟩
  have q := hl i σ H hi p
  by_cases hlt : i < xs.length
  · refine .inr ⟨⟨xs, xs[i], q, by simp [hlt]⟩, Pv (i + 1), fun σ' H' p' => ⟨xs.length - (i + 1), by omega, rfl, hlt, p'⟩, fun x H' y => ?_⟩
    obtain ⟨e, y⟩ := y
    subst e
    exact hs i x σ _ (y xs q) p
  · have e : i = xs.length := by omega
    subst e
    exact .inl ⟨⟨xs, q, Nat.le_refl _⟩, hd σ H p⟩
theorem for_tup {K : PySem.W.Frag} {a : Addr} {xs : List V} {g : TG} {tb : TS} {D : Ends} {σ : St} {H : Hp} (Pv : Nat → St → Hp → Prop) (h0 : Pv 0 σ H) (hl : ∀ i σ H, i ≤ xs.length → Pv i σ H → SqT K H a xs)
    (hs : ∀ i x σ H, xs[i]? = some x → Pv i σ H → g x σ H fun σ2 H2 => tb { D with nx := Pv (i + 1), ct := Pv (i + 1), bk := D.nx } σ2 H2) (hd : ∀ σ H, Pv xs.length σ H → D.nx σ H) :
    ∃ W : Nat → Nat → St → Hp → Prop, (∃ m, W 0 m σ H) ∧ ∀ i m σ H, W i m σ H →
      ((Itt K a).stop i H ∧ D.nx σ H) ∨ ((Itt K a).go i H ∧ ∃ N : St → Hp → Prop, (∀ σ' H', N σ' H' → ∃ m', m' < m ∧ W (i + 1) m' σ' H') ∧ ∀ x H', (Itt K a).yld i H x H' → g x σ H' fun σ2 H2 => tb { D with nx := N, ct := N, bk := D.nx } σ2 H2) := by
  refine ⟨fun i m σ H => m = xs.length - i ∧ i ≤ xs.length ∧ Pv i σ H, ⟨xs.length, by simp, Nat.zero_le _, h0⟩, ?_⟩
  rintro i m σ H ⟨rfl, hi, p⟩
  have q := hl i σ H hi p
  by_cases hlt : i < xs.length
  · refine .inr ⟨⟨xs, xs[i], q, by simp [hlt]⟩, Pv (i + 1), fun σ' H' p' => ⟨xs.length - (i + 1), by omega, rfl, hlt, p'⟩, fun x H' y => ?_⟩
    obtain ⟨e, y⟩ := y
    subst e
    exact hs i x σ _ (y xs q) p
  · have e : i = xs.length := by omega
    subst e
    exact .inl ⟨⟨xs, q, Nat.le_refl _⟩, hd σ H p⟩
theorem for_range {lo : Int} {n : Nat} {g : TG} {tb : TS} {D : Ends} {σ : St} {H : Hp} (Pv : Nat → St → Hp → Prop) (h0 : Pv 0 σ H)
    (hs : ∀ i σ H, i < n → Pv i σ H → g (.int (lo + i)) σ H fun σ2 H2 => tb { D with nx := Pv (i + 1), ct := Pv (i + 1), bk := D.nx } σ2 H2) (hd : ∀ σ H, Pv n σ H → D.nx σ H) :
    ∃ W : Nat → Nat → St → Hp → Prop, (∃ m, W 0 m σ H) ∧ ∀ i m σ H, W i m σ H →
      ((Itr lo n).stop i H ∧ D.nx σ H) ∨ ((Itr lo n).go i H ∧ ∃ N : St → Hp → Prop, (∀ σ' H', N σ' H' → ∃ m', m' < m ∧ W (i + 1) m' σ' H') ∧ ∀ x H', (Itr lo n).yld i H x H' → g x σ H' fun σ2 H2 => tb { D with nx := N, ct := N, bk := D.nx } σ2 H2) := by
  refine ⟨fun i m σ H => m = n - i ∧ i ≤ n ∧ Pv i σ H, ⟨n, by simp, Nat.zero_le _, h0⟩, ?_⟩
  rintro i m σ H ⟨rfl, hi, p⟩
  by_cases hlt : i < n
  · refine .inr ⟨hlt, Pv (i + 1), fun σ' H' p' => ⟨n - (i + 1), by omega, rfl, hlt, p'⟩, fun x H' y => ?_⟩
    obtain ⟨e, y⟩ := y
    subst e y
    exact hs i σ _ hlt p
  · have e : i = n := by omega
    subst e
    exact .inl ⟨Nat.le_refl _, hd σ H p⟩
end L2
namespace L2
open PySem PySem.Spec PyProof.Rows
abbrev R2 := V → V → Hp → VK → Prop
def OpR (X : Cx) (f : Value → Value → Sem Value) (r : R2) : Prop :=
  ∀ (pins : List (Addr × Obj)) (s : Shared) (σ : St) (H : Hp) (x y : V) (v u : Value) (Q : VK), Inv X pins σ H s → RelV x v → RelV y u → r x y H Q →
    wpAny (model X.prog X.w) X.A (f v u) (EP X pins σ Q) X.xe s
def UnR (X : Cx) (f : Value → Sem Value) (r : V → Hp → VK → Prop) : Prop :=
  ∀ (pins : List (Addr × Obj)) (s : Shared) (σ : St) (H : Hp) (x : V) (v : Value) (Q : VK), Inv X pins σ H s → RelV x v → r x H Q →
    wpAny (model X.prog X.w) X.A (f v) (EP X pins σ Q) X.xe s
def CallR (X : Cx) (f : Value) (r : List V → Hp → VK → Prop) : Prop :=
  ∀ (pins : List (Addr × Obj)) (s : Shared) (σ : St) (H : Hp) (xs : List V) (us : List Value) (Q : VK), Inv X pins σ H s → Vals xs us → r xs H Q →
    wpAny (model X.prog X.w) X.A (call f us) (EP X pins σ Q) X.xe s
def tOp (r : R2) (ta tb : TE) : TE := fun σ H Q => ta σ H fun x H1 => tb σ H1 fun y H2 => r x y H2 Q
def tUn (r : V → Hp → VK → Prop) (ta : TE) : TE := fun σ H Q => ta σ H fun x H1 => r x H1 Q
def rI (C : Int → Int → Prop) (g : Int → Int → V) : R2 := fun x y H Q => ∃ i j, x = .int i ∧ y = .int j ∧ C i j ∧ Q (g i j) H
def rI0 (g : Int → Int → V) : R2 := fun x y H Q => ∃ i j, x = .int i ∧ y = .int j ∧ Q (g i j) H
def rU (g : Int → V) : V → Hp → VK → Prop := fun x H Q => ∃ i, x = .int i ∧ Q (g i) H
section
variable {X : Cx} {a b c : Expr} {ta tb tc : TE} {pos : Pos}
theorem binT (ha : PE X a ta) (hb : PE X b tb) {pins : List (Addr × Obj)} {s : Shared} {σ : St} {H : Hp} {R : V → V → Hp → Prop} (I : Inv X pins σ H s)
    (h : ta σ H fun x H1 => tb σ H1 fun y H2 => R x y H2) {Q : Value → Shared → Prop} {f : Value → Value → Sem Value}
    (hf : ∀ v u s2 x y H2, Inv X pins σ H2 s2 → RelV x v → RelV y u → R x y H2 → wpAny (model X.prog X.w) X.A (f v u) Q X.xe s2) :
    wpAny (model X.prog X.w) X.A (eval a X.env) (fun v s₁ => wpAny (model X.prog X.w) X.A (eval b X.env) (fun u s₂ => wpAny (model X.prog X.w) X.A (f v u) Q X.xe s₂) X.xe s₁) X.xe s := by
  refine thn (ha pins s σ H _ I h) fun v s1 ⟨x, H1, I1, r1, q1⟩ => ?_
  refine thn (hb pins s1 σ H1 _ I1 q1) fun u s2 ⟨y, H2, I2, r2, q2⟩ => ?_
  exact hf v u s2 x y H2 I2 r1 r2 q2
theorem pe_op {op : Operator} {r : R2} (ho : OpR X (binaryOp op) r) (ha : PE X a ta) (hb : PE X b tb) : PE X (.BinOp a op b pos) (tOp r ta tb) := by
  intro pins s σ H Q I h
  exact wpAny_BinOp (binT ha hb I h fun v u s2 x y H2 I2 rx ry q => ho pins s2 σ H2 x y v u Q I2 rx ry q)
theorem pe_un {op : UnaryOp} {r : V → Hp → VK → Prop} (ho : UnR X (unaryOp op) r) (ha : PE X a ta) : PE X (.UnaryOp op a pos) (tUn r ta) := by
  intro pins s σ H Q I h
  exact UnaryOp_ (thn (ha pins s σ H _ I h) fun v s1 ⟨x, H1, I1, r1, q1⟩ => ho pins s1 σ H1 x v Q I1 r1 q1)
theorem opI {f : Value → Value → Sem Value} {C : Int → Int → Prop} {g : Int → Int → Int}
    (rule : ∀ (i j : Int) (t u : Tok) (s : Shared) (Q : Value → Shared → Prop) (E : Value → Shared → Prop), C i j → Q (.int (g i j) s.toks) { s with toks := s.toks + 1 } → wpAny (model X.prog X.w) X.A (f (.int i t) (.int j u)) Q E s) :
    OpR X f (rI C fun i j => .int (g i j)) := by
  intro pins s σ H x y v u Q I rx ry h
  obtain ⟨i, j, rfl, rfl, hc, q⟩ := h
  obtain ⟨t, rfl⟩ := rx
  obtain ⟨t', rfl⟩ := ry
  exact rule i j t t' s _ _ hc ⟨.int (g i j), H, I.tok _, ⟨_, rfl⟩, q⟩
theorem opI0 {f : Value → Value → Sem Value} {g : Int → Int → Int}
    (rule : ∀ (i j : Int) (t u : Tok) (s : Shared) (Q : Value → Shared → Prop) (E : Value → Shared → Prop), Q (.int (g i j) s.toks) { s with toks := s.toks + 1 } → wpAny (model X.prog X.w) X.A (f (.int i t) (.int j u)) Q E s) :
    OpR X f (rI0 fun i j => .int (g i j)) := by
  intro pins s σ H x y v u Q I rx ry h
  obtain ⟨i, j, rfl, rfl, q⟩ := h
  obtain ⟨t, rfl⟩ := rx
  obtain ⟨t', rfl⟩ := ry
  exact rule i j t t' s _ _ ⟨.int (g i j), H, I.tok _, ⟨_, rfl⟩, q⟩
theorem opB0 {f : Value → Value → Sem Value} {g : Int → Int → Bool}
    (rule : ∀ (i j : Int) (t u : Tok) (s : Shared) (Q : Value → Shared → Prop) (E : Value → Shared → Prop), Q (.bool (g i j)) s → wpAny (model X.prog X.w) X.A (f (.int i t) (.int j u)) Q E s) :
    OpR X f (rI0 fun i j => .bl (g i j)) := by
  intro pins s σ H x y v u Q I rx ry h
  obtain ⟨i, j, rfl, rfl, q⟩ := h
  obtain ⟨t, rfl⟩ := rx
  obtain ⟨t', rfl⟩ := ry
  exact rule i j t t' s _ _ ⟨.bl (g i j), H, I, rfl, q⟩
def CPow (i j : Int) : Prop := 0 ≤ j ∧ j ≤ 1000000 ∧ i.natAbs < 2 ^ 64
theorem op_add : OpR X (binaryOp .Add) (rI0 fun i j => .int (i + j)) := opI0 fun _ _ _ _ _ _ _ q => add_int q
theorem op_sub : OpR X (binaryOp .Sub) (rI0 fun i j => .int (i - j)) := opI0 fun _ _ _ _ _ _ _ q => sub_int q
theorem op_mod : OpR X (binaryOp .Mod) (rI (fun _ j => 0 < j) fun i j => .int (i % j)) := opI fun i j _ _ _ _ _ hc q => by
  have h1 : (0 : Int) < j := hc
  exact mod_int' (by omega) (by rw [Int.fmod_eq_emod_of_nonneg i (by omega)]; exact q)
theorem op_pow : OpR X (binaryOp .Pow) (rI CPow fun i j => .int (i ^ j.toNat)) := opI fun _ _ _ _ _ _ _ hc q => pow_int_small hc.1 hc.2.1 hc.2.2 q
theorem unI {f : Value → Sem Value} {g : Int → Int}
    (rule : ∀ (i : Int) (t : Tok) (s : Shared) (Q : Value → Shared → Prop) (E : Value → Shared → Prop), Q (.int (g i) s.toks) { s with toks := s.toks + 1 } → wpAny (model X.prog X.w) X.A (f (.int i t)) Q E s) :
    UnR X f (rU fun i => .int (g i)) := by
  intro pins s σ H x v Q I rx h
  obtain ⟨i, rfl, q⟩ := h
  obtain ⟨t, rfl⟩ := rx
  exact rule i t s _ _ ⟨.int (g i), H, I.tok _, ⟨_, rfl⟩, q⟩
theorem un_neg : UnR X (unaryOp .USub) (rU fun i => .int (-i)) := unI fun _ _ _ _ _ q => neg_int q
end
def scal : V → V → Bool
  | .non, .non => true | .non, .int _ => true | .int _, .non => true | .non, .bl _ => true | .bl _, .non => true | .non, .str _ => true | .str _, .non => true
  | .int _, .int _ => true | .bl _, .bl _ => true | .str _, .str _ => true | .byt _, .byt _ => true
  | .int _, .str _ => true | .str _, .int _ => true | .bl _, .str _ => true | .str _, .bl _ => true
  | _, _ => false
def rEq : R2 := fun x y H Q => scal x y = true ∧ Q (.bl (decide (x = y))) H
def rNe : R2 := fun x y H Q => scal x y = true ∧ Q (.bl (!decide (x = y))) H
theorem dec_int {i j : Int} : decide (V.int i = V.int j) = (i == j) := by
  rw [Bool.eq_iff_iff]
  simp
theorem dec_bl {i j : Bool} : decide (V.bl i = V.bl j) = (i == j) := by
  rw [Bool.eq_iff_iff]
  simp
theorem dec_str {i j : Str} : decide (V.str i = V.str j) = (i == j) := by
  rw [Bool.eq_iff_iff]
  simp
theorem dec_byt {i j : Array UInt8} : decide (V.byt i = V.byt j) = (i.toList == j.toList) := by
  rw [Bool.eq_iff_iff]
  cases i
  cases j
  simp
section
variable {X : Cx} {a b c : Expr} {ta tb tc : TE} {pos : Pos}
theorem fin_bl {pins : List (Addr × Obj)} {σ : St} {H : Hp} {s : Shared} {Q : VK} {k k' : Bool} (I : Inv X pins σ H s) (q : Q (.bl k) H) (e : k = k') : EP X pins σ Q (.bool k') s := by
  subst e
  exact ⟨.bl k, H, I, rfl, q⟩
theorem op_eq : OpR X (compareOp .Eq) rEq := by
  intro pins s σ H x y v u Q I rx ry h
  obtain ⟨hs, q⟩ := h
  cases x with
  | non =>
    cases rx
    cases y with
    | non => cases ry; exact PySem.EqNone.eq_none_none (fin_bl I q (by simp))
    | bl j => cases ry; exact PySem.EqNone.eq_none_bool (fin_bl I q (by simp))
    | int j => obtain ⟨t', rfl⟩ := ry; exact PySem.EqNone.eq_none_int (fin_bl I q (by simp))
    | str j => obtain ⟨t', rfl⟩ := ry; exact PySem.EqNone.eq_none_str (fin_bl I q (by simp))
    | _ => exact absurd (show false = true from hs) Bool.false_ne_true
  | bl i =>
    cases rx
    cases y with
    | non => cases ry; exact PySem.EqNone.eq_bool_none (fin_bl I q (by simp))
    | bl j => cases ry; exact eq_bool (fin_bl I q dec_bl)
    | str j => obtain ⟨t', rfl⟩ := ry; exact PySem.EqMixed.eq_bool_str (fin_bl I q (by simp))
    | _ => exact absurd (show false = true from hs) Bool.false_ne_true
  | int i =>
    obtain ⟨t, rfl⟩ := rx
    cases y with
    | non => cases ry; exact PySem.EqNone.eq_int_none (fin_bl I q (by simp))
    | int j => obtain ⟨t', rfl⟩ := ry; exact eq_int (fin_bl I q dec_int)
    | str j => obtain ⟨t', rfl⟩ := ry; exact PySem.EqMixed.eq_int_str (fin_bl I q (by simp))
    | _ => exact absurd (show false = true from hs) Bool.false_ne_true
  | str i =>
    obtain ⟨t, rfl⟩ := rx
    cases y with
    | non => cases ry; exact PySem.EqNone.eq_str_none (fin_bl I q (by simp))
    | bl j => cases ry; exact PySem.EqMixed.eq_str_bool (fin_bl I q (by simp))
    | int j => obtain ⟨t', rfl⟩ := ry; exact PySem.EqMixed.eq_str_int (fin_bl I q (by simp))
    | str j => obtain ⟨t', rfl⟩ := ry; exact eq_str (fin_bl I q dec_str)
    | _ => exact absurd (show false = true from hs) Bool.false_ne_true
  | byt i =>
    obtain ⟨t, rfl⟩ := rx
    cases y with
    | byt j => obtain ⟨t', rfl⟩ := ry; exact PySem.W.eq_bytes (fin_bl I q dec_byt)
    | _ => exact absurd (show false = true from hs) Bool.false_ne_true
  | _ => cases y <;> exact absurd (show false = true from hs) Bool.false_ne_true
theorem op_ne : OpR X (compareOp .NotEq) rNe := by
  intro pins s σ H x y v u Q I rx ry h
  obtain ⟨hs, q⟩ := h
  cases x with
  | non =>
    cases rx
    cases y with
    | non => cases ry; exact PySem.EqNone.ne_none_none (fin_bl I q (by simp))
    | bl j => cases ry; exact PySem.EqNone.ne_none_bool (fin_bl I q (by simp))
    | int j => obtain ⟨t', rfl⟩ := ry; exact PySem.EqNone.ne_none_int (fin_bl I q (by simp))
    | str j => obtain ⟨t', rfl⟩ := ry; exact PySem.EqNone.ne_none_str (fin_bl I q (by simp))
    | _ => exact absurd (show false = true from hs) Bool.false_ne_true
  | bl i =>
    cases rx
    cases y with
    | non => cases ry; exact PySem.EqNone.ne_bool_none (fin_bl I q (by simp))
    | bl j => cases ry; exact ne_bool (fin_bl I q (congrArg not dec_bl))
    | str j => obtain ⟨t', rfl⟩ := ry; exact PySem.EqMixed.ne_bool_str (fin_bl I q (by simp))
    | _ => exact absurd (show false = true from hs) Bool.false_ne_true
  | int i =>
    obtain ⟨t, rfl⟩ := rx
    cases y with
    | non => cases ry; exact PySem.EqNone.ne_int_none (fin_bl I q (by simp))
    | int j => obtain ⟨t', rfl⟩ := ry; exact ne_int (fin_bl I q (congrArg not dec_int))
    | str j => obtain ⟨t', rfl⟩ := ry; exact PySem.EqMixed.ne_int_str (fin_bl I q (by simp))
    | _ => exact absurd (show false = true from hs) Bool.false_ne_true
  | str i =>
    obtain ⟨t, rfl⟩ := rx
    cases y with
    | non => cases ry; exact PySem.EqNone.ne_str_none (fin_bl I q (by simp))
    | bl j => cases ry; exact PySem.EqMixed.ne_str_bool (fin_bl I q (by simp))
    | int j => obtain ⟨t', rfl⟩ := ry; exact PySem.EqMixed.ne_str_int (fin_bl I q (by simp))
    | str j => obtain ⟨t', rfl⟩ := ry; exact ne_str (fin_bl I q (congrArg not dec_str))
    | _ => exact absurd (show false = true from hs) Bool.false_ne_true
  | byt i =>
    obtain ⟨t, rfl⟩ := rx
    cases y with
    | byt j => obtain ⟨t', rfl⟩ := ry; exact PySem.W.ne_bytes (fin_bl I q (congrArg not dec_byt))
    | _ => exact absurd (show false = true from hs) Bool.false_ne_true
  | _ => cases y <;> exact absurd (show false = true from hs) Bool.false_ne_true
theorem op_lt : OpR X (compareOp .Lt) (rI0 fun i j => .bl (decide (i < j))) := opB0 fun _ _ _ _ _ _ _ q => lt_int q
theorem op_le : OpR X (compareOp .LtE) (rI0 fun i j => .bl (decide (i ≤ j))) := opB0 fun _ _ _ _ _ _ _ q => le_int q
theorem op_gt : OpR X (compareOp .Gt) (rI0 fun i j => .bl (decide (j < i))) := opB0 fun _ _ _ _ _ _ _ q => gt_int q
theorem op_ge : OpR X (compareOp .GtE) (rI0 fun i j => .bl (decide (j ≤ i))) := opB0 fun _ _ _ _ _ _ _ q => ge_int q
theorem nomark (b : Expr) {op : CmpOp} (h : op ≠ .In := by decide) (h2 : op ≠ .NotIn := by decide) : behindInMarks op b = false := by
  have e1 : (op == CmpOp.In) = false := by cases op <;> first | rfl | exact absurd rfl h
  have e2 : (op == CmpOp.NotIn) = false := by cases op <;> first | rfl | exact absurd rfl h2
  cases b <;> simp [behindInMarks, e1, e2]
theorem pe_cmpR {op : CmpOp} {r : R2} (ho : OpR X (compareOp op) r) (ha : PE X a ta) (hb : PE X b tb) (hm : behindInMarks op b = false) : PE X (.Compare a [op] [b] pos) (tOp r ta tb) := by
  intro pins s σ H Q I h
  exact wpAny_Compare1 (binT ha hb I h fun v u s2 x y H2 I2 rx ry q => ho pins s2 σ H2 x y v u Q I2 rx ry q) hm
def tTest (t : TE) : TT := fun σ H Q => t σ H fun x H' => ∃ k, x = .bl k ∧ Q k H'
theorem pt_cmpR {op : CmpOp} {r : R2} (ho : OpR X (compareOp op) r) (ha : PE X a ta) (hb : PE X b tb) (hm : behindInMarks op b = false) : PT X (.Compare a [op] [b] pos) (tTest (tOp r ta tb)) := by
  intro pins s σ H Q I h
  refine wpAny_isTrue_Compare1 (thn (ha pins s σ H _ I h) fun v s1 ⟨x, H1, I1, r1, q1⟩ => thn (hb pins s1 σ H1 _ I1 q1) fun u s2 ⟨y, H2, I2, r2, q2⟩ =>
    thn (ho pins s2 σ H2 x y v u _ I2 r1 r2 q2) fun c s3 ⟨z, H3, I3, r3, k, e, q3⟩ => ?_) hm
  subst e
  cases r3
  exact wpAny_truthy_bool ⟨H3, I3, q3⟩
def tChain (r r' : R2) (ta tb tc : TE) : TE := fun σ H Q => ta σ H fun x H1 => tb σ H1 fun y H2 => r x y H2 fun z H3 => ∃ k, z = .bl k ∧
  (if k = true then tc σ H3 fun w' H4 => r' y w' H4 Q else Q (.bl false) H3)
theorem line63 : (sizeLine : Nat) < 2 ^ 63 := by rw [sizeLine_eq]; decide
theorem vals1 {x : V} {us : List Value} (r : Vals [x] us) : ∃ u, us = [u] ∧ RelV x u := by
  cases r with
  | cons r1 r2 => cases r2; exact ⟨_, rfl, r1⟩
theorem vals2 {x y : V} {us : List Value} (r : Vals [x, y] us) : ∃ u w', us = [u, w'] ∧ RelV x u ∧ RelV y w' := by
  cases r with
  | cons r1 r2 =>
    cases r2 with
    | cons r3 r4 => cases r4; exact ⟨_, _, rfl, r1, r3⟩
theorem call_max2 (hc : X.calm = true) : CallR X (.builtin "max") (fun xs H Q => ∃ i j, xs = [.int i, .int j] ∧ Q (.int (if j > i then j else i)) H) := by
  intro pins s σ H xs us Q I r h
  obtain ⟨i, j, rfl, q⟩ := h
  obtain ⟨u, w', rfl, ⟨t, rfl⟩, ⟨t', rfl⟩⟩ := vals2 r
  refine max_two_ints (I.ok.hd hc) fun h' tk k => ⟨_, H, I.kept k, ?_, q⟩
  by_cases hj : j > i
  · rw [if_pos hj, if_pos hj]; exact ⟨_, rfl⟩
  · rw [if_neg hj, if_neg hj]; exact ⟨_, rfl⟩
theorem call_min2 (hc : X.calm = true) : CallR X (.builtin "min") (fun xs H Q => ∃ i j, xs = [.int i, .int j] ∧ Q (.int (if j < i then j else i)) H) := by
  intro pins s σ H xs us Q I r h
  obtain ⟨i, j, rfl, q⟩ := h
  obtain ⟨u, w', rfl, ⟨t, rfl⟩, ⟨t', rfl⟩⟩ := vals2 r
  refine min_two_ints (I.ok.hd hc) fun h' tk k => ⟨_, H, I.kept k, ?_, q⟩
  by_cases hj : j < i
  · rw [if_pos hj, if_pos hj]; exact ⟨_, rfl⟩
  · rw [if_neg hj, if_neg hj]; exact ⟨_, rfl⟩
def LenV (K : PySem.W.Frag) (x : V) (H : Hp) (n : Nat) : Prop :=
  match x with
  | .str y => y.length ≤ sizeLine ∧ n = y.length
  | .byt y => y.size ≤ sizeLine ∧ n = y.size
  | .ref p => (∃ xs, SqL K H p xs ∧ n = xs.length) ∨ ∃ xs, SqT K H p xs ∧ n = xs.length
  | _ => False
theorem call_len : CallR X (.builtin "len") (fun xs H Q => ∃ x n, xs = [x] ∧ LenV X.K x H n ∧ Q (.int n) H) := by
  intro pins s σ H xs us Q I r h
  obtain ⟨x, n, rfl, e, q⟩ := h
  obtain ⟨u, rfl, rx⟩ := vals1 r
  have hl := line63
  have hs : sizeLine = 16777216 := sizeLine_eq
  cases x with
  | str y =>
    obtain ⟨t, rfl⟩ := rx
    obtain ⟨hy, e'⟩ : y.length ≤ sizeLine ∧ n = y.length := e
    subst e'
    exact len_str (by omega) ⟨.int _, H, I.tok _, ⟨_, rfl⟩, q⟩
  | byt y =>
    obtain ⟨t, rfl⟩ := rx
    obtain ⟨hy, e'⟩ : y.size ≤ sizeLine ∧ n = y.size := e
    subst e'
    exact PySem.W.len_bytes (by omega) ⟨.int _, H, I.tok _, ⟨_, rfl⟩, q⟩
  | ref p =>
    cases rx
    have e' : (∃ xs, SqL X.K H p xs ∧ n = xs.length) ∨ ∃ xs, SqT X.K H p xs ∧ n = xs.length := e
    rcases e' with ⟨xs, hx, e'⟩ | ⟨xs, hx, e'⟩
    · subst e'
      obtain ⟨its, r', pl, hz⟩ := I.list hx
      have hlen := r'.length
      exact Calls.call_len_list pl.isList (by simp only [List.size_toArray]; omega) ⟨.int xs.length, H, I.tok _, ⟨_, by simp only [List.size_toArray]; rw [hlen]⟩, q⟩
    · subst e'
      obtain ⟨its, r', pl, hz⟩ := I.tuple hx
      have hlen := r'.length
      exact len_tuple pl (by simp only [List.size_toArray]; omega) ⟨.int xs.length, H, I.tok _, ⟨_, by simp only [List.size_toArray]; rw [hlen]⟩, q⟩
  | _ => exact (show False from e).elim
end
end L2
namespace L2
open PySem PySem.Spec PyProof.Rows
structure ObjM (h : Heap) (x dx C : Addr) (mA : Str → Option Value) : Prop where
  obj : h.get? x = some (PySem.W.instObj C dx)
  ns : h.Ns1 dx mA
  ne : dx ≠ x
theorem lookIn_ns {h : Heap} {dx : Addr} {mA : Str → Option Value} (n : h.Ns1 dx mA) : ∃ od, h.get? dx = some od ∧ ∀ name, PySem.W.lookIn name od = some (mA name) := by
  obtain ⟨o, es, ep, ho, hd, hk, _, hm⟩ := n
  refine ⟨o, ho, fun name => ?_⟩
  have e := hm name
  unfold nsFind findBy at e
  rw [← Array.find?_toList] at e
  unfold PySem.W.lookIn
  rw [hd]
  dsimp only
  split
  · rename_i y q
    rw [q] at e
    exact congrArg some e
  · rename_i q
    rw [q] at e
    have a : es.toList.any (·.refKey) = false := by
      rw [List.any_eq_false]
      intro y hy
      obtain ⟨z, t, hkey⟩ := hk y (Array.mem_toList_iff.mp hy)
      simp [DictEntry.refKey, hkey]
    have a' : ¬ es.toList.any (·.refKey) = true := by rw [a]; exact Bool.false_ne_true
    rw [if_neg a']
    exact congrArg some e
theorem ObjM.look {h : Heap} {x dx C : Addr} {mA : Str → Option Value} (I : ObjM h x dx C mA) : ∃ od, PySem.W.InstAt h x (PySem.W.instObj C dx) C (some od) ∧ ∀ name, PySem.W.lookIn name od = some (mA name) :=
  let ⟨od, ho, hl⟩ := lookIn_ns I.ns
  ⟨od, ⟨I.obj, rfl, rfl, ho⟩, hl⟩
section
variable {prog : Program} {w : World} {A : Around} {E : Value → Shared → Prop} {s : Shared} {K : PySem.W.Frag} {x dx C f : Addr} {mA : Str → Option Value} {name : Str} {v : Value}
end
def putF (f : Str) (v : V) : List (Str × V) → List (Str × V)
  | [] => [(f, v)]
  | (g, x) :: r => if g = f then (g, v) :: r else (g, x) :: putF f v r
section
variable {P : Program} {w : World} {H H' : Hp} {h h' : Heap} {a C dx : Addr} {fs fs' : List (Str × V)}
theorem ins_get (hok : HOk P w H h) (e : H a = some (.ins C dx fs)) : ∃ mA, ObjM h a dx C mA ∧ (∀ f, RelO (fs.lookup f) (mA f)) ∧ PySem.Within mA (fs.map (·.1)) ∧ fs.length ≤ 1000 ∧ H dx = some (.own a) := by
  obtain ⟨d, z, ne, ob, mA, n, r, q⟩ := (show ObjOk P w H h a (.ins C dx fs) from hok a _ e)
  exact ⟨mA, ⟨ob, n, ne⟩, r, q, z, d⟩
end
structure Cls (K : PySem.W.Frag) (C : Addr) : Prop where
  pg : PySem.W.plainGet K C Str.empty = true
  hd : PySem.W.hasDictIn K C = true
  po : PySem.W.plainOver K C = true
  sa : PySem.W.findIn K (.ref C) "__setattr__" = some (some (.builtin "object.__setattr__"))
theorem Cls.get {K : PySem.W.Frag} {C : Addr} (c : Cls K C) (f : Str) : PySem.W.plainGet K C f = true := c.pg
def NoAttr (K : PySem.W.Frag) (C : Addr) (f : Str) : Prop := PySem.W.findIn K (.ref C) f = some none
section
variable {X : Cx} {pins : List (Addr × Obj)} {σ : St} {H : Hp} {s : Shared} {a C dx : Addr} {fs : List (Str × V)} {f : Str} {v : V} {A : Around} {E : Value → Shared → Prop}
end
def tFld (K : PySem.W.Frag) (ta : TE) (f : Str) : TE := fun σ H Q => ta σ H fun x H1 => ∃ a C dx fs v, x = .ref a ∧ H1 a = some (.ins C dx fs) ∧ Cls K C ∧ NoAttr K C f ∧ fs.lookup f = some v ∧ Q v H1
def sFld (K : PySem.W.Frag) (ta tv : TE) (f : Str) : TS := fun D σ H => tv σ H fun y H1 => ta σ H1 fun x H2 => ∃ a C dx fs, x = .ref a ∧ H2 a = some (.ins C dx fs) ∧ Cls K C ∧ NoAttr K C f ∧ fs.length < 1000 ∧
  D.nx σ (upd H2 a (.ins C dx (putF f y fs)))
section
variable {X : Cx} {o e value : Expr} {f : Str} {pos pos' tpos : Pos} {ta tv : TE}
end
section
variable {X : Cx} {pins : List (Addr × Obj)} {σ : St} {H : Hp} {s : Shared} {A : Around} {E : Value → Shared → Prop} {Q : Value → Shared → Prop} {c : Value} {b : Bool}
inductive TyOf (K : PySem.W.Frag) (H : Hp) : V → Value → Prop where
  | non : TyOf K H .non (.type "NoneType")
  | bl (x : Bool) : TyOf K H (.bl x) (.type "bool")
  | int (i : Int) : TyOf K H (.int i) (.type "int")
  | str (x : Str) : TyOf K H (.str x) (.type "str")
  | flt (x : UInt64) : TyOf K H (.flt x) (.type "float")
  | lst {a : Addr} {xs : List V} (e : H a = some (.lst xs)) : TyOf K H (.ref a) (.type "list")
  | frz {a : Addr} {o : Obj} {xs : List V} (e : H a = some (.frz o (.lst xs))) : TyOf K H (.ref a) (.type "list")
  | tup {a : Addr} {xs : List V} (e : H a = some (.tup xs)) : TyOf K H (.ref a) (.type "tuple")
  | dK {a : Addr} {kvs : List (Key × V)} (e : H a = some (.dK kvs)) : TyOf K H (.ref a) (.type "dict")
  | dT {a : Addr} {kvs : List (List Key × V)} (e : H a = some (.dT kvs)) : TyOf K H (.ref a) (.type "dict")
  | ins {a C dx : Addr} {fs : List (Str × V)} (e : H a = some (.ins C dx fs)) (cl : Cls K C) (ha : PySem.W.findIn K (.ref C) "__class__" = some (some (.builtin "object.__class__")))
      (hn : PySem.W.specialIn K (.builtin "object.__class__") "__get__" = some (some (.builtin "getset_descriptor.__get__"))) (htk : PySem.W.takesIn K (.builtin "object.__class__") = some true)
      (hm : PySem.W.mroIn K C (.type "object") = some true) : TyOf K H (.ref a) (.ref C)
theorem isinst_ok {x : V} {u t : Value} (I : Inv X pins σ H s) (rx : RelV x u) (ty : TyOf X.K H x t) (e : PySem.W.kitOne X.K t c = some b) (h : ∀ tk, Q (.bool b) { s with toks := tk }) :
    wpAny (model X.prog X.w) A (call (.builtin "isinstance") [u, c]) Q E s := by
  cases ty with
  | non => cases (show u = Value.none from rx); exact PySem.W.kia_one PySem.W.kitx_none I.kIn True.intro e (fun z => nomatch z) h
  | bl y => cases (show u = Value.bool y from rx); exact PySem.W.kia_one PySem.W.kitx_bool I.kIn True.intro e (fun z => nomatch z) h
  | int i => obtain ⟨t, q⟩ := (show ∃ t, u = Value.int i t from rx); cases q; exact PySem.W.kia_one PySem.W.kitx_int I.kIn True.intro e (fun z => nomatch z) h
  | str y => obtain ⟨t, q⟩ := (show ∃ t, u = Value.str y t from rx); cases q; exact PySem.W.kia_one PySem.W.kitx_str I.kIn True.intro e (fun z => nomatch z) h
  | flt y => obtain ⟨t, q⟩ := (show ∃ t, u = Value.float y t from rx); cases q; exact PySem.W.kia_one PySem.W.kitx_float I.kIn True.intro e (fun z => nomatch z) h
  | @lst a xs ea =>
    cases (show u = Value.ref a from rx)
    obtain ⟨_, _, n, _, h1⟩ := (show ObjOk X.prog X.w H s.heap a (.lst xs) from I.hok a _ ea)
    exact PySem.W.kia_one PySem.W.kitx_list I.kIn ⟨_, h1, rfl⟩ e (fun z => nomatch z) h
  | @frz a ob xs ea =>
    cases (show u = Value.ref a from rx)
    obtain ⟨_, _, _, n, _, h1⟩ := (show ObjOk X.prog X.w H s.heap a (.frz ob (.lst xs)) from I.hok a _ ea)
    exact PySem.W.kia_one PySem.W.kitx_list I.kIn ⟨_, h1, rfl⟩ e (fun z => nomatch z) h
  | @tup a xs ea =>
    cases (show u = Value.ref a from rx)
    obtain ⟨_, _, _, p⟩ := (show ObjOk X.prog X.w H s.heap a (.tup xs) from I.hok a _ ea)
    obtain ⟨o, h1, h2, _⟩ := p
    exact PySem.W.kia_one PySem.W.kitx_tuple I.kIn ⟨o, h1, h2⟩ e (fun z => nomatch z) h
  | @dK a kvs ea =>
    cases (show u = Value.ref a from rx)
    obtain ⟨_, _, vs, _, p⟩ := (show ObjOk X.prog X.w H s.heap a (.dK kvs) from I.hok a _ ea)
    obtain ⟨o, es, ep, h1, h2, _⟩ := p
    exact PySem.W.kia_one PySem.W.kitx_dict I.kIn ⟨o, h1, h2.1⟩ e (fun z => nomatch z) h
  | @dT a kvs ea =>
    cases (show u = Value.ref a from rx)
    obtain ⟨_, _, xs, _, o, es, ep, h1, h2, _⟩ := (show ObjOk X.prog X.w H s.heap a (.dT kvs) from I.hok a _ ea)
    exact PySem.W.kia_one PySem.W.kitx_dict I.kIn ⟨o, h1, h2.1⟩ e (fun z => nomatch z) h
  | @ins a C dx fs ea cl ha hn htk hm =>
    cases (show u = Value.ref a from rx)
    obtain ⟨mA, O, _⟩ := ins_get I.hok ea
    obtain ⟨od, J, _⟩ := O.look
    exact PySem.W.kia_one (PySem.W.kitx_own (cl.get _) cl.hd ha hn htk hm) I.kIn J e (fun z => nomatch z) h
end
end L2
namespace L2
open PySem PySem.Spec PyProof.Rows
structure Room (k : Nat) (A : Around) : Prop where
  hd : A.handled = none
  dp : A.depth + 3 * k + 5 < recursionLimit
  un : A.units + 16 * k + 200 < cLine
theorem Room.mono {j k : Nat} {A : Around} (r : Room k A) (h : j ≤ k) : Room j A := ⟨r.hd, by have := r.dp; omega, by have := r.un; omega⟩
theorem Room.deeper {k : Nat} {A : Around} (r : Room (k + 1) A) (env : Env) : Room k (A.deeper env) :=
  ⟨r.hd, by have := r.dp; show A.depth + 1 + 3 * k + 5 < _; omega, by have := r.un; show A.units + 3 + 16 * k + 200 < _; omega⟩
theorem Room.depth {k : Nat} {A : Around} (r : Room k A) : A.depth < recursionLimit := by have := r.dp; omega
theorem Room.units {k : Nat} {A : Around} (r : Room k A) : A.units + 64 < cLine := by have := r.un; omega
def tNil : TA := fun _ H Q => Q [] H
def tCons (ta : TE) (tr : TA) : TA := fun σ H Q => ta σ H fun x H1 => tr σ H1 fun xs H2 => Q (x :: xs) H2
section
variable {X : Cx} {e : Expr} {es : List Expr} {te : TE} {t : TA} {pos : Pos}
theorem pa_nil : PA X [] tNil := fun _ _ _ _ H Q I h => Calls.spliced_nil ⟨[], H, I, .nil, h⟩
theorem pa_cons (ha : PE X e te) (hr : PA X es t) (hs : starEach (e :: es) X.env = (false, eval e X.env) :: starEach es X.env := by rfl) : PA X (e :: es) (tCons te t) := by
  intro pos pins s σ H Q I h
  rw [hs]
  show wpAny _ _ (spliced ((false, eval e X.env) :: backTo pos (starEach es X.env))) _ _ s
  refine Calls.spliced_cons (thn (ha pins s σ H _ I h) fun u s1 ⟨x, H1, I1, r1, q1⟩ => ?_)
  exact thn (hr pos pins s1 σ H1 _ I1 q1) fun us s2 ⟨xs, H2, I2, r2, q2⟩ => ⟨x :: xs, H2, I2, .cons r1 r2, q2⟩
def tTup (t : TA) : TE := fun σ H Q => t σ H fun xs H1 => xs.length ≤ sizeLine ∧ ∀ p, H1 p = none → Q (.ref p) (upd H1 p (.tup xs))
def tLst (t : TA) : TE := fun σ H Q => t σ H fun xs H1 => xs.length ≤ sizeLine ∧ ∀ p, H1 p = none → Q (.ref p) (upd H1 p (.lst xs))
theorem pe_tup {x1} (h : PA X es t) : PE X (.Tuple es x1 pos) (tTup t) := by
  intro pins s σ H Q I hq
  refine wpAny_Tuple_spliced (thn (h pos pins s σ H _ I hq) fun us s1 ⟨xs, H1, I1, r, z, q⟩ => ⟨by rw [← r.length]; exact z, ?_⟩)
  have hf : H1 s1.heap.objs.size = none := I1.hok.fresh (Nat.le_refl _)
  refine ⟨.ref s1.heap.objs.size, upd H1 s1.heap.objs.size (.tup xs), I1.laid (t' := s1.toks) (fun b u e => Heap.get?_push_of_some _ e) (Nat.le_refl _) ?_, rfl, q _ hf⟩
  exact ⟨z, us, r, ⟨_, Heap.get?_push_size _ rfl, rfl, _, rfl⟩⟩
theorem pe_lst (h : PA X es t) : PE X (.List es pos) (tLst t) := by
  intro pins s σ H Q I hq
  refine wpAny_List_spliced (thn (h pos pins s σ H _ I hq) fun us s1 ⟨xs, H1, I1, r, z, q⟩ => ⟨by rw [← r.length]; exact z, ?_⟩)
  have hf : H1 s1.heap.objs.size = none := I1.hok.fresh (Nat.le_refl _)
  refine ⟨.ref s1.heap.objs.size, upd H1 s1.heap.objs.size (.lst xs), I1.laid (t' := s1.toks) (fun b u e => Heap.get?_push_of_some _ e) (Nat.le_refl _) ?_, rfl, q _ hf⟩
  exact ⟨z, us, 0, r, Heap.get?_push_size _ rfl⟩
end
abbrev Sp := List V → Hp → VK → XK → Prop
abbrev CXT := List Env → Hp → Shared → XK → Value → Shared → Prop
structure Env0 (P : Program) (w : World) (K : PySem.W.Frag) (mg : Str → Option Value) (base : Heap) (A : Around) (outer : List Env) (s : Shared) (H : Hp) : Prop where
  frames : A.frames = some outer
  mod : Mod K mg base
  bs : ∀ b o, base.get? b = some o → s.heap.get? b = some o ∧ H b = none
  bsz : base.objs.size ≤ s.heap.objs.size
  funs : s.heap.FunFrames base outer
  frf : ∀ b ∈ frs outer, H b = none
  hok : HOk P w H s.heap
  bare : AllBare s.gens
def CE (outer : List Env) (P : Program) (w : World) (H : Hp) (s : Shared) (Q : VK) (u : Value) (s' : Shared) : Prop :=
  ∃ v H', s'.os = s.os ∧ AllBare s'.gens ∧ Un (frs outer) [] H H' s.heap s'.heap ∧ HOk P w H' s'.heap ∧ RelV v u ∧ Q v H'
def CR (CX : CXT) (outer : List Env) (P : Program) (w : World) (H : Hp) (s : Shared) (Q : VK) (E : XK) (r : Result) (s' : Shared) : Prop :=
  match r with
  | .ok (.ret u) => CE outer P w H s Q u s'
  | .ok _ => False
  | .error e => CX outer H s E e s'
structure FnOk (P : Program) (w : World) (K : PySem.W.Frag) (mg : Str → Option Value) (base : Heap) (CX : CXT) (k : Nat) (f : Addr) (fd : FuncData) (ps : List Str) (sp : Sp) : Prop where
  len : ∀ vs H Q E, sp vs H Q E → vs.length = ps.length
  run : ∀ (A : Around) (outer : List Env) (s : Shared) (H : Hp) (args : Args) (us : List Value) (vs : List V) (Q : VK) (E : XK), Room k A → Env0 P w K mg base A outer s H → BindsTo s fd args (ps.zip us) → Vals vs us → sp vs H Q E →
    codeAny (model P w) A (.call (.ref f) args) (CR CX outer P w H s Q E) s
section
variable {X : Cx} {pins : List (Addr × Obj)} {σ : St} {H : Hp} {s s' : Shared}
theorem Inv.env0 (I : Inv X pins σ H s) : Env0 X.prog X.w X.K X.mg X.base X.A X.stack s H :=
  ⟨I.ok.frames, I.ok.mod, I.bs, Nat.le_trans I.ok.bsz I.sz, I.stack, I.stkFree, I.hok, I.bare⟩
theorem Inv.after {Q : VK} {u : Value} (I : Inv X pins σ H s) (h : CE X.stack X.prog X.w H s Q u s') : EP X pins σ Q u s' := by
  obtain ⟨v, H', os, bare, un, hok, r, q⟩ := h
  obtain ⟨hh, g, d, t, os'⟩ := s'
  obtain rfl : os' = s.os := os
  exact ⟨v, H', I.call (h' := hh) (g' := g) (d' := d) (t' := t) (ch := []) un hok bare (fun b z => absurd z (by simp)), r, q⟩
end
def tCall (sp : Sp) (dvs : List V) (E : XK) (t : TA) : TE := fun σ H Q => t σ H fun vs H1 => sp (vs ++ dvs) H1 Q E
def tMeth (C : Addr) (m : Str) (sp : Sp) (dvs : List V) (E : XK) (ta : TE) (t : TA) : TE := fun σ H Q => ta σ H fun x H1 => ∃ a dx fs, x = .ref a ∧ H1 a = some (.ins C dx fs) ∧ fs.lookup m = none ∧
  t σ H1 fun vs H2 => sp (x :: (vs ++ dvs)) H2 Q E
def tMake (C : Addr) (sp : Sp) (dvs : List V) (E : XK) (t : TA) : TE := fun σ H Q => t σ H fun vs H1 => ∀ x dx, H1 x = none → H1 dx = none → dx ≠ x →
  sp (.ref x :: (vs ++ dvs)) (upd (upd H1 dx (.own x)) x (.ins C dx [])) (fun v H2 => v = .non ∧ Q (.ref x) H2) E
def Binds (K : PySem.W.Frag) (fd : FuncData) (ps : List Str) (ds : List Value) : Prop :=
  ∀ (s : Shared) (us : List Value), K.In s.heap → (us ++ ds).length = ps.length → BindsTo s fd ⟨us, []⟩ (ps.zip (us ++ ds))
theorem Binds.all {K : PySem.W.Frag} {fd : FuncData} {ps : List Str} (h : ∀ us : List Value, us.length = ps.length → bindArgs fd ⟨us, []⟩ = pure (ps.zip us)) : Binds K fd ps [] := fun s us _ hl => by
  rw [List.append_nil] at hl ⊢
  exact .of_eq (h us hl)
def Passes (CX : CXT) (X : Cx) (E : XK) : Prop := ∀ (pins : List (Addr × Obj)) (σ : St) (H : Hp) (s : Shared) (e : Value) (s' : Shared), Inv X pins σ H s → CX X.stack H s E e s' → X.xe e s'
section
variable {X : Cx} {CX : CXT} {k : Nat} {f C : Addr} {fd : FuncData} {ps : List Str} {sp : Sp} {dvs : List V} {ds : List Value} {E : XK} {x m : Str} {p pos apos : Pos} {e o : Expr} {es : List Expr} {ta : TE} {t : TA}
theorem run_fn {pins : List (Addr × Obj)} {σ : St} {H : Hp} {s : Shared} {Q : VK} {us : List Value} {vs : List V} (F : FnOk X.prog X.w X.K X.mg X.base CX k f fd ps sp) (hr : Room k X.A) (hb : Binds X.K fd ps ds) (hd : Vals dvs ds) (hx : Passes CX X E)
    (I : Inv X pins σ H s) (r : Vals vs us) (h : sp (vs ++ dvs) H Q E) : wpAny (model X.prog X.w) X.A (call (.ref f) us) (EP X pins σ Q) X.xe s := by
  have r2 : Vals (vs ++ dvs) (us ++ ds) := r.append hd
  have hl : (us ++ ds).length = ps.length := by rw [← r2.length]; exact F.len _ _ _ _ h
  refine wpAny_call (codeAny_mono (F.run X.A X.stack s H ⟨us, []⟩ (us ++ ds) (vs ++ dvs) Q E hr I.env0 (hb s us I.kIn hl) r2 h) fun r s' hq => ?_)
  cases r with
  | error e => exact hx pins σ H s e s' I hq
  | ok fl =>
    cases fl with
    | ret u => exact I.after hq
    | next => exact False.elim hq
    | brk => exact False.elim hq
    | cont => exact False.elim hq
theorem pe_call (F : FnOk X.prog X.w X.K X.mg X.base CX k f fd ps sp) (hr : Room k X.A) (hg : Gl X x) (hm : X.mg x = some (.ref f)) (hk : PySem.W.keepIn X.K (.ref f) = true) (hb : Binds X.K fd ps ds) (hd : Vals dvs ds) (hx : Passes CX X E)
    (ha : PA X (e :: es) t) (hdb : (x == ("__debug__" : Str)) = false := by decide) (he : starEach (e :: es) X.env = (false, eval e X.env) :: starEach es X.env := by rfl) (hpl : (backTo pos (starEach es X.env)).any (·.1) = false := by rfl) :
    PE X (.Call (.Name x p) (e :: es) [] pos) (tCall sp dvs E t) := by
  intro pins s σ H Q I h
  refine wpAny_Call_Name_kw (ld_glob I hg hm ?_ hdb)
  refine PySem.W.callWith_K (h₀ := X.base) I.ok.mod.kin hk (thn (ha pos pins s σ H _ I h) fun us s1 ⟨vs, H1, I1, r, q⟩ => ⟨I1.kIn, ?_⟩) he hpl
  exact run_fn F hr hb hd hx I1 r q
structure Mk (K : PySem.W.Frag) (C f : Addr) : Prop where
  makes : PySem.W.makesIn K C = true
  init : PySem.W.findIn K (.ref C) "__init__" = some (some (.ref f))
  fn : PySem.W.isFn K (.ref f) = true
  kp : PySem.W.keepIn K (.ref C) = true
end
section
variable {X : Cx} {CX : CXT} {k : Nat} {f C : Addr} {fd : FuncData} {ps ks : List Str} {sp : Sp} {E : XK} {x m : Str} {p pos apos kpos : Pos} {e o : Expr} {es : List Expr} {kws : List Keyword} {te ta : TE} {t tk : TA} {nm : Option Str}
variable {g : List Value → List Value → List Value} {gV : List V → List V → List V}
end
structure FnScope (N P : List Str) (sc : Scope) : Prop where
  kind : sc.kind = .function
  co : sc.isCoroutine = false
  gen : sc.isGenerator = false
  nd : N.Nodup
  pre : N.take P.length = P
  par : ∀ x ∈ P, sc.names.lookup x = some .local ∨ sc.names.lookup x = some .cell
  nofree : ∀ y ∈ sc.names, y.2 ≠ .free
theorem bindL_out {kindOf : Str → Option NameKind} {x : Str} : ∀ {binds : List (Str × Value)} {m : Str → Option Value}, (∀ v, (x, v) ∉ binds) → bindL kindOf binds m x = m x
  | [], _, _ => rfl
  | (n, v) :: r, m, h => by
    unfold bindL
    rw [bindL_out fun w hw => h w (List.mem_cons_of_mem _ hw)]
    split
    · have : x ≠ n := by rintro rfl; exact h v List.mem_cons_self
      simp [this]
    · rfl
theorem bindC_out {kindOf : Str → Option NameKind} {x : Str} : ∀ {binds : List (Str × Value)} {m : Str → Option Value}, (∀ v, (x, v) ∉ binds) → bindC kindOf binds m x = m x
  | [], _, _ => rfl
  | (n, v) :: r, m, h => by
    unfold bindC
    rw [bindC_out fun w hw => h w (List.mem_cons_of_mem _ hw)]
    split
    · rfl
    · have : x ≠ n := by rintro rfl; exact h v List.mem_cons_self
      simp [this]
theorem bindL_get {kindOf : Str → Option NameKind} {x : Str} {v : Value} : ∀ {P : List Str} {vs : List Value} {i : Nat} {m : Str → Option Value}, P.Nodup → P[i]? = some x → vs[i]? = some v → kindOf x = some .local →
    bindL kindOf (P.zip vs) m x = some v
  | [], _, _, _, _, h, _, _ => by simp at h
  | _ :: _, [], _, _, _, _, h, _ => by simp at h
  | p :: P, w :: vs, 0, m, nd, h1, h2, hk => by
    simp at h1 h2; subst h1; subst h2
    show bindL kindOf ((p, w) :: P.zip vs) m p = _
    unfold bindL
    rw [bindL_out fun v hv => (List.nodup_cons.mp nd).1 (List.of_mem_zip hv).1, if_pos hk]
    simp
  | p :: P, w :: vs, i + 1, m, nd, h1, h2, hk => by
    show bindL kindOf ((p, w) :: P.zip vs) m x = _
    unfold bindL
    exact bindL_get (i := i) (List.nodup_cons.mp nd).2 (by simpa using h1) (by simpa using h2) hk
theorem bindC_get {kindOf : Str → Option NameKind} {x : Str} {v : Value} : ∀ {P : List Str} {vs : List Value} {i : Nat} {m : Str → Option Value}, P.Nodup → P[i]? = some x → vs[i]? = some v → kindOf x ≠ some .local →
    bindC kindOf (P.zip vs) m x = some v
  | [], _, _, _, _, h, _, _ => by simp at h
  | _ :: _, [], _, _, _, _, h, _ => by simp at h
  | p :: P, w :: vs, 0, m, nd, h1, h2, hk => by
    simp at h1 h2; subst h1; subst h2
    show bindC kindOf ((p, w) :: P.zip vs) m p = _
    unfold bindC
    rw [bindC_out fun v hv => (List.nodup_cons.mp nd).1 (List.of_mem_zip hv).1, if_neg hk]
    simp
  | p :: P, w :: vs, i + 1, m, nd, h1, h2, hk => by
    show bindC kindOf ((p, w) :: P.zip vs) m x = _
    unfold bindC
    exact bindC_get (i := i) (List.nodup_cons.mp nd).2 (by simpa using h1) (by simpa using h2) hk
def start (N : List Str) (vs : List V) : St := vs.map some ++ List.replicate (N.length - vs.length) none
def cxOf (CX : CXT) (P : Program) (w : World) (K : PySem.W.Frag) (mg : Str → Option Value) (base : Heap) (N : List Str) (qual : Str) (scope : Scope) (f : Addr) (cd : Value) (A : Around) (outer : List Env) (s : Shared) (H : Hp) (E : XK) : Cx where
  prog := P
  w := w
  K := K
  mg := mg
  base := base
  A := A.deeper (envOfC qual scope s.heap.objs.size f cd)
  N := N
  s₀ := s
  H₀ := H
  env := envOfC qual scope s.heap.objs.size f cd
  outer := outer
  stack := envOfC qual scope s.heap.objs.size f cd :: outer
  ex := []
  calm := true
  fn := fun _ => true
  pn := []
  xe := fun e s' => wpAny (model P w) (A.deeper (envOfC qual scope s.heap.objs.size f cd)) (leaving (envOfC qual scope s.heap.objs.size f cd) e) (fun _ s'' => CX outer H s E e s'') (fun e' s'' => CX outer H s E e' s'') s'
theorem cell_has {sc : Scope} {n : Nat} {x : Str} (h : sc.names.lookup x = some .cell) : ∃ c, (cellsFrom n sc.names []).lookup x = some c := by
  have q := PySem.W.cellsFrom_some sc.names n [] (.inl h)
  exact Option.isSome_iff_exists.mp q
theorem inv_start {CX : CXT} {P : Program} {w : World} {K : PySem.W.Frag} {mg : Str → Option Value} {base : Heap} {N ps : List Str} {qual : Str} {scope : Scope} {f : Addr} {cd : Value} {A : Around} {outer : List Env} {s s1 : Shared} {H : Hp} {E : XK} {us : List Value} {vs : List V}
    (S : FnScope N ps scope) (hd : A.handled = none) (e0 : Env0 P w K mg base A outer s H) (hl : vs.length = ps.length) (r : Vals vs us)
    (x : InCallC s s.heap.objs.size (bindL (envOfC qual scope s.heap.objs.size f cd).kindOf (ps.zip us) fun _ => none) (cellsFrom (s.heap.objs.size + 1) scope.names []) (bindC (envOfC qual scope s.heap.objs.size f cd).kindOf (ps.zip us) fun _ => none) s1) :
    Inv (cxOf CX P w K mg base N qual scope f cd A outer s H E) [] (start N vs) H s1 := by
  have hpl : ps.length ≤ N.length := by have := congrArg List.length S.pre; rw [List.length_take] at this; omega
  obtain ⟨h1, tk, rfl, hk⟩ := x.done
  have noA : ∀ b : Addr, b ∉ (cxOf CX P w K mg base N qual scope f cd A outer s H E).ex := fun b z => absurd (show b ∈ ([] : List Addr) from z) (by simp)
  refine ⟨⟨e0.mod, S.kind, rfl, rfl, Nat.le_refl _, fun y z c h1 h2 => ?_, fun y hy => ?_, fun y c _ h => ?_, fun _ => hd, Around.frames_deeper e0.frames, .inr ⟨rfl, rfl⟩, fun b z => absurd z (noA b), e0.bs, e0.bsz, fun b _ _ => noA b, fun b z => absurd z (noA b), e0.funs, e0.frf⟩,
    rfl, e0.bare, Un.kept hk, ⟨_, x.toInCall.ns, fun i y v h1 h2 h3 => ?_⟩, fun y c h => ⟨_, x.cell y c h⟩, e0.hok.fresh (Nat.le_refl _), fun y c h => ?_, fun p hp => absurd (show p ∈ ([] : List (Addr × Obj)) from hp) (by simp), e0.hok.kept hk, ?_⟩
  · exact name_of_addr x.apart (PySem.mem_of_lookup h1) (PySem.mem_of_lookup h2)
  · have hy : scope.names.lookup y = some .cell ∨ scope.names.lookup y = some .free := hy
    rcases hy with hy | hy
    · exact cell_has hy
    · exact absurd rfl (S.nofree _ (PySem.mem_of_lookup hy))
  · exact Nat.le_of_lt (x.above y c (PySem.mem_of_lookup h))
  · have hi : i < vs.length := by
      unfold start at h2
      by_cases hi : i < vs.length
      · exact hi
      · rw [List.getElem?_append_right (by simpa using hi)] at h2
        rw [List.getElem?_replicate] at h2
        split at h2 <;> cases h2
    have ha : vs[i]? = some v := by
      unfold start at h2
      rw [List.getElem?_append_left (by simpa using hi), List.getElem?_map] at h2
      cases e : vs[i]? with
      | none => rw [e] at h2; cases h2
      | some a => rw [e] at h2; cases h2; rfl
    obtain ⟨u, hu, rv⟩ := r.get ha
    have hp : ps[i]? = some y := by
      rw [← S.pre, List.getElem?_take_of_lt (by omega)]; exact h1
    have ndP : ps.Nodup := by rw [← S.pre]; exact S.nd.sublist (List.take_sublist _ _)
    refine ⟨u, rv, ?_⟩
    rcases S.par y (List.mem_of_getElem? hp) with k | k
    · exact .inl ⟨k, bindL_get ndP hp hu k⟩
    · obtain ⟨c, e⟩ := cell_has (n := s.heap.objs.size + 1) k
      refine .inr ⟨.inl k, c, e, ?_⟩
      have q := x.cell y c e
      rw [bindC_get ndP hp hu (by show scope.names.lookup y ≠ _; rw [k]; decide)] at q
      exact q
  · exact e0.hok.fresh (Nat.le_of_lt (x.above y c (PySem.mem_of_lookup h)))
  · unfold start
    show _ = N.length
    rw [List.length_append, List.length_map, List.length_replicate]
    omega
theorem fn_of {CX : CXT} {P : Program} {w : World} {K : PySem.W.Frag} {mg : Str → Option Value} {base : Heap} {k : Nat} {f : Addr} {name qual : Str} {params : Arguments} {body : List Stmt} {scope : Scope} {dV kV doc pm cdv ct oc : Value} {an od : Option Addr}
    {osl : Array (Option Value)} {N ps : List Str} {sp : Sp} (lk : K.lookup f = some ⟨oc, od, .func (PySem.W.fnOf name qual params body scope dV kV doc pm an cdv ct), osl⟩) (hcd : PySem.W.codeIn K cdv qual = true) (S : FnScope N ps scope)
    (len : ∀ vs H Q E, sp vs H Q E → vs.length = ps.length)
    (hbody : ∀ (A : Around) (outer : List Env) (s : Shared) (H : Hp) (vs : List V) (Q : VK) (E : XK), Room k (A.deeper (envOfC qual scope s.heap.objs.size f cdv)) → sp vs H Q E →
      ∃ t, PSs (cxOf CX P w K mg base N qual scope f cdv A outer s H E) body t ∧ t { nx := fun _ H' => Q .non H', rt := Q } (start N vs) H) :
    FnOk P w K mg base CX (k + 1) f (PySem.W.fnOf name qual params body scope dV kV doc pm an cdv ct) ps sp := by
  refine ⟨len, fun A outer s H args us vs Q E hr e0 hb r hsp => ?_⟩
  have hl := len _ _ _ _ hsp
  have KX : K.In s.heap := e0.mod.kin.keeps fun b o e => (e0.bs b o e).1
  have lim : s.heap.NoLimit := e0.mod.nolimit.keeps fun b o e => (e0.bs b o e).1
  have hkind : ∀ y ∈ ps.zip us, scope.names.lookup y.1 = some .local ∨ (scope.names.lookup y.1 = some .cell ∧ ((cellsFrom (s.heap.objs.size + 1) scope.names []).lookup y.1).isSome = true) := fun ⟨n, v⟩ hy => by
    rcases S.par n (List.of_mem_zip hy).1 with q | q
    · exact .inl q
    · exact .inr ⟨q, PySem.W.cellsFrom_some _ _ _ (.inl q)⟩
  refine codeAny_call_function hr.depth (KX _ _ lk) rfl S.co S.gen rfl (PySem.W.codeRec_of KX hcd) (hb _ _ _ _ ?_)
  refine wpAny_newFunctionEnv_cells S.kind hkind fun env he s1 x => ?_
  subst he
  refine ⟨lim.keeps x.toInCall.keep, codeAny_func ?_⟩
  obtain ⟨t, ht, hq⟩ := hbody A outer s H vs Q E (hr.deeper _) hsp
  have I : Inv (cxOf CX P w K mg base N qual scope f cdv A outer s H E) [] (start N vs) H s1 := inv_start S hr.hd e0 hl r x
  refine wpAny_mono (ht [] s1 (start N vs) H _ I hq) (fun fl s' hs => ?_) fun e s' hs => hs
  have fin : ∀ {σ' : St} {H' : Hp} {v : V} {u : Value}, Inv (cxOf CX P w K mg base N qual scope f cdv A outer s H E) [] σ' H' s' → RelV v u → Q v H' → CE outer P w H s Q u s' :=
    fun {σ' H' v u} J rv q => ⟨v, H', J.os, J.bare, J.base, J.hok, rv, q⟩
  cases fl with
  | ret u =>
    obtain ⟨v, σ', H', J, rv, q⟩ := hs
    exact fin J rv q
  | next =>
    obtain ⟨σ', H', J, q⟩ := hs
    exact fin (v := V.non) (u := Value.none) J rfl q
  | brk =>
    obtain ⟨_, _, _, q⟩ := hs
    exact False.elim q
  | cont =>
    obtain ⟨_, _, _, q⟩ := hs
    exact False.elim q
end L2
namespace L2
open PySem PySem.Spec PyProof.Rows
section
variable {X : Cx} {x : Str} {p pos : Pos} {e : Expr} {es : List Expr} {t : TA} {id T : String} {r : List V → Hp → VK → Prop}
def tCB (r : List V → Hp → VK → Prop) (t : TA) : TE := fun σ H Q => t σ H fun vs H1 => r vs H1 Q
theorem pe_callB (hc : CallR X (.builtin id) r) (hg : Gl X x) (hm : X.mg x = none) (hv : bootBuiltins x = some (.builtin id)) (ha : PA X (e :: es) t) (hn : x ≠ "__name__" := by decide) (hdb : (x == ("__debug__" : Str)) = false := by decide)
    (he : starEach (e :: es) X.env = (false, eval e X.env) :: starEach es X.env := by rfl) (hpl : (backTo pos (starEach es X.env)).any (·.1) = false := by rfl) : PE X (.Call (.Name x p) (e :: es) [] pos) (tCB r t) := by
  intro pins s σ H Q I h
  refine wpAny_Call_Name_kw (ld_blt I hg hm hv ?_ hn hdb)
  exact PyProof.Rows.callWith_builtin1 (thn (ha pos pins s σ H _ I h) fun us s1 ⟨vs, H1, I1, r1, q1⟩ => hc pins s1 σ H1 vs us Q I1 r1 q1) he hpl
theorem pe_callTy (hc : CallR X (.type T) r) (hg : Gl X x) (hm : X.mg x = none) (hv : bootBuiltins x = some (.type T)) (ha : PA X (e :: es) t) (hn : x ≠ "__name__" := by decide) (hdb : (x == ("__debug__" : Str)) = false := by decide)
    (he : starEach (e :: es) X.env = (false, eval e X.env) :: starEach es X.env := by rfl) (hpl : (backTo pos (starEach es X.env)).any (·.1) = false := by rfl) : PE X (.Call (.Name x p) (e :: es) [] pos) (tCB r t) := by
  intro pins s σ H Q I h
  refine wpAny_Call_Name_kw (ld_blt I hg hm hv ?_ hn hdb)
  exact PyProof.Rows.callWith_type1 (thn (ha pos pins s σ H _ I h) fun us s1 ⟨vs, H1, I1, r1, q1⟩ => hc pins s1 σ H1 vs us Q I1 r1 q1) he hpl
end
end L2
namespace HT
open PySem PyProof.Rows
def lexLt : List Int → List Int → Bool
  | [], [] => false
  | [], _ :: _ => true
  | _ :: _, [] => false
  | x :: xs, y :: ys => if x = y then lexLt xs ys else decide (x < y)
section
open PySem.SeqAt
open PySem.AutoSeq1 (wpAny_loadPart')
open PySem.MeetsSeq PySem.MeetsSeq2 PySem.MeetsSeq3
end
section
variable {prog : Program} {w : World} {A : Around} {E : Value → Shared → Prop} {s : Shared}
def sIx (n d : Nat) : Option Int → Nat
  | none => d
  | some v => if v < 0 then (v + (n : Int)).toNat else min v.toNat n
theorem sIx_none (n d : Nat) : sIx n d none = d := rfl
theorem sIx_nat (n d k : Nat) : sIx n d (some (k : Int)) = min k n := by
  show (if (k : Int) < 0 then ((k : Int) + (n : Int)).toNat else min (k : Int).toNat n) = min k n
  rw [if_neg (by omega), Int.toNat_natCast]
end
end HT
namespace L2
open PySem PySem.Spec PyProof.Rows
abbrev TO := St → Hp → (Option Int → Hp → Prop) → Prop
def PO (X : Cx) (e : Option Expr) (t : TO) : Prop :=
  ∀ (pins : List (Addr × Obj)) (s : Shared) (σ : St) (H : Hp) (Q : Option Int → Hp → Prop), Inv X pins σ H s → t σ H Q →
    wpAny (model X.prog X.w) X.A (evalPart e X.env) (fun u s' => ∃ o H', Inv X pins σ H' s' ∧ IsPart u o ∧ Q o H') X.xe s
def tNoPart : TO := fun _ H Q => Q none H
def tPart (t : TE) : TO := fun σ H Q => t σ H fun x H1 => ∃ i, x = .int i ∧ Q (some i) H1
section
variable {X : Cx} {e : Expr} {te : TE} {lo hi : Option Expr} {tl th : TO} {pos p2 : Pos}
theorem po_none : PO X none tNoPart := by
  intro pins s σ H Q I h
  rw [evalPart_none]
  exact wpAny_pure ⟨none, H, I, .none, h⟩
theorem po_some (h : PE X e te) : PO X (some e) (tPart te) := by
  intro pins s σ H Q I hw
  rw [evalPart_some]
  refine thn (h pins s σ H _ I hw) fun u s1 ⟨x, H1, I1, r1, q1⟩ => ?_
  obtain ⟨i, rfl, q⟩ := q1
  obtain ⟨t, rfl⟩ := r1
  exact ⟨some i, H1, I1, .int i t, q⟩
def SlR (X : Cx) (r : V → Option Int → Option Int → Hp → VK → Prop) : Prop :=
  ∀ (pins : List (Addr × Obj)) (s : Shared) (σ : St) (H : Hp) (x : V) (v vl vu : Value) (lo hi : Option Int) (sl : Addr) (Q : VK), Inv X pins σ H s → RelV x v → s.heap.IsSliceOf sl vl vu .none → IsPart vl lo → IsPart vu hi → r x lo hi H Q →
    ∃ T id, typeLookup (.type T) "__getitem__" = pure (some (.builtin id)) ∧ s.TypeIs v T ∧ wpAny (model X.prog X.w) X.A (getItem v (.ref sl)) (EP X pins σ Q) X.xe s
def tSl (r : V → Option Int → Option Int → Hp → VK → Prop) (te : TE) (tl th : TO) : TE := fun σ H Q => te σ H fun x H1 => tl σ H1 fun l H2 => th σ H2 fun u H3 => r x l u H3 Q
theorem pe_slice {r : V → Option Int → Option Int → Hp → VK → Prop} (hr : SlR X r) (he : PE X e te) (hl : PO X lo tl) (hu : PO X hi th) : PE X (.Subscript e (.Slice lo hi none p2) pos) (tSl r te tl th) := by
  intro pins s σ H Q I h
  refine Subscript_ (thn (he pins s σ H _ I h) fun v s1 ⟨x, H1, I1, r1, q1⟩ => ?_)
  refine wpAny_Slice (thn (hl pins s1 σ H1 _ I1 q1) fun vl s2 ⟨l, H2, I2, pl, q2⟩ => thn (hu pins s2 σ H2 _ I2 q2) fun vu s3 ⟨u, H3, I3, pu, q3⟩ => ?_)
  rw [evalPart_none]
  refine wpAny_pure ?_
  have I4 : Inv X pins σ H3 { s3 with heap := s3.heap.push { cls := .type "slice", data := .fields #[vl, vu, .none] } } := I3.kept (t' := s3.toks) fun b ob q => Heap.get?_push_of_some _ q
  obtain ⟨T, id, hT, ht, hg⟩ := hr pins { s3 with heap := s3.heap.push { cls := .type "slice", data := .fields #[vl, vu, .none] } } σ H3 x v vl vu l u s3.heap.objs.size Q I4 r1 (Heap.IsSliceOf.new ..) pl pu q3
  show wpAny (model X.prog X.w) X.A (subscriptTail e (.Slice lo hi none p2) v (.ref s3.heap.objs.size)) (EP X pins σ Q) X.xe { s3 with heap := s3.heap.push { cls := .type "slice", data := .fields #[vl, vu, .none] } }
  exact tail_any (ops := [.ref s3.heap.objs.size, v]) ht hT hg (by with_unfolding_all rfl)
def cutV (xs : List V) (lo hi : Option Int) : List V := (xs.drop (HT.sIx xs.length 0 lo)).take (HT.sIx xs.length xs.length hi - HT.sIx xs.length 0 lo)
theorem cutV_length (xs : List V) (lo hi : Option Int) : (cutV xs lo hi).length ≤ xs.length := by
  unfold cutV
  rw [List.length_take, List.length_drop]
  omega
end
end L2
namespace L2
open PySem PySem.Spec PyProof.Rows
def ixN (n : Nat) (i : Int) : Option Nat := if 0 ≤ i then (if i < n then some i.toNat else none) else if -(n : Int) ≤ i then some (i + n).toNat else none
def atI {α : Type} (xs : List α) (i : Int) : Option α := (ixN xs.length i).bind fun j => xs[j]?
theorem ixN_seq {n : Nat} {i : Int} {j : Nat} (h : ixN n i = some j) : seqIndex? i n = some j ∧ j < n ∧ -(n : Int) ≤ i ∧ i < n := by
  unfold ixN at h
  by_cases h0 : 0 ≤ i
  · rw [if_pos h0] at h
    by_cases h1 : i < n
    · rw [if_pos h1] at h
      have e : i.toNat = j := Option.some.inj h
      exact ⟨by rw [seqIndex_of h0 h1, e], by omega, by omega, h1⟩
    · rw [if_neg h1] at h; cases h
  · rw [if_neg h0] at h
    by_cases h1 : -(n : Int) ≤ i
    · rw [if_pos h1] at h
      have e : (i + n).toNat = j := Option.some.inj h
      exact ⟨by rw [seqIndex_neg (by omega) h1, e], by omega, h1, by omega⟩
    · rw [if_neg h1] at h; cases h
theorem atI_get {α : Type} {xs : List α} {i : Int} {v : α} (h : atI xs i = some v) : ∃ j, seqIndex? i xs.length = some j ∧ xs[j]? = some v ∧ j < xs.length ∧ -(xs.length : Int) ≤ i ∧ i < xs.length := by
  unfold atI at h
  cases e : ixN xs.length i with
  | none => rw [e] at h; cases h
  | some j =>
    rw [e] at h
    obtain ⟨h1, h2, h3, h4⟩ := ixN_seq e
    exact ⟨j, h1, h, h2, h3, h4⟩
theorem atI_nat {α : Type} {xs : List α} {j : Nat} {v : α} (h : xs[j]? = some v) : atI xs (j : Int) = some v := by
  have hj : j < xs.length := (List.getElem?_eq_some_iff.mp h).1
  have e : ixN xs.length (j : Int) = some j := by
    unfold ixN
    rw [if_pos (by omega), if_pos (by omega)]; simp
  unfold atI; rw [e]; exact h
theorem atI_last {α : Type} (xs : List α) (v : α) : atI (xs ++ [v]) (-1) = some v := by
  have hl : (xs ++ [v]).length = xs.length + 1 := by simp
  have e : ixN (xs ++ [v]).length (-1) = some xs.length := by
    unfold ixN
    rw [hl, if_neg (by decide), if_pos (by omega)]
    congr 1
    omega
  unfold atI
  rw [e]
  show (xs ++ [v])[xs.length]? = some v
  simp
def PlainIx (b : Expr) : Prop := ∀ o i, subscripted b false o i = operate [o, i] (getItem o i)
def IxR (X : Cx) (r : R2) : Prop :=
  ∀ (value slice : Expr) (pins : List (Addr × Obj)) (s : Shared) (σ : St) (H : Hp) (x y : V) (v u : Value) (Q : VK), Inv X pins σ H s → RelV x v → RelV y u → r x y H Q →
    subscripted slice false v u = operate [v, u] (getItem v u) → wpAny (model X.prog X.w) X.A (subscriptTail value slice v u) (EP X pins σ Q) X.xe s
def MtR (X : Cx) (id : String) (r : V → List V → Hp → VK → Prop) : Prop :=
  ∀ (pins : List (Addr × Obj)) (s : Shared) (σ : St) (H : Hp) (x : V) (xs : List V) (v : Value) (us : List Value) (Q : VK), Inv X pins σ H s → RelV x v → Vals xs us → r x xs H Q →
    wpAny (model X.prog X.w) X.A (call (.builtin id) (v :: us)) (EP X pins σ Q) X.xe s
section
variable {X : Cx} {a b : Expr} {ta tb : TE} {pos : Pos}
theorem IxR.or {r r' : R2} (h : IxR X r) (h' : IxR X r') : IxR X (fun x y H Q => r x y H Q ∨ r' x y H Q) := by
  intro value slice pins s σ H x y v u Q I rx ry q hs
  rcases q with q | q
  · exact h value slice pins s σ H x y v u Q I rx ry q hs
  · exact h' value slice pins s σ H x y v u Q I rx ry q hs
theorem pe_ix {r : R2} (hr : IxR X r) (ha : PE X a ta) (hb : PE X b tb) (hs : PlainIx b) : PE X (.Subscript a b pos) (tOp r ta tb) := by
  intro pins s σ H Q I h
  exact Subscript_ (binT ha hb I h fun v u s2 x y H2 I2 rx ry q => hr a b pins s2 σ H2 x y v u Q I2 rx ry q (hs _ _))
def rIxL (K : PySem.W.Frag) : R2 := fun x y H Q => ∃ p xs i v, x = .ref p ∧ y = .int i ∧ SqL K H p xs ∧ atI xs i = some v ∧ Q v H
def rIxT (K : PySem.W.Frag) : R2 := fun x y H Q => ∃ p xs i v, x = .ref p ∧ y = .int i ∧ SqT K H p xs ∧ atI xs i = some v ∧ Q v H
def rIxS : R2 := fun x y H Q => ∃ z i c, x = .str z ∧ y = .int i ∧ z.length ≤ sizeLine ∧ atI z.cps.toList i = some c ∧ Q (.str ⟨#[c]⟩) H
theorem ix_list : IxR X (rIxL X.K) := by
  intro value slice pins s σ H x y v u Q I rx ry h hs
  obtain ⟨p, xs, i, z, rfl, rfl, hq, he, q⟩ := h
  cases rx
  obtain ⟨t, rfl⟩ := ry
  obtain ⟨its, r, pl, hz⟩ := I.list hq
  obtain ⟨j, h1, h2, h3, h4, h5⟩ := atI_get he
  obtain ⟨w, ew, rw'⟩ := r.get h2
  have hl := r.length
  have hn := line63
  have fin : EP X pins σ Q w s := ⟨z, H, I, rw', q⟩
  by_cases h0 : 0 ≤ i
  · have hj : i.toNat = j := by
      rw [seqIndex_of h0 h5] at h1
      exact Option.some.inj h1
    exact item_listR pl.isList h0 (by omega) (by rw [hj]; simpa using ew) fin hs
  · have hj : (i + (its.toArray.size : Int)).toNat = j := by
      rw [seqIndex_neg (by omega) h4] at h1
      rw [List.size_toArray, ← hl]
      exact Option.some.inj h1
    exact subscriptTail_builtinR (x := w) pl.isList.typeIs slot_list_getitem.lookup
      (wpAny_getItem_list_neg (Q := fun r s' => r = w ∧ EP X pins σ Q r s') pl.isList (by omega) (by rw [List.size_toArray] <;> omega) (by omega) (by rw [hj]; simpa using ew) ⟨rfl, fin⟩) hs
theorem ix_tup : IxR X (rIxT X.K) := by
  intro value slice pins s σ H x y v u Q I rx ry h hs
  obtain ⟨p, xs, i, z, rfl, rfl, hq, he, q⟩ := h
  cases rx
  obtain ⟨t, rfl⟩ := ry
  obtain ⟨its, r, pl, hz⟩ := I.tuple hq
  obtain ⟨j, h1, h2, h3, h4, h5⟩ := atI_get he
  obtain ⟨w, ew, rw'⟩ := r.get h2
  have hl := r.length
  have hn := line63
  have fin : EP X pins σ Q w s := ⟨z, H, I, rw', q⟩
  exact subscriptTail_builtinR (x := w) pl.typeIs slot_tuple_getitem.lookup
    (getItem_tuple (j := j) (Q := fun r s' => r = w ∧ EP X pins σ Q r s') pl (by omega) (by omega) (by rw [List.size_toArray, ← hl]; exact h1) (by simpa using ew) ⟨rfl, fin⟩) hs
theorem ix_str : IxR X rIxS := by
  intro value slice pins s σ H x y v u Q I rx ry h hs
  obtain ⟨z, i, c, rfl, rfl, hz, he, q⟩ := h
  obtain ⟨t, rfl⟩ := rx
  obtain ⟨t', rfl⟩ := ry
  obtain ⟨j, h1, h2, h3, h4, h5⟩ := atI_get he
  have hl : z.cps.toList.length = z.length := by simp [Str.length]
  rw [hl] at h1 h4 h5
  have hn := line63
  exact tail_any (typeIs_str s z t) slot_str_getitem.lookup (getItem_str (c := c) (by
    have e1 : decide (i < -(2 ^ 63 : Int)) = false := decide_eq_false (by omega)
    have e2 : decide (i ≥ 2 ^ 63) = false := decide_eq_false (by omega)
    rw [e1, e2, Bool.or_false]) (by rw [h1]; simpa using h2) ⟨.str ⟨#[c]⟩, H, I.tok _, ⟨_, rfl⟩, q⟩) hs
def rIx (K : PySem.W.Frag) : R2 := fun x y H Q => rIxL K x y H Q ∨ rIxT K x y H Q ∨ rIxS x y H Q
theorem ix_seq : IxR X (rIx X.K) := ix_list.or (ix_tup.or ix_str)
theorem mapSeq_set (its : List Value) (n j : Nat) (u : Value) : Obj.mapSeq (·.setIfInBounds j u) { cls := .type "list", data := .seq its.toArray n } = { cls := .type "list", data := .seq (its.set j u).toArray n } := by
  simp [Obj.mapSeq]
theorem Inv.lst {pins : List (Addr × Obj)} {σ : St} {H : Hp} {s : Shared} {p : Addr} {xs : List V} (I : Inv X pins σ H s) (h : H p = some (.lst xs)) :
    ∃ (its : List Value) (n : Nat), Vals xs its ∧ s.heap.get? p = some { cls := .type "list", data := .seq its.toArray n } ∧ xs.length ≤ sizeLine := by
  obtain ⟨z, its, n, r, e⟩ := I.hok p _ h
  exact ⟨its, n, r, e, z⟩
theorem Inv.lstUpd {pins : List (Addr × Obj)} {σ : St} {H : Hp} {s : Shared} {p : Addr} {xs ys : List V} {its its' : List Value} {n n' : Nat} {f : Obj → Obj} (I : Inv X pins σ H s) (h : H p = some (.lst xs))
    (ho : s.heap.get? p = some { cls := .type "list", data := .seq its.toArray n }) (hf : f { cls := .type "list", data := .seq its.toArray n } = { cls := .type "list", data := .seq its'.toArray n' }) (r : Vals ys its') (hz : ys.length ≤ sizeLine) (t : Nat) :
    Inv X pins σ (upd H p (.lst ys)) { s with heap := s.heap.update p f, toks := t } := by
  have e : (s.heap.update p f).get? p = some { cls := .type "list", data := .seq its'.toArray n' } := by
    rw [Heap.get?_update_self f ho (by rw [hf] <;> rfl), hf]
  refine I.write (x := p) (e := p) (by rw [h]; trivial) (.inl rfl) (fun b u hb q => (Heap.get?_update_other _ _ (Ne.symm hb)).trans q) ⟨_, e⟩ ?_
  exact ⟨hz, its', n', r, e⟩
def rSetL : V → V → V → Hp → (Hp → Prop) → Prop := fun o i v H Q => ∃ p xs k j, o = .ref p ∧ i = .int k ∧ H p = some (.lst xs) ∧ ixN xs.length k = some j ∧ Q (upd H p (.lst (xs.set j v)))
theorem set_list : PSet X rSetL := by
  intro pins s σ H o i v ov iv u Q I ro ri rv h
  obtain ⟨p, xs, k, j, rfl, rfl, hp, hj, q⟩ := h
  cases ro
  obtain ⟨t, rfl⟩ := ri
  obtain ⟨its, n, r, ho, hz⟩ := I.lst hp
  obtain ⟨h1, h2, h3, h4⟩ := ixN_seq hj
  have hl := r.length
  have hn := line63
  have I' : Inv X pins σ (upd H p (.lst (xs.set j v))) { s with heap := s.heap.update p (Obj.mapSeq (·.setIfInBounds j u)) } :=
    I.lstUpd hp ho (mapSeq_set its n j u) (r.set rv j) (by rw [List.length_set]; exact hz) s.toks
  by_cases h0 : 0 ≤ k
  · have hk : k.toNat = j := by
      rw [seqIndex_of h0 h4] at h1
      exact Option.some.inj h1
    exact PySem.W.ki_setAt ho h0 (by omega) (by rw [List.size_toArray, ← hl]; exact h4) (by rw [hk]; exact ⟨_, I', q⟩)
  · have hk : (k + (its.toArray.size : Int)).toNat = j := by
      rw [seqIndex_neg (by omega) h3] at h1
      rw [List.size_toArray, ← hl]
      exact Option.some.inj h1
    exact PySem.W.ki_setBack ho (by omega) (by rw [List.size_toArray, ← hl]; exact h3) (by omega) (by rw [hk]; exact ⟨_, I', q⟩)
theorem slice_bounds (lo hi : Option Int) (n : Nat) : (sliceBounds lo hi none n).1 = ((HT.sIx n 0 lo : Nat) : Int) ∧ (sliceBounds lo hi none n).2.1 = ((HT.sIx n n hi : Nat) : Int) ∧ (sliceBounds lo hi none n).2.2 = 1 := by
  refine ⟨?_, ?_, rfl⟩
  · cases lo with
    | none => simp [sliceBounds, HT.sIx]
    | some i =>
      simp only [sliceBounds, HT.sIx, Option.getD_none, show (1 : Int) > 0 by decide, if_true]
      by_cases h : i < 0
      · simp only [h, if_true] <;> omega
      · simp only [h, if_false] <;> omega
  · cases hi with
    | none => simp [sliceBounds, HT.sIx]
    | some i =>
      simp only [sliceBounds, HT.sIx, Option.getD_none, show (1 : Int) > 0 by decide, if_true]
      by_cases h : i < 0
      · simp only [h, if_true] <;> omega
      · simp only [h, if_false] <;> omega
theorem slicePick_cut (its : List Value) (lo hi : Option Int) : slicePick its.toArray lo hi none = ((its.drop (HT.sIx its.length 0 lo)).take (HT.sIx its.length its.length hi - HT.sIx its.length 0 lo)).toArray := by
  obtain ⟨h1, h2, h3⟩ := slice_bounds lo hi its.toArray.size
  unfold slicePick
  rw [h1, h2, h3]
  simp only [sliceRange_one, pick_run, List.size_toArray] <;> rfl
def rSlL (K : PySem.W.Frag) : V → Option Int → Option Int → Hp → VK → Prop := fun x lo hi H Q => ∃ a xs, x = .ref a ∧ SqL K H a xs ∧ ∀ p, H p = none → Q (.ref p) (upd H p (.lst (cutV xs lo hi)))
theorem sl_list : SlR X (rSlL X.K) := by
  intro pins s σ H x v vl vu lo hi sl Q I rx hs pl pu h
  obtain ⟨a, xs, rfl, hx, q⟩ := h
  cases rx
  obtain ⟨its, r, ht, hz⟩ := I.list hx
  have hlen := r.length
  refine ⟨"list", _, slot_list_getitem.lookup, ht.isList.typeIs, ?_⟩
  refine wpAny_getItem_list_slice ht.isList hs pl pu .none (by simp) ?_ (by rw [List.size_toArray] <;> omega)
  rw [slicePick_cut, ← hlen]
  refine ⟨.ref s.heap.objs.size, _, I.laid (t' := s.toks) (o := .lst (cutV xs lo hi)) (fun b ob q => Heap.get?_push_of_some _ q) (Nat.le_refl _) ?_, rfl, q _ (I.hok.fresh (Nat.le_refl _))⟩
  exact ⟨Nat.le_trans (cutV_length xs lo hi) hz, _, 0, (r.drop (HT.sIx xs.length 0 lo)).take (HT.sIx xs.length xs.length hi - HT.sIx xs.length 0 lo), Heap.get?_push_size _ rfl⟩
theorem call_list_of : CallR X (.type "list") (fun xs H Q => ∃ p ys, xs = [.ref p] ∧ (SqL X.K H p ys ∨ SqT X.K H p ys) ∧ ∀ l, H l = none → Q (.ref l) (upd H l (.lst ys))) := by
  intro pins s σ H xs us Q I r h
  obtain ⟨p, ys, rfl, hq, q⟩ := h
  obtain ⟨u, rfl, rx⟩ := vals1 r
  cases rx
  have fin : ∀ (its : List Value), Vals ys its → ys.length ≤ sizeLine → ∀ (h' : Heap) (c' : Nat), (∀ b o', s.heap.get? b = some o' → h'.get? b = some o') →
      h'.get? s.heap.objs.size = some { cls := .type "list", dict := none, data := .seq its.toArray c', slots := #[] } → EP X pins σ Q (.ref s.heap.objs.size) { s with heap := h' } := fun its r' hz h' c' kp e =>
    ⟨.ref s.heap.objs.size, _, I.laid (t' := s.toks) kp (Nat.le_refl _) (show ObjOk X.prog X.w _ h' _ (.lst ys) from ⟨hz, its, c', r', e⟩), rfl, q _ (I.hok.fresh (Nat.le_refl _))⟩
  rcases hq with hq | hq
  · obtain ⟨its, r', pl, hz⟩ := I.list hq
    have hlen := r'.length
    obtain ⟨o, ho, hc, n, hd⟩ := pl.isList
    exact call_list_seq p (.inl rfl) ho hc hd (fun h' c' kp e => fin its r' hz h' c' kp e) (by simp only [List.size_toArray] <;> omega)
  · obtain ⟨its, r', pl, hz⟩ := I.tuple hq
    have hlen := r'.length
    obtain ⟨o, ho, hc, n, hd⟩ := pl
    exact call_list_seq p (.inr rfl) ho hc hd (fun h' c' kp e => fin its r' hz h' c' kp e) (by simp only [List.size_toArray] <;> omega)
def tyV (K : PySem.W.Frag) (T : String) (x : V) (H : Hp) : Prop := match x with
  | .str _ => T = "str"
  | .int _ => T = "int"
  | .ref p => (T = "list" ∧ ∃ xs, SqL K H p xs) ∨ (T = "tuple" ∧ ∃ o, K.lookup p = some o ∧ o.cls = .type "tuple" ∧ o.dict = none) ∨
      (T = "dict" ∧ ((∃ kvs, H p = some (.dK kvs)) ∨ ∃ kvs, H p = some (.dT kvs))) ∨ (T = "set" ∧ ∃ S n, H p = some (.set S n))
  | _ => False
theorem tyV_is {pins : List (Addr × Obj)} {σ : St} {H : Hp} {s : Shared} {T : String} {x : V} {v : Value} (I : Inv X pins σ H s) (r : RelV x v) (ty : tyV X.K T x H) :
    s.TypeIs v T ∧ ∀ a, v = .ref a → ∃ ob, s.heap.get? a = some ob ∧ ob.dict = none := by
  cases x with
  | str z =>
    obtain ⟨t, rfl⟩ := r
    cases (show T = "str" from ty)
    exact ⟨typeIs_str s z t, fun _ e => nomatch e⟩
  | int i =>
    obtain ⟨t, rfl⟩ := r
    cases (show T = "int" from ty)
    exact ⟨typeIs_int s i t, fun _ e => nomatch e⟩
  | ref p =>
    cases r
    rcases ty with ⟨rfl, xs, hq⟩ | ⟨rfl, o, hk, hc, hd⟩ | ⟨rfl, hk⟩ | ⟨rfl, S, n, hk⟩
    · obtain ⟨its, _, pl, _⟩ := I.list hq
      refine ⟨pl.isList.typeIs, fun a e => ?_⟩
      cases e
      obtain ⟨o, n, e, c, hd, _⟩ := pl
      exact ⟨o, e, hd⟩
    · refine ⟨⟨o, I.kIn p o hk, hc⟩, fun a e => ?_⟩
      cases e
      exact ⟨o, I.kIn _ o hk, hd⟩
    · have z : ∃ o, s.heap.get? p = some o ∧ o.ExactDict := by
        rcases hk with ⟨kvs, hk⟩ | ⟨kvs, hk⟩
        · obtain ⟨_, _, _, _, o, _, _, e, ex, _⟩ := I.hok p _ hk
          exact ⟨o, e, ex⟩
        · obtain ⟨_, _, _, _, o, _, _, e, ex, _⟩ := I.hok p _ hk
          exact ⟨o, e, ex⟩
      obtain ⟨o, e, ex⟩ := z
      refine ⟨⟨o, e, ex.1⟩, fun a e2 => ?_⟩
      cases e2
      exact ⟨o, e, ex.2.1⟩
    · obtain ⟨o, _, _, _, e, ex, _⟩ := I.hok p _ hk
      refine ⟨⟨o, e, ex.1⟩, fun a e2 => ?_⟩
      cases e2
      exact ⟨o, e, ex.2.1⟩
  | _ => exact False.elim ty
def tBM0 (K : PySem.W.Frag) (T : String) (r : V → List V → Hp → VK → Prop) (to : TE) : TE := fun σ H Q => to σ H fun x H1 => tyV K T x H1 ∧ r x [] H1 Q
def tBM (K : PySem.W.Frag) (T : String) (r : V → List V → Hp → VK → Prop) (to : TE) (t : TA) : TE := fun σ H Q => to σ H fun x H1 => tyV K T x H1 ∧ t σ H1 fun xs H2 => r x xs H2 Q
variable {o e : Expr} {es : List Expr} {to : TE} {t : TA} {name : Str} {apos cpos : Pos} {T id : String} {r : V → List V → Hp → VK → Prop}
theorem pe_bm0 (pa : PlainAttrs T) (slot : Slot T name id) (hty : typeOf (.builtin id) = pure (.type "method_descriptor")) (hm : MtR X id r) (ho : PE X o to)
    (hbase : attributeBase o name X.env (eval o X.env) = eval o X.env := by rfl) (hline : (apos.endLine == cpos.line) = true := by rfl) : PE X (.Call (.Attribute o name apos) [] [] cpos) (tBM0 X.K T r to) := by
  intro pins s σ H Q I h
  refine wpAny_Call_method0_late hbase hline (thn (ho pins s σ H _ I h) fun v s1 ⟨x, H1, I1, r1, ty, q1⟩ => ?_)
  obtain ⟨h1, h2⟩ := tyV_is I1 r1 ty
  exact ⟨T, id, pa, slot, hty, h1, h2, Calls.callWith_builtin rfl (PySem.evalArgs_none (hm pins s1 σ H1 x [] v [] Q I1 r1 .nil q1))⟩
theorem pe_bm (pa : PlainAttrs T) (slot : Slot T name id) (hty : typeOf (.builtin id) = pure (.type "method_descriptor")) (hm : MtR X id r) (ho : PE X o to) (ha : PA X (e :: es) t)
    (hbase : attributeBase o name X.env (eval o X.env) = eval o X.env := by rfl)
    (hfew : ((backTo cpos (starEach (e :: es) X.env)).all (fun x => !x.1) && (backToKw cpos (keywordEach [] X.env)).all (fun x => x.1.isSome)
      && decide ((e :: es).length + ([] : List Keyword).length + (if ([] : List Keyword).isEmpty then 0 else 1) < 30)) = true := by rfl)
    (hline : (apos.endLine == cpos.line) = true := by rfl) (hs : starEach (e :: es) X.env = (false, eval e X.env) :: starEach es X.env := by rfl) (hplain : (backTo cpos (starEach es X.env)).any (·.1) = false := by rfl) :
    PE X (.Call (.Attribute o name apos) (e :: es) [] cpos) (tBM X.K T r to t) := by
  intro pins s σ H Q I h
  refine wpAny_Call_method_late hbase hfew hline rfl (thn (ho pins s σ H _ I h) fun v s1 ⟨x, H1, I1, r1, ty, q1⟩ => ?_)
  obtain ⟨h1, h2⟩ := tyV_is I1 r1 ty
  refine ⟨T, id, pa, slot, hty, h1, h2, ?_⟩
  have hA := ha cpos pins s1 σ H1 _ I1 q1
  rw [hs] at hA ⊢
  refine Calls.callWith_builtin (by show (false || (backTo cpos (starEach es X.env)).any (·.1)) = false; rw [hplain] <;> rfl) (Calls.evalArgs_plain ?_)
  exact thn hA fun us s2 ⟨vs, H2, I2, r2, q2⟩ => hm pins s2 σ H2 x vs v us Q I2 r1 r2 q2
end
end L2
namespace L2
open PySem PySem.Spec PyProof.Rows
def MtM (X : Cx) (id : String) (r : V → List V → Hp → VK → Prop) : Prop :=
  ∀ (pins : List (Addr × Obj)) (s : Shared) (σ : St) (H : Hp) (x : V) (xs : List V) (v : Value) (us : List Value) (Q : VK), Inv X pins σ H s → RelV x v → Vals xs us → r x xs H Q →
    wpAny (model X.prog X.w) X.A (call (.builtin id) (v :: us)) (EP X pins σ Q) X.xe s
theorem Vals.one : ∀ {x : V} {us : List Value}, Vals [x] us → ∃ u, us = [u] ∧ RelV x u
  | _, _, .cons r .nil => ⟨_, rfl, r⟩
theorem Vals.zero : ∀ {us : List Value}, Vals [] us → us = []
  | _, .nil => rfl
theorem Vals.reverse {xs : List V} {us : List Value} (h : Vals xs us) : Vals xs.reverse us.reverse := by
  induction h with
  | nil => exact .nil
  | cons r t ih => rw [List.reverse_cons, List.reverse_cons]; exact Vals.append ih (.cons r .nil)
section
variable {X : Cx} {pins : List (Addr × Obj)} {σ : St} {H : Hp} {s : Shared} {l b : Addr} {xs ys zs : List V}
theorem Inv.lset {its its' : List Value} {n : Nat} {f : Array Value → Array Value} {t' : Nat} (I : Inv X pins σ H s) (hH : H l = some (.lst xs))
    (e : s.heap.get? l = some { cls := .type "list", data := .seq its.toArray n }) (hf : f its.toArray = its'.toArray) (hv : Vals ys its') (hz : ys.length ≤ sizeLine) :
    Inv X pins σ (upd H l (.lst ys)) { s with heap := s.heap.update l (Obj.mapSeq f), toks := t' } := by
  have q := PySem.IsL.update e f
  rw [hf] at q
  refine I.write (x := l) (e := l) (by rw [hH]; exact trivial) (.inl rfl) (fun b' u hb hu => (Heap.get?_update_other s.heap (Obj.mapSeq f) (Ne.symm hb)).trans hu) ⟨_, q⟩ ?_
  exact ⟨hz, its', _, hv, q⟩
theorem Inv.lnew {its : List Value} {t' : Nat} (I : Inv X pins σ H s) (hv : Vals ys its) (hz : ys.length ≤ sizeLine) :
    Inv X pins σ (upd H s.heap.objs.size (.lst ys)) { s with heap := s.heap.push { cls := .type "list", data := .seq its.toArray }, toks := t' } :=
  I.laid (fun _ _ q => Heap.get?_push_of_some _ q) (Nat.le_refl _) ⟨hz, its, 0, hv, Heap.get?_push_size _ rfl⟩
theorem Inv.fresh (I : Inv X pins σ H s) : H s.heap.objs.size = none := I.hok.fresh (Nat.le_refl _)
theorem Inv.lstM (I : Inv X pins σ H s) (hH : H l = some (.lst xs)) : xs.length ≤ sizeLine ∧ ∃ (its : List Value) (n : Nat), Vals xs its ∧ xs.length = its.length ∧ s.heap.get? l = some { cls := .type "list", data := .seq its.toArray n } := by
  obtain ⟨z, its, n, r, e⟩ := I.hok l _ hH
  exact ⟨z, its, n, r, r.length, e⟩
end
section
variable {X : Cx}
def rAppend : V → List V → Hp → VK → Prop := fun x vs H Q => ∃ l xs y, x = .ref l ∧ vs = [y] ∧ H l = some (.lst xs) ∧ xs.length < sizeLine ∧ Q .non (upd H l (.lst (xs ++ [y])))
theorem mt_append : MtM X "list.append" rAppend := by
  intro pins s σ H x vs v us Q I rx rv h
  obtain ⟨l, xs, y, rfl, rfl, hH, hz, q⟩ := h
  cases rx
  obtain ⟨u, rfl, ru⟩ := rv.one
  obtain ⟨z, its, n, r, hl, e⟩ := I.lstM hH
  refine call_meets F.slot_list_append ⟨_, e, rfl⟩ F.entry_list_append (F.args_list_append_2 _ _) (PySem.list_append l its.toArray n u (by rw [List.size_toArray]; omega)) ⟨e, ?_⟩
  refine ⟨.non, _, I.lset (its' := its ++ [u]) hH e (by simp) (r.append (.cons ru .nil)) ?_, rfl, q⟩
  rw [List.length_append, List.length_singleton]
  omega
def rExtend : V → List V → Hp → VK → Prop := fun x vs H Q => ∃ l b xs zs, x = .ref l ∧ vs = [.ref b] ∧ H l = some (.lst xs) ∧ H b = some (.lst zs) ∧ xs.length + zs.length ≤ sizeLine ∧ Q .non (upd H l (.lst (xs ++ zs)))
def rClear : V → List V → Hp → VK → Prop := fun x vs H Q => ∃ l xs, x = .ref l ∧ vs = [] ∧ H l = some (.lst xs) ∧ Q .non (upd H l (.lst []))
theorem mt_clear : MtM X "list.clear" rClear := by
  intro pins s σ H x vs v us Q I rx rv h
  obtain ⟨l, xs, rfl, rfl, hH, q⟩ := h
  cases rx
  have hus := rv.zero
  subst hus
  obtain ⟨z, its, n, r, hl, e⟩ := I.lstM hH
  refine call_meets F.slot_list_clear ⟨_, e, rfl⟩ F.entry_list_clear (F.args_list_clear_1 _) (AutoSeq1.list_clear_list_0 l its.toArray n (by rw [List.size_toArray]; omega)) ⟨e, ?_⟩
  exact ⟨.non, _, I.lset (its' := []) (ys := []) hH e rfl .nil (Nat.zero_le _), rfl, q⟩
def rCat : R2 := fun x y H Q => ∃ l b xs zs, x = .ref l ∧ y = .ref b ∧ H l = some (.lst xs) ∧ H b = some (.lst zs) ∧ xs.length + zs.length ≤ sizeLine ∧ ∀ p, H p = none → Q (.ref p) (upd H p (.lst (xs ++ zs)))
theorem op_cat : OpR X (binaryOp .Add) rCat := by
  intro pins s σ H x y v u Q I rx ry h
  obtain ⟨l, b, xs, zs, rfl, rfl, hH, hB, hz, q⟩ := h
  cases rx
  cases ry
  obtain ⟨z, its, n, r, hl, e⟩ := I.lstM hH
  obtain ⟨z2, its2, n2, r2, hl2, e2⟩ := I.lstM hB
  refine PySem.P.add_list e e2 ?_ (by rw [List.size_toArray, List.size_toArray]; omega)
  have ea : its.toArray ++ its2.toArray = (its ++ its2).toArray := by simp
  rw [ea]
  exact ⟨.ref _, _, I.lnew (t' := s.toks) (r.append r2) (by rw [List.length_append]; omega), rfl, q _ I.fresh⟩
end
section
variable {prog : Program} {w : World} {A : Around} {E : Value → Shared → Prop} {s : Shared}
set_option maxRecDepth 100000 in
end
section
variable {X : Cx}
end
end L2
namespace Att
open PySem PySem.W PySem.Calls PyProof.Rows
theorem ints_of_wellAll {P : Params} {h : Heap} : ∀ (ns : List Int) (vs : List Value), WellAll P h vs (ns.map WData.int) → IntsAre vs ns := by
  intro ns
  induction ns with
  | nil =>
    intro vs w
    rw [List.map_nil] at w
    cases w
    exact .nil
  | cons n ns ih =>
    intro vs w
    rw [List.map_cons] at w
    cases w with
    | cons a b =>
      cases a
      exact .cons _ _ (ih _ b)
theorem script_of {l : OpenLaw} {n : Nat} (hn : l.most = some n) {P : Params} {h : Heap} {args : List WData} {vals : List Value}
    (hpre : l.row.toRowW.claim.pre args = true) (hwl : WellAll P h vals args) :
    ∃ a vs ns, vals = [Value.ref a] ∧ args = [WData.list (ns.map WData.int)] ∧ h.get? a = some { cls := .type "list", data := .seq vs.toArray } ∧ IntsAre vs ns ∧ ns.length ≤ n := by
  have hsh : WShape.hasAll [] args [.list .int] = true := (pre_splitW hpre).1
  have hc : l.pre.holds [] { args := args } = true := (pre_splitW hpre).2
  obtain ⟨d, r, rfl, h1, h2⟩ := hasAllW_cons hsh
  obtain rfl := hasAllW_nil h2
  obtain ⟨xs, rfl, h3⟩ := hasW_list h1
  obtain ⟨ns, rfl⟩ := items_int h3
  have hlen : ns.length ≤ n := by
    unfold OpenLaw.pre at hc
    have h4 : (WTm.not (.lt (.lit (.int (n : Int))) (.len (.arg 0)))).holds [] { args := [.list (ns.map .int)] } = true := by
      have h4 := (holds_andW hc).1
      rw [hn] at h4
      exact h4
    have h5 := condW_of h4 (w_not (w_lt w_lit (w_len_list (w_arg rfl))))
    rw [List.length_map] at h5
    refine Nat.le_of_not_lt fun q => ?_
    have q' : (n : Int) < ((ns.length : Nat) : Int) := by omega
    first
      | (rw [decide_eq_true q'] at h5; exact absurd h5 (by decide))
      | (simp at h5; omega)
  cases hwl with
  | cons w1 w2 =>
    cases w2
    cases w1 with
    | list ho hall => exact ⟨_, _, ns, rfl, rfl, ho, ints_of_wellAll ns _ hall, hlen⟩
theorem post_true (l : OpenLaw) (args : List WData) : l.row.toRowW.claim.post args (.bool true) args = true :=
  postW_of (r := l.row.toRowW) (X := (true == true))
    (show WShape.has [] (.bool true) .bool = true by first | rfl | decide | simp [WShape.has, WShape.arms, WShape.armsAll])
    (show (WTm.eq .res (.lit (.bool true))).value [] { args := args, res := some (.bool true), after := args } = some (.bool (true == true)) from w_eq_bool (w_res rfl) w_lit) rfl
section
variable {prog : Program} {w : World} {A : Around} {E : Value → Shared → Prop} {s : Shared} {K : Frag}
end
end Att
namespace L2
open PySem PySem.Spec PyProof.Rows
theorem vals_ints : ∀ {vs : List Value} {ns : List Int}, IntsAre vs ns → Vals (ns.map V.int) vs
  | _, _, .nil => .nil
  | _, _, .cons n t h => .cons ⟨t, rfl⟩ (vals_ints h)
def Only (H : Hp) : Prop := ∀ b, H b = none ∨ ∃ o xs, H b = some (.frz o (.lst xs))
theorem law_call {P : Program} {w : World} {K : PySem.W.Frag} {mg mb : Str → Option Value} {CX : CXT} {k : Nat} {fa a : Addr} {fd : FuncData} {x : Str} {sp : Sp} {s₁ : Shared} {vs : List Value} {ns : List Int}
    (KX : K.In s₁.heap) (hns : s₁.heap.Ns mainGlobals mg) (hb : s₁.heap.Ns builtinsNs mb) (hbb : ∀ x : Str, x ≠ "__name__" → mb x = bootBuiltins x) (hlim : s₁.heap.NoLimit) (hg : s₁.gens = #[])
    (ha : s₁.heap.get? a = some { cls := .type "list", data := .seq vs.toArray }) (hi : IntsAre vs ns) (hl : ns.length ≤ sizeLine) (hr : Room k callerA)
    (F : ∀ base : Heap, K.In base → base.Ns mainGlobals mg → FnOk P w K mg base CX k fa fd [x] sp) (hbind : ∀ (s : Shared) (u : Value), BindsTo s fd ⟨[u], []⟩ [(x, u)])
    (hsp : ∀ H : Hp, Only H → SqL K H a (ns.map V.int) → sp [.ref a] H (fun v _ => v = .bl true) fun _ _ _ => False)
    (hCX : ∀ H e s', CX [] H s₁ (fun _ _ _ => False) e s' → False) :
    codeAny (model P w) callerA (.call (.ref fa) ⟨[.ref a], []⟩) (fun r s' => r = .ok (.ret (.bool true)) ∧ OldK s₁.heap s'.heap ∧ s'.os = s₁.os ∧ AllBare s'.gens) s₁ := by
  have rv := vals_ints hi
  have lenV := hi.length
  have core : ∀ H : Hp, Only H → SqL K H a (ns.map V.int) → HOk P w H s₁.heap → (∀ b, H b ≠ none → b = a) → (H a ≠ none → K.lookup a = none) →
      codeAny (model P w) callerA (.call (.ref fa) ⟨[.ref a], []⟩) (fun r s' => r = .ok (.ret (.bool true)) ∧ OldK s₁.heap s'.heap ∧ s'.os = s₁.os ∧ AllBare s'.gens) s₁ := by
    intro H hO hS hok hA hK
    have base_of : ∀ {b : Addr} {o : Obj}, s₁.heap.get? b = some o → H b = none → (hidT s₁.heap H).get? b = some o := fun e n => hidT_get e n
    have noA : ∀ {b : Addr} {o : Obj} {es : Array DictEntry} {ep : Nat}, s₁.heap.get? b = some o → o.data = .dict es ep → H b = none := fun {b o es ep} e d => by
      cases q : H b with
      | none => rfl
      | some u =>
        have e' : b = a := hA b (by rw [q]; simp)
        subst e'
        rw [ha] at e; cases e
        have d' : Data.seq vs.toArray _ = Data.dict es ep := d
        cases d'
    have nsK : ∀ {b : Addr} {m : Str → Option Value}, s₁.heap.Ns b m → (hidT s₁.heap H).Ns b m := fun {b m} ⟨o, es, ep, e, d, r⟩ => ⟨o, es, ep, base_of e (noA e d), d, r⟩
    have hKb : K.In (hidT s₁.heap H) := fun b o e => base_of (KX b o e) (by
      cases q : H b with
      | none => rfl
      | some u =>
        have e' : b = a := hA b (by rw [q]; simp)
        subst e'
        rw [hK (by rw [q]; simp)] at e; cases e)
    have hM : Mod K mg (hidT s₁.heap H) := ⟨hKb, nsK hns, ⟨mb, nsK hb, hbb⟩, let ⟨mc, h1, h2⟩ := hlim; ⟨mc, nsK h1, h2⟩⟩
    have e0 : Env0 P w K mg (hidT s₁.heap H) callerA [] s₁ H := ⟨rfl, hM, fun b o e => of_hidT e, Nat.le_of_eq (hidT_size _ _), trivial, fun b hb => absurd (show b ∈ ([] : List Addr) from hb) (by simp), hok, .of_eq hg⟩
    refine codeAny_mono ((F _ hKb (nsK hns)).run callerA [] s₁ H ⟨[.ref a], []⟩ [.ref a] [.ref a] _ _ hr e0 (hbind s₁ (.ref a)) (.cons rfl .nil) (hsp H hO hS)) fun r s' h => ?_
    cases r with
    | error e => exact (hCX H e s' h).elim
    | ok fl =>
      cases fl with
      | next => exact False.elim h
      | brk => exact False.elim h
      | cont => exact False.elim h
      | ret u =>
        obtain ⟨v, H', os, bare, un, hok', r', q⟩ := h
        have q' : v = .bl true := q
        subst q'
        obtain rfl : u = Value.bool true := r'
        refine ⟨rfl, OldK.of_keep fun b o e => ?_, os, bare⟩
        cases q : H b with
        | none => exact un.keep b o e q (by intro z; exact absurd (show b ∈ ([] : List Addr) from z) (by simp)) (by simp)
        | some u =>
          rcases hO b with z | ⟨ob, xs, z⟩
          · rw [q] at z; cases z
          · have z2 := un.frzs b ob _ z
            obtain ⟨e1, _⟩ := hok b _ z
            obtain ⟨e2, _⟩ := hok' b _ z2
            rw [e] at e1; cases e1
            exact e2
  cases hk : K.lookup a with
  | some o =>
    have e := KX a o hk
    rw [ha] at e
    cases e
    refine core (fun _ => none) (fun _ => .inl rfl) (.inr ⟨_, vs.toArray, _, hk, rfl, rfl, rfl, by rw [List.size_toArray, lenV]; exact hl, by simpa using rv⟩) (fun b u z => by have z' : (none : Option HO) = some u := z; cases z') (fun b z => absurd rfl z) fun z => absurd rfl z
  | none =>
    refine core (fun b => if b = a then some (.frz { cls := .type "list", data := .seq vs.toArray } (.lst (ns.map V.int))) else none) (fun b => ?_) (.inl (.inr ⟨{ cls := .type "list", data := .seq vs.toArray }, if_pos rfl⟩)) (fun b u z => ?_) (fun b z => ?_) fun _ => hk
    · by_cases hb : b = a
      · exact .inr ⟨_, _, if_pos hb⟩
      · exact .inl (if_neg hb)
    · by_cases hb : b = a
      · have z' := (if_pos hb).symm.trans z
        cases z'
        subst hb
        exact ⟨ha, by rw [List.length_map]; exact hl, vs, _, rv, ha⟩
      · have z' := (if_neg hb).symm.trans z
        cases z'
    · by_cases hb : b = a
      · exact hb
      · exact absurd (if_neg hb) z
end L2
namespace L2
open PySem PySem.Spec PyProof.Rows
end L2
namespace L2
open PySem PySem.Spec PyProof.Rows
def defArgs (s : Stmt) : Arguments := match s with
  | .FunctionDef _ a _ _ _ _ _ _ _ _ => a
  | _ => { posonlyargs := [], args := [], vararg := none, kwonlyargs := [], kw_defaults := [], kwarg := none, defaults := [] }
def defBody (s : Stmt) : List Stmt := match s with
  | .FunctionDef _ _ b _ _ _ _ _ _ _ => b
  | _ => []
def defScope (s : Stmt) : Scope := match s with
  | .FunctionDef _ _ _ _ _ _ sc _ _ _ => sc
  | _ => { kind := .function, names := [], isGenerator := false, isCoroutine := false }
abbrev E0 : XK := fun _ _ _ => False
structure Fun (K : PySem.W.Frag) (x qual : Str) (st : Stmt) (f : Addr) (fd : FuncData) : Prop where
  ex : ∃ (oc : Value) (od : Option Addr) (kV doc pm : Value) (an : Option Addr) (cdv ct : Value) (osl : Array (Option Value)),
    fd = PySem.W.fnOf x qual (defArgs st) (defBody st) (defScope st) .none kV doc pm an cdv ct ∧ K.lookup f = some ⟨oc, od, .func fd, osl⟩ ∧ PySem.W.codeIn K cdv qual = true
  kp : PySem.W.keepIn K (.ref f) = true
section
variable {P : Program} {w : World} {K : PySem.W.Frag} {mg : Str → Option Value} {base : Heap}
theorem Fun.binds {x qual : Str} {st : Stmt} {f : Addr} {fd : FuncData} {ps : List Str} (F : Fun K x qual st f fd)
    (h : ∀ (kV doc pm : Value) (an : Option Addr) (cdv ct : Value) (us : List Value), us.length = ps.length → bindArgs (PySem.W.fnOf x qual (defArgs st) (defBody st) (defScope st) .none kV doc pm an cdv ct) ⟨us, []⟩ = pure (ps.zip us)) : Binds K fd ps [] := by
  obtain ⟨oc, od, kV, doc, pm, an, cdv, ct, osl, rfl, lk, hcd⟩ := F.ex
  exact .all (h kV doc pm an cdv ct)
theorem fun_mk {x qual : Str} {st : Stmt} {f : Addr} {oc : Value} {od an : Option Addr} {osl : Array (Option Value)} {kV doc pm cdv ct : Value} (l : K.lookup f = some ⟨oc, od, .func (PySem.W.fnOf x qual (defArgs st) (defBody st) (defScope st) .none kV doc pm an cdv ct), osl⟩)
    (c : PySem.W.codeIn K cdv qual = true) (k : PySem.W.keepIn K (.ref f) = true) : Fun K x qual st f (PySem.W.fnOf x qual (defArgs st) (defBody st) (defScope st) .none kV doc pm an cdv ct) := ⟨⟨oc, od, kV, doc, pm, an, cdv, ct, osl, rfl, l, c⟩, k⟩
end
theorem hu_of {A : Around} {k : Nat} (hr : Room k A) : A.units + 1 < cLine := Nat.lt_of_le_of_lt (Nat.add_le_add_left (by decide : 1 ≤ 64) _) hr.units
section
variable {X : Cx}
theorem pv (i : Nat) {x : Str} {pos : Pos} (hN : X.N[i]? = some x := by rfl) (hv : Vis X.env.scope x := by first | exact Or.inl rfl | exact Or.inr (Or.inl rfl) | exact Or.inr (Or.inr rfl)) (hd : (x == ("__debug__" : Str)) = false := by decide)
    (hcd : (x == ("__classdict__" : Str)) = false := by decide) : PE X (.Name x pos) (tVar i) := pe_var hN hv hd hcd
end
def Same (H H' : Hp) : Prop := ∀ b o, H b = some o → H' b = some o
theorem Same.refl (H : Hp) : Same H H := fun _ _ h => h
theorem Same.trans {H H1 H2 : Hp} (a : Same H H1) (b : Same H1 H2) : Same H H2 := fun c o h => b c o (a c o h)
theorem Same.free {H H' : Hp} (e : Same H H') {l : Addr} (h : H' l = Option.none) : H l = Option.none := by
  cases q : H l with
  | none => rfl
  | some o =>
    rw [e l o q] at h
    cases h
theorem Same.seq {K : PySem.W.Frag} {H H' : Hp} {a : Addr} {xs : List V} (e : Same H H') (h : SqL K H a xs) : SqL K H' a xs := by
  rcases h with (h | ⟨o, h⟩) | h
  · exact .inl (.inl (e _ _ h))
  · exact .inl (.inr ⟨o, e _ _ h⟩)
  · exact .inr h
end L2
set_option Elab.async false
set_option linter.all false
set_option maxRecDepth 100000
namespace L2
open PySem PySem.Spec PyProof.Rows
section
variable {κ : Type} [DecidableEq κ]
def valV (kvs : List (κ × V)) (k : κ) : Option V := (kvs.find? fun kv => decide (kv.1 = k)).map (·.2)
def putK (kvs : List (κ × V)) (k : κ) (v : V) : List (κ × V) :=
  if (kvs.any fun kv => decide (kv.1 = k)) = true then kvs.map (fun kv => if kv.1 = k then (kv.1, v) else kv) else kvs ++ [(k, v)]
def dropK (kvs : List (κ × V)) (k : κ) : List (κ × V) := kvs.filter fun kv => decide (kv.1 ≠ k)
theorem RelO.getD {o : Option V} {u : Option Value} {d : V} {d' : Value} (r : RelO o u) (rd : RelV d d') : RelV (o.getD d) (u.getD d') := by
  cases o with
  | none => cases u with
    | none => exact rd
    | some _ => exact (show False from r).elim
  | some _ => cases u with
    | none => exact (show False from r).elim
    | some _ => exact r
theorem KV.any {kvs : List (κ × V)} {vs : List (κ × Value)} (r : KV kvs vs) (k : κ) : (kvs.any fun kv => decide (kv.1 = k)) = vs.any fun kv => decide (kv.1 = k) := by
  unfold KV at r
  induction r with
  | nil => rfl
  | cons h t ih => rw [List.any_cons, List.any_cons, ih, h.1]
theorem KV.drop {kvs : List (κ × V)} {vs : List (κ × Value)} (r : KV kvs vs) (k : κ) : KV (dropK kvs k) (without vs k) := by
  unfold KV at r ⊢
  unfold dropK without
  induction r with
  | nil => exact .nil
  | @cons p q ps qs h t ih =>
    obtain ⟨h1, h2⟩ := h
    rw [List.filter_cons, List.filter_cons]
    by_cases e : p.1 = k
    · have a : ¬ decide (p.1 ≠ k) = true := by simp [e]
      have b : ¬ decide (q.1 ≠ k) = true := by simp [h1.symm.trans e]
      rw [if_neg a, if_neg b]; exact ih
    · have e' : ¬ q.1 = k := fun z => e (h1.trans z)
      have a : decide (p.1 ≠ k) = true := by simp [e]
      have b : decide (q.1 ≠ k) = true := by simp [e']
      rw [if_pos a, if_pos b]; exact .cons ⟨h1, h2⟩ ih
theorem KV.length {kvs : List (κ × V)} {vs : List (κ × Value)} (r : KV kvs vs) : kvs.length = vs.length := Paired.length r
end
section
variable {P : Program} {w : World} {H : Hp} {h : Heap} {a : Addr}
end
def DGet (H : Hp) (a : Addr) (y : V) (r : Option V) : Prop :=
  (∃ kvs k, Rd H a (.dK kvs) ∧ y = kV k ∧ r = valV kvs k) ∨ ∃ kvs k b, Rd H a (.dT kvs) ∧ y = .ref b ∧ H b = some (.tup (k.map kV)) ∧ r = valV kvs k
def DPut (H : Hp) (a : Addr) (y v : V) (H' : Hp) : Prop :=
  (∃ kvs k, H a = some (.dK kvs) ∧ y = kV k ∧ kvs.length < sizeLine ∧ H' = upd H a (.dK (putK kvs k v))) ∨
  ∃ kvs k b, H a = some (.dT kvs) ∧ y = .ref b ∧ H b = some (.tup (k.map kV)) ∧ kvs.length < sizeLine ∧ H' = upd H a (.dT (putK kvs k v))
theorem DGet.k {H : Hp} {a : Addr} {kvs : List (Key × V)} {k : Key} (e : H a = some (.dK kvs)) : DGet H a (kV k) (valV kvs k) := .inl ⟨kvs, k, .inl e, rfl, rfl⟩
theorem DGet.t {H : Hp} {a b : Addr} {kvs : List (List Key × V)} {k : List Key} (e : H a = some (.dT kvs)) (eb : H b = some (.tup (k.map kV))) : DGet H a (.ref b) (valV kvs k) := .inr ⟨kvs, k, b, .inl e, rfl, eb, rfl⟩
theorem DPut.k {H : Hp} {a : Addr} {kvs : List (Key × V)} {k : Key} {v : V} (e : H a = some (.dK kvs)) (hl : kvs.length < sizeLine) : DPut H a (kV k) v (upd H a (.dK (putK kvs k v))) := .inl ⟨kvs, k, e, rfl, hl, rfl⟩
theorem DPut.t {H : Hp} {a b : Addr} {kvs : List (List Key × V)} {k : List Key} {v : V} (e : H a = some (.dT kvs)) (eb : H b = some (.tup (k.map kV))) (hl : kvs.length < sizeLine) :
    DPut H a (.ref b) v (upd H a (.dT (putK kvs k v))) := .inr ⟨kvs, k, b, e, rfl, eb, hl, rfl⟩
section
variable {X : Cx} {pins : List (Addr × Obj)} {σ : St} {H : Hp} {s : Shared} {a : Addr} {y v : V} {u r : Value} {o : Option V} {A : Around} {E : Value → Shared → Prop}
end
section
variable {X : Cx} {pins : List (Addr × Obj)} {σ : St} {H : Hp} {s : Shared} {a : Addr} {kvs : List (Key × V)} {k : Key} {u : Value} {A : Around} {E : Value → Shared → Prop}
end
section
variable {X : Cx} {o i e value : Expr} {pos pos' tpos : Pos} {td ty tv : TE}
end
section
variable {X : Cx} {pos : Pos}
end
section
variable {X : Cx} {pins : List (Addr × Obj)} {σ : St} {H : Hp} {s : Shared} {a : Addr} {y d : V} {u r : Value} {o : Option V} {A : Around} {E : Value → Shared → Prop}
end
section
variable {X : Cx} {o e f : Expr} {apos cpos : Pos} {td ty tx : TE}
end
section
variable {X : Cx} {pins : List (Addr × Obj)} {σ : St} {H : Hp} {s : Shared} {a : Addr} {kvs : List (Key × V)} {A : Around} {E : Value → Shared → Prop}
end
section
variable {X : Cx} {pins : List (Addr × Obj)} {σ : St} {H : Hp} {s : Shared} {a : Addr} {y : V} {u : Value} {A : Around} {E : Value → Shared → Prop}
end
end L2
namespace L2
open PySem PySem.Spec PyProof.Rows
section
variable {κ : Type} [DecidableEq κ]
end
end L2
set_option Elab.async false
set_option linter.all false
set_option maxRecDepth 100000
set_option maxHeartbeats 4000000
namespace Gz
open PySem PySem.Spec PyProof.Rows L2
def Bd (n : Nat) (x : Int) : Prop := x.natAbs < 2 ^ n
theorem Bd.of {n : Nat} {x : Int} (h1 : -((2 ^ n : Nat) : Int) < x) (h2 : x < ((2 ^ n : Nat) : Int)) : Bd n x := by
  unfold Bd; omega
theorem Bd.up {n m : Nat} {x : Int} (h : Bd n x) (hm : n ≤ m) : Bd m x := Nat.lt_of_lt_of_le h (Nat.pow_le_pow_right (by decide) hm)
theorem Bd.bits {n : Nat} {x : Int} (h : Bd n x) : Builtin.Int.intBits x ≤ n := by
  unfold Builtin.Int.intBits
  by_cases e : x = 0
  · subst e; simp
  · have e0 : ¬ ((x == 0) = true) := by simpa using e
    rw [if_neg e0]
    have hn : x.natAbs ≠ 0 := by omega
    have := (Nat.log2_lt hn).mpr h
    omega
def MulB (i j : Int) : Prop := Bd 4000 i ∧ Bd 4000 j
theorem MulB.ok {i j : Int} (h : MulB i j) : IntMulOk i j :=
  IntMulOk.of_bits (Nat.le_trans h.1.bits (by decide)) (Nat.le_trans h.2.bits (by decide))
section
variable {X : Cx}
theorem op_mulB : OpR X (binaryOp .Mult) (rI MulB fun i j => .int (i * j)) := opI fun _ _ _ _ _ _ _ hc q => mul_int q hc.ok
def clsVal : V → Value
  | .ref a => .ref a
  | .ty n => .type n
  | _ => .none
theorem call_isi : CallR X (.builtin "isinstance") (fun xs H Q => ∃ x c t b, xs = [x, c] ∧ TyOf X.K H x t ∧ clsVal c ≠ .none ∧ PySem.W.kitOne X.K t (clsVal c) = some b ∧ Q (.bl b) H) := by
  intro pins s σ H xs us Q I r h
  obtain ⟨x, c, t, b, rfl, ty, hc, e, q⟩ := h
  obtain ⟨u, v, rfl, rx, rc⟩ := vals2 r
  have ev : v = clsVal c := by
    cases c with
    | ref a => exact rc
    | ty n => exact rc
    | non => exact absurd rfl hc
    | bl _ => exact absurd rfl hc
    | int _ => exact absurd rfl hc
    | str _ => exact absurd rfl hc
    | byt _ => exact absurd rfl hc
    | flt _ => exact absurd rfl hc
  subst ev
  exact isinst_ok I rx ty e fun tk => ⟨.bl b, H, I.tok tk, rfl, q⟩
end
theorem kit_same {K : PySem.W.Frag} {t : Value} : PySem.W.kitOne K t t = some true := by
  unfold PySem.W.kitOne
  rw [if_pos (by simp)]
theorem kit_ty {K : PySem.W.Frag} {a c : String} {b : Bool} (h : PySem.W.kitMeta c = true) (h2 : (PySem.fastBuiltinMro a).map (·.contains (.type c)) = some b) (h3 : (a == c) = false) : PySem.W.kitOne K (.type a) (.type c) = some b := by
  unfold PySem.W.kitOne
  have e : ¬ ((Value.type a == Value.type c) = true) := by
    simp only [beq_iff_eq, Value.type.injEq]
    simpa using h3
  rw [if_neg e]
  show (if PySem.W.kitMeta c = true then PySem.W.subIn K (.type a) (.type c) else none) = some b
  rw [if_pos h]
  exact h2
theorem kit_int_bool {K : PySem.W.Frag} : PySem.W.kitOne K (.type "int") (.type "bool") = some false := kit_ty (by decide +kernel) (by decide +kernel) (by decide)
theorem kit_bool_int {K : PySem.W.Frag} : PySem.W.kitOne K (.type "bool") (.type "int") = some true := kit_ty (by decide +kernel) (by decide +kernel) (by decide)
theorem kit_none_int {K : PySem.W.Frag} : PySem.W.kitOne K (.type "NoneType") (.type "int") = some false := kit_ty (by decide +kernel) (by decide +kernel) (by decide)
theorem kit_none_tuple {K : PySem.W.Frag} : PySem.W.kitOne K (.type "NoneType") (.type "tuple") = some false := kit_ty (by decide +kernel) (by decide +kernel) (by decide)
theorem b_len : bootBuiltins "len" = some (.builtin "len") := by decide +kernel
theorem b_min : bootBuiltins "min" = some (.builtin "min") := by decide +kernel
theorem b_max : bootBuiltins "max" = some (.builtin "max") := by decide +kernel
theorem b_isinstance : bootBuiltins "isinstance" = some (.builtin "isinstance") := by decide +kernel
theorem b_int : bootBuiltins "int" = some (.type "int") := by decide +kernel
theorem b_bool : bootBuiltins "bool" = some (.type "bool") := by decide +kernel
theorem b_list : bootBuiltins "list" = some (.type "list") := by decide +kernel
theorem b_tuple : bootBuiltins "tuple" = some (.type "tuple") := by decide +kernel
theorem b_enumerate : bootBuiltins "enumerate" = some (.type "enumerate") := by decide +kernel
theorem b_zip : bootBuiltins "zip" = some (.type "zip") := by decide +kernel
theorem b_reversed : bootBuiltins "reversed" = some (.type "reversed") := by decide +kernel
def isiS : V → V → Option Bool
  | .int _, .ty n => if n = "int" then some true else if n = "bool" then some false else none
  | .bl _, .ty n => if n = "int" then some true else if n = "bool" then some true else none
  | .non, .ty n => if n = "int" then some false else if n = "tuple" then some false else none
  | _, _ => none
def rIsi (K : PySem.W.Frag) (x c : V) (H : Hp) (Q : VK) : Prop := match isiS x c with
  | some b => Q (.bl b) H
  | none => ∃ t b, TyOf K H x t ∧ clsVal c ≠ .none ∧ PySem.W.kitOne K t (clsVal c) = some b ∧ Q (.bl b) H
section
variable {X : Cx}
theorem call_isiA : CallR X (.builtin "isinstance") (fun xs H Q => ∃ x c, xs = [x, c] ∧ rIsi X.K x c H Q) := by
  intro pins s σ H xs us Q I r h
  obtain ⟨x, c, rfl, h⟩ := h
  refine call_isi pins s σ H _ us Q I r ?_
  cases e : isiS x c with
  | none =>
    unfold rIsi at h
    rw [e] at h
    obtain ⟨t, b, h1, h2, h3, h4⟩ := h
    exact ⟨x, c, t, b, rfl, h1, h2, h3, h4⟩
  | some b =>
    unfold rIsi at h
    rw [e] at h
    unfold isiS at e
    split at e
    · rename_i i n
      split at e
      · rename_i z; subst z; cases e
        exact ⟨_, _, _, _, rfl, TyOf.int i, (fun z => nomatch z), kit_same, h⟩
      · split at e
        · rename_i z; subst z; cases e
          exact ⟨_, _, _, _, rfl, TyOf.int i, (fun z => nomatch z), kit_int_bool, h⟩
        · cases e
    · rename_i i n
      split at e
      · rename_i z; subst z; cases e
        exact ⟨_, _, _, _, rfl, TyOf.bl i, (fun z => nomatch z), kit_bool_int, h⟩
      · split at e
        · rename_i z; subst z; cases e
          exact ⟨_, _, _, _, rfl, TyOf.bl i, (fun z => nomatch z), kit_same, h⟩
        · cases e
    · rename_i n
      split at e
      · rename_i z; subst z; cases e
        exact ⟨_, _, _, _, rfl, TyOf.non, (fun z => nomatch z), kit_none_int, h⟩
      · split at e
        · rename_i z; subst z; cases e
          exact ⟨_, _, _, _, rfl, TyOf.non, (fun z => nomatch z), kit_none_tuple, h⟩
        · cases e
    · cases e
end
section
variable {K : PySem.W.Frag} {H : Hp} {Q : VK} {i : Int} {b : Bool} {p : Addr} {xs : List V}
theorem isi_ii : rIsi K (.int i) (.ty "int") H Q = Q (.bl true) H := rfl
theorem isi_ib : rIsi K (.int i) (.ty "bool") H Q = Q (.bl false) H := rfl
theorem isi_bi : rIsi K (.bl b) (.ty "int") H Q = Q (.bl true) H := rfl
theorem isi_bb : rIsi K (.bl b) (.ty "bool") H Q = Q (.bl true) H := rfl
theorem isi_ni : rIsi K .non (.ty "int") H Q = Q (.bl false) H := rfl
theorem isi_nt : rIsi K .non (.ty "tuple") H Q = Q (.bl false) H := rfl
theorem isi_tup (h : H p = some (.tup xs)) (q : Q (.bl true) H) : rIsi K (.ref p) (.ty "tuple") H Q := ⟨_, _, TyOf.tup h, (fun z => nomatch z), kit_same, q⟩
theorem isi_lst (h : H p = some (.lst xs)) (q : Q (.bl true) H) : rIsi K (.ref p) (.ty "list") H Q := ⟨_, _, TyOf.lst h, (fun z => nomatch z), kit_same, q⟩
end
end Gz
set_option Elab.async false
set_option linter.all false
set_option maxRecDepth 100000
set_option maxHeartbeats 4000000
namespace Gz
open PySem PySem.Spec PyProof.Rows L2
def CXX (P : Program) (w : World) : CXT := fun outer H s E e s' =>
  ∃ (x : Addr) (cls a0 : Value) (H' : Hp) (B : Heap), e = .ref x ∧ s'.os = s.os ∧ AllBare s'.gens ∧ Un (frs outer) [] H H' s.heap s'.heap ∧
    (∀ b o, s.heap.get? b = some o → H b = none → b ∉ frs outer → B.get? b = some o) ∧ (∀ b o, s.heap.get? b = some o → b ∉ frs outer → ∃ o', B.get? b = some o') ∧ HOk P w H' B ∧ H' x = none ∧ s.heap.get? x = none ∧
    Heap.FlyingW B outer x cls a0 s'.heap ∧ E cls none H'
theorem passE0 {P : Program} {w : World} {X : Cx} : Passes (CXX P w) X E0 := fun _ _ _ _ _ _ _ ⟨_, _, _, _, _, _, _, _, _, _, _, _, _, _, _, h⟩ => h.elim
theorem noCXX {P : Program} {w : World} {outer : List Env} {H : Hp} {s s' : Shared} {e : Value} (h : CXX P w outer H s (fun _ _ _ => False) e s') : False := by
  obtain ⟨_, _, _, _, _, _, _, _, _, _, _, _, _, _, _, h⟩ := h
  exact h
section
variable {P : Program} {w : World} {K : PySem.W.Frag} {mg : Str → Option Value} {base : Heap}
theorem okN {x qual : Str} {st : Stmt} {f : Addr} {fd : FuncData} {N ps : List Str} {k : Nat} {sp : Sp} (F : Fun K x qual st f fd) (S : FnScope N ps (defScope st)) (len : ∀ vs H Q E, sp vs H Q E → vs.length = ps.length)
    (hbody : ∀ (cdv : Value) (A : Around) (outer : List Env) (s : Shared) (H : Hp) (vs : List V) (Q : VK) (E : XK), Room k (A.deeper (envOfC qual (defScope st) s.heap.objs.size f cdv)) → sp vs H Q E →
      ∃ t, PSs (cxOf (CXX P w) P w K mg base N qual (defScope st) f cdv A outer s H E).nox (defBody st) t ∧ t { nx := fun _ H' => Q .non H', rt := Q } (start N vs) H) : FnOk P w K mg base (CXX P w) (k + 1) f fd ps sp := by
  obtain ⟨oc, od, kV, doc, pm, an, cdv, ct, osl, rfl, lk, hcd⟩ := F.ex
  refine fn_of lk hcd S len fun A outer s H vs Q E hr hsp => ?_
  obtain ⟨t, h, q⟩ := hbody cdv A outer s H vs Q E hr hsp
  exact ⟨t, h.nox, q⟩
end
theorem scal_ii (a b : Int) : scal (.int a) (.int b) = true := rfl
theorem scal_bb (a b : Bool) : scal (.bl a) (.bl b) = true := rfl
theorem scal_in (a : Int) : scal (.int a) .non = true := rfl
theorem scal_ni (a : Int) : scal .non (.int a) = true := rfl
theorem scal_nn : scal .non .non = true := rfl
theorem ite_tt {A B : Prop} : (if true = true then A else B) = A := if_pos rfl
theorem ite_ff {A B : Prop} : (if false = true then A else B) = B := if_neg Bool.false_ne_true
end Gz
namespace Gz
open PySem PySem.Spec PyProof.Rows L2
theorem cxK {CX : CXT} {P : Program} {w : World} {K : PySem.W.Frag} {mg : Str → Option Value} {base : Heap} {N : List Str} {qual : Str} {scope : Scope} {f : Addr} {cd : Value} {A : Around} {outer : List Env} {s : Shared} {H : Hp} {E : XK} :
    (cxOf CX P w K mg base N qual scope f cd A outer s H E).K = K := rfl
theorem cxN {CX : CXT} {P : Program} {w : World} {K : PySem.W.Frag} {mg : Str → Option Value} {base : Heap} {N : List Str} {qual : Str} {scope : Scope} {f : Addr} {cd : Value} {A : Around} {outer : List Env} {s : Shared} {H : Hp} {E : XK} :
    (cxOf CX P w K mg base N qual scope f cd A outer s H E).N = N := rfl
section
variable {K : PySem.W.Frag} {H H' : Hp} {a p : Addr} {xs ys : List V} {i : Int} {v : V} {Q : VK}
theorem same_upd {o : HO} (h : H p = none) : Same H (upd H p o) := fun b u e => by rw [upd_ne (ne_of_none e h)]; exact e
theorem ixT (h : SqT K H p xs) (e : atI xs i = some v) (q : Q v H) : rIx K (.ref p) (.int i) H Q := .inr (.inl ⟨p, xs, i, v, rfl, rfl, h, e, q⟩)
theorem ixL (h : SqL K H p xs) (e : atI xs i = some v) (q : Q v H) : rIx K (.ref p) (.int i) H Q := .inl ⟨p, xs, i, v, rfl, rfl, h, e, q⟩
theorem lenL (h : SqL K H p xs) : LenV K (.ref p) H xs.length := .inl ⟨xs, h, rfl⟩
theorem lenT (h : SqT K H p xs) : LenV K (.ref p) H xs.length := .inr ⟨xs, h, rfl⟩
end
def isWhole : V → Bool
  | .int _ => true
  | _ => false
end Gz
namespace Gz
open PySem PySem.Spec PyProof.Rows L2
def FJ (J : It) (g : TG) (tb : TS) (D : Ends) (σ : L2.St) (H : Hp) : Prop := ∃ W : Nat → Nat → L2.St → Hp → Prop, (∃ m, W 0 m σ H) ∧ ∀ i m σ H, W i m σ H →
      (J.stop i H ∧ D.nx σ H) ∨ (J.go i H ∧ ∃ N : L2.St → Hp → Prop, (∀ σ' H', N σ' H' → ∃ m', m' < m ∧ W (i + 1) m' σ' H') ∧ ∀ x H', J.yld i H x H' → g x σ H' fun σ2 H2 => tb { D with nx := N, ct := N, bk := D.nx } σ2 H2)
section
variable {K : PySem.W.Frag} {g : TG} {tb : TS} {D : Ends} {σ : L2.St} {H : Hp} {a : Addr} {xs : List V} {lo : Int} {n : Nat}
theorem for_rng1 {ta : TA} : tFor (iRng1 ta) g tb D σ H = ta σ H (fun vs H1 => ∃ j : Int, vs = [.int j] ∧ -(2 ^ 62) ≤ j ∧ j < 2 ^ 62 ∧ FJ (Itr 0 j.toNat) g tb D σ H1) := rfl
theorem for_lst {tl : TE} : tFor (iList K tl) g tb D σ H = tl σ H (fun x H1 => ∃ a, x = .ref a ∧ (∃ xs, SqL K H1 a xs) ∧ FJ (Itl K a) g tb D σ H1) := rfl
theorem for_tpl {tl : TE} : tFor (iTup K tl) g tb D σ H = tl σ H (fun x H1 => ∃ a, x = .ref a ∧ (∃ xs, SqT K H1 a xs) ∧ FJ (Itt K a) g tb D σ H1) := rfl
theorem by_range (Pv : Nat → L2.St → Hp → Prop) (h0 : Pv 0 σ H)
    (hs : ∀ i σ H, i < n → Pv i σ H → g (.int (lo + i)) σ H fun σ2 H2 => tb { D with nx := Pv (i + 1), ct := Pv (i + 1), bk := D.nx } σ2 H2) (hd : ∀ σ H, Pv n σ H → D.nx σ H) : FJ (Itr lo n) g tb D σ H := for_range Pv h0 hs hd
theorem by_list (Pv : Nat → L2.St → Hp → Prop) (h0 : Pv 0 σ H) (hl : ∀ i σ H, i ≤ xs.length → Pv i σ H → SqL K H a xs)
    (hs : ∀ i x σ H, xs[i]? = some x → Pv i σ H → g x σ H fun σ2 H2 => tb { D with nx := Pv (i + 1), ct := Pv (i + 1), bk := D.nx } σ2 H2) (hd : ∀ σ H, Pv xs.length σ H → D.nx σ H) : FJ (Itl K a) g tb D σ H := for_list Pv h0 hl hs hd
theorem by_tup (Pv : Nat → L2.St → Hp → Prop) (h0 : Pv 0 σ H) (hl : ∀ i σ H, i ≤ xs.length → Pv i σ H → SqT K H a xs)
    (hs : ∀ i x σ H, xs[i]? = some x → Pv i σ H → g x σ H fun σ2 H2 => tb { D with nx := Pv (i + 1), ct := Pv (i + 1), bk := D.nx } σ2 H2) (hd : ∀ σ H, Pv xs.length σ H → D.nx σ H) : FJ (Itt K a) g tb D σ H := for_tup Pv h0 hl hs hd
end
theorem line2 : (2 : Nat) ≤ sizeLine := by decide
theorem bd200 {x : Int} (h : x.natAbs < 2 ^ 200) : Bd 4000 x := Bd.up (n := 200) h (by decide)
theorem mul200 {x y : Int} (h : x.natAbs < 2 ^ 200) (h' : y.natAbs < 2 ^ 200) : MulB x y := ⟨bd200 h, bd200 h'⟩
end Gz
namespace Gz
open PySem PySem.Spec PyProof.Rows L2
section
variable {X : Cx}
end
section
variable {K : PySem.W.Frag} {H H1 : Hp} {l p : Addr} {xs ys : List V} {o : HO}
theorem same_put (hl : H l = none) (s : Same H H1) : Same H (upd H1 l o) := fun b u e => by
  rw [upd_ne (ne_of_none e hl)]; exact s b u e
def IsP (K : PySem.W.Frag) (H : Hp) (v : V) (a b : Int) : Prop := ∃ p, v = .ref p ∧ SqT K H p [.int a, .int b]
end
end Gz
set_option Elab.async false
set_option linter.all false
set_option maxRecDepth 100000
set_option maxHeartbeats 4000000
namespace Gz
open PySem PySem.W PySem.Spec PySem.Calls PyProof.Rows Builtin Builtin.ObjectAttr Builtin.Getset_descriptor
section
variable {prog : Program} {w : World} {A : Around} {E : Value → Shared → Prop} {s : Shared} {K : Frag} {x C : Addr} {oe : Obj} {R : Result → Shared → Prop}
end
structure XC (K : Frag) (C : Addr) : Prop where
  ex : excIn K C [.type "ValueError", .type "Exception", .type "BaseException", .type "object"] "ValueError.__new__" = true
  mo : mroIn K C (.type "object") = some true
  mb : mroIn K C (.type "BaseException") = some true
  ga : findIn K (.ref C) "__getattribute__" = some (some (.builtin "BaseException.__getattribute__"))
  gr : findIn K (.ref C) "__getattr__" = some none
  gc : findIn K (.ref C) "__class__" = some (some (.builtin "object.__class__"))
theorem XC.cls {K : Frag} {C : Addr} (x : XC K C) : ∃ c d cd sl, K.lookup C = some ⟨c, d, .cls cd, sl⟩ := by
  have q := x.ex
  unfold excIn at q
  split at q
  · rename_i dd cd sl ho
    exact ⟨_, _, _, _, ho⟩
  · cases q
end Gz
namespace Gz
open PySem PySem.Spec PyProof.Rows L2
section
variable {X : Cx}
end
end Gz
set_option Elab.async false
set_option linter.all false
set_option maxRecDepth 100000
set_option maxHeartbeats 4000000
namespace Gz
open PySem PySem.Spec PyProof.Rows L2
theorem ObjOk.some {P : Program} {w : World} {H : Hp} {h : Heap} {a : Addr} {o : HO} (x : ObjOk P w H h a o) : ∃ ob, h.get? a = some ob := by
  cases o with
  | lst xs => obtain ⟨_, _, _, _, e⟩ := x; exact ⟨_, e⟩
  | tup xs => obtain ⟨_, _, _, o, e, _⟩ := x; exact ⟨_, e⟩
  | dK kvs => obtain ⟨_, _, _, _, o, _, _, e, _⟩ := x; exact ⟨_, e⟩
  | dT kvs => obtain ⟨_, _, _, _, o, _, _, e, _⟩ := x; exact ⟨_, e⟩
  | set S n => obtain ⟨o, _, _, _, e, _⟩ := x; exact ⟨_, e⟩
  | ins C dx fs => obtain ⟨_, _, _, e, _⟩ := x; exact ⟨_, e⟩
  | own y => exact x
  | xd fs => obtain ⟨_, ⟨_, _, _, e, _⟩, _⟩ := x; exact ⟨_, e⟩
  | rng lo hi => obtain ⟨_, _, _, e⟩ := x; exact ⟨_, e⟩
  | frz ob u => obtain ⟨e, _⟩ := x; exact ⟨_, e⟩
  | tbl ps => exact ⟨_, x⟩
  | met f y => exact ⟨_, x⟩
  | ext φ => exact x.2.1
section
variable {X : Cx}
end
section
variable {P : Program} {w : World} {K : PySem.W.Frag} {mg : Str → Option Value} {base : Heap} {N : List Str} {qual : Str} {scope : Scope} {f : Addr} {cd : Value} {A : Around} {outer : List Env} {s : Shared} {H : Hp} {E : XK}
end
end Gz
namespace Gz
open PySem PySem.Spec PyProof.Rows L2
section
variable {X : Cx} {F : Value → Shared → Prop} {pins pn : List (Addr × Obj)} {σ : L2.St} {H : Hp} {s : Shared} {A' : Around}
end
end Gz
set_option linter.all false
namespace Gz
def gcdI (a b : Int) : Int := ((Nat.gcd a.natAbs b.natAbs : Nat) : Int)
def sg (t b : Int) : Int := if b < 0 then -gcdI t b else gcdI t b
def rt (t b : Int) : Int := t.fdiv (sg t b)
def rb (t b : Int) : Int := b.fdiv (sg t b)
theorem em30 (x : Int) : (x % 1000000000000000000000000000000).natAbs < 2 ^ 200 := by
  have h1 := Int.emod_nonneg x (show (1000000000000000000000000000000 : Int) ≠ 0 by decide)
  have h2 := Int.emod_lt_of_pos x (show (0 : Int) < 1000000000000000000000000000000 by decide)
  omega
end Gz
set_option Elab.async false
set_option linter.all false
set_option maxRecDepth 100000
set_option maxHeartbeats 4000000
namespace Gz
open PySem PySem.W PyProof.Rows
section
variable {lt : Nat → Nat → Bool} {n : Nat}
structure Ord (lt : Nat → Nat → Bool) : Prop where
  asym : ∀ {a b}, lt a b = true → lt b a = false
  tr : ∀ {a b c}, lt b a = false → lt c b = false → lt c a = false
theorem Ord.rfl' (O : Ord lt) (a : Nat) : lt a a = false := by
  cases h : lt a a with
  | false => rfl
  | true => rw [O.asym h] at h; cases h
def Srt (lt : Nat → Nat → Bool) (p : Array Nat) (k : Nat) : Prop := ∀ i j, i ≤ j → j < k → lt (p.getD j 0) (p.getD i 0) = false
def Dsc (lt : Nat → Nat → Bool) (p : Array Nat) (k : Nat) : Prop := ∀ i j, i ≤ j → j < k → lt (p.getD i 0) (p.getD j 0) = false
def Prm (n : Nat) (p : Array Nat) : Prop := p.toList.Perm (List.range n)
theorem Prm.size {p : Array Nat} (h : Prm n p) : p.size = n := by
  have := h.length_eq
  simpa using this
theorem Prm.of {p q : Array Nat} (h : Prm n p) (hq : q.Perm p) : Prm n q := (Array.perm_iff_toList_perm.mp hq).trans h
theorem Srt.succ (O : Ord lt) {p : Array Nat} {k : Nat} (h : Srt lt p k) (hk : 1 ≤ k) (hn : lt (p.getD k 0) (p.getD (k - 1) 0) = false) : Srt lt p (k + 1) := fun i j hij hj => by
  by_cases e : j = k
  · subst e
    by_cases ei : i = j
    · subst ei; exact O.rfl' _
    · exact O.tr (h i (j - 1) (by omega) (by omega)) hn
  · exact h i j hij (by omega)
theorem Dsc.succ (O : Ord lt) {p : Array Nat} {k : Nat} (h : Dsc lt p k) (hk : 1 ≤ k) (hn : lt (p.getD (k - 1) 0) (p.getD k 0) = false) : Dsc lt p (k + 1) := fun i j hij hj => by
  by_cases e : j = k
  · subst e
    by_cases ei : i = j
    · subst ei; exact O.rfl' _
    · exact O.tr hn (h i (j - 1) (by omega) (by omega))
  · exact h i j hij (by omega)
def kasV {α : Type} (lt : Nat → Nat → Bool) : KasT α → α
  | .ret a => a
  | .ask i j k => kasV lt (k (lt i j))
def sortIx (lt : Nat → Nat → Bool) (n : Nat) : Array Nat := if n < 2 then List.toArray (List.range n) else kasV lt (kas_sort n)
end
end Gz
set_option Elab.async false
set_option linter.all false
set_option maxRecDepth 100000
set_option maxHeartbeats 4000000
namespace Gz
open PySem PySem.Spec PyProof.Rows L2
local macro_rules | `(tactic| walk_at "om") => `(tactic| ((try simp only [PySem.Addr] at *); omega))
theorem call_tree_kw {prog : Program} {w : World} {A : Around} {E : Value → Shared → Prop} {s : Shared} {id : String} {b : Builtin} {args : List Value} {kw : List (Str × Value)} {Q : Value → Shared → Prop} (hk : builtinKind id = none) (hp : plainId id = true)
    (hb : entryFor table id = some b) (ha : argsOk id ⟨args, kw⟩)
    (hc : wpAny (model prog w) A.in1 (b ⟨args, kw⟩) (fun fin s' => match fin with
      | .done f => (match (Except.ok f : Result) with | .ok (.ret v) => Q v s' | .ok _ => False | .error e => E e s')
      | .again c' => c'.quiet = true ∧ codeAny (model prog w) A c' (fun r s' => match r with | .ok (.ret v) => Q v s' | .ok _ => False | .error e => E e s') s') E s) :
    wpAny (model prog w) A (call (.builtin id) args kw) Q E s := by
  refine wpAny_call (codeAny_call_builtin hp hb ?_)
  simp only [checkBuiltinCall, hk]
  cases hsig : Manifest.signature? id with
  | none => exact wpAny_pure hc
  | some sig =>
    have ha' : Bind.checkArgs id sig ⟨args, kw⟩ = pure () := by simpa only [argsOk, hsig] using ha
    simp only [ha']
    exact wpAny_pure hc
theorem loop_max {prog : Program} {w : World} {A : Around} {R : Result → Shared → Prop} {I S : Addr} {fp wr : List Addr} {n : Nat} {P : Nat → Value → Prop} {St : Nat → Heap → Prop} {bt : Nat → Nat → Bool} {kw : List (Str × Value)}
    (W : Walks prog w A.in1 I fp wr n P St) (hcmp : CmpOf prog w A.in1 .Gt P bt) (hS : S ∉ fp) : ∀ (k j : Nat) (s : Shared) (vb : Value) (c : Nat), k + (j + 1) = n → St (j + 1) s.heap → P (argBest bt j) vb →
      s.heap.get? S = some { cls := .type "list", dict := none, data := .seq #[vb, vb] c, slots := #[] } →
      (∀ v h' tk, P (argBest bt (n - 1)) v → (∀ b o, b ∉ wr → b ≠ S → s.heap.get? b = some o → h'.get? b = some o) → R (.ok (.ret v)) { s with heap := h', toks := tk }) →
      codeAny (model prog w) A (.builtin "max.loop" ⟨[.ref I, .none, .ref S], kw⟩) R s := by
  have nS : S ∉ wr := fun z => hS (W.sub _ z)
  have nm : (toString "max" ++ toString ".loop" : String) = "max.loop" := by decide
  intro k
  induction k with
  | zero =>
    intro j s vb c e st pb oS fin
    have e' : j + 1 = n := by walk_at "om"
    refine codeAny_builtin PySem.F.entry_max_loop ?_
    rw [Around.under_plainId PySem.F.plain_max_loop _]
    show wpAny _ A.in1 (seqItems? (.ref S) >>= _) _ _ s
    refine wpAny_bind (wpAny_seqItems oS rfl ?_)
    show wpAny _ A.in1 (tryCatch (pyNext (.ref I)) _ >>= _) _ _ s
    refine wpAny_bind (wpAny_tryCatch (W.done s _ _ (e' ▸ st) fun h1 tk kp => ?_))
    have oS1 := kp S _ nS oS
    show wpAny _ A.in1 (updateSeq S (fun _ => #[]) >>= _) _ _ _
    refine wpAny_bind ?_
    refine wpAny_updateSeq oS1 rfl (wpAny_bind (wpAny_letGo (wpAny_pure ?_)))
    exact fin vb _ tk (by rw [← e']; exact pb) fun b o hw hb q => (Heap.get?_update_other _ _ (Ne.symm hb)).trans (kp b o hw q)
  | succ k ih =>
    intro j s vb c e st pb oS fin
    have lt : j + 1 < n := by walk_at "om"
    refine codeAny_builtin PySem.F.entry_max_loop ?_
    rw [Around.under_plainId PySem.F.plain_max_loop _]
    show wpAny _ A.in1 (seqItems? (.ref S) >>= _) _ _ s
    refine wpAny_bind (wpAny_seqItems oS rfl ?_)
    show wpAny _ A.in1 (tryCatch (pyNext (.ref I)) _ >>= _) _ _ s
    refine wpAny_bind (wpAny_tryCatch (W.item (j + 1) s _ _ lt st fun v h1 tk pv st1 kp => ?_))
    have oS1 := kp S _ nS oS
    show wpAny _ A.in1 (tryCatch (holding [v, v] (richCompare .Gt v vb >>= _)) _ >>= _) _ _ _
    refine wpAny_bind (wpAny_tryCatch (wpAny_holding (wpAny_bind (hcmp (j + 1) (argBest bt j) v vb _ _ _ pv pb ?_))))
    refine wpAny_bind (wpAny_holding (wpAny_truthy_bool ?_))
    refine wpAny_bind (wpAny_letGo (wpAny_pure ?_))
    cases hb : bt (j + 1) (argBest bt j) with
    | true =>
      simp only [if_true]
      refine wpAny_bind ?_
      refine wpAny_updateSeq oS1 rfl (wpAny_bind (wpAny_letGo ?_))
      rw [nm]
      refine wpAny_pure ⟨plainId_quiet PySem.F.plain_max_loop _, ih (j + 1) _ v _ (by walk_at "om") (W.frame _ _ _ st1 fun b hf o q => ?_) (by simp only [argBest, hb, if_true]; exact pv) (Heap.get?_update_self _ oS1 rfl) fun v2 h2 tk2 p2 k2 => ?_⟩
      · exact (Heap.get?_update_other _ _ (fun z : S = b => hS (by rw [z]; exact hf))).trans q
      · exact fin v2 h2 tk2 p2 fun b o hw hbS q => k2 b o hw hbS ((Heap.get?_update_other _ _ (Ne.symm hbS)).trans (kp b o hw q))
    | false =>
      simp only [Bool.false_eq_true, if_false]
      refine wpAny_bind (wpAny_letGo ?_)
      rw [nm]
      refine wpAny_pure ⟨plainId_quiet PySem.F.plain_max_loop _, ih (j + 1) _ vb c (by walk_at "om") st1 (by simp only [argBest, hb, Bool.false_eq_true, if_false]; exact pb) oS1 fun v2 h2 tk2 p2 k2 => ?_⟩
      exact fin v2 h2 tk2 p2 fun b o hw hbS q => k2 b o hw hbS (kp b o hw q)
theorem args_max_d (a d : Value) : argsOk "max" ⟨[a], [("default", d)]⟩ := by unfold argsOk; kernel_rfl
theorem max_dflt {prog : Program} {w : World} {A : Around} {E : Value → Shared → Prop} {s : Shared} {l : Addr} {xs : Array (Int × Tok)} {d : Value} {Q : Value → Shared → Prop} (hh : A.handled = none) (hl : s.heap.IsList l (intItems xs))
    (h0 : xs.size = 0 → ∀ h' tk, (∀ b o, s.heap.get? b = some o → h'.get? b = some o) → Q d { s with heap := h', toks := tk })
    (h1 : 0 < xs.size → ∀ v h' tk, (intItems xs)[argBest (fun i j => decide (numAt xs i > numAt xs j)) (xs.size - 1)]? = some v → (∀ b o, s.heap.get? b = some o → h'.get? b = some o) → Q v { s with heap := h', toks := tk }) :
    wpAny (model prog w) A (call (.builtin "max") [.ref l] [("default", d)]) Q E s := by
  have nm : (toString "max" ++ toString ".loop" : String) = "max.loop" := by decide
  refine call_tree_kw PySem.F.kind_max PySem.F.plain_max PySem.F.entry_max (args_max_d _ _) ?_
  show wpAny _ A.in1 (Builtin.Builtins.bindParams "max" ["key", "default"] 0 ⟨[], [("default", d)]⟩ >>= _) _ _ s
  refine wpAny_bind (wpAny_of_eq (show Builtin.Builtins.bindParams "max" ["key", "default"] 0 ⟨[], [("default", d)]⟩ = pure [none, some d] from rfl) ?_)
  refine wpAny_bind (wpAny_pure ?_)
  refine wpAny_bind (iter_intList hl fun s2 e2 st hfp hlI => ?_)
  subst e2
  refine wpAny_bind (wpAny_newObj_type ?_)
  have W := Walks.list (prog := prog) (w := w) (A := A.in1) hh s.heap.objs.size l hlI (intItems xs)
  generalize eP : (s.heap.push { cls := .type "list_iterator", data := .fields #[.ref l, .int 0 0] }) = P2 at st hfp ⊢
  have hSf : P2.objs.size ∉ [s.heap.objs.size, l] := fun z => Nat.lt_irrefl _ (hfp _ z)
  have up : ∀ b o, s.heap.get? b = some o → b ≠ P2.objs.size ∧ b ∉ [s.heap.objs.size] ∧ (P2.push { cls := .type "list", dict := none, data := .seq ([] : List Value).toArray }).get? b = some o := fun b o q => by
    have lt := Heap.lt_size q
    have q2 : P2.get? b = some o := by rw [← eP]; exact Heap.get?_push_of_some _ q
    refine ⟨Nat.ne_of_lt (Heap.lt_size q2), fun z => ?_, Heap.get?_push_of_some _ q2⟩
    have : b = s.heap.objs.size := by simpa using z
    walk_at "om"
  rw [nm]
  refine wpAny_pure ⟨plainId_quiet PySem.F.plain_max_loop _, ?_⟩
  have oS : (P2.push { cls := .type "list", dict := none, data := .seq ([] : List Value).toArray }).get? P2.objs.size = some { cls := .type "list", dict := none, data := .seq #[] 0, slots := #[] } := Heap.get?_push_size _ rfl
  have st' := W.frame 0 P2 (P2.push { cls := .type "list", dict := none, data := .seq ([] : List Value).toArray }) st fun b _ o q => Heap.get?_push_of_some _ q
  have nS : P2.objs.size ∉ [s.heap.objs.size] := fun z => hSf (by simp at z; simp [z])
  by_cases hz : xs.size = 0
  · have st0 : (P2.push { cls := .type "list", dict := none, data := .seq ([] : List Value).toArray }).IsListIter s.heap.objs.size l (intItems xs).size ∧ (P2.push { cls := .type "list", dict := none, data := .seq ([] : List Value).toArray }).IsList l (intItems xs) := by
      have : (intItems xs).size = 0 := by simpa [intItems] using hz
      rw [this]; exact st'
    refine codeAny_builtin PySem.F.entry_max_loop ?_
    rw [Around.under_plainId PySem.F.plain_max_loop _]
    show wpAny _ A.in1 (seqItems? (.ref P2.objs.size) >>= _) _ _ _
    refine wpAny_bind (wpAny_seqItems oS rfl ?_)
    show wpAny _ A.in1 (tryCatch (pyNext (.ref s.heap.objs.size)) _ >>= _) _ _ _
    refine wpAny_bind (wpAny_tryCatch (W.done _ _ _ st0 fun h2 tk kp => ?_))
    refine wpAny_bind (wpAny_rule (wpAny_pure ?_))
    exact h0 hz h2 tk fun b o q => kp b o (up b o q).2.1 (up b o q).2.2
  · have hp : 0 < xs.size := by walk_at "om"
    have hn : 0 < (intItems xs).size := by simpa [intItems] using hp
    refine codeAny_builtin PySem.F.entry_max_loop ?_
    rw [Around.under_plainId PySem.F.plain_max_loop _]
    show wpAny _ A.in1 (seqItems? (.ref P2.objs.size) >>= _) _ _ _
    refine wpAny_bind (wpAny_seqItems oS rfl ?_)
    show wpAny _ A.in1 (tryCatch (pyNext (.ref s.heap.objs.size)) _ >>= _) _ _ _
    refine wpAny_bind (wpAny_tryCatch (W.item 0 _ _ _ hn st' fun v h2 tk pv st1 kp => ?_))
    have oS1 := kp _ _ nS oS
    show wpAny _ A.in1 (updateSeq P2.objs.size (fun _ => #[v, v]) >>= _) _ _ _
    refine wpAny_bind ?_
    refine wpAny_updateSeq oS1 rfl ?_
    rw [nm]
    refine wpAny_pure ⟨plainId_quiet PySem.F.plain_max_loop _, loop_max W (CmpOf.ints_gt (numAt xs) (fun _ _ => intItems_at)) hSf ((intItems xs).size - 1) 0 _ v _ (by walk_at "om") (W.frame _ _ _ st1 fun b hf o q => ?_) pv (Heap.get?_update_self _ oS1 rfl) fun v2 h3 tk3 p3 k3 => ?_⟩
    · exact (Heap.get?_update_other _ _ (fun z : P2.objs.size = b => hSf (by rw [z]; exact hf))).trans q
    · refine h1 hp v2 h3 tk3 (by simpa [intItems] using p3) fun b o q => ?_
      exact k3 b o (up b o q).2.1 (up b o q).1 ((Heap.get?_update_other _ _ (Ne.symm (up b o q).1)).trans (kp b o (up b o q).2.1 (up b o q).2.2))
theorem loop_min {prog : Program} {w : World} {A : Around} {R : Result → Shared → Prop} {I S : Addr} {fp wr : List Addr} {n : Nat} {P : Nat → Value → Prop} {St : Nat → Heap → Prop} {bt : Nat → Nat → Bool} {kw : List (Str × Value)}
    (W : Walks prog w A.in1 I fp wr n P St) (hcmp : CmpOf prog w A.in1 .Lt P bt) (hS : S ∉ fp) : ∀ (k j : Nat) (s : Shared) (vb : Value) (c : Nat), k + (j + 1) = n → St (j + 1) s.heap → P (argBest bt j) vb →
      s.heap.get? S = some { cls := .type "list", dict := none, data := .seq #[vb, vb] c, slots := #[] } →
      (∀ v h' tk, P (argBest bt (n - 1)) v → (∀ b o, b ∉ wr → b ≠ S → s.heap.get? b = some o → h'.get? b = some o) → R (.ok (.ret v)) { s with heap := h', toks := tk }) →
      codeAny (model prog w) A (.builtin "min.loop" ⟨[.ref I, .none, .ref S], kw⟩) R s := by
  have nS : S ∉ wr := fun z => hS (W.sub _ z)
  have nm : (toString "min" ++ toString ".loop" : String) = "min.loop" := by decide
  intro k
  induction k with
  | zero =>
    intro j s vb c e st pb oS fin
    have e' : j + 1 = n := by walk_at "om"
    refine codeAny_builtin PySem.F.entry_min_loop ?_
    rw [Around.under_plainId PySem.F.plain_min_loop _]
    show wpAny _ A.in1 (seqItems? (.ref S) >>= _) _ _ s
    refine wpAny_bind (wpAny_seqItems oS rfl ?_)
    show wpAny _ A.in1 (tryCatch (pyNext (.ref I)) _ >>= _) _ _ s
    refine wpAny_bind (wpAny_tryCatch (W.done s _ _ (e' ▸ st) fun h1 tk kp => ?_))
    have oS1 := kp S _ nS oS
    show wpAny _ A.in1 (updateSeq S (fun _ => #[]) >>= _) _ _ _
    refine wpAny_bind ?_
    refine wpAny_updateSeq oS1 rfl (wpAny_bind (wpAny_letGo (wpAny_pure ?_)))
    exact fin vb _ tk (by rw [← e']; exact pb) fun b o hw hb q => (Heap.get?_update_other _ _ (Ne.symm hb)).trans (kp b o hw q)
  | succ k ih =>
    intro j s vb c e st pb oS fin
    have lt : j + 1 < n := by walk_at "om"
    refine codeAny_builtin PySem.F.entry_min_loop ?_
    rw [Around.under_plainId PySem.F.plain_min_loop _]
    show wpAny _ A.in1 (seqItems? (.ref S) >>= _) _ _ s
    refine wpAny_bind (wpAny_seqItems oS rfl ?_)
    show wpAny _ A.in1 (tryCatch (pyNext (.ref I)) _ >>= _) _ _ s
    refine wpAny_bind (wpAny_tryCatch (W.item (j + 1) s _ _ lt st fun v h1 tk pv st1 kp => ?_))
    have oS1 := kp S _ nS oS
    show wpAny _ A.in1 (tryCatch (holding [v, v] (richCompare .Lt v vb >>= _)) _ >>= _) _ _ _
    refine wpAny_bind (wpAny_tryCatch (wpAny_holding (wpAny_bind (hcmp (j + 1) (argBest bt j) v vb _ _ _ pv pb ?_))))
    refine wpAny_bind (wpAny_holding (wpAny_truthy_bool ?_))
    refine wpAny_bind (wpAny_letGo (wpAny_pure ?_))
    cases hb : bt (j + 1) (argBest bt j) with
    | true =>
      simp only [if_true]
      refine wpAny_bind ?_
      refine wpAny_updateSeq oS1 rfl (wpAny_bind (wpAny_letGo ?_))
      rw [nm]
      refine wpAny_pure ⟨plainId_quiet PySem.F.plain_min_loop _, ih (j + 1) _ v _ (by walk_at "om") (W.frame _ _ _ st1 fun b hf o q => ?_) (by simp only [argBest, hb, if_true]; exact pv) (Heap.get?_update_self _ oS1 rfl) fun v2 h2 tk2 p2 k2 => ?_⟩
      · exact (Heap.get?_update_other _ _ (fun z : S = b => hS (by rw [z]; exact hf))).trans q
      · exact fin v2 h2 tk2 p2 fun b o hw hbS q => k2 b o hw hbS ((Heap.get?_update_other _ _ (Ne.symm hbS)).trans (kp b o hw q))
    | false =>
      simp only [Bool.false_eq_true, if_false]
      refine wpAny_bind (wpAny_letGo ?_)
      rw [nm]
      refine wpAny_pure ⟨plainId_quiet PySem.F.plain_min_loop _, ih (j + 1) _ vb c (by walk_at "om") st1 (by simp only [argBest, hb, Bool.false_eq_true, if_false]; exact pb) oS1 fun v2 h2 tk2 p2 k2 => ?_⟩
      exact fin v2 h2 tk2 p2 fun b o hw hbS q => k2 b o hw hbS (kp b o hw q)
theorem args_min_d (a d : Value) : argsOk "min" ⟨[a], [("default", d)]⟩ := by unfold argsOk; kernel_rfl
theorem min_dflt {prog : Program} {w : World} {A : Around} {E : Value → Shared → Prop} {s : Shared} {l : Addr} {xs : Array (Int × Tok)} {d : Value} {Q : Value → Shared → Prop} (hh : A.handled = none) (hl : s.heap.IsList l (intItems xs))
    (h0 : xs.size = 0 → ∀ h' tk, (∀ b o, s.heap.get? b = some o → h'.get? b = some o) → Q d { s with heap := h', toks := tk })
    (h1 : 0 < xs.size → ∀ v h' tk, (intItems xs)[argBest (fun i j => decide (numAt xs i < numAt xs j)) (xs.size - 1)]? = some v → (∀ b o, s.heap.get? b = some o → h'.get? b = some o) → Q v { s with heap := h', toks := tk }) :
    wpAny (model prog w) A (call (.builtin "min") [.ref l] [("default", d)]) Q E s := by
  have nm : (toString "min" ++ toString ".loop" : String) = "min.loop" := by decide
  refine call_tree_kw PySem.F.kind_min PySem.F.plain_min PySem.F.entry_min (args_min_d _ _) ?_
  show wpAny _ A.in1 (Builtin.Builtins.bindParams "min" ["key", "default"] 0 ⟨[], [("default", d)]⟩ >>= _) _ _ s
  refine wpAny_bind (wpAny_of_eq (show Builtin.Builtins.bindParams "min" ["key", "default"] 0 ⟨[], [("default", d)]⟩ = pure [none, some d] from rfl) ?_)
  refine wpAny_bind (wpAny_pure ?_)
  refine wpAny_bind (iter_intList hl fun s2 e2 st hfp hlI => ?_)
  subst e2
  refine wpAny_bind (wpAny_newObj_type ?_)
  have W := Walks.list (prog := prog) (w := w) (A := A.in1) hh s.heap.objs.size l hlI (intItems xs)
  generalize eP : (s.heap.push { cls := .type "list_iterator", data := .fields #[.ref l, .int 0 0] }) = P2 at st hfp ⊢
  have hSf : P2.objs.size ∉ [s.heap.objs.size, l] := fun z => Nat.lt_irrefl _ (hfp _ z)
  have up : ∀ b o, s.heap.get? b = some o → b ≠ P2.objs.size ∧ b ∉ [s.heap.objs.size] ∧ (P2.push { cls := .type "list", dict := none, data := .seq ([] : List Value).toArray }).get? b = some o := fun b o q => by
    have lt := Heap.lt_size q
    have q2 : P2.get? b = some o := by rw [← eP]; exact Heap.get?_push_of_some _ q
    refine ⟨Nat.ne_of_lt (Heap.lt_size q2), fun z => ?_, Heap.get?_push_of_some _ q2⟩
    have : b = s.heap.objs.size := by simpa using z
    walk_at "om"
  rw [nm]
  refine wpAny_pure ⟨plainId_quiet PySem.F.plain_min_loop _, ?_⟩
  have oS : (P2.push { cls := .type "list", dict := none, data := .seq ([] : List Value).toArray }).get? P2.objs.size = some { cls := .type "list", dict := none, data := .seq #[] 0, slots := #[] } := Heap.get?_push_size _ rfl
  have st' := W.frame 0 P2 (P2.push { cls := .type "list", dict := none, data := .seq ([] : List Value).toArray }) st fun b _ o q => Heap.get?_push_of_some _ q
  have nS : P2.objs.size ∉ [s.heap.objs.size] := fun z => hSf (by simp at z; simp [z])
  by_cases hz : xs.size = 0
  · have st0 : (P2.push { cls := .type "list", dict := none, data := .seq ([] : List Value).toArray }).IsListIter s.heap.objs.size l (intItems xs).size ∧ (P2.push { cls := .type "list", dict := none, data := .seq ([] : List Value).toArray }).IsList l (intItems xs) := by
      have : (intItems xs).size = 0 := by simpa [intItems] using hz
      rw [this]; exact st'
    refine codeAny_builtin PySem.F.entry_min_loop ?_
    rw [Around.under_plainId PySem.F.plain_min_loop _]
    show wpAny _ A.in1 (seqItems? (.ref P2.objs.size) >>= _) _ _ _
    refine wpAny_bind (wpAny_seqItems oS rfl ?_)
    show wpAny _ A.in1 (tryCatch (pyNext (.ref s.heap.objs.size)) _ >>= _) _ _ _
    refine wpAny_bind (wpAny_tryCatch (W.done _ _ _ st0 fun h2 tk kp => ?_))
    refine wpAny_bind (wpAny_rule (wpAny_pure ?_))
    exact h0 hz h2 tk fun b o q => kp b o (up b o q).2.1 (up b o q).2.2
  · have hp : 0 < xs.size := by walk_at "om"
    have hn : 0 < (intItems xs).size := by simpa [intItems] using hp
    refine codeAny_builtin PySem.F.entry_min_loop ?_
    rw [Around.under_plainId PySem.F.plain_min_loop _]
    show wpAny _ A.in1 (seqItems? (.ref P2.objs.size) >>= _) _ _ _
    refine wpAny_bind (wpAny_seqItems oS rfl ?_)
    show wpAny _ A.in1 (tryCatch (pyNext (.ref s.heap.objs.size)) _ >>= _) _ _ _
    refine wpAny_bind (wpAny_tryCatch (W.item 0 _ _ _ hn st' fun v h2 tk pv st1 kp => ?_))
    have oS1 := kp _ _ nS oS
    show wpAny _ A.in1 (updateSeq P2.objs.size (fun _ => #[v, v]) >>= _) _ _ _
    refine wpAny_bind ?_
    refine wpAny_updateSeq oS1 rfl ?_
    rw [nm]
    refine wpAny_pure ⟨plainId_quiet PySem.F.plain_min_loop _, loop_min W (CmpOf.ints_lt (numAt xs) (fun _ _ => intItems_at)) hSf ((intItems xs).size - 1) 0 _ v _ (by walk_at "om") (W.frame _ _ _ st1 fun b hf o q => ?_) pv (Heap.get?_update_self _ oS1 rfl) fun v2 h3 tk3 p3 k3 => ?_⟩
    · exact (Heap.get?_update_other _ _ (fun z : P2.objs.size = b => hSf (by rw [z]; exact hf))).trans q
    · refine h1 hp v2 h3 tk3 (by simpa [intItems] using p3) fun b o q => ?_
      exact k3 b o (up b o q).2.1 (up b o q).1 ((Heap.get?_update_other _ _ (Ne.symm (up b o q).1)).trans (kp b o (up b o q).2.1 (up b o q).2.2))
def maxL : List Int → Int
  | [] => 0
  | x :: r => r.foldl (fun b y => if y > b then y else b) x
def minL : List Int → Int
  | [] => 0
  | x :: r => r.foldl (fun b y => if y < b then y else b) x
theorem maxF_le : ∀ (r : List Int) (b : Int), b ≤ r.foldl (fun b y => if y > b then y else b) b ∧ (∀ y ∈ r, y ≤ r.foldl (fun b y => if y > b then y else b) b) ∧ (r.foldl (fun b y => if y > b then y else b) b = b ∨ r.foldl (fun b y => if y > b then y else b) b ∈ r)
  | [], b => ⟨Int.le_refl _, fun _ z => (nomatch z), .inl rfl⟩
  | x :: r, b => by
    simp only [List.foldl_cons]
    obtain ⟨h1, h2, h3⟩ := maxF_le r (if x > b then x else b)
    refine ⟨?_, fun y hy => ?_, ?_⟩
    · refine Int.le_trans ?_ h1; split <;> omega
    · rcases List.mem_cons.mp hy with rfl | hy
      · refine Int.le_trans ?_ h1; split <;> omega
      · exact h2 y hy
    · rcases h3 with h3 | h3
      · rw [h3]; split
        · right; simp
        · left; rfl
      · right; exact List.mem_cons_of_mem _ h3
theorem minF_le : ∀ (r : List Int) (b : Int), r.foldl (fun b y => if y < b then y else b) b ≤ b ∧ (∀ y ∈ r, r.foldl (fun b y => if y < b then y else b) b ≤ y) ∧ (r.foldl (fun b y => if y < b then y else b) b = b ∨ r.foldl (fun b y => if y < b then y else b) b ∈ r)
  | [], b => ⟨Int.le_refl _, fun _ z => (nomatch z), .inl rfl⟩
  | x :: r, b => by
    simp only [List.foldl_cons]
    obtain ⟨h1, h2, h3⟩ := minF_le r (if x < b then x else b)
    refine ⟨?_, fun y hy => ?_, ?_⟩
    · refine Int.le_trans h1 ?_; split <;> omega
    · rcases List.mem_cons.mp hy with rfl | hy
      · refine Int.le_trans h1 ?_; split <;> omega
      · exact h2 y hy
    · rcases h3 with h3 | h3
      · rw [h3]; split
        · right; simp
        · left; rfl
      · right; exact List.mem_cons_of_mem _ h3
theorem maxL_mem {ns : List Int} (h : ns ≠ []) : maxL ns ∈ ns ∧ ∀ y ∈ ns, y ≤ maxL ns := by
  cases ns with
  | nil => exact absurd rfl h
  | cons x r =>
    obtain ⟨h1, h2, h3⟩ := maxF_le r x
    refine ⟨?_, fun y hy => ?_⟩
    · rcases h3 with h3 | h3
      · show r.foldl _ x ∈ _
        rw [h3]; exact .head _
      · exact .tail _ h3
    · rcases List.mem_cons.mp hy with rfl | hy
      · exact h1
      · exact h2 y hy
theorem minL_mem {ns : List Int} (h : ns ≠ []) : minL ns ∈ ns ∧ ∀ y ∈ ns, minL ns ≤ y := by
  cases ns with
  | nil => exact absurd rfl h
  | cons x r =>
    obtain ⟨h1, h2, h3⟩ := minF_le r x
    refine ⟨?_, fun y hy => ?_⟩
    · rcases h3 with h3 | h3
      · show r.foldl _ x ∈ _
        rw [h3]; exact .head _
      · exact .tail _ h3
    · rcases List.mem_cons.mp hy with rfl | hy
      · exact h1
      · exact h2 y hy
theorem ints_items : ∀ {ns : List Int} {its : List Value}, Vals (ns.map V.int) its → ∃ xs : Array (Int × Tok), its.toArray = intItems xs ∧ xs.toList.map (·.1) = ns
  | [], _, .nil => ⟨#[], by simp [intItems], rfl⟩
  | n :: ns, _, .cons (l₂ := its) r t => by
    obtain ⟨xs, e1, e2⟩ := ints_items (ns := ns) t
    obtain ⟨tk, rfl⟩ := r
    refine ⟨((n, tk) :: xs.toList).toArray, ?_, ?_⟩
    · have : its = xs.toList.map (fun p => Value.int p.1 p.2) := by
        have := congrArg Array.toList e1
        simpa [intItems] using this
      simp [intItems, this]
    · simp [e2]
theorem numAt_get {xs : Array (Int × Tok)} {ns : List Int} (e : xs.toList.map (·.1) = ns) {i : Nat} (hi : i < xs.size) : numAt xs i ∈ ns ∧ numAt xs i = ns.getD i 0 := by
  subst e
  unfold numAt
  rw [Array.getElem?_eq_getElem hi]
  refine ⟨List.mem_map.mpr ⟨xs[i], by simp, rfl⟩, ?_⟩
  simp [hi]
theorem mem_numAt {xs : Array (Int × Tok)} {ns : List Int} (e : xs.toList.map (·.1) = ns) {y : Int} (hy : y ∈ ns) : ∃ i, i < xs.size ∧ numAt xs i = y := by
  subst e
  obtain ⟨p, hp, rfl⟩ := List.mem_map.mp hy
  obtain ⟨i, hi, e⟩ := List.mem_iff_getElem.mp hp
  refine ⟨i, by simpa using hi, ?_⟩
  unfold numAt
  have hi' : i < xs.size := by simpa using hi
  rw [Array.getElem?_eq_getElem hi']
  have : xs[i] = p := by simpa using e
  rw [this]; rfl
theorem best_max {xs : Array (Int × Tok)} {ns : List Int} (e : xs.toList.map (·.1) = ns) (h : 0 < xs.size) : numAt xs (argBest (fun i j => decide (numAt xs i > numAt xs j)) (xs.size - 1)) = maxL ns := by
  obtain ⟨h1, h2⟩ := argBest_gt (numAt xs) (xs.size - 1)
  have hne : ns ≠ [] := by
    intro z; subst z
    have q := congrArg List.length e
    rw [List.length_map, Array.length_toList, List.length_nil] at q
    omega
  obtain ⟨m1, m2⟩ := maxL_mem hne
  refine Int.le_antisymm (m2 _ (numAt_get e (by omega)).1) ?_
  obtain ⟨i, hi, ei⟩ := mem_numAt e m1
  rw [← ei]; exact h2 i (by omega)
theorem best_min {xs : Array (Int × Tok)} {ns : List Int} (e : xs.toList.map (·.1) = ns) (h : 0 < xs.size) : numAt xs (argBest (fun i j => decide (numAt xs i < numAt xs j)) (xs.size - 1)) = minL ns := by
  obtain ⟨h1, h2⟩ := argBest_lt (numAt xs) (xs.size - 1)
  have hne : ns ≠ [] := by
    intro z; subst z
    have q := congrArg List.length e
    rw [List.length_map, Array.length_toList, List.length_nil] at q
    omega
  obtain ⟨m1, m2⟩ := minL_mem hne
  refine Int.le_antisymm ?_ (m2 _ (numAt_get e (by omega)).1)
  obtain ⟨i, hi, ei⟩ := mem_numAt e m1
  rw [← ei]; exact h2 i (by omega)
def oneV (R : V → Hp → Prop) : List V → Hp → Prop
  | [x], H => R x H
  | _, _ => False
theorem oneV_ex {R : V → Hp → Prop} : ∀ {vs : List V} {H : Hp}, oneV R vs H → ∃ x, vs = [x] ∧ R x H
  | [x], _, h => ⟨x, rfl, h⟩
section
variable {X : Cx} {e d : Expr} {te td : TE} {p pos kp : Pos}
def mmV (f : List Int → Int) : List Int → V → V
  | [], y => y
  | n :: ns, _ => .int (f (n :: ns))
theorem mmV_ne {f : List Int → Int} {ns : List Int} {y : V} (h : ns ≠ []) : mmV f ns y = .int (f ns) := by
  cases ns with
  | nil => exact absurd rfl h
  | cons _ _ => rfl
def tMM (K : PySem.W.Frag) (f : List Int → Int) (te td : TE) : TE := fun σ H Q => te σ H fun x H1 => td σ H1 fun y H2 => ∃ a ns, x = .ref a ∧ SqL K H2 a (ns.map V.int) ∧ Q (mmV f ns y) H2
theorem pe_maxD (hc : X.calm = true) (hg : Gl X "max") (hm : X.mg "max" = none) (he : PE X e te) (hd : PE X d td)
    (hs : starEach [e] X.env = (false, eval e X.env) :: starEach [] X.env := by rfl) (hq : backTo pos (starEach [e] X.env) = (false, eval e X.env) :: backTo pos (starEach [] X.env) := by rfl) :
    PE X (.Call (.Name "max" p) [e] [⟨some "default", d, kp⟩] pos) (tMM X.K maxL te td) := by
  intro pins s σ H Q I h
  refine wpAny_Call_Name_kw (ld_blt I hg hm b_max ?_ (by decide))
  refine callWith_kw (thn ((pa_cons he pa_nil hs) pos pins s σ H (oneV fun x H1 => td σ H1 fun y H2 => ∃ (a : Addr) (ns : List Int), x = .ref a ∧ SqL X.K H2 a (ns.map V.int) ∧ Q (mmV maxL ns y) H2) I h) fun us s1 ⟨vs, H1, I1, r, q⟩ => ?_) hq (by rw [hs]; rfl)
  · obtain ⟨x, rfl, q⟩ := oneV_ex q
    obtain ⟨u, rfl, ru⟩ := vals1 r
    refine kws_cons (thn (hd pins s1 σ H1 _ I1 q) fun w s2 ⟨y, H2, I2, ry, a, ns, ex, hS, q1⟩ => kws_nil ?_)
    subst ex
    cases ru
    obtain ⟨its, rv, hp, _⟩ := I2.list hS
    obtain ⟨xs, e1, e2⟩ := ints_items rv
    obtain ⟨o, n, ho, hcl, _, hdt⟩ := hp
    have hl : s2.heap.IsList a (intItems xs) := ⟨o, ho, hcl, n, by rw [hdt, e1]⟩
    have len : xs.size = ns.length := by rw [← e2, List.length_map]; simp
    show wpAny _ X.A (call (.builtin "max") [.ref a] [("default", w)]) _ _ s2
    refine max_dflt (I2.ok.hd hc) hl (fun hz h' tk hk => ⟨y, H2, I2.kept hk, ry, ?_⟩) fun hp v h' tk hv hk => ⟨.int (maxL ns), H2, I2.kept hk, ?_, ?_⟩
    · have z : ns = [] := List.length_eq_zero_iff.mp (by walk_at "om")
      rw [z] at q1
      exact q1
    · obtain ⟨t, rfl⟩ := intItems_at hv
      exact ⟨t, by rw [best_max e2 hp]⟩
    · rw [mmV_ne (fun z => by subst z; rw [List.length_nil] at len; omega)] at q1
      exact q1
theorem pe_minD (hc : X.calm = true) (hg : Gl X "min") (hm : X.mg "min" = none) (he : PE X e te) (hd : PE X d td)
    (hs : starEach [e] X.env = (false, eval e X.env) :: starEach [] X.env := by rfl) (hq : backTo pos (starEach [e] X.env) = (false, eval e X.env) :: backTo pos (starEach [] X.env) := by rfl) :
    PE X (.Call (.Name "min" p) [e] [⟨some "default", d, kp⟩] pos) (tMM X.K minL te td) := by
  intro pins s σ H Q I h
  refine wpAny_Call_Name_kw (ld_blt I hg hm b_min ?_ (by decide))
  refine callWith_kw (thn ((pa_cons he pa_nil hs) pos pins s σ H (oneV fun x H1 => td σ H1 fun y H2 => ∃ (a : Addr) (ns : List Int), x = .ref a ∧ SqL X.K H2 a (ns.map V.int) ∧ Q (mmV minL ns y) H2) I h) fun us s1 ⟨vs, H1, I1, r, q⟩ => ?_) hq (by rw [hs]; rfl)
  · obtain ⟨x, rfl, q⟩ := oneV_ex q
    obtain ⟨u, rfl, ru⟩ := vals1 r
    refine kws_cons (thn (hd pins s1 σ H1 _ I1 q) fun w s2 ⟨y, H2, I2, ry, a, ns, ex, hS, q1⟩ => kws_nil ?_)
    subst ex
    cases ru
    obtain ⟨its, rv, hp, _⟩ := I2.list hS
    obtain ⟨xs, e1, e2⟩ := ints_items rv
    obtain ⟨o, n, ho, hcl, _, hdt⟩ := hp
    have hl : s2.heap.IsList a (intItems xs) := ⟨o, ho, hcl, n, by rw [hdt, e1]⟩
    have len : xs.size = ns.length := by rw [← e2, List.length_map]; simp
    show wpAny _ X.A (call (.builtin "min") [.ref a] [("default", w)]) _ _ s2
    refine min_dflt (I2.ok.hd hc) hl (fun hz h' tk hk => ⟨y, H2, I2.kept hk, ry, ?_⟩) fun hp v h' tk hv hk => ⟨.int (minL ns), H2, I2.kept hk, ?_, ?_⟩
    · have z : ns = [] := List.length_eq_zero_iff.mp (by walk_at "om")
      rw [z] at q1
      exact q1
    · obtain ⟨t, rfl⟩ := intItems_at hv
      exact ⟨t, by rw [best_min e2 hp]⟩
    · rw [mmV_ne (fun z => by subst z; rw [List.length_nil] at len; omega)] at q1
      exact q1
end
end Gz
set_option Elab.async false
set_option linter.all false
set_option maxRecDepth 100000
set_option maxHeartbeats 4000000
namespace Gz
open PySem PySem.Spec PyProof.Rows L2
local macro_rules | `(tactic| walk_at "om") => `(tactic| ((try simp only [PySem.Addr] at *); omega))
section
variable {prog : Program} {w : World} {A : Around} {E : Value → Shared → Prop} {s : Shared}
end
def keyGo (sp : Sp) : List V → List V → Hp → (List V → Hp → Prop) → Prop
  | [], ks, H, Q => Q ks H
  | x :: r, ks, H, Q => sp [x] H (fun k H1 => keyGo sp r (ks ++ [k]) H1 Q) E0
def KeyT (K : PySem.W.Frag) (H : Hp) : List V → List (List Int) → Prop
  | [], [] => True
  | k :: ks, n :: ns => (∃ p, k = .ref p ∧ SqT K H p (n.map V.int) ∧ n ≠ []) ∧ KeyT K H ks ns
  | _, _ => False
section
variable {X : Cx} {pins : List (Addr × Obj)} {σ : L2.St} {H : Hp} {s : Shared}
theorem KeyT.tups (I : Inv X pins σ H s) : ∀ {ks : List V} {ns : List (List Int)} {us : List Value}, KeyT X.K H ks ns → Vals ks us → ∃ fs, PySem.W.KatTups s.heap us fs ∧ fs.length = us.length ∧ ∀ v ∈ fs, ∃ i t, v = .int i t
  | [], [], _, _, .nil => ⟨[], trivial, rfl, fun _ z => (nomatch z)⟩
  | k :: ks, n :: ns, _, h, .cons r rs => by
    obtain ⟨⟨p, rfl, hp, hn⟩, h⟩ := h
    cases r
    obtain ⟨fs, a, b, c⟩ := KeyT.tups I h rs
    obtain ⟨its, rv, ⟨o, ho, hc, m, hd⟩, _⟩ := I.tuple hp
    cases n with
    | nil => exact absurd rfl hn
    | cons z zs =>
      cases rv with
      | cons r1 r2 =>
        obtain ⟨t, rfl⟩ := r1
        refine ⟨.int z t :: fs, PySem.W.KatTups.cons ho hc hd (by simp) a, by simp [b], fun v hv => ?_⟩
        rcases List.mem_cons.mp hv with rfl | hv
        · exact ⟨_, _, rfl⟩
        · exact c v hv
  | [], _ :: _, _, h, _ => h.elim
  | _ :: _, [], _, h, _ => h.elim
def ltK (kis : List (List Int)) (i j : Nat) : Bool := HT.lexLt (kis.getD i []) (kis.getD j [])
def sortL {α : Type} (kis : List (List Int)) (d : α) (as : List α) : List α := (sortIx (ltK kis) as.length).toList.map fun i => as.getD i d
end
section
variable {X : Cx} {pins : List (Addr × Obj)} {σ : L2.St} {H : Hp} {s : Shared} {CX : CXT} {k : Nat} {fa a : Addr} {fd : FuncData} {y : Str} {sp : Sp} {xs : List V} {Q : VK}
def rSortK (K : PySem.W.Frag) (sp : Sp) (x : V) (H1 : Hp) (Q : VK) : Prop := ∃ (a : Addr) (xs : List V), x = .ref a ∧ SqL K H1 a xs ∧ xs.length < 64 ∧ keyGo sp xs [] H1 fun ks H2 => ∃ kis, KeyT K H2 ks kis ∧ ∀ l, H2 l = none → Q (.ref l) (upd H2 l (.lst (sortL kis .non xs)))
def tSortK (K : PySem.W.Frag) (sp : Sp) (te : TE) : TE := fun σ H Q => te σ H fun x H1 => rSortK K sp x H1 Q
end
end Gz
set_option Elab.async false
set_option linter.all false
set_option maxRecDepth 100000
set_option maxHeartbeats 4000000
namespace Gz
open PySem PySem.Spec PyProof.Rows L2
local macro_rules | `(tactic| walk_at "om") => `(tactic| ((try simp only [PySem.Addr] at *); omega))
inductive FrOk (X : Cx) (scope : Scope) (cl : List (Str × Addr)) : List Nat → List Str → Prop where
  | nil : FrOk X scope cl [] []
  | cons {j : Nat} {y : Str} {c : Addr} {js : List Nat} {ys : List Str} (hN : X.N[j]? = some y) (hk : X.env.kindOf y = some .cell) (h1 : cl.lookup y = some c) (h2 : X.env.cells.lookup y = some c) (h : FrOk X scope cl js ys) : FrOk X scope cl (j :: js) (y :: ys)
inductive ClOk (X : Cx) : List (Str × Addr) → Prop where
  | nil : ClOk X []
  | cons {n : Str} {a : Addr} {r : List (Str × Addr)} (h : X.env.cells.lookup n = some a) (t : ClOk X r) : ClOk X ((n, a) :: r)
theorem ClOk.get {X : Cx} : ∀ {cl : List (Str × Addr)}, ClOk X cl → ∀ y c, cl.lookup y = some c → X.env.cells.lookup y = some c
  | _, .nil, y, c, e => by simp at e
  | _, .cons (n := n) h t, y, c, e => by
    rw [List.lookup_cons] at e
    by_cases hy : (y == n) = true
    · rw [hy] at e
      have e1 : y = n := by simpa using hy
      cases e
      rw [e1]; exact h
    · rw [Bool.eq_false_iff.mpr hy] at e
      exact t.get y c e
theorem FrOk.get {X : Cx} {scope : Scope} {cl : List (Str × Addr)} {σ : L2.St} : ∀ {js : List Nat} {ys : List Str}, FrOk X scope cl js ys → ∀ (i : Nat) (y : Str) (v : V), ys[i]? = some y → (js.map fun j => (σ[j]?).join)[i]? = some (some v) →
    ∃ (j : Nat) (c : Addr), X.N[j]? = some y ∧ σ[j]? = some (some v) ∧ X.env.kindOf y = some .cell ∧ cl.lookup y = some c ∧ X.env.cells.lookup y = some c
  | _, _, .nil, i, y, v, e, _ => by simp at e
  | _, _, .cons (j := j) hN hk h1 h2 h, 0, y, v, e, q => by
    simp at e q
    subst e
    refine ⟨j, _, hN, ?_, hk, h1, h2⟩
    cases z : σ[j]? with
    | none => rw [z] at q; simp at q
    | some o => rw [z] at q; simp at q; rw [q]
  | _, _, .cons hN hk h1 h2 h, i + 1, y, v, e, q => by
    simp only [List.getElem?_cons_succ, List.map_cons] at e q
    exact h.get i y v e q
theorem FrOk.len {X : Cx} {scope : Scope} {cl : List (Str × Addr)} : ∀ {js : List Nat} {ys : List Str}, FrOk X scope cl js ys → js.length = ys.length
  | _, _, .nil => rfl
  | _, _, .cons _ _ _ _ h => by simp [h.len]
def cxB (X : Cx) (N' : List Str) (scope : Scope) (cl : List (Str × Addr)) (C : Addr) (s2 : Shared) (H2 : Hp) (ex : List Addr) (pn : List (Addr × Obj)) : Cx :=
  { X with N := N', s₀ := s2, H₀ := H2, env := compEnvC scope cl C X.env, outer := X.stack, ex := ex, fn := fun _ => false, pn := pn, xe := fun _ _ => False }
structure CompOk (X : Cx) (x : Str) (scope : Scope) (cl : List (Str × Addr)) (fr : List Nat) (ys : List Str) : Prop where
  clos : closureFor scope X.env = pure cl
  nocell : (scope.names.all fun p => p.2 != .cell) = true
  kind : scope.kind = .function
  names : (scope.names.all fun p => p.2 != .local || scope.names.lookup p.1 == some .local) = true
  own : scope.names.lookup x = some .local
  kinds : ((relabel scope X.env).names.all fun p => (p.2 != .cell && p.2 != .free) || (cl.lookup p.1).isSome) = true
  cls : ClOk X cl
  frs : FrOk X scope cl fr ys
  nd : (x :: ys).Nodup
  kfr : (ys.all fun y => (relabel scope X.env).names.lookup y == some .cell) = true
def PTs (X : Cx) (ifs : List Expr) (t : TT) : Prop :=
  ∀ (pins : List (Addr × Obj)) (s : Shared) (σ : L2.St) (H : Hp) (Q : Bool → Hp → Prop), Inv X pins σ H s → t σ H Q →
    wpAny (model X.prog X.w) X.A (forIn ifs true fun c r => if r = true then do let ok ← isTrue c X.env (eval c X.env); pure (ForInStep.yield ok) else pure (ForInStep.yield r)) (TP X pins σ Q) X.xe s
def tAll : TT := fun _ H Q => Q true H
theorem pts_nil {X : Cx} : PTs X [] tAll := fun _ _ _ H _ I h => wpAny_tests_nil ⟨H, I, h⟩
theorem pts_one {X : Cx} {c : Expr} {t : TT} (hc : PT X c t) : PTs X [c] t := fun pins s σ H Q I h => wpAny_tests_one (hc pins s σ H Q I h)
def tBlk (J : It) (ρ : L2.St) (tt : TT) (te : TE) (H : Hp) (Q : VK) : Prop := ∃ W : Nat → Nat → List V → Hp → Prop, (∃ m, W 0 m [] H) ∧ ∀ i m ys H, W i m ys H →
  (J.stop i H ∧ ys.length ≤ sizeLine ∧ ∀ l, H l = none → Q (.ref l) (upd H l (.lst ys))) ∨ (J.go i H ∧ ys.length < sizeLine ∧ ∃ N : List V → Hp → Prop, (∀ zs H', N zs H' → ∃ m', m' < m ∧ W (i + 1) m' zs H') ∧
    ∀ x H', J.yld i H x H' → tt (some x :: ρ) H' fun b H1 => if b = true then te (some x :: ρ) H1 fun y H2 => N (ys ++ [y]) H2 else N ys H1)
def tComp (wi : TI) (fr : List Nat) (tt : TT) (te : TE) : TE := fun σ H Q => wi σ H fun J H1 => tBlk J (fr.map fun j => (σ[j]?).join) tt te H1 Q
section
variable {X : Cx} {pins : List (Addr × Obj)} {σ : L2.St} {H2 : Hp} {s2 : Shared} {x : Str} {px pos : Pos} {elt iter : Expr} {ifs : List Expr} {scope : Scope} {cl : List (Str × Addr)} {fr : List Nat} {ys : List Str} {tt : TT} {te : TE}
theorem look_in {l : List (Str × NameKind)} {p : Str × NameKind → Bool} (h : l.all p = true) {y : Str} {k : NameKind} (e : l.lookup y = some k) : p (y, k) = true := by
  exact List.all_eq_true.mp h _ (PySem.mem_of_lookup e)
theorem cxB_ok {C : Addr} {ex : List Addr} {pn : List (Addr × Obj)} (S : CompOk X x scope cl fr ys) (I2 : Inv X pins σ H2 s2) (f2 : ∀ b ∈ ex, FpOk X pins H2 b) (hC : s2.heap.objs.size ≤ C) (hex : ∀ b ∈ ex, b < s2.heap.objs.size) : (cxB X (x :: ys) scope cl C s2 H2 ex pn).Ok := by
  refine ⟨I2.ok.mod, S.kind, I2.ok.glob, I2.ok.blt, hC, fun a b c h1 h2 => ?_, fun y hy => ?_, fun _ _ z => (nomatch z), I2.ok.hd, I2.ok.frames, .inl rfl, fun b hb => ⟨?_, fun y c e z => ?_⟩, I2.bs, Nat.le_trans I2.ok.bsz I2.sz, fun b o e hb => ?_, fun b hb z => ?_, I2.stack, I2.stkFree⟩
  · exact I2.ok.inj a b c (S.cls.get a c h1) (S.cls.get b c h2)
  · have hy' : (relabel scope X.env).names.lookup y = some .cell ∨ (relabel scope X.env).names.lookup y = some .free := hy
    have q : (cl.lookup y).isSome = true := by
      rcases hy' with e | e
      · simpa using look_in S.kinds e
      · simpa using look_in S.kinds e
    exact Option.isSome_iff_exists.mp q
  · exact Nat.ne_of_lt (Nat.lt_of_lt_of_le (hex b hb) hC)
  · exact (f2 b hb).2.2.2.2.1 y c (S.cls.get y c e) z
  · obtain ⟨_, _, _, d, _, _⟩ := f2 b hb
    rcases d with d | d
    · exact I2.ok.noex b o e d
    · exact absurd (Nat.lt_of_lt_of_le (Heap.lt_size e) (Nat.le_trans I2.ok.bsz d)) (Nat.lt_irrefl _)
  · obtain ⟨_, d1, d2, _⟩ := f2 b hb
    rcases List.mem_cons.mp (I2.stkSub b z) with q | q
    · exact d1 q
    · exact d2 q
theorem comp_block {J : It} {fp : List Addr} {it : Addr} {tn : Nat → Heap → Prop} {E : Value → Shared → Prop} {Q : VK} {RR : Value → Addr → Result → Shared → Prop}
    (S : CompOk X x scope cl fr ys) (hc : X.calm = true)
    (hb : ∀ (C : Addr) (s : Shared) (H : Hp) (ex : List Addr) (pn : List (Addr × Obj)), PTs (cxB X (x :: ys) scope cl C s H ex pn) ifs tt ∧ PE (cxB X (x :: ys) scope cl C s H ex pn) elt te)
    (I2 : Inv X pins σ H2 s2) (T : Turn X.prog X.w X.K (.Name x px) J fp it tn) (st2 : tn 0 s2.heap) (f2 : ∀ b ∈ fp, FpOk X pins H2 b)
    (h : tBlk J (fr.map fun j => (σ[j]?).join) tt te H2 Q)
    (hRR : ∀ D C s' H', Inv X pins σ H' s' → (∃ m, s'.heap.Ns C m) → FpOk X pins H' C → Q (.ref D) H' → RR (.ref D) C (.ok .next) s') :
    wpAny (model X.prog X.w) X.A (newList []) (fun acc s3 => wpAny (model X.prog X.w) X.A (newFunctionEnv scope X.env.globals cl [] X.env.qual none .none (some X.env)) (fun cenv s4 =>
      codeAny (model X.prog X.w) X.A (.compStart (.ListComp elt [⟨.Name x px, iter, ifs, 0⟩] scope pos) 0 (.ref it) acc { cenv with scope := relabel scope X.env }) (RR acc cenv.locals) s4) E s3) E s2 := by
  obtain ⟨W, ⟨m0, w0⟩, turn⟩ := h
  refine wpAny_newObj_type (wpAny_newFunctionEnv (fun y hy => by simpa using List.all_eq_true.mp S.nocell y hy) (fun y hy => absurd hy (by simp)) (fun h1 hns hsb => ?_) S.kind)
  dsimp only at hns hsb ⊢
  generalize eP : s2.heap.push { cls := .type "list", dict := none, data := .seq ([] : List Value).toArray } = P2 at hns hsb ⊢
  have sz : P2.objs.size = s2.heap.objs.size + 1 := by rw [← eP, Heap.size_push]
  have hDC : s2.heap.objs.size ≠ P2.objs.size := by walk_at "om"
  have keep : ∀ b o, s2.heap.get? b = some o → h1.get? b = some o := fun b o e => by
    have lt := Heap.lt_size e
    exact hsb.extBut b o (by walk_at "om") (Heap.get?_push_of_some _ (eP ▸ Heap.get?_push_of_some _ e))
  have hD : h1.get? s2.heap.objs.size = some { cls := .type "list", data := .seq ([] : List Value).toArray 0 } :=
    hsb.extBut _ _ hDC (Heap.get?_push_of_some _ (eP ▸ Heap.get?_push_size _ rfl))
  have hfp : ∀ b ∈ fp, b < s2.heap.objs.size := fun b hb => by
    obtain ⟨o, e, _⟩ := T.obj 0 _ st2 b hb
    exact Heap.lt_size e
  have noStk : ∀ b, s2.heap.objs.size ≤ b → b ∉ frs X.stack := fun b hle z => by
    rcases List.mem_cons.mp (I2.stkSub b z) with q | q
    · have := I2.lt; walk_at "om"
    · exact I2.nofs hle q
  generalize eC : P2.objs.size = C at hns hsb hDC ⊢
  generalize eD : s2.heap.objs.size = D at hDC hD hfp noStk
  have hCle : s2.heap.objs.size ≤ C := by walk_at "om"
  have hDle : s2.heap.objs.size ≤ D := by walk_at "om"
  have ok' : (cxB X (x :: ys) scope cl C s2 H2 fp (X.pn ++ pins)).Ok := cxB_ok S I2 f2 hCle (fun b hb => by have := hfp b hb; walk_at "om")
  have pinsOk : ∀ p ∈ X.pn ++ pins, p.1 ≠ C ∧ p.1 ≠ D ∧ p.1 ∉ frs X.stack ∧ ∀ b ∈ fp, p.1 ≠ b := fun p hp => by
    obtain ⟨e, n, nL, nf, _⟩ := I2.pin p hp
    have lt := Heap.lt_size e
    refine ⟨by walk_at "om", by walk_at "om", fun z => ?_, fun b hb => (f2 b hb).2.2.2.2.2 p hp⟩
    rcases List.mem_cons.mp (I2.stkSub _ z) with q | q
    · exact nL q
    · exact nf q
  have I4 : Inv (cxB X (x :: ys) scope cl C s2 H2 fp (X.pn ++ pins)) [] (none :: fr.map fun j => (σ[j]?).join) H2 { s2 with heap := h1, toks := s2.toks + ([] : List (Str × Value)).length } := by
    refine ⟨ok', rfl, I2.bare, Un.kept keep, ⟨_, hns, fun i y v e1 e2 e3 => ?_⟩, fun y c e => ?_, I2.hok.fresh hCle, fun y c e => I2.freeC y c (S.cls.get y c e), fun p hp => ?_, I2.hok.kept keep, ?_⟩
    · cases i with
      | zero => simp at e2
      | succ i =>
        simp only [List.getElem?_cons_succ] at e1 e2
        have e1' : ys[i]? = some y := e1
        obtain ⟨j, c, hN, hσ, hk, hc1, hc2⟩ := S.frs.get i y v e1' e2
        obtain ⟨m, hm, hl⟩ := I2.loc
        obtain ⟨u, ru, lu⟩ := hl j y v hN hσ (.inr (.inl hk))
        refine ⟨u, ru, .inr ⟨.inl ?_, c, hc1, ?_⟩⟩
        · have z := List.all_eq_true.mp S.kfr y (List.mem_of_getElem? e1')
          exact (by simpa using z : (relabel scope X.env).names.lookup y = some .cell)
        · rcases lu with ⟨z, _⟩ | ⟨_, c', e', q'⟩
          · rw [hk] at z; cases z
          · rw [hc2] at e'; cases e'
            obtain ⟨o, ho, hd⟩ := q'
            exact ⟨o, keep _ _ ho, hd⟩
    · obtain ⟨v, o, ho, hd⟩ := I2.cell y c (S.cls.get y c e)
      exact ⟨v, o, keep _ _ ho, hd⟩
    · have hp' : p ∈ X.pn ++ pins := by
        have : p ∈ (X.pn ++ pins) ++ [] := hp
        simpa using this
      obtain ⟨e, n, _, _, d⟩ := I2.pin p hp'
      obtain ⟨p1, _, p3, _⟩ := pinsOk p hp'
      exact ⟨keep _ _ e, n, p1, p3, d⟩
    · show (none :: fr.map fun j => (σ[j]?).join).length = (x :: ys).length
      simp [S.frs.len]
  have st4 : tn 0 h1 := T.keep 0 _ _ st2 fun b _ o e => keep b o e
  have fpB : ∀ (H' : Hp) (o : Obj), (∀ b ∈ fp, H' b = none) → ∀ b ∈ fp, FpOk (cxB X (x :: ys) scope cl C s2 H2 fp (X.pn ++ pins)) [(D, o)] H' b := fun H' o hn b hb => by
    obtain ⟨_, d1, d2, d3, d4, d5⟩ := f2 b hb
    have lt := hfp b hb
    refine ⟨hn b hb, ?_, fun z => ?_, .inl hb, fun y c e => d4 y c (S.cls.get y c e), fun p hp => ?_⟩
    · show b ≠ C
      walk_at "om"
    · rcases List.mem_cons.mp (I2.stkSub b z) with q | q
      · exact d1 q
      · exact d2 q
    · have hp' : p ∈ (X.pn ++ pins) ++ [(D, o)] := hp
      rcases List.mem_append.mp hp' with z | z
      · exact d5 p z
      · have : p = (D, o) := by simpa using z
        subst this
        show D ≠ b
        walk_at "om"
  have loop : ∀ s' : Shared, s' = { s2 with heap := h1, toks := s2.toks + ([] : List (Str × Value)).length } →
      codeAny (model X.prog X.w) X.A (.compLoop (.ListComp elt [⟨.Name x px, iter, ifs, 0⟩] scope pos) 0 (.ref it) (.ref D) (compEnvC scope cl C X.env)) (RR (.ref D) C) s' := by
    rintro s' rfl
    refine codeAny_compLoop_tests (fun n s' => ∃ i zs H' o its nn, Inv (cxB X (x :: ys) scope cl C s2 H2 fp (X.pn ++ pins)) [] (o :: fr.map fun j => (σ[j]?).join) H' s' ∧ tn i s'.heap ∧ (∀ b ∈ fp, H' b = none) ∧ H' D = none ∧
      s'.heap.get? D = some { cls := .type "list", data := .seq (its : List Value).toArray nn } ∧ Vals zs its ∧ W i n zs H') ?_ m0 ⟨0, [], H2, none, [], 0, I4, st4, fun b hb => (f2 b hb).1, I2.hok.fresh hDle, hD, .nil, w0⟩
    rintro n s3 ⟨i, zs, H3, o3, its, nn, I3, st3, fr3, hD3, oD3, r3, w3⟩
    have I3' : Inv (cxB X (x :: ys) scope cl C s2 H2 fp (X.pn ++ pins)) [(D, { cls := .type "list", data := .seq its.toArray nn })] (o3 :: fr.map fun j => (σ[j]?).join) H3 s3 := I3.pins_of fun p hp => by
      have : p = (D, { cls := .type "list", data := .seq its.toArray nn }) := by simpa using hp
      subst this
      exact ⟨oD3, hD3, hDC, noStk D (Nat.le_refl _), fun v z => nomatch z⟩
    rcases turn i n zs H3 w3 with ⟨stop, hlen, q⟩ | ⟨go, hlen, N, hNN, step⟩
    · refine wpAny_mono (T.done (cxB X (x :: ys) scope cl C s2 H2 fp (X.pn ++ pins)) rfl rfl rfl hc i _ s3 _ H3 (fun _ _ => False) I3' (fpB H3 _ fr3) st3 stop) (fun r s4 ⟨hr, J4⟩ => ?_) fun _ _ z => z.elim
      subst hr
      have un := J4.base
      have neD : ∀ b o, s2.heap.get? b = some o → b ≠ D := fun b o e => by have := Heap.lt_size e; walk_at "om"
      have neH : ∀ b u, H3 b = some u → b ≠ D := fun b u e z => by rw [z, hD3] at e; cases e
      refine hRR D C s4 (upd H3 D (.lst zs)) ?_ ?_ ?_ (q D hD3)
      · refine I2.call' (ch := fp) J4.os ⟨un.keep, un.slot, fun b o e nn hx => ?_, un.there, fun b xs e => ?_, fun b o u e => ?_, fun b ps e => ?_⟩ (fun a o e => ?_) J4.bare fun b hb => ?_
        · rw [upd_ne (neD b o e)]; exact un.free b o e nn hx
        · have := un.tups b xs e; rw [upd_ne (neH b _ this)]; exact this
        · have := un.frzs b o u e; rw [upd_ne (neH b _ this)]; exact this
        · obtain ⟨more, this⟩ := un.tbls b ps e
          exact ⟨more, by rw [upd_ne (neH b _ this)]; exact this⟩
        · by_cases ha : a = D
          · subst ha
            rw [upd_same] at e; cases e
            exact ⟨hlen, its, nn, r3, (J4.pin (a, _) (List.mem_append_right _ (List.mem_singleton.mpr rfl))).1⟩
          · rw [upd_ne ha] at e
            exact (J4.hok a o e).stay (fun _ _ _ z => z) (fun b z => by rw [upd_ne (neH b _ z)]; exact z) fun b xs z => by rw [upd_ne (neH b _ z)]; exact z
        · obtain ⟨_, d1, d2, d3, d4, d5⟩ := f2 b hb
          exact ⟨d3, d1, d4, d5⟩
      · obtain ⟨m, hm, _⟩ := J4.loc
        exact ⟨m, hm⟩
      · exact I2.fpOk hCle (by rw [upd_ne (Ne.symm hDC)]; exact J4.free)
    · refine wpAny_mono (T.item (cxB X (x :: ys) scope cl C s2 H2 fp (X.pn ++ pins)) rfl rfl rfl hc i _ s3 _ H3 (fun _ _ => False) I3' (fpB H3 _ fr3) st3 go) (fun r s4 ⟨u, hr, h4⟩ => ?_) fun _ _ z => z.elim
      subst hr
      have go' : wpAny (model X.prog X.w) X.A (letOwnedTupleGo (.Name x px) (.ref it) u >>= fun _ => assign (.Name x px) (compEnvC scope cl C X.env) u) (fun _ s5 =>
          wpAny (model X.prog X.w) X.A (forIn ifs true fun c r => if r = true then do let ok ← isTrue c (compEnvC scope cl C X.env) (eval c (compEnvC scope cl C X.env)); pure (ForInStep.yield ok) else pure (ForInStep.yield r)) (fun ok s6 =>
            if ok = true then wpAny (model X.prog X.w) X.A (eval elt (compEnvC scope cl C X.env)) (fun y s7 =>
              wpAny (model X.prog X.w) X.A (call (.builtin "list.append") [.ref D, y]) (fun _ s8 => ∃ m, m < n ∧ ∃ i zs H' o its nn, Inv (cxB X (x :: ys) scope cl C s2 H2 fp (X.pn ++ pins)) [] (o :: fr.map fun j => (σ[j]?).join) H' s8 ∧ tn i s8.heap ∧ (∀ b ∈ fp, H' b = none) ∧ H' D = none ∧
                s8.heap.get? D = some { cls := .type "list", data := .seq (its : List Value).toArray nn } ∧ Vals zs its ∧ W i m zs H') (fun _ _ => False) s7) (fun _ _ => False) s6
            else ∃ m, m < n ∧ ∃ i zs H' o its nn, Inv (cxB X (x :: ys) scope cl C s2 H2 fp (X.pn ++ pins)) [] (o :: fr.map fun j => (σ[j]?).join) H' s6 ∧ tn i s6.heap ∧ (∀ b ∈ fp, H' b = none) ∧ H' D = none ∧
                s6.heap.get? D = some { cls := .type "list", data := .seq (its : List Value).toArray nn } ∧ Vals zs its ∧ W i m zs H') (fun _ _ => False) s5) (fun _ _ => False) s4 := by
        refine wpAny_bind (thn h4 fun _ s5 ⟨y5, H5, I5, r5, yl, st5, fr5⟩ => ?_)
        have I5' := I5.pinned (fpB H5 _ fr5) (T.obj _ _ st5)
        refine thn (pg_name (X := cxB X (x :: ys) scope cl C s2 H2 fp (X.pn ++ pins)) (i := 0) S.nd rfl (.inl (lookup_relabel_local S.own)) (.inr (lookup_relabel_local S.own)) _ s5 _ H5 y5 u (fun σ' H' => σ' = (some y5 :: fr.map fun j => (σ[j]?).join) ∧ H' = H5) I5' r5 ⟨rfl, rfl⟩) fun _ s6 ⟨σ6, H6, I6, e6, e6'⟩ => ?_
        subst e6 e6'
        have after : ∀ (s7 : Shared) (H7 : Hp), Inv (cxB X (x :: ys) scope cl C s2 H2 fp (X.pn ++ pins)) ([(D, { cls := .type "list", data := .seq its.toArray nn })] ++ pinsAt fp s5.heap) (some y5 :: fr.map fun j => (σ[j]?).join) H7 s7 →
            Inv (cxB X (x :: ys) scope cl C s2 H2 fp (X.pn ++ pins)) [] (some y5 :: fr.map fun j => (σ[j]?).join) H7 s7 ∧ tn (i + 1) s7.heap ∧ (∀ b ∈ fp, H7 b = none) ∧ H7 D = none ∧ s7.heap.get? D = some { cls := .type "list", data := .seq its.toArray nn } := fun s7 H7 I7 => by
          have pD := I7.pin (D, { cls := .type "list", data := .seq its.toArray nn }) (List.mem_append_right _ (List.mem_append_left _ (List.mem_singleton.mpr rfl)))
          refine ⟨I7.pins_of fun p hp => absurd hp (by simp), T.keep _ _ _ st5 fun b hb o e => (I7.pin (b, o) (List.mem_append_right _ (List.mem_append_right _ (mem_pinsAt hb e)))).1, fun b hb => ?_, pD.2.1, pD.1⟩
          obtain ⟨o, e, _⟩ := T.obj _ _ st5 b hb
          exact (I7.pin (b, o) (List.mem_append_right _ (List.mem_append_right _ (mem_pinsAt hb e)))).2.1
        refine thn ((hb C s2 H2 fp (X.pn ++ pins)).1 _ s6 _ H6 _ I6 (step y5 H6 yl)) fun ok s7 ⟨H7, I7, q7⟩ => ?_
        dsimp only at q7
        by_cases hok : ok = true
        · rw [if_pos hok] at q7 ⊢
          refine thn ((hb C s2 H2 fp (X.pn ++ pins)).2 _ s7 _ H7 _ I7 q7) fun yv s8 ⟨y8, H8, I8, r8, n8⟩ => ?_
          obtain ⟨m', hm', w8⟩ := hNN _ _ n8
          obtain ⟨J8, st8, fr8, hD8, oD8⟩ := after s8 H8 I8
          have hl := r3.length
          refine call_meets F.slot_list_append ⟨_, oD8, rfl⟩ F.entry_list_append (F.args_list_append_2 _ _) (PySem.list_append D its.toArray nn yv (by rw [List.size_toArray]; walk_at "om")) ⟨oD8, ?_⟩
          have oD9 := PySem.IsL.update oD8 (fun a => a.push yv)
          rw [List.push_toArray] at oD9
          refine ⟨m', hm', i + 1, zs ++ [y8], H8, some y5, its ++ [yv], _, J8.turned (it := D) (fun b o hb' e => (Heap.get?_update_other _ _ (Ne.symm hb')).trans e) hD8 hDC (.inr hDle) (fun y c e z => ?_) (fun p hp => ?_), T.keep _ _ _ st8 fun b hb' o e => ?_, fr8, hD8, oD9, r3.append (.cons r8 .nil), w8⟩
          · obtain ⟨v, o, ho, _⟩ := I2.cell y c (S.cls.get y c e)
            have := Heap.lt_size ho
            walk_at "om"
          · have hp' : p ∈ X.pn ++ pins := by
              have : p ∈ (X.pn ++ pins) ++ [] := hp
              simpa using this
            exact (pinsOk p hp').2.1
          · have := hfp b hb'
            exact (Heap.get?_update_other _ _ (by walk_at "om")).trans e
        · rw [if_neg hok] at q7 ⊢
          obtain ⟨m', hm', w7⟩ := hNN _ _ q7
          obtain ⟨J7, st7, fr7, hD7, oD7⟩ := after s7 H7 I7
          exact ⟨m', hm', i + 1, zs, H7, some y5, its, nn, J7, st7, fr7, hD7, oD7, r3, w7⟩
      have e0 : (letOwnedTupleGo (.Name x px) (.ref it) u >>= fun _ => assign (.Name x px) (compEnvC scope cl C X.env) u) = assign (.Name x px) (compEnvC scope cl C X.env) u := rfl
      rw [e0] at go'
      refine wpAny_mono go' (fun _ s5 h5 => wpAny_mono h5 (fun ok s6 h6 => ?_) fun _ _ z => z.elim) fun _ _ z => z.elim
      by_cases hok : ok = true
      · rw [if_pos hok] at h6 ⊢
        exact wpAny_mono h6 (fun y s7 h7 => wpAny_mono h7 (fun _ _ z => z) fun _ _ z => z.elim) fun _ _ z => z.elim
      · rw [if_neg hok] at h6 ⊢
        exact h6
  exact codeAny_compStart_list (loop _ rfl) (T.self X.A 0 _ _ _ st4 (loop _ rfl))
theorem pe_comp {wi : TI} (S : CompOk X x scope cl fr ys) (hc : X.calm = true) (hi : PI X (.Name x px) iter wi)
    (hb : ∀ (C : Addr) (s : Shared) (H : Hp) (ex : List Addr) (pn : List (Addr × Obj)), PTs (cxB X (x :: ys) scope cl C s H ex pn) ifs tt ∧ PE (cxB X (x :: ys) scope cl C s H ex pn) elt te)
    (hs : ∀ z, foldedSetIterable iter X.env z = pure z := by intro _; rfl) : PE X (.ListComp elt [⟨.Name x px, iter, ifs, 0⟩] scope pos) (tComp wi fr tt te) := by
  intro pins s σ H Q I h
  rw [eval_ListComp]
  refine wpAny_comprehension_free (use := none) rfl hs S.clos S.kind (fun y hy hl => ?_) (thn (hi pins s σ H _ I h) fun xv s1 h1 => thn h1 fun itv s2 h2 => ?_)
  · have z := List.all_eq_true.mp S.names y hy
    rw [hl] at z
    simpa using z
  · obtain ⟨it, fp, tn, J, H2, rfl, I2, T, st2, f2, hB⟩ := h2
    refine comp_block (RR := fun acc C => compPost (model X.prog X.w) X.A X.xe none (EP X pins σ Q) acc C) S hc hb I2 T st2 f2 hB fun D C s' H' J' hn fC q => ?_
    obtain ⟨m, hm⟩ := hn
    obtain ⟨c0, c1, c2, c3, c4, c5⟩ := fC
    exact ⟨m, hm, fun h' sb => ⟨.ref D, H', J'.turned (it := C) (fun b o hb e => sb.extBut b o hb e) c0 c1 c3 c4 c5, rfl, q⟩⟩
def tSetC (i : Nat) (te : TE) : TS := fun D σ H => te σ H fun v H1 => D.nx (σ.set i (some v)) H1
theorem ps_setComp {wi : TI} {y : Str} {py spos : Pos} {i : Nat} (S : CompOk X x scope cl fr ys) (hc : X.calm = true) (hN : X.N.Nodup) (hy : X.N[i]? = some y) (hl : X.env.scope.names.lookup y = some .local) (hi : PI X (.Name x px) iter wi)
    (hb : ∀ (C : Addr) (s : Shared) (H : Hp) (ex : List Addr) (pn : List (Addr × Obj)), PTs (cxB X (x :: ys) scope cl C s H ex pn) ifs tt ∧ PE (cxB X (x :: ys) scope cl C s H ex pn) elt te)
    (hsw : swapsWith (.ListComp elt [⟨.Name x px, iter, ifs, 0⟩] scope pos) (some (.Name y py)) spos.line X.env = pure true := by rfl)
    (hs : ∀ z, foldedSetIterable iter X.env z = pure z := by intro _; rfl) : PS X (.Assign [.Name y py] (.ListComp elt [⟨.Name x px, iter, ifs, 0⟩] scope pos) spos) (tSetC i (tComp wi fr tt te)) := by
  intro pins s σ H Dn I h
  rw [exec_Assign_Name_used _ _ _ _ hsw]
  refine wpAny_bind (wpAny_standAt (wpAny_bind ?_))
  show wpAny _ X.A (do let _ ← comprehension (.ListComp elt [⟨.Name x px, iter, ifs, 0⟩] scope pos) scope X.env _ (newList []) false (eval iter X.env) (some (assign (.Name y py) X.env))) _ _ s
  refine wpAny_bind (thn (wpAny_comprehension_free (use := some (assign (.Name y py) X.env)) (Q := fun _ s' => SP X pins Dn .next s') rfl hs S.clos S.kind (fun z hz hl => ?_) (thn (hi pins s σ H _ I h) fun xv s1 h1 => thn h1 fun itv s2 h2 => ?_)) fun _ s' hq => wpAny_pure (wpAny_pure hq))
  · have z' := List.all_eq_true.mp S.names z hz
    rw [hl] at z'
    simpa using z'
  · obtain ⟨it, fp, tn, J, H2, rfl, I2, T, st2, f2, hB⟩ := h2
    refine comp_block (RR := fun acc C => compPost (model X.prog X.w) X.A X.xe (some (assign (.Name y py) X.env)) (fun _ s' => SP X pins Dn .next s') acc C) S hc hb I2 T st2 f2 hB fun D C s' H' J' hn fC q => ?_
    obtain ⟨m, oC, es, ep, ho, hd, hr⟩ := hn
    obtain ⟨c0, c1, c2, c3, c4, c5⟩ := fC
    have J2 : Inv X (pins ++ [(C, oC)]) σ H' s' := J'.pins_of fun p hp => by
      rcases List.mem_append.mp hp with z | z
      · exact J'.pin p (List.mem_append_right _ z)
      · have : p = (C, oC) := by simpa using z
        subst this
        exact ⟨ho, c0, c1, c2, fun v z => by rw [hd] at z; cases z⟩
    show wpAny _ X.A (assign (.Name y py) X.env (.ref D)) _ _ _
    refine thn (pg_name (X := X) hN hy (.inl hl) (.inr hl) _ s' σ H' (.ref D) (.ref D) (fun σ' H'' => σ' = σ.set i (some (.ref D)) ∧ H'' = H') J2 rfl ⟨rfl, rfl⟩) fun _ s3 ⟨σ3, H3, J3, e1, e2⟩ => ?_
    subst e1 e2
    obtain ⟨pc, pn0, _⟩ := J3.pin (C, oC) (List.mem_append_right _ (List.mem_append_right _ (List.mem_singleton.mpr rfl)))
    refine ⟨m, ⟨oC, es, ep, pc, hd, hr⟩, fun h' sb => ⟨_, H3, J3.unpinned.turned (it := C) (fun b o hb e => sb.extBut b o hb e) c0 c1 c3 c4 c5, q⟩⟩
end
def compGo (Ok : Hp → Prop) (ρ : L2.St) (tt : TT) (te : TE) : List V → List V → Hp → (List V → Hp → Prop) → Prop
  | [], ys, H, Q => Ok H ∧ Q ys H
  | x :: r, ys, H, Q => Ok H ∧ tt (some x :: ρ) H fun b H1 => if b = true then te (some x :: ρ) H1 fun y H2 => compGo Ok ρ tt te r (ys ++ [y]) H2 Q else compGo Ok ρ tt te r ys H1 Q
structure ItOf (J : It) (Ok : Hp → Prop) (xs : List V) : Prop where
  go : ∀ i H x, Ok H → xs[i]? = some x → J.go i H
  yld : ∀ i H x H', Ok H → J.yld i H x H' → H' = H ∧ (i < xs.length → xs[i]? = some x)
  stop : ∀ i H, Ok H → xs.length ≤ i → J.stop i H
section
variable {J : It} {Ok : Hp → Prop} {xs : List V} {ρ : L2.St} {tt : TT} {te : TE} {H : Hp} {Q : VK} {K : PySem.W.Frag} {a : Addr}
theorem blk_of (O : ItOf J Ok xs) (hn : xs.length ≤ sizeLine) (h : compGo Ok ρ tt te xs [] H fun ys H' => ∀ l, H' l = none → Q (.ref l) (upd H' l (.lst ys))) : tBlk J ρ tt te H Q := by
  refine ⟨fun i m ys H => m = xs.length - i ∧ i ≤ xs.length ∧ ys.length ≤ i ∧ compGo Ok ρ tt te (xs.drop i) ys H fun ys H' => ∀ l, H' l = none → Q (.ref l) (upd H' l (.lst ys)), ⟨_, rfl, Nat.zero_le _, Nat.le_refl _, h⟩, ?_⟩
  rintro i m ys H ⟨rfl, hi, hy, g⟩
  by_cases hlt : i < xs.length
  · have e := List.drop_eq_getElem_cons hlt
    rw [e] at g
    obtain ⟨g0, g1⟩ := g
    refine .inr ⟨O.go i H _ g0 (List.getElem?_eq_getElem hlt), by walk_at "om", fun zs H' => zs.length ≤ i + 1 ∧ compGo Ok ρ tt te (xs.drop (i + 1)) zs H' fun ys H' => ∀ l, H' l = none → Q (.ref l) (upd H' l (.lst ys)), fun zs H' q => ⟨_, by walk_at "om", rfl, hlt, q.1, q.2⟩, fun x H' y => ?_⟩
    obtain ⟨rfl, ex⟩ := O.yld i H x H' g0 y
    have ex := ex hlt
    rw [List.getElem?_eq_getElem hlt] at ex
    cases ex
    have l1 : ∀ y : V, (ys ++ [y]).length ≤ i + 1 := fun y => by rw [List.length_append, List.length_singleton]; walk_at "om"
    have l2 : ys.length ≤ i + 1 := by walk_at "om"
    simp only [l1, l2, true_and]
    exact g1
  · have e : i = xs.length := by walk_at "om"
    subst e
    rw [List.drop_length] at g
    exact .inl ⟨O.stop _ H g.1 (Nat.le_refl _), by walk_at "om", g.2⟩
theorem it_list : ItOf (Itl K a) (fun H => SqL K H a xs) xs :=
  ⟨fun _ _ _ h e => ⟨xs, _, h, e⟩, fun _ _ _ _ h y => ⟨y.1, fun _ => y.2 xs h⟩, fun _ _ h hi => ⟨xs, h, hi⟩⟩
theorem it_tup : ItOf (Itt K a) (fun H => SqT K H a xs) xs :=
  ⟨fun _ _ _ h e => ⟨xs, _, h, e⟩, fun _ _ _ _ h y => ⟨y.1, fun _ => y.2 xs h⟩, fun _ _ h hi => ⟨xs, h, hi⟩⟩
theorem it_rng {lo : Int} {n : Nat} : ItOf (Itr lo n) (fun _ => True) ((List.range n).map fun k => V.int (lo + (k : Nat))) :=
  ⟨fun i _ _ _ e => by
    have := (List.getElem?_eq_some_iff.mp e).1
    show i < n
    simpa using this, fun i _ _ _ _ y => ⟨y.1, fun hi => by
      have hi' : i < n := by simpa using hi
      rw [y.2, List.getElem?_map, List.getElem?_range hi']; rfl⟩, fun i _ _ hi => by
      show n ≤ i
      simpa using hi⟩
theorem compGo_map {p : V → Bool} {f : V → V} {Q' : List V → Hp → Prop} (hOk : Ok H) : ∀ {xs ys : List V}, (∀ x ∈ xs, ∀ Q, Q (p x) H → tt (some x :: ρ) H Q) → (∀ x ∈ xs, p x = true → ∀ Q, Q (f x) H → te (some x :: ρ) H Q) → Q' (ys ++ (xs.filter p).map f) H → compGo Ok ρ tt te xs ys H Q'
  | [], ys, _, _, q => ⟨hOk, by simpa using q⟩
  | x :: r, ys, ht, he, q => by
    refine ⟨hOk, ht x (.head _) _ ?_⟩
    by_cases hb : p x = true
    · rw [if_pos hb]
      refine he x (.head _) hb _ (compGo_map hOk (fun y hy => ht y (.tail _ hy)) (fun y hy => he y (.tail _ hy)) ?_)
      rw [List.filter_cons, if_pos hb] at q
      simpa using q
    · rw [if_neg hb]
      refine compGo_map hOk (fun y hy => ht y (.tail _ hy)) (fun y hy => he y (.tail _ hy)) ?_
      rw [List.filter_cons, if_neg hb] at q
      exact q
end
section
variable {X : Cx} {K : PySem.W.Frag}
theorem ix_seqK (h : X.K = K) : IxR X (rIx K) := h ▸ ix_seq
end
end Gz
set_option Elab.async false
set_option linter.all false
set_option maxRecDepth 100000
set_option maxHeartbeats 4000000
namespace Gz
open PySem PySem.Spec PyProof.Rows L2
mutual
inductive Dat (K : PySem.W.Frag) (H : Hp) : V → PyData → Prop where
  | non : Dat K H .non .none
  | bl (b : Bool) : Dat K H (.bl b) (.bool b)
  | int (i : Int) : Dat K H (.int i) (.int i)
  | str (x : Str) : Dat K H (.str x) (.str x)
  | tup {a : Addr} {xs : List V} {ds : List PyData} (h : SqT K H a xs) (r : Dats K H xs ds) : Dat K H (.ref a) (.tuple ds)
  | lst {a : Addr} {xs : List V} {ds : List PyData} (h : SqL K H a xs) (r : Dats K H xs ds) : Dat K H (.ref a) (.list ds)
inductive Dats (K : PySem.W.Frag) (H : Hp) : List V → List PyData → Prop where
  | nil : Dats K H [] []
  | cons {x : V} {d : PyData} {xs : List V} {ds : List PyData} (h : Dat K H x d) (r : Dats K H xs ds) : Dats K H (x :: xs) (d :: ds)
end
section
variable {X : Cx} {pins : List (Addr × Obj)} {σ : L2.St} {H : Hp} {s : Shared}
mutual
theorem Dat.reads (I : Inv X pins σ H s) : ∀ (d : PyData) {v : V} {u : Value}, Dat X.K H v d → RelV v u → ∃ as, Reads s.heap u d as
  | .none, _, _, .non, r => by cases r; exact ⟨_, .none⟩
  | .bool b, _, _, .bl _, r => by cases r; exact ⟨_, .bool b⟩
  | .int i, _, _, .int _, r => by obtain ⟨t, rfl⟩ := r; exact ⟨_, .int i t⟩
  | .str x, _, _, .str _, r => by obtain ⟨t, rfl⟩ := r; exact ⟨_, .str x t⟩
  | .tuple ds, _, _, .tup h q, r => by
    cases r
    obtain ⟨its, rv, ⟨o, ho, hc, n, hd⟩, _⟩ := I.tuple h
    obtain ⟨as, ra⟩ := Dats.reads I ds q rv
    exact ⟨_, .tuple ho hc hd (by simpa using ra)⟩
  | .list ds, _, _, .lst h q, r => by
    cases r
    obtain ⟨its, rv, ⟨o, n, ho, hc, _, hd⟩, _⟩ := I.list h
    obtain ⟨as, ra⟩ := Dats.reads I ds q rv
    exact ⟨_, .list ho hc hd (by simpa using ra)⟩
theorem Dats.reads (I : Inv X pins σ H s) : ∀ (ds : List PyData) {vs : List V} {us : List Value}, Dats X.K H vs ds → Vals vs us → ∃ as, ReadsAll s.heap us ds as
  | [], _, _, .nil, r => by cases r; exact ⟨_, .nil⟩
  | d :: ds, _, _, .cons h q, r => by
    cases r with
    | cons r1 r2 =>
      obtain ⟨as, ra⟩ := Dat.reads I d h r1
      obtain ⟨bs, rb⟩ := Dats.reads I ds q r2
      exact ⟨_, .cons ra rb⟩
end
def rEqD (K : PySem.W.Frag) (neg : Bool) : R2 := fun x y H Q => ∃ d e, Dat K H x d ∧ Dat K H y e ∧ d.canLay0 = true ∧ e.canLay0 = true ∧ d.depth ≤ 60 ∧ Q (.bl (if neg = true then !PyData.eqv d e else PyData.eqv d e)) H
theorem op_eqD (hu : X.A.units + 64 < cLine) : OpR X (compareOp .Eq) (rEqD X.K false) := by
  intro pins s σ H x y v u Q I rx ry h
  obtain ⟨d, e, dx, dy, c1, c2, dd, q⟩ := h
  obtain ⟨as, ra⟩ := Dat.reads I d dx rx
  obtain ⟨bs, rb⟩ := Dat.reads I e dy ry
  exact SeqAt.compareEq_reads ra rb c1 c2 (by omega) ⟨.bl _, H, I, rfl, q⟩
theorem op_neD (hu : X.A.units + 64 < cLine) : OpR X (compareOp .NotEq) (rEqD X.K true) := by
  intro pins s σ H x y v u Q I rx ry h
  obtain ⟨d, e, dx, dy, c1, c2, dd, q⟩ := h
  obtain ⟨as, ra⟩ := Dat.reads I d dx rx
  obtain ⟨bs, rb⟩ := Dat.reads I e dy ry
  exact SeqAt.compareNe_reads ra rb c1 c2 (by omega) ⟨.bl _, H, I, rfl, q⟩
end
end Gz
set_option Elab.async false
set_option linter.all false
set_option maxRecDepth 100000
set_option maxHeartbeats 4000000
namespace Gz
open PySem PySem.Spec PyProof.Rows L2
abbrev En := Option Int
def ev : En → V
  | none => .non
  | some i => .int i
theorem ev_none : ev none = .non := rfl
theorem ev_some (i : Int) : ev (some i) = .int i := rfl
def crossed : En → En → Bool
  | some x, some y => decide (y < x)
  | _, _ => false
def IsS (H : Hp) (v : V) (a b : En) : Prop := ∃ p, v = .ref p ∧ H p = some (.tup [ev a, ev b])
theorem IsS.same {H H1 : Hp} {v : V} {a b : En} (h : IsS H v a b) (s : Same H H1) : IsS H1 v a b := by
  obtain ⟨p, e, h⟩ := h
  exact ⟨p, e, s _ _ h⟩
theorem IsS.new {H : Hp} {p : Addr} {a b : En} : IsS (upd H p (.tup [ev a, ev b])) (.ref p) a b := ⟨p, rfl, upd_same⟩
def hold (a b : En) (n : Int) : Bool := !crossed a (some n) && !crossed (some n) b
theorem hold_iff {a b : En} {n : Int} : hold a b n = true ↔ (∀ x, a = some x → x ≤ n) ∧ (∀ y, b = some y → n ≤ y) := by
  unfold hold
  rcases a with _ | x <;> rcases b with _ | y <;> simp [crossed]
theorem hold_none (b : En) (n : Int) : hold none b n = !crossed (some n) b := by unfold hold crossed; simp
theorem hold_hi (y n : Int) : hold none (some y) n = decide (n ≤ y) := by
  rw [hold_none]
  by_cases h : y < n
  · simp [crossed, h]
  · simp [crossed, h]; omega
theorem hold_lo {x n : Int} (b : En) (h : ¬ n < x) : hold (some x) b n = hold none b n := by unfold hold; simp [crossed, h]
theorem hold_out {x n : Int} (b : En) (h : n < x) : hold (some x) b n = false := by unfold hold; simp [crossed, h]
def maxE : En → En → En
  | some x, some y => some (if y > x then y else x)
  | some x, none => some x
  | none, b => b
def minE : En → En → En
  | some x, some y => some (if y < x then y else x)
  | some x, none => some x
  | none, b => b
def nums (a b : En) : List Int := [a, b].filterMap id
def notN (v : V) : Bool := !decide (v = .non)
theorem nums_V (a b : En) : ([ev a, ev b].filter notN).map (fun v => v) = (nums a b).map V.int := by
  rcases a with _ | x <;> rcases b with _ | y <;> simp [ev, nums, notN]
theorem max_nums (a b : En) : mmV maxL (nums a b) .non = ev (maxE a b) := by
  rcases a with _ | x <;> rcases b with _ | y <;> simp [nums, maxE, maxL, mmV, ev]
theorem min_nums (a b : En) : mmV minL (nums a b) .non = ev (minE a b) := by
  rcases a with _ | x <;> rcases b with _ | y <;> simp [nums, minE, minL, mmV, ev]
def MeetIs (H : Hp) (v : V) (lo hi : En) : Prop := (crossed lo hi = true → v = .non) ∧ (crossed lo hi = false → IsS H v lo hi)
theorem comp_ends {K : PySem.W.Frag} {H : Hp} {p : Addr} {a b : En} {Q : VK} {tt : TT} {te : TE} (hp : H p = some (.tup [ev a, ev b])) (ht : ∀ x H Q, Q (notN x) H → tt [some x] H Q) (he : ∀ x H Q, Q x H → te [some x] H Q)
    (q : ∀ l, H l = none → Q (.ref l) (upd H l (.lst ((nums a b).map V.int)))) : tBlk (Itt K p) [] tt te H Q := by
  refine blk_of (xs := [ev a, ev b]) it_tup line2 (compGo_map (p := notN) (f := fun v => v) (SqT.of hp) (fun x _ Q h => ht x H Q h) (fun x _ _ Q h => he x H Q h) ?_)
  rw [List.nil_append, nums_V]
  exact q
end Gz
set_option Elab.async false
set_option linter.all false
set_option maxHeartbeats 4000000
namespace Gz
open L2
abbrev S2 := En × En
def hs (s : S2) (n : Int) : Bool := hold s.1 s.2 n
def okS (s : S2) : Prop := crossed s.1 s.2 = false
def leLo (a b : En) : Prop := a = none ∨ ∃ x y, a = some x ∧ b = some y ∧ x ≤ y
theorem leLo.trans {a b c : En} (h : leLo a b) (h' : leLo b c) : leLo a c := by
  rcases h with rfl | ⟨x, y, rfl, rfl, h1⟩
  · exact .inl rfl
  · rcases h' with h' | ⟨x', y', e, rfl, h2⟩
    · cases h'
    · cases e; exact .inr ⟨_, _, rfl, rfl, by omega⟩
theorem hs_iff {s : S2} {n : Int} : hs s n = true ↔ (∀ x, s.1 = some x → x ≤ n) ∧ (∀ y, s.2 = some y → n ≤ y) := hold_iff
def leHi (a b : En) : Prop := b = none ∨ ∃ x y, a = some x ∧ b = some y ∧ x ≤ y
theorem leHi.trans {a b c : En} (h : leHi a b) (h' : leHi b c) : leHi a c := by
  rcases h' with rfl | ⟨x', y', rfl, rfl, h2⟩
  · exact .inl rfl
  · rcases h with h | ⟨x, y, rfl, e, h1⟩
    · cases h
    · cases e; exact .inr ⟨_, _, rfl, rfl, by omega⟩
open PySem in
def Sts (H : Hp) : List V → List S2 → Prop
  | [], [] => True
  | v :: vs, s :: ss => IsS H v s.1 s.2 ∧ Sts H vs ss
  | _, _ => False
section
variable {H H1 : Hp} {K : PySem.W.Frag}
theorem IsS.put {v : V} {a b : En} {l : PySem.Addr} {ys : List V} {o : HO} (h : IsS H v a b) (hl : H l = some (.lst ys)) : IsS (upd H l o) v a b := by
  obtain ⟨p, e, h⟩ := h
  exact ⟨p, e, by rw [upd_ne (ne_of h hl fun z => nomatch z)]; exact h⟩
theorem Sts.len : ∀ {vs : List V} {ss : List S2}, Sts H vs ss → vs.length = ss.length
  | [], [], _ => rfl
  | _ :: _, _ :: _, h => by simp [Sts.len h.2]
  | [], _ :: _, h => h.elim
  | _ :: _, [], h => h.elim
open PySem
def datE : En → PyData
  | none => .none
  | some i => .int i
def datS (s : S2) : PyData := .tuple [datE s.1, datE s.2]
theorem dat_ev (e : En) : Dat K H (ev e) (datE e) := by
  rcases e with _ | x
  · exact .non
  · exact .int x
theorem IsS.dat {v : V} {a b : En} (h : IsS H v a b) : Dat K H v (datS (a, b)) := by
  obtain ⟨p, rfl, h⟩ := h
  exact .tup (SqT.of h) (.cons (dat_ev a) (.cons (dat_ev b) .nil))
end
end Gz
set_option Elab.async false
set_option linter.all false
set_option maxRecDepth 100000
set_option maxHeartbeats 4000000
namespace Gz
open PySem PySem.Spec PyProof.Rows L2
def Its (lo st : Int) (n : Nat) : It := ⟨fun i _ => i < n, fun i H x H' => H' = H ∧ x = .int (lo + (i : Int) * st), fun i _ => n ≤ i⟩
theorem turn_step {P : Program} {w : World} {K : PySem.W.Frag} {tg : Expr} (it : Addr) (lo st : Int) (n : Nat) : Turn P w K tg (Its lo st n) [it] it (fun i h => IsRangeIter h it (lo + (i : Nat) * st) ((n : Int) - (i : Nat)) st) where
  mem := by simp
  obj := fun i h q b hb => by
    have e : b = it := by simpa using hb
    subst e
    exact ⟨_, q, fun v z => by
      have z' : Data.fields _ = Data.cell v := z
      cases z'⟩
  keep := fun i h h' q k => k it (by simp) _ q
  item := by
    intro X hP hw hK hc i pins s σ H E I hf q hg
    subst hP hw hK
    obtain ⟨f0, f1, f2, f3, f4, f5⟩ := hf it (by simp)
    have W := Walks.range (prog := X.prog) (w := X.w) (I.ok.hd hc) it lo st n
    refine W.item i s _ _ hg q fun v h' tk hv q' kk => ?_
    obtain ⟨t, rfl⟩ := hv
    have I1 : Inv X pins σ H { s with heap := h', toks := tk } := I.turned (fun b o hb e => kk b o (by simpa using hb) e) f0 f1 f3 f4 f5
    exact ⟨_, rfl, go_of (s := { s with heap := h', toks := tk }) (n := "range_iterator") q' rfl rfl (by decide) ⟨.int (lo + (i : Int) * st), H, I1, ⟨t, rfl⟩, ⟨rfl, rfl⟩, q', fun b hb => (hf b hb).1⟩⟩
  done := by
    intro X hP hw hK hc i pins s σ H E I hf q hg
    subst hP hw hK
    obtain ⟨f0, f1, f2, f3, f4, f5⟩ := hf it (by simp)
    exact wpAny_pyNext_range_end (I.ok.hd hc) q (by have : n ≤ i := hg; omega) fun h' eb => ⟨rfl, I.turned (t' := s.toks) (fun b o hb e => eb b o hb e) f0 f1 f3 f4 f5⟩
  self := fun _ _ _ _ _ q h => wpAny_pyIter_rangeiter q h
def stepN (lo hi st : Int) : Nat := (Builtin.Range.rangeSize lo hi st).toNat
def iRng3 (ta : TA) : TI := fun σ H R => ta σ H fun vs H1 => ∃ i j c : Int, vs = [.int i, .int j, .int c] ∧ (-1000000 ≤ i ∧ i ≤ 1000000 ∧ -1000000 ≤ j ∧ j ≤ 1000000 ∧ -1000000 ≤ c ∧ c ≤ 1000000 ∧ c ≠ 0) ∧ R (Its i c (stepN i j c)) H1
theorem size_nn (i j c : Int) (h : c ≠ 0) : 0 ≤ Builtin.Range.rangeSize i j c := by
  unfold Builtin.Range.rangeSize
  split
  · rename_i hc
    split
    · have := Int.ediv_nonneg (show 0 ≤ j - i - 1 by omega) (show 0 ≤ c by omega); omega
    · omega
  · split
    · have := Int.ediv_nonneg (show 0 ≤ i - j - 1 by omega) (show 0 ≤ -c by omega); omega
    · omega
theorem size_le (i j c : Int) (h : -1000000 ≤ i ∧ i ≤ 1000000 ∧ -1000000 ≤ j ∧ j ≤ 1000000 ∧ c ≠ 0) : Builtin.Range.rangeSize i j c ≤ 2000000 := by
  unfold Builtin.Range.rangeSize
  split
  · split
    · have := Int.ediv_le_self (c) (show 0 ≤ j - i - 1 by omega); omega
    · omega
  · split
    · have := Int.ediv_le_self (-c) (show 0 ≤ i - j - 1 by omega); omega
    · omega
theorem small_step {i j c : Int} (h : -1000000 ≤ i ∧ i ≤ 1000000 ∧ -1000000 ≤ j ∧ j ≤ 1000000 ∧ -1000000 ≤ c ∧ c ≤ 1000000 ∧ c ≠ 0) : Builtin.Range.small i j c = true := by
  have h1 := size_nn i j c h.2.2.2.2.2.2
  have h2 := size_le i j c ⟨h.1, h.2.1, h.2.2.1, h.2.2.2.1, h.2.2.2.2.2.2⟩
  unfold Builtin.Range.small
  generalize Builtin.Range.rangeSize i j c = n at h1 h2 ⊢
  simp only [Builtin.Range.rangeFitsLong, Bool.and_eq_true, Bool.or_eq_true, decide_eq_true_eq, beq_iff_eq]
  refine ⟨by omega, .inr ?_⟩
  split <;> simp only [Bool.and_eq_true, decide_eq_true_eq] <;> omega
theorem pi_range3 {X : Cx} {tg a b c : Expr} {ta : TA} {p pos : Pos} (hg : Gl X "range") (hm : X.mg "range" = none) (ha : PA X [a, b, c] ta) (hs : starEach [a, b, c] X.env = (false, eval a X.env) :: starEach [b, c] X.env := by rfl) (hs2 : starEach [b, c] X.env = [(false, eval b X.env), (false, eval c X.env)] := by rfl) :
    PI X tg (.Call (.Name "range" p) [a, b, c] [] pos) (iRng3 ta) := by
  intro pins s σ H R I h
  refine Call_ (ld_blt I hg hm boot_range (PyProof.Rows.callWith_type1 (thn (ha pos pins s σ H _ I h) fun us s1 ⟨vs, H1, I1, r1, q1⟩ => ?_) (by rw [hs]) (by rw [hs2]; rfl)))
  obtain ⟨i, j, k, e, hb, q⟩ := q1
  subst e
  cases r1 with
  | cons r rr =>
    cases rr with
    | cons r' rr =>
      cases rr with
      | cons r'' rr =>
        cases rr
        obtain ⟨t, rfl⟩ := r
        obtain ⟨t', rfl⟩ := r'
        obtain ⟨t'', rfl⟩ := r''
        have hk : k ≠ 0 := hb.2.2.2.2.2.2
        refine call_range_3 hk ?_ (.inl (PyProof.noPylong_small (by omega)))
        refine wpAny_pyIter_range (IsRange.new ..) (small_step hb) ?_
        have I2 : Inv X pins σ H1 { s1 with heap := s1.heap.push { cls := .type "range", data := .fields #[.int i t, .int j t', .int k t''] }, toks := s1.toks } := I1.kept fun b o e => Heap.get?_push_of_some _ e
        refine ⟨_, [_], _, _, H1, rfl, I2.kept (t' := s1.toks) fun b o e => Heap.get?_push_of_some _ e, turn_step _ i k (stepN i j k), ?_, fun b hb => ?_, q⟩
        · have e1 : i + ((0 : Nat) : Int) * k = i := by simp
          have e2 : ((stepN i j k : Nat) : Int) - ((0 : Nat) : Int) = Builtin.Range.rangeSize i j k := by
            have := size_nn i j k hk
            unfold stepN; omega
          show IsRangeIter _ _ (i + ((0 : Nat) : Int) * k) (((stepN i j k : Nat) : Int) - ((0 : Nat) : Int)) k
          rw [e1, e2]
          exact Heap.get?_push_size _ rfl
        · have e : b = (s1.heap.push { cls := .type "range", data := .fields #[.int i t, .int j t', .int k t''] }).objs.size := by simpa using hb
          subst e
          exact I2.fpOk (Nat.le_refl _) (I2.hok.fresh (Nat.le_refl _))
section
variable {g : TG} {tb : TS} {D : Ends} {σ : L2.St} {H : Hp} {lo st : Int} {n : Nat}
theorem for_rng2 {ta : TA} : tFor (iRng2 ta) g tb D σ H = ta σ H (fun vs H1 => ∃ i j : Int, vs = [.int i, .int j] ∧ (-(2 ^ 62) ≤ i ∧ i < 2 ^ 62 ∧ -(2 ^ 62) ≤ j ∧ j < 2 ^ 62) ∧ FJ (Itr i (j - i).toNat) g tb D σ H1) := rfl
theorem for_rng3 {ta : TA} : tFor (iRng3 ta) g tb D σ H = ta σ H (fun vs H1 => ∃ i j c : Int, vs = [.int i, .int j, .int c] ∧ (-1000000 ≤ i ∧ i ≤ 1000000 ∧ -1000000 ≤ j ∧ j ≤ 1000000 ∧ -1000000 ≤ c ∧ c ≤ 1000000 ∧ c ≠ 0) ∧ FJ (Its i c (stepN i j c)) g tb D σ H1) := rfl
theorem by_step (Pv : Nat → L2.St → Hp → Prop) (h0 : Pv 0 σ H)
    (hs : ∀ i σ H, i < n → Pv i σ H → g (.int (lo + (i : Int) * st)) σ H fun σ2 H2 => tb { D with nx := Pv (i + 1), ct := Pv (i + 1), bk := D.nx } σ2 H2) (hd : ∀ σ H, Pv n σ H → D.nx σ H) : FJ (Its lo st n) g tb D σ H := by
  refine ⟨fun i m σ H => m = n - i ∧ i ≤ n ∧ Pv i σ H, ⟨n, by simp, Nat.zero_le _, h0⟩, ?_⟩
  rintro i m σ H ⟨rfl, hi, p⟩
  by_cases hlt : i < n
  · refine .inr ⟨hlt, Pv (i + 1), fun σ' H' p' => ⟨n - (i + 1), by omega, rfl, hlt, p'⟩, fun x H' y => ?_⟩
    obtain ⟨e, y⟩ := y
    subst e y
    exact hs i σ _ hlt p
  · have e : i = n := by omega
    subst e
    exact .inl ⟨Nat.le_refl _, hd σ H p⟩
end
end Gz
set_option Elab.async false
set_option linter.all false
set_option maxRecDepth 100000
set_option maxHeartbeats 4000000
namespace Gz
open PySem PySem.Spec PyProof.Rows L2
local macro_rules | `(tactic| walk_at "om") => `(tactic| ((try simp only [PySem.Addr] at *); omega))
section
variable {X : Cx} {pins : List (Addr × Obj)} {σ : L2.St} {H : Hp} {s : Shared} {h' : Heap}
theorem turnsHok {ch : List Addr} (I : Inv X pins σ H s) (k : ∀ b o, b ∉ ch → s.heap.get? b = some o → h'.get? b = some o) (hf : ∀ b ∈ ch, FpOk X pins H b) {H' : Hp} (up : ∀ b u, H b = some u → H' b = some u) : ∀ b u, H b = some u → ObjOk X.prog X.w H' h' b u := by
  have nch : ∀ b u, H b = some u → b ∉ ch := fun b u e z => by rw [(hf b z).1] at e; cases e
  intro b u e
  refine (I.hok b u e).stay (fun c v hc q => k c v ?_ q) (fun c q => up c _ q) fun c xs q => up c _ q
  rcases hc with z | z
  · rw [z]; exact nch b u e
  · exact nch c _ z
theorem Inv_turns {t' : Nat} {ch : List Addr} (I : Inv X pins σ H s) (k : ∀ b o, b ∉ ch → s.heap.get? b = some o → h'.get? b = some o) (hf : ∀ b ∈ ch, FpOk X pins H b) : Inv X pins σ H { s with heap := h', toks := t' } := by
  refine I.step (g' := s.gens) (d' := s.drawn) (ch := ch) (fun b hb => ?_) (fun b o _ _ hc e _ => k b o hc e) (fun b o _ _ hc e _ => ⟨o.slots, k b o hc e⟩) (fun _ _ _ _ n => n)
    (fun b o hc e => ⟨o, k b o hc e⟩) (fun _ _ e => e) (fun _ _ _ e => e) (fun b ps e => ⟨#[], by rw [e]; simp⟩) (fun m hm => ?_) (fun b u e => turnsHok I k hf (fun _ _ q => q) b u e) I.bare
  · obtain ⟨_, d1, d2, d3, d4, d5⟩ := hf b hb
    exact ⟨d3, d1, d4, d5⟩
  · obtain ⟨o, es, ep, ho, r⟩ := hm
    exact ⟨o, es, ep, k _ o (fun z => (hf _ z).2.1 rfl) ho, r⟩
theorem Inv_turnsLaid {t' : Nat} {ch : List Addr} {T : Addr} {o : HO} (I : Inv X pins σ H s) (k : ∀ b o, b ∉ ch → s.heap.get? b = some o → h'.get? b = some o) (hf : ∀ b ∈ ch, FpOk X pins H b) (hT : s.heap.objs.size ≤ T)
    (new : ObjOk X.prog X.w (upd H T o) h' T o) : Inv X pins σ (upd H T o) { s with heap := h', toks := t' } := by
  have hn := I.hok.fresh hT
  have neT : ∀ b u, s.heap.get? b = some u → b ≠ T := fun b u e => Nat.ne_of_lt (Nat.lt_of_lt_of_le (Heap.lt_size e) hT)
  have neH : ∀ b u, H b = some u → b ≠ T := fun b u e => ne_of_none e hn
  have up : ∀ b u, H b = some u → upd H T o b = some u := fun b u e => by rw [upd_ne (neH b u e)]; exact e
  refine I.step (g' := s.gens) (d' := s.drawn) (ch := ch) (fun b hb => ?_) (fun b o _ _ hc e _ => k b o hc e) (fun b o _ _ hc e _ => ⟨o.slots, k b o hc e⟩) (fun b u _ e n => by rw [upd_ne (neT b u e)]; exact n)
    (fun b o hc e => ⟨o, k b o hc e⟩) (fun b xs e => up b _ e) (fun b _ _ e => up b _ e) (fun b ps e => ⟨#[], by rw [up b _ e]; simp⟩) (fun m hm => ?_) (fun b u e => ?_) I.bare
  · obtain ⟨_, d1, d2, d3, d4, d5⟩ := hf b hb
    exact ⟨d3, d1, d4, d5⟩
  · obtain ⟨o, es, ep, ho, r⟩ := hm
    exact ⟨o, es, ep, k _ o (fun z => (hf _ z).2.1 rfl) ho, r⟩
  · by_cases hb : b = T
    · subst hb; rw [upd_same] at e; cases e; exact new
    · rw [upd_ne hb] at e
      exact turnsHok I k hf up b u e
end
def Itv (K : PySem.W.Frag) (a : Addr) (n : Nat) : It :=
  ⟨fun i H => ∃ xs x, SqL K H a xs ∧ xs.length = n ∧ xs.reverse[i]? = some x, fun i H x H' => H' = H ∧ ∀ xs, SqL K H a xs → xs.length = n → xs.reverse[i]? = some x, fun i _ => i = n⟩
theorem turn_rev {P : Program} {w : World} {K : PySem.W.Frag} {tg : Expr} (a it : Addr) (n : Nat) : Turn P w K tg (Itv K a n) [it] it (fun i h => i ≤ n ∧ h.IsRevIter it a ((n : Int) - 1 - (i : Nat))) where
  mem := by simp
  obj := fun i h st b hb => by
    have e : b = it := by simpa using hb
    subst e
    obtain ⟨_, o, e, c, d⟩ := st
    exact ⟨o, e, fun v z => by rw [d] at z; cases z⟩
  keep := fun i h h' st k => ⟨st.1, st.2.at fun o e => k it (by simp) o e⟩
  item := by
    intro X hP hw hK hc i pins s σ H E I hf st hg
    subst hP hw hK
    obtain ⟨xs, x, hq, hn, hx⟩ := hg
    obtain ⟨its, rv, p, hz⟩ := I.list hq
    have hl := rv.length
    have hi : i < n := by
      have := (List.getElem?_eq_some_iff.mp hx).1
      rw [List.length_reverse] at this; omega
    have hx' : xs[n - 1 - i]? = some x := by
      rw [List.getElem?_reverse (by omega), hn] at hx; exact hx
    obtain ⟨u, hu, ru⟩ := rv.get hx'
    obtain ⟨f0, f1, f2, f3, f4, f5⟩ := hf it (by simp)
    have st' := st.2
    rw [show (n : Int) - 1 - (i : Nat) = ((n - 1 - i : Nat) : Int) by omega] at st'
    refine wpAny_pyNext_rev_item st' p.isList (x := u) (by simpa using hu) fun h' st' sb => ?_
    have I1 : Inv X pins σ H { s with heap := h' } := I.turned (t' := s.toks) (fun b o hb e => (sb.2 b hb).trans e) f0 f1 f3 f4 f5
    obtain ⟨o, e, c, d⟩ := id st'
    rw [show ((n - 1 - i : Nat) : Int) - 1 = (n : Int) - 1 - ((i + 1 : Nat) : Int) by omega] at st'
    exact ⟨u, rfl, go_of (s := { s with heap := h' }) e c d (by decide) ⟨x, H, I1, ru, ⟨rfl, fun ys hy _ => by rw [I.list_inj hy hq]; exact hx⟩, ⟨by omega, st'⟩, fun b hb => (hf b hb).1⟩⟩
  done := by
    intro X hP hw hK hc i pins s σ H E I hf st hg
    subst hP hw hK
    have hg' : i = n := hg
    subst hg'
    obtain ⟨f0, f1, f2, f3, f4, f5⟩ := hf it (by simp)
    have st' := st.2
    rw [show (i : Int) - 1 - (i : Nat) = -1 by omega] at st'
    exact wpAny_pyNext_rev_end (I.ok.hd hc) st' fun h' eb => ⟨rfl, I.turned (t' := s.toks) (fun b o hb e => eb b o hb e) f0 f1 f3 f4 f5⟩
  self := fun _ _ _ _ _ st h => wpAny_pyIter_revIter st.2 h
def iRev (K : PySem.W.Frag) (ta : TA) : TI := fun σ H R => ta σ H fun vs H1 => ∃ a xs, vs = [.ref a] ∧ SqL K H1 a xs ∧ R (Itv K a xs.length) H1
theorem pi_rev {X : Cx} {tg e : Expr} {ta : TA} {p pos : Pos} (hg : Gl X "reversed") (hm : X.mg "reversed" = none) (ha : PA X [e] ta) (hs : starEach [e] X.env = [(false, eval e X.env)] := by rfl) : PI X tg (.Call (.Name "reversed" p) [e] [] pos) (iRev X.K ta) := by
  intro pins s σ H R I h
  refine Call_ (ld_blt I hg hm b_reversed (PyProof.Rows.callWith_type1 (thn (ha pos pins s σ H _ I h) fun us s1 ⟨vs, H1, I1, r1, q1⟩ => ?_) hs rfl))
  obtain ⟨a, xs, rfl, hq, q⟩ := q1
  obtain ⟨u, rfl, ru⟩ := vals1 r1
  cases ru
  obtain ⟨its, rv, p, hz⟩ := I1.list hq
  refine call_reversed_list p.isList ?_
  have hl := rv.length
  refine wpAny_pyIter_revIter (i := (its.toArray.size : Int) - 1) (l := a) ⟨_, Heap.get?_push_size _ rfl, rfl, rfl⟩ ?_
  refine ⟨s1.heap.objs.size, [s1.heap.objs.size], _, _, H1, rfl, I1.kept (t' := s1.toks) fun b o e => Heap.get?_push_of_some _ e, turn_rev a _ xs.length, ⟨Nat.zero_le _, _, Heap.get?_push_size _ rfl, rfl, ?_⟩, fun b hb => ?_, q⟩
  · rw [List.size_toArray, ← hl]; simp; rfl
  · have e : b = s1.heap.objs.size := by simpa using hb
    subst e
    exact I1.fpOk (Nat.le_refl _) (I1.hok.fresh (Nat.le_refl _))
def Ite (K : PySem.W.Frag) (a : Addr) : It :=
  ⟨fun i H => ∃ xs x, SqL K H a xs ∧ xs[i]? = some x, fun i H v H' => ∃ (p : Addr) (x : V), v = .ref p ∧ H p = none ∧ H' = upd H p (.tup [.int i, x]) ∧ ∀ xs, SqL K H a xs → xs[i]? = some x, fun i H => ∃ xs, SqL K H a xs ∧ xs.length ≤ i⟩
theorem line2' : 2 ≤ sizeLine := by decide
theorem turn_enum {P : Program} {w : World} {K : PySem.W.Frag} {es : List Expr} {k : Nat} {tp : Pos} (a e it : Addr) (hei : e ≠ it) : Turn P w K (.Tuple es k tp) (Ite K a) [e, it] e (fun i h => (∃ old, IsEnum h e it (i : Nat) old) ∧ h.IsListIter it a i) where
  mem := by simp
  obj := fun i h st b hb => by
    obtain ⟨⟨old, he⟩, o, ho, c, d⟩ := st
    have hb' : b = e ∨ b = it := by simpa using hb
    rcases hb' with rfl | rfl
    · exact ⟨_, he, fun v z => by
        have z' : Data.fields _ = Data.cell v := z
        cases z'⟩
    · exact ⟨o, ho, fun v z => by rw [d] at z; cases z⟩
  keep := fun i h h' st kk => by
    obtain ⟨⟨old, he⟩, hi⟩ := st
    exact ⟨⟨old, kk e (by simp) _ he⟩, hi.at fun o e => kk it (by simp) o e⟩
  item := by
    intro X hP hw hK hc i pins s σ H E I hf st hg
    subst hP hw hK
    obtain ⟨xs, x, hq, hx⟩ := hg
    obtain ⟨⟨old, he⟩, hit⟩ := st
    obtain ⟨its, rv, p, hz⟩ := I.list hq
    obtain ⟨u, hu, ru⟩ := rv.get hx
    refine wpAny_pyNext_enum_item he hit p.isList (x := u) (by simpa using hu) hei fun h1 ho hit1 hT hsz hk => ?_
    refine ⟨_, rfl, wpAny_letOwnedTupleGo_enum ho fun h2 he2 hs2 => ?_⟩
    have hs2' : Heap.SameBut e h1 h2 := hs2
    have neT : s.heap.objs.size ≠ e := Nat.ne_of_gt (Heap.lt_size he)
    have up : ∀ b o, b ∉ [e, it] → s.heap.get? b = some o → h2.get? b = some o := fun b o hb q => by
      have hb' : b ≠ e ∧ b ≠ it := by simpa using hb
      exact hs2'.extBut b o hb'.1 (hk b o hb'.1 hb'.2 q)
    have hn : H s.heap.objs.size = none := I.hok.fresh (Nat.le_refl _)
    refine ⟨.ref s.heap.objs.size, upd H s.heap.objs.size (.tup [.int i, x]), Inv_turnsLaid (s := s) (h' := h2) (t' := s.toks + 1) I up hf (Nat.le_refl _) ⟨line2', [.int i s.toks, u], .cons ⟨_, rfl⟩ (.cons ru .nil), ?_⟩, rfl, ⟨_, x, rfl, hn, rfl, fun ys hy => by rw [I.list_inj hy hq]; exact hx⟩, ⟨⟨u, ?_⟩, ?_⟩, fun b hb => ?_⟩
    · have := hs2'.extBut _ _ neT hT
      exact ⟨_, this, rfl, _, rfl⟩
    · have : ((i : Int) + 1) = ((i + 1 : Nat) : Int) := by omega
      rw [← this]; exact he2
    · exact hit1.at fun o q => hs2'.extBut _ _ (Ne.symm hei) q
    · rw [upd_ne]
      · exact (hf b hb).1
      · have hb' : b = e ∨ b = it := by simpa using hb
        rcases hb' with rfl | rfl
        · exact Ne.symm neT
        · obtain ⟨o, q, _⟩ := hit
          exact Nat.ne_of_lt (Heap.lt_size q)
  done := by
    intro X hP hw hK hc i pins s σ H E I hf st hg
    subst hP hw hK
    obtain ⟨xs, hq, hx⟩ := hg
    obtain ⟨⟨old, he⟩, hit⟩ := st
    obtain ⟨its, rv, p, hz⟩ := I.list hq
    have hl := rv.length
    refine wpAny_pyNext_enum_end (I.ok.hd hc) he hit p.isList (by simp; omega) fun h' eb => ⟨rfl, Inv_turns (t' := s.toks) I (fun b o hb q => ?_) hf⟩
    have hb' : b ≠ e ∧ b ≠ it := by simpa using hb
    exact eb b o hb'.2 q
  self := fun _ i s Q E st h => by
    obtain ⟨⟨old, he⟩, _⟩ := st
    exact wpAny_pyIter_enum he h
def iEnum (K : PySem.W.Frag) (ta : TA) : TI := fun σ H R => ta σ H fun vs H1 => ∃ a, vs = [.ref a] ∧ (∃ xs, SqL K H1 a xs) ∧ R (Ite K a) H1
theorem pi_enum {X : Cx} {es : List Expr} {k : Nat} {tp : Pos} {e : Expr} {ta : TA} {p pos : Pos} (hg : Gl X "enumerate") (hm : X.mg "enumerate" = none) (ha : PA X [e] ta) (hs : starEach [e] X.env = [(false, eval e X.env)] := by rfl) : PI X (.Tuple es k tp) (.Call (.Name "enumerate" p) [e] [] pos) (iEnum X.K ta) := by
  intro pins s σ H R I h
  refine Call_ (ld_blt I hg hm b_enumerate (PyProof.Rows.callWith_type1 (thn (ha pos pins s σ H _ I h) fun us s1 ⟨vs, H1, I1, r1, q1⟩ => ?_) hs rfl))
  obtain ⟨a, rfl, ⟨xs, hq⟩, q⟩ := q1
  obtain ⟨u, rfl, ru⟩ := vals1 r1
  cases ru
  obtain ⟨its, rv, p, hz⟩ := I1.list hq
  refine call_enumerate_list p.isList fun h' he hit hsz hk => ?_
  refine wpAny_pyIter_enum he ?_
  have I2 : Inv X pins σ H1 { s1 with heap := h' } := I1.kept (t' := s1.toks) hk
  refine ⟨s1.heap.objs.size + 1, [s1.heap.objs.size + 1, s1.heap.objs.size], _, _, H1, rfl, I2, turn_enum a _ _ (by walk_at "om"), ⟨⟨.none, he⟩, hit⟩, fun b hb => ?_, q⟩
  have hb' : b = s1.heap.objs.size + 1 ∨ b = s1.heap.objs.size := by simpa using hb
  rcases hb' with rfl | rfl
  · exact I1.fpOk (Nat.le_succ _) (I1.hok.fresh (Nat.le_succ _))
  · exact I1.fpOk (Nat.le_refl _) (I1.hok.fresh (Nat.le_refl _))
def Itz (K : PySem.W.Frag) (a b : Addr) : It :=
  ⟨fun i H => ∃ xs ys x y, SqL K H a xs ∧ SqL K H b ys ∧ xs[i]? = some x ∧ ys[i]? = some y, fun i H v H' => ∃ (p : Addr) (x y : V), v = .ref p ∧ H p = none ∧ H' = upd H p (.tup [x, y]) ∧ (∀ xs, SqL K H a xs → xs[i]? = some x) ∧ ∀ ys, SqL K H b ys → ys[i]? = some y,
    fun i H => ∃ xs ys, SqL K H a xs ∧ SqL K H b ys ∧ (xs.length ≤ i ∨ ys.length ≤ i)⟩
theorem turn_zip {P : Program} {w : World} {K : PySem.W.Frag} {es : List Expr} {k : Nat} {tp : Pos} (a b z TI TO i1 i2 : Addr) (D : ZipApart z TI TO i1 i2 a b) : Turn P w K (.Tuple es k tp) (Itz K a b) [z, TI, TO, i1, i2] z
    (fun i h => IsZip h z TI TO .none ∧ IsPair h TI (.ref i1) (.ref i2) ∧ (∃ a b, IsPair h TO a b) ∧ h.IsListIter i1 a i ∧ h.IsListIter i2 b i) where
  mem := by simp
  obj := fun i h st c hc => by
    obtain ⟨hz, hTI, ⟨ta, tb, hTO⟩, ⟨o1, h1, c1, d1⟩, ⟨o2, h2, c2, d2⟩⟩ := st
    have hc' : c = z ∨ c = TI ∨ c = TO ∨ c = i1 ∨ c = i2 := by simpa using hc
    rcases hc' with rfl | rfl | rfl | rfl | rfl
    · exact ⟨_, hz, fun v q => by
        have q' : Data.fields _ = Data.cell v := q
        cases q'⟩
    · exact ⟨_, hTI, fun v q => by
        have q' : Data.seq _ _ = Data.cell v := q
        cases q'⟩
    · exact ⟨_, hTO, fun v q => by
        have q' : Data.seq _ _ = Data.cell v := q
        cases q'⟩
    · exact ⟨o1, h1, fun v q => by rw [d1] at q; cases q⟩
    · exact ⟨o2, h2, fun v q => by rw [d2] at q; cases q⟩
  keep := fun i h h' st kk => by
    obtain ⟨hz, hTI, ⟨ta, tb, hTO⟩, h1, h2⟩ := st
    exact ⟨kk z (by simp) _ hz, kk TI (by simp) _ hTI, ⟨ta, tb, kk TO (by simp) _ hTO⟩, h1.at fun o e => kk i1 (by simp) o e, h2.at fun o e => kk i2 (by simp) o e⟩
  item := by
    intro X hP hw hK hc i pins s σ H E I hf st hg
    subst hP hw hK
    obtain ⟨xs, ys, x, y, hqx, hqy, hx, hy⟩ := hg
    obtain ⟨hz, hTI, ⟨ta, tb, hTO⟩, h1, h2⟩ := st
    obtain ⟨its, rv, p1, _⟩ := I.list hqx
    obtain ⟨jts, rv2, p2, _⟩ := I.list hqy
    obtain ⟨u, hu, ru⟩ := rv.get hx
    obtain ⟨v, hv, rv'⟩ := rv2.get hy
    refine wpAny_pyNext_zip_item D hz hTI hTO h1 h2 p1.isList p2.isList (x := u) (y := v) (by simpa using hu) (by simpa using hv) fun h' z1 t1 l1 l2 pT hsz hk => ?_
    refine ⟨_, rfl, wpAny_letOwnedTupleGo_zip z1 fun h3 z3 hs3 => ?_⟩
    have hs3' : Heap.SameBut z h' h3 := hs3
    have neT : s.heap.objs.size ≠ z := Nat.ne_of_gt (Heap.lt_size hz)
    have up : ∀ b o, b ∉ [z, TI, TO, i1, i2] → s.heap.get? b = some o → h3.get? b = some o := fun b o hb q => by
      have hb' : b ≠ z ∧ b ≠ TI ∧ b ≠ TO ∧ b ≠ i1 ∧ b ≠ i2 := by simpa using hb
      exact hs3'.extBut b o hb'.1 (hk b o hb'.1 hb'.2.2.1 hb'.2.2.2.1 hb'.2.2.2.2 q)
    have hn : H s.heap.objs.size = none := I.hok.fresh (Nat.le_refl _)
    refine ⟨.ref s.heap.objs.size, upd H s.heap.objs.size (.tup [x, y]), Inv_turnsLaid (s := s) (h' := h3) (t' := s.toks) I up hf (Nat.le_refl _) ⟨line2', [u, v], .cons ru (.cons rv' .nil), ?_⟩, rfl, ⟨_, x, y, rfl, hn, rfl, fun zs hzs => by rw [I.list_inj hzs hqx]; exact hx, fun zs hzs => by rw [I.list_inj hzs hqy]; exact hy⟩,
      ⟨z3, hs3'.extBut _ _ D.TIz (hk _ _ D.TIz D.TITO D.TIi1 D.TIi2 hTI), ⟨_, _, hs3'.extBut _ _ D.TOz t1⟩, l1.at fun o q => hs3'.extBut _ _ D.i1z q, l2.at fun o q => hs3'.extBut _ _ D.i2z q⟩, fun b hb => ?_⟩
    · have := hs3'.extBut _ _ neT pT
      exact ⟨_, this, rfl, _, rfl⟩
    · rw [upd_ne]
      · exact (hf b hb).1
      · have hb' : b = z ∨ b = TI ∨ b = TO ∨ b = i1 ∨ b = i2 := by simpa using hb
        rcases hb' with rfl | rfl | rfl | rfl | rfl
        · exact Ne.symm neT
        · exact Nat.ne_of_lt (Heap.lt_size hTI)
        · exact Nat.ne_of_lt (Heap.lt_size hTO)
        · obtain ⟨o, q, _⟩ := h1
          exact Nat.ne_of_lt (Heap.lt_size q)
        · obtain ⟨o, q, _⟩ := h2
          exact Nat.ne_of_lt (Heap.lt_size q)
  done := by
    intro X hP hw hK hc i pins s σ H E I hf st hg
    subst hP hw hK
    obtain ⟨xs, ys, hqx, hqy, hx⟩ := hg
    obtain ⟨hz, hTI, ⟨ta, tb, hTO⟩, h1, h2⟩ := st
    obtain ⟨its, rv, p1, _⟩ := I.list hqx
    obtain ⟨jts, rv2, p2, _⟩ := I.list hqy
    have l1 := rv.length
    have l2 := rv2.length
    refine wpAny_pyNext_zip_end (I.ok.hd hc) D hz hTI hTO h1 h2 p1.isList p2.isList (hx.imp (fun q => by simp; omega) fun q => by simp; omega) fun h' hk => ⟨rfl, Inv_turns (t' := s.toks) I (fun b o hb q => ?_) hf⟩
    have hb' : b ≠ z ∧ b ≠ TI ∧ b ≠ TO ∧ b ≠ i1 ∧ b ≠ i2 := by simpa using hb
    exact hk b o hb'.1 hb'.2.2.1 hb'.2.2.2.1 hb'.2.2.2.2 q
  self := fun _ i s Q E st h => wpAny_pyIter_zip st.1 h
def iZip (K : PySem.W.Frag) (ta : TA) : TI := fun σ H R => ta σ H fun vs H1 => ∃ a b, vs = [.ref a, .ref b] ∧ (∃ xs, SqL K H1 a xs) ∧ (∃ ys, SqL K H1 b ys) ∧ R (Itz K a b) H1
theorem pi_zip {X : Cx} {es : List Expr} {k : Nat} {tp : Pos} {e f : Expr} {ta : TA} {p pos : Pos} (hg : Gl X "zip") (hm : X.mg "zip" = none) (ha : PA X [e, f] ta) (hs : starEach [e, f] X.env = (false, eval e X.env) :: starEach [f] X.env := by rfl) (hs2 : starEach [f] X.env = [(false, eval f X.env)] := by rfl) : PI X (.Tuple es k tp) (.Call (.Name "zip" p) [e, f] [] pos) (iZip X.K ta) := by
  intro pins s σ H R I h
  refine Call_ (ld_blt I hg hm b_zip (PyProof.Rows.callWith_type1 (thn (ha pos pins s σ H _ I h) fun us s1 ⟨vs, H1, I1, r1, q1⟩ => ?_) hs (by rw [hs2]; rfl)))
  obtain ⟨a, b, rfl, ⟨xs, hqx⟩, ⟨ys, hqy⟩, q⟩ := q1
  obtain ⟨u, v, rfl, ru, rv0⟩ := vals2 r1
  cases ru
  cases rv0
  obtain ⟨its, rv, p1, _⟩ := I1.list hqx
  obtain ⟨jts, rv2, p2, _⟩ := I1.list hqy
  have a1 : a < s1.heap.objs.size := by obtain ⟨_, e, _⟩ := p1.isList; exact Heap.lt_size e
  have a2 : b < s1.heap.objs.size := by obtain ⟨_, e, _⟩ := p2.isList; exact Heap.lt_size e
  refine call_zip_2 p1.isList p2.isList fun h' hz hTI hTO h1 h2 hsz hk => ?_
  refine wpAny_pyIter_zip hz ?_
  have I2 : Inv X pins σ H1 { s1 with heap := h' } := I1.kept (t' := s1.toks) hk
  refine ⟨s1.heap.objs.size + 4, [s1.heap.objs.size + 4, s1.heap.objs.size + 2, s1.heap.objs.size + 3, s1.heap.objs.size, s1.heap.objs.size + 1], _, _, H1, rfl, I2, turn_zip a b _ _ _ _ _ (zipApart_new a1 a2), ⟨hz, hTI, ⟨_, _, hTO⟩, h1, h2⟩, fun c hc => ?_, q⟩
  have hc' : s1.heap.objs.size ≤ c := by
    simp only [List.mem_cons, List.not_mem_nil, or_false] at hc
    walk_at "om"
  exact I1.fpOk hc' (I1.hok.fresh hc')
section
variable {X : Cx}
end
section
variable {K : PySem.W.Frag} {g : TG} {tb : TS} {D : Ends} {σ : L2.St} {H : Hp} {a b : Addr} {xs ys : List V}
theorem for_rev {ta : TA} : tFor (iRev K ta) g tb D σ H = ta σ H (fun vs H1 => ∃ a xs, vs = [.ref a] ∧ SqL K H1 a xs ∧ FJ (Itv K a xs.length) g tb D σ H1) := rfl
theorem for_enum {ta : TA} : tFor (iEnum K ta) g tb D σ H = ta σ H (fun vs H1 => ∃ a, vs = [.ref a] ∧ (∃ xs, SqL K H1 a xs) ∧ FJ (Ite K a) g tb D σ H1) := rfl
theorem for_zip {ta : TA} : tFor (iZip K ta) g tb D σ H = ta σ H (fun vs H1 => ∃ a b, vs = [.ref a, .ref b] ∧ (∃ xs, SqL K H1 a xs) ∧ (∃ ys, SqL K H1 b ys) ∧ FJ (Itz K a b) g tb D σ H1) := rfl
theorem by_enum (Pv : Nat → L2.St → Hp → Prop) (h0 : Pv 0 σ H) (hl : ∀ i σ H, i ≤ xs.length → Pv i σ H → SqL K H a xs)
    (hs : ∀ i x σ H p, xs[i]? = some x → Pv i σ H → H p = none → g (.ref p) σ (upd H p (.tup [.int i, x])) fun σ2 H2 => tb { D with nx := Pv (i + 1), ct := Pv (i + 1), bk := D.nx } σ2 H2) (hd : ∀ σ H, Pv xs.length σ H → D.nx σ H) : FJ (Ite K a) g tb D σ H := by
  refine ⟨fun i m σ H => m = xs.length - i ∧ i ≤ xs.length ∧ Pv i σ H, ⟨_, rfl, Nat.zero_le _, h0⟩, ?_⟩
  rintro i m σ H ⟨rfl, hi, p⟩
  have q := hl i σ H hi p
  by_cases hlt : i < xs.length
  · refine .inr ⟨⟨xs, xs[i], q, by simp [hlt]⟩, Pv (i + 1), fun σ' H' p' => ⟨xs.length - (i + 1), by omega, rfl, hlt, p'⟩, fun v H' y => ?_⟩
    obtain ⟨w, x, rfl, hw, rfl, y⟩ := y
    exact hs i x σ _ w (y xs q) p hw
  · have e : i = xs.length := by omega
    subst e
    exact .inl ⟨⟨xs, q, Nat.le_refl _⟩, hd σ H p⟩
theorem by_zip (Pv : Nat → L2.St → Hp → Prop) (h0 : Pv 0 σ H) (hl : ∀ i σ H, Pv i σ H → SqL K H a xs ∧ SqL K H b ys)
    (hs : ∀ i x y σ H p, xs[i]? = some x → ys[i]? = some y → Pv i σ H → H p = none → g (.ref p) σ (upd H p (.tup [x, y])) fun σ2 H2 => tb { D with nx := Pv (i + 1), ct := Pv (i + 1), bk := D.nx } σ2 H2) (hd : ∀ σ H, Pv (min xs.length ys.length) σ H → D.nx σ H) : FJ (Itz K a b) g tb D σ H := by
  refine ⟨fun i m σ H => m = min xs.length ys.length - i ∧ i ≤ min xs.length ys.length ∧ Pv i σ H, ⟨_, rfl, Nat.zero_le _, h0⟩, ?_⟩
  rintro i m σ H ⟨rfl, hi, p⟩
  have q := hl i σ H p
  by_cases hlt : i < min xs.length ys.length
  · have h1 : i < xs.length := by omega
    have h2 : i < ys.length := by omega
    refine .inr ⟨⟨xs, ys, xs[i], ys[i], q.1, q.2, by simp [h1], by simp [h2]⟩, Pv (i + 1), fun σ' H' p' => ⟨min xs.length ys.length - (i + 1), by omega, rfl, hlt, p'⟩, fun v H' y => ?_⟩
    obtain ⟨w, x, y', rfl, hw, rfl, e1, e2⟩ := y
    exact hs i x y' σ _ w (e1 xs q.1) (e2 ys q.2) p hw
  · have e : i = min xs.length ys.length := by omega
    refine .inl ⟨⟨xs, ys, q.1, q.2, by omega⟩, hd σ H (e ▸ p)⟩
end
theorem gTup2 {K : PySem.W.Frag} {i j : Nat} {p : Addr} {x y : V} {σ : L2.St} {H : Hp} {Q : L2.St → Hp → Prop} (h : SqT K H p [x, y]) (q : Q ((σ.set i (some x)).set j (some y)) H) : gTup K 2 (gCons (gName i) (gCons (gName j) gNil)) (.ref p) σ H Q :=
  ⟨p, [x, y], rfl, h, rfl, x, [y], rfl, y, [], rfl, rfl, q⟩
end Gz
set_option Elab.async false
set_option linter.all false
set_option maxRecDepth 100000
set_option maxHeartbeats 4000000
namespace Gz
open PySem PySem.Spec PyProof.Rows L2
local macro_rules | `(tactic| walk_at "om") => `(tactic| ((try simp only [PySem.Addr] at *); omega))
structure CompOkG (X : Cx) (own : List Str) (scope : Scope) (cl : List (Str × Addr)) (fr : List Nat) (ys : List Str) : Prop where
  clos : closureFor scope X.env = pure cl
  nocell : (scope.names.all fun p => p.2 != .cell) = true
  kind : scope.kind = .function
  names : (scope.names.all fun p => p.2 != .local || scope.names.lookup p.1 == some .local) = true
  kinds : ((relabel scope X.env).names.all fun p => (p.2 != .cell && p.2 != .free) || (cl.lookup p.1).isSome) = true
  cls : ClOk X cl
  frs : FrOk X scope cl fr ys
  kfr : (ys.all fun y => (relabel scope X.env).names.lookup y == some .cell) = true
def tBlkG (k : Nat) (J : It) (g : TG) (ρ : L2.St) (tt : TT) (te : TE) (H : Hp) (Q : VK) : Prop := ∃ W : Nat → Nat → List V → Hp → Prop, (∃ m, W 0 m [] H) ∧ ∀ i m ys H, W i m ys H →
  (J.stop i H ∧ ys.length ≤ sizeLine ∧ ∀ l, H l = none → Q (.ref l) (upd H l (.lst ys))) ∨ (J.go i H ∧ ys.length < sizeLine ∧ ∃ N : List V → Hp → Prop, (∀ zs H', N zs H' → ∃ m', m' < m ∧ W (i + 1) m' zs H') ∧
    ∀ os : List (Option V), os.length = k → ∀ x H', J.yld i H x H' → g x (os ++ ρ) H' fun σ2 H2 => ∃ os', os'.length = k ∧ σ2 = os' ++ ρ ∧ tt σ2 H2 fun b H1 => if b = true then te σ2 H1 fun y H2 => N (ys ++ [y]) H2 else N ys H1)
def tCompG (k : Nat) (wi : TI) (g : TG) (fr : List Nat) (tt : TT) (te : TE) : TE := fun σ H Q => wi σ H fun J H1 => tBlkG k J g (fr.map fun j => (σ[j]?).join) tt te H1 Q
theorem compLoop_own {prog : Program} {w : World} {A : Around} {s : Shared} {R : Result → Shared → Prop} {elt target iter : Expr} {ifs : List Expr} {scope : Scope} {pos : Pos} {it acc : Value} {env : Env} (I : Nat → Shared → Prop)
    (turn : ∀ n s, I n s → wpAny (model prog w) A (pyNext it) (fun r s₁ => match r with
      | none => R (.ok .next) s₁
      | some v => wpAny (model prog w) A (letOwnedTupleGo target it v) (fun _ s₁' => wpAny (model prog w) A (assign target env v) (fun _ s₂ =>
          wpAny (model prog w) A (forIn ifs true fun c r => if r = true then do let ok ← isTrue c env (eval c env); pure (ForInStep.yield ok) else pure (ForInStep.yield r)) (fun ok s₃ =>
            if ok = true then wpAny (model prog w) A (eval elt env) (fun x s₄ =>
              wpAny (model prog w) A (call (.builtin "list.append") [acc, x]) (fun _ s₅ => ∃ m, m < n ∧ I m s₅) (notedBy (model prog w) A env fun e s' => R (.error e) s') s₄) (notedBy (model prog w) A env fun e s' => R (.error e) s') s₃
            else ∃ m, m < n ∧ I m s₃) (notedBy (model prog w) A env fun e s' => R (.error e) s') s₂) (notedBy (model prog w) A env fun e s' => R (.error e) s') s₁') (notedBy (model prog w) A env fun e s' => R (.error e) s') s₁) (notedBy (model prog w) A env fun e s' => R (.error e) s') s)
    (n : Nat) (h : I n s) :
    codeAny (model prog w) A (.compLoop (.ListComp elt [⟨target, iter, ifs, 0⟩] scope pos) 0 it acc env) R s := by
  refine codeAny_loop rfl I (fun n s hI => ?_) n h
  show wpAny _ A ((compTurn (.ListComp elt [⟨target, iter, ifs, 0⟩] scope pos) 0 it acc env).onRaise (fun x => do noteFrame x env; theTreesLotGoes x)) _ _ s
  refine wpAny_noted ?_
  rw [compTurn_list]
  refine wpAny_bind (wpAny_standAt (wpAny_bind (wpAny_mono (turn n s hI) (fun r s₁ h₁ => ?_) fun _ _ h' => h')))
  cases r with
  | none => exact wpAny_pure h₁
  | some v =>
    refine wpAny_bind (wpAny_mono h₁ (fun _ s₁' h₁' => ?_) fun _ _ h' => h')
    refine wpAny_bind (wpAny_mono h₁' (fun _ s₂ h₂ => wpAny_bind (wpAny_mono h₂ (fun ok s₃ h₃ => ?_) fun _ _ h' => h')) fun _ _ h' => h')
    cases ok with
    | false => exact wpAny_pure ⟨rfl, h₃⟩
    | true =>
      exact wpAny_bind (wpAny_bind (wpAny_mono h₃ (fun x s₄ h₄ => wpAny_bind (wpAny_mono h₄ (fun _ s₅ h₅ => wpAny_pure (wpAny_pure ⟨rfl, h₅⟩)) fun _ _ h' => h')) fun _ _ h' => h'))
section
variable {X : Cx} {pins : List (Addr × Obj)} {σ : L2.St} {H2 : Hp} {s2 : Shared} {own : List Str} {tg : Expr} {g : TG} {pos : Pos} {elt iter : Expr} {ifs : List Expr} {scope : Scope} {cl : List (Str × Addr)} {fr : List Nat} {ys : List Str} {tt : TT} {te : TE}
theorem cxB_okG {C : Addr} {ex : List Addr} {pn : List (Addr × Obj)} (S : CompOkG X own scope cl fr ys) (I2 : Inv X pins σ H2 s2) (f2 : ∀ b ∈ ex, FpOk X pins H2 b) (hC : s2.heap.objs.size ≤ C) (hex : ∀ b ∈ ex, b < s2.heap.objs.size) : (cxB X (own ++ ys) scope cl C s2 H2 ex pn).Ok := by
  refine ⟨I2.ok.mod, S.kind, I2.ok.glob, I2.ok.blt, hC, fun a b c h1 h2 => ?_, fun y hy => ?_, fun _ _ z => (nomatch z), I2.ok.hd, I2.ok.frames, .inl rfl, fun b hb => ⟨?_, fun y c e z => ?_⟩, I2.bs, Nat.le_trans I2.ok.bsz I2.sz, fun b o e hb => ?_, fun b hb z => ?_, I2.stack, I2.stkFree⟩
  · exact I2.ok.inj a b c (S.cls.get a c h1) (S.cls.get b c h2)
  · have hy' : (relabel scope X.env).names.lookup y = some .cell ∨ (relabel scope X.env).names.lookup y = some .free := hy
    have q : (cl.lookup y).isSome = true := by
      rcases hy' with e | e
      · simpa using look_in S.kinds e
      · simpa using look_in S.kinds e
    exact Option.isSome_iff_exists.mp q
  · exact Nat.ne_of_lt (Nat.lt_of_lt_of_le (hex b hb) hC)
  · exact (f2 b hb).2.2.2.2.1 y c (S.cls.get y c e) z
  · obtain ⟨_, _, _, d, _, _⟩ := f2 b hb
    rcases d with d | d
    · exact I2.ok.noex b o e d
    · exact absurd (Nat.lt_of_lt_of_le (Heap.lt_size e) (Nat.le_trans I2.ok.bsz d)) (Nat.lt_irrefl _)
  · obtain ⟨_, d1, d2, _⟩ := f2 b hb
    rcases List.mem_cons.mp (I2.stkSub b z) with q | q
    · exact d1 q
    · exact d2 q
theorem comp_blockG {J : It} {fp : List Addr} {it : Addr} {tn : Nat → Heap → Prop} {E : Value → Shared → Prop} {Q : VK} {RR : Value → Addr → Result → Shared → Prop}
    (S : CompOkG X own scope cl fr ys) (hc : X.calm = true) (hg : ∀ (C : Addr) (s : Shared) (H : Hp) (ex : List Addr) (pn : List (Addr × Obj)), PG (cxB X (own ++ ys) scope cl C s H ex pn) tg g)
    (hb : ∀ (C : Addr) (s : Shared) (H : Hp) (ex : List Addr) (pn : List (Addr × Obj)), PTs (cxB X (own ++ ys) scope cl C s H ex pn) ifs tt ∧ PE (cxB X (own ++ ys) scope cl C s H ex pn) elt te)
    (I2 : Inv X pins σ H2 s2) (T : Turn X.prog X.w X.K tg J fp it tn) (st2 : tn 0 s2.heap) (f2 : ∀ b ∈ fp, FpOk X pins H2 b)
    (h : tBlkG own.length J g (fr.map fun j => (σ[j]?).join) tt te H2 Q)
    (hRR : ∀ D C s' H', Inv X pins σ H' s' → (∃ m, s'.heap.Ns C m) → FpOk X pins H' C → Q (.ref D) H' → RR (.ref D) C (.ok .next) s') :
    wpAny (model X.prog X.w) X.A (newList []) (fun acc s3 => wpAny (model X.prog X.w) X.A (newFunctionEnv scope X.env.globals cl [] X.env.qual none .none (some X.env)) (fun cenv s4 =>
      codeAny (model X.prog X.w) X.A (.compStart (.ListComp elt [⟨tg, iter, ifs, 0⟩] scope pos) 0 (.ref it) acc { cenv with scope := relabel scope X.env }) (RR acc cenv.locals) s4) E s3) E s2 := by
  obtain ⟨W, ⟨m0, w0⟩, turn⟩ := h
  refine wpAny_newObj_type (wpAny_newFunctionEnv (fun y hy => by simpa using List.all_eq_true.mp S.nocell y hy) (fun y hy => absurd hy (by simp)) (fun h1 hns hsb => ?_) S.kind)
  dsimp only at hns hsb ⊢
  generalize eP : s2.heap.push { cls := .type "list", dict := none, data := .seq ([] : List Value).toArray } = P2 at hns hsb ⊢
  have sz : P2.objs.size = s2.heap.objs.size + 1 := by rw [← eP, Heap.size_push]
  have hDC : s2.heap.objs.size ≠ P2.objs.size := by walk_at "om"
  have keep : ∀ b o, s2.heap.get? b = some o → h1.get? b = some o := fun b o e => by
    have lt := Heap.lt_size e
    exact hsb.extBut b o (by walk_at "om") (Heap.get?_push_of_some _ (eP ▸ Heap.get?_push_of_some _ e))
  have hD : h1.get? s2.heap.objs.size = some { cls := .type "list", data := .seq ([] : List Value).toArray 0 } :=
    hsb.extBut _ _ hDC (Heap.get?_push_of_some _ (eP ▸ Heap.get?_push_size _ rfl))
  have hfp : ∀ b ∈ fp, b < s2.heap.objs.size := fun b hb => by
    obtain ⟨o, e, _⟩ := T.obj 0 _ st2 b hb
    exact Heap.lt_size e
  have noStk : ∀ b, s2.heap.objs.size ≤ b → b ∉ frs X.stack := fun b hle z => by
    rcases List.mem_cons.mp (I2.stkSub b z) with q | q
    · have := I2.lt; walk_at "om"
    · exact I2.nofs hle q
  generalize eC : P2.objs.size = C at hns hsb hDC ⊢
  generalize eD : s2.heap.objs.size = D at hDC hD hfp noStk
  have hCle : s2.heap.objs.size ≤ C := by walk_at "om"
  have hDle : s2.heap.objs.size ≤ D := by walk_at "om"
  have ok' : (cxB X (own ++ ys) scope cl C s2 H2 fp (X.pn ++ pins)).Ok := cxB_okG S I2 f2 hCle (fun b hb => by have := hfp b hb; walk_at "om")
  have pinsOk : ∀ p ∈ X.pn ++ pins, p.1 ≠ C ∧ p.1 ≠ D ∧ p.1 ∉ frs X.stack ∧ ∀ b ∈ fp, p.1 ≠ b := fun p hp => by
    obtain ⟨e, n, nL, nf, _⟩ := I2.pin p hp
    have lt := Heap.lt_size e
    refine ⟨by walk_at "om", by walk_at "om", fun z => ?_, fun b hb => (f2 b hb).2.2.2.2.2 p hp⟩
    rcases List.mem_cons.mp (I2.stkSub _ z) with q | q
    · exact nL q
    · exact nf q
  have I4 : Inv (cxB X (own ++ ys) scope cl C s2 H2 fp (X.pn ++ pins)) [] ((own.map fun _ => none) ++ fr.map fun j => (σ[j]?).join) H2 { s2 with heap := h1, toks := s2.toks + ([] : List (Str × Value)).length } := by
    refine ⟨ok', rfl, I2.bare, Un.kept keep, ⟨_, hns, fun i y v e1 e2 e3 => ?_⟩, fun y c e => ?_, I2.hok.fresh hCle, fun y c e => I2.freeC y c (S.cls.get y c e), fun p hp => ?_, I2.hok.kept keep, ?_⟩
    · by_cases hio : i < own.length
      · rw [List.getElem?_append_left (by simpa using hio)] at e2
        simp [hio] at e2
      · rw [List.getElem?_append_right (by simp; omega)] at e2
        have e1' : ys[i - own.length]? = some y := by
          have : (own ++ ys)[i]? = some y := e1
          rwa [List.getElem?_append_right (by omega)] at this
        rw [List.length_map] at e2
        obtain ⟨j, c, hN, hσ, hk, hc1, hc2⟩ := S.frs.get (i - own.length) y v e1' e2
        obtain ⟨m, hm, hl⟩ := I2.loc
        obtain ⟨u, ru, lu⟩ := hl j y v hN hσ (.inr (.inl hk))
        refine ⟨u, ru, .inr ⟨.inl ?_, c, hc1, ?_⟩⟩
        · have z := List.all_eq_true.mp S.kfr y (List.mem_of_getElem? e1')
          exact (by simpa using z : (relabel scope X.env).names.lookup y = some .cell)
        · rcases lu with ⟨z, _⟩ | ⟨_, c', e', q'⟩
          · rw [hk] at z; cases z
          · rw [hc2] at e'; cases e'
            obtain ⟨o, ho, hd⟩ := q'
            exact ⟨o, keep _ _ ho, hd⟩
    · obtain ⟨v, o, ho, hd⟩ := I2.cell y c (S.cls.get y c e)
      exact ⟨v, o, keep _ _ ho, hd⟩
    · have hp' : p ∈ X.pn ++ pins := by
        have : p ∈ (X.pn ++ pins) ++ [] := hp
        simpa using this
      obtain ⟨e, n, _, _, d⟩ := I2.pin p hp'
      obtain ⟨p1, _, p3, _⟩ := pinsOk p hp'
      exact ⟨keep _ _ e, n, p1, p3, d⟩
    · show ((own.map fun _ => (none : Option V)) ++ fr.map fun j => (σ[j]?).join).length = (own ++ ys).length
      simp [S.frs.len]
  have st4 : tn 0 h1 := T.keep 0 _ _ st2 fun b _ o e => keep b o e
  have fpB : ∀ (H' : Hp) (o : Obj), (∀ b ∈ fp, H' b = none) → ∀ b ∈ fp, FpOk (cxB X (own ++ ys) scope cl C s2 H2 fp (X.pn ++ pins)) [(D, o)] H' b := fun H' o hn b hb => by
    obtain ⟨_, d1, d2, d3, d4, d5⟩ := f2 b hb
    have lt := hfp b hb
    refine ⟨hn b hb, ?_, fun z => ?_, .inl hb, fun y c e => d4 y c (S.cls.get y c e), fun p hp => ?_⟩
    · show b ≠ C
      walk_at "om"
    · rcases List.mem_cons.mp (I2.stkSub b z) with q | q
      · exact d1 q
      · exact d2 q
    · have hp' : p ∈ (X.pn ++ pins) ++ [(D, o)] := hp
      rcases List.mem_append.mp hp' with z | z
      · exact d5 p z
      · have : p = (D, o) := by simpa using z
        subst this
        show D ≠ b
        walk_at "om"
  have loop : ∀ s' : Shared, s' = { s2 with heap := h1, toks := s2.toks + ([] : List (Str × Value)).length } →
      codeAny (model X.prog X.w) X.A (.compLoop (.ListComp elt [⟨tg, iter, ifs, 0⟩] scope pos) 0 (.ref it) (.ref D) (compEnvC scope cl C X.env)) (RR (.ref D) C) s' := by
    rintro s' rfl
    refine compLoop_own (fun n s' => ∃ i zs H' os its nn, os.length = own.length ∧ Inv (cxB X (own ++ ys) scope cl C s2 H2 fp (X.pn ++ pins)) [] (os ++ fr.map fun j => (σ[j]?).join) H' s' ∧ tn i s'.heap ∧ (∀ b ∈ fp, H' b = none) ∧ H' D = none ∧
      s'.heap.get? D = some { cls := .type "list", data := .seq (its : List Value).toArray nn } ∧ Vals zs its ∧ W i n zs H') ?_ m0 ⟨0, [], H2, own.map fun _ => none, [], 0, by simp, I4, st4, fun b hb => (f2 b hb).1, I2.hok.fresh hDle, hD, .nil, w0⟩
    rintro n s3 ⟨i, zs, H3, os3, its, nn, hos3, I3, st3, fr3, hD3, oD3, r3, w3⟩
    have I3' : Inv (cxB X (own ++ ys) scope cl C s2 H2 fp (X.pn ++ pins)) [(D, { cls := .type "list", data := .seq its.toArray nn })] (os3 ++ fr.map fun j => (σ[j]?).join) H3 s3 := I3.pins_of fun p hp => by
      have : p = (D, { cls := .type "list", data := .seq its.toArray nn }) := by simpa using hp
      subst this
      exact ⟨oD3, hD3, hDC, noStk D (Nat.le_refl _), fun v z => nomatch z⟩
    rcases turn i n zs H3 w3 with ⟨stop, hlen, q⟩ | ⟨go, hlen, N, hNN, step⟩
    · refine wpAny_mono (T.done (cxB X (own ++ ys) scope cl C s2 H2 fp (X.pn ++ pins)) rfl rfl rfl hc i _ s3 _ H3 (fun _ _ => False) I3' (fpB H3 _ fr3) st3 stop) (fun r s4 ⟨hr, J4⟩ => ?_) fun _ _ z => z.elim
      subst hr
      have un := J4.base
      have neD : ∀ b o, s2.heap.get? b = some o → b ≠ D := fun b o e => by have := Heap.lt_size e; walk_at "om"
      have neH : ∀ b u, H3 b = some u → b ≠ D := fun b u e z => by rw [z, hD3] at e; cases e
      refine hRR D C s4 (upd H3 D (.lst zs)) ?_ ?_ ?_ (q D hD3)
      · refine I2.call' (ch := fp) J4.os ⟨un.keep, un.slot, fun b o e nn hx => ?_, un.there, fun b xs e => ?_, fun b o u e => ?_, fun b ps e => ?_⟩ (fun a o e => ?_) J4.bare fun b hb => ?_
        · rw [upd_ne (neD b o e)]; exact un.free b o e nn hx
        · have := un.tups b xs e; rw [upd_ne (neH b _ this)]; exact this
        · have := un.frzs b o u e; rw [upd_ne (neH b _ this)]; exact this
        · obtain ⟨more, this⟩ := un.tbls b ps e
          exact ⟨more, by rw [upd_ne (neH b _ this)]; exact this⟩
        · by_cases ha : a = D
          · subst ha
            rw [upd_same] at e; cases e
            exact ⟨hlen, its, nn, r3, (J4.pin (a, _) (List.mem_append_right _ (List.mem_singleton.mpr rfl))).1⟩
          · rw [upd_ne ha] at e
            exact (J4.hok a o e).stay (fun _ _ _ z => z) (fun b z => by rw [upd_ne (neH b _ z)]; exact z) fun b xs z => by rw [upd_ne (neH b _ z)]; exact z
        · obtain ⟨_, d1, d2, d3, d4, d5⟩ := f2 b hb
          exact ⟨d3, d1, d4, d5⟩
      · obtain ⟨m, hm, _⟩ := J4.loc
        exact ⟨m, hm⟩
      · exact I2.fpOk hCle (by rw [upd_ne (Ne.symm hDC)]; exact J4.free)
    · refine wpAny_mono (T.item (cxB X (own ++ ys) scope cl C s2 H2 fp (X.pn ++ pins)) rfl rfl rfl hc i _ s3 _ H3 (fun _ _ => False) I3' (fpB H3 _ fr3) st3 go) (fun r s4 ⟨u, hr, h4⟩ => ?_) fun _ _ z => z.elim
      subst hr
      refine wpAny_mono h4 (fun _ s5 ⟨y5, H5, I5, r5, yl, st5, fr5⟩ => ?_) fun _ _ z => z.elim
      have I5' := I5.pinned (fpB H5 _ fr5) (T.obj _ _ st5)
      refine wpAny_mono (hg C s2 H2 fp (X.pn ++ pins) _ s5 _ H5 y5 u _ I5' r5 (step os3 hos3 y5 H5 yl)) (fun _ s6 ⟨σ6, H6, I6, os6, hos6, e6, q6⟩ => ?_) fun _ _ z => z.elim
      subst e6
      have after : ∀ (s7 : Shared) (H7 : Hp), Inv (cxB X (own ++ ys) scope cl C s2 H2 fp (X.pn ++ pins)) ([(D, { cls := .type "list", data := .seq its.toArray nn })] ++ pinsAt fp s5.heap) (os6 ++ fr.map fun j => (σ[j]?).join) H7 s7 →
          Inv (cxB X (own ++ ys) scope cl C s2 H2 fp (X.pn ++ pins)) [] (os6 ++ fr.map fun j => (σ[j]?).join) H7 s7 ∧ tn (i + 1) s7.heap ∧ (∀ b ∈ fp, H7 b = none) ∧ H7 D = none ∧ s7.heap.get? D = some { cls := .type "list", data := .seq its.toArray nn } := fun s7 H7 I7 => by
        have pD := I7.pin (D, { cls := .type "list", data := .seq its.toArray nn }) (List.mem_append_right _ (List.mem_append_left _ (List.mem_singleton.mpr rfl)))
        refine ⟨I7.pins_of fun p hp => absurd hp (by simp), T.keep _ _ _ st5 fun b hb o e => (I7.pin (b, o) (List.mem_append_right _ (List.mem_append_right _ (mem_pinsAt hb e)))).1, fun b hb => ?_, pD.2.1, pD.1⟩
        obtain ⟨o, e, _⟩ := T.obj _ _ st5 b hb
        exact (I7.pin (b, o) (List.mem_append_right _ (List.mem_append_right _ (mem_pinsAt hb e)))).2.1
      refine wpAny_mono ((hb C s2 H2 fp (X.pn ++ pins)).1 _ s6 _ H6 _ I6 q6) (fun ok s7 ⟨H7, I7, q7⟩ => ?_) fun _ _ z => z.elim
      dsimp only at q7
      by_cases hok : ok = true
      · rw [if_pos hok] at q7 ⊢
        refine wpAny_mono ((hb C s2 H2 fp (X.pn ++ pins)).2 _ s7 _ H7 _ I7 q7) (fun yv s8 ⟨y8, H8, I8, r8, n8⟩ => ?_) fun _ _ z => z.elim
        obtain ⟨m', hm', w8⟩ := hNN _ _ n8
        obtain ⟨J8, st8, fr8, hD8, oD8⟩ := after s8 H8 I8
        have hl := r3.length
        refine call_meets F.slot_list_append ⟨_, oD8, rfl⟩ F.entry_list_append (F.args_list_append_2 _ _) (PySem.list_append D its.toArray nn yv (by rw [List.size_toArray]; walk_at "om")) ⟨oD8, ?_⟩
        have oD9 := PySem.IsL.update oD8 (fun a => a.push yv)
        rw [List.push_toArray] at oD9
        refine ⟨m', hm', i + 1, zs ++ [y8], H8, os6, its ++ [yv], _, hos6, J8.turned (it := D) (fun b o hb' e => (Heap.get?_update_other _ _ (Ne.symm hb')).trans e) hD8 hDC (.inr hDle) (fun y c e z => ?_) (fun p hp => ?_), T.keep _ _ _ st8 fun b hb' o e => ?_, fr8, hD8, oD9, r3.append (.cons r8 .nil), w8⟩
        · obtain ⟨v, o, ho, _⟩ := I2.cell y c (S.cls.get y c e)
          have := Heap.lt_size ho
          walk_at "om"
        · have hp' : p ∈ X.pn ++ pins := by
            have : p ∈ (X.pn ++ pins) ++ [] := hp
            simpa using this
          exact (pinsOk p hp').2.1
        · have := hfp b hb'
          exact (Heap.get?_update_other _ _ (by walk_at "om")).trans e
      · rw [if_neg hok] at q7 ⊢
        obtain ⟨m', hm', w7⟩ := hNN _ _ q7
        obtain ⟨J7, st7, fr7, hD7, oD7⟩ := after s7 H7 I7
        exact ⟨m', hm', i + 1, zs, H7, os6, its, nn, hos6, J7, st7, fr7, hD7, oD7, r3, w7⟩
  exact codeAny_compStart_list (loop _ rfl) (T.self X.A 0 _ _ _ st4 (loop _ rfl))
theorem ps_setCompG {wi : TI} {y : Str} {py spos : Pos} {i : Nat} (S : CompOkG X own scope cl fr ys) (hc : X.calm = true) (hN : X.N.Nodup) (hy : X.N[i]? = some y) (hl : X.env.scope.names.lookup y = some .local) (hi : PI X tg iter wi) (hg : ∀ (C : Addr) (s : Shared) (H : Hp) (ex : List Addr) (pn : List (Addr × Obj)), PG (cxB X (own ++ ys) scope cl C s H ex pn) tg g)
    (hb : ∀ (C : Addr) (s : Shared) (H : Hp) (ex : List Addr) (pn : List (Addr × Obj)), PTs (cxB X (own ++ ys) scope cl C s H ex pn) ifs tt ∧ PE (cxB X (own ++ ys) scope cl C s H ex pn) elt te)
    (hsw : swapsWith (.ListComp elt [⟨tg, iter, ifs, 0⟩] scope pos) (some (.Name y py)) spos.line X.env = pure true := by rfl)
    (hs : ∀ z, foldedSetIterable iter X.env z = pure z := by intro _; rfl) : PS X (.Assign [.Name y py] (.ListComp elt [⟨tg, iter, ifs, 0⟩] scope pos) spos) (tSetC i (tCompG own.length wi g fr tt te)) := by
  intro pins s σ H Dn I h
  rw [exec_Assign_Name_used _ _ _ _ hsw]
  refine wpAny_bind (wpAny_standAt (wpAny_bind ?_))
  show wpAny _ X.A (do let _ ← comprehension (.ListComp elt [⟨tg, iter, ifs, 0⟩] scope pos) scope X.env _ (newList []) false (eval iter X.env) (some (assign (.Name y py) X.env))) _ _ s
  refine wpAny_bind (thn (wpAny_comprehension_free (use := some (assign (.Name y py) X.env)) (Q := fun _ s' => SP X pins Dn .next s') rfl hs S.clos S.kind (fun z hz hl => ?_) (thn (hi pins s σ H _ I h) fun xv s1 h1 => thn h1 fun itv s2 h2 => ?_)) fun _ s' hq => wpAny_pure (wpAny_pure hq))
  · have z' := List.all_eq_true.mp S.names z hz
    rw [hl] at z'
    simpa using z'
  · obtain ⟨it, fp, tn, J, H2, rfl, I2, T, st2, f2, hB⟩ := h2
    refine comp_blockG (RR := fun acc C => compPost (model X.prog X.w) X.A X.xe (some (assign (.Name y py) X.env)) (fun _ s' => SP X pins Dn .next s') acc C) S hc hg hb I2 T st2 f2 hB fun D C s' H' J' hn fC q => ?_
    obtain ⟨m, oC, es, ep, ho, hd, hr⟩ := hn
    obtain ⟨c0, c1, c2, c3, c4, c5⟩ := fC
    have J2 : Inv X (pins ++ [(C, oC)]) σ H' s' := J'.pins_of fun p hp => by
      rcases List.mem_append.mp hp with z | z
      · exact J'.pin p (List.mem_append_right _ z)
      · have : p = (C, oC) := by simpa using z
        subst this
        exact ⟨ho, c0, c1, c2, fun v z => by rw [hd] at z; cases z⟩
    show wpAny _ X.A (assign (.Name y py) X.env (.ref D)) _ _ _
    refine thn (pg_name (X := X) hN hy (.inl hl) (.inr hl) _ s' σ H' (.ref D) (.ref D) (fun σ' H'' => σ' = σ.set i (some (.ref D)) ∧ H'' = H') J2 rfl ⟨rfl, rfl⟩) fun _ s3 ⟨σ3, H3, J3, e1, e2⟩ => ?_
    subst e1 e2
    obtain ⟨pc, pn0, _⟩ := J3.pin (C, oC) (List.mem_append_right _ (List.mem_append_right _ (List.mem_singleton.mpr rfl)))
    refine ⟨m, ⟨oC, es, ep, pc, hd, hr⟩, fun h' sb => ⟨_, H3, J3.unpinned.turned (it := C) (fun b o hb e => sb.extBut b o hb e) c0 c1 c3 c4 c5, q⟩⟩
end
end Gz
namespace Gz
open PySem PySem.Spec PyProof.Rows L2
section
variable {X : Cx} {K : PySem.W.Frag}
variable {ρ : L2.St} {tt : TT} {te : TE} {H : Hp} {Q : VK} {a b : Addr} {xs ys : List V}
end
end Gz
set_option Elab.async false
set_option linter.all false
set_option maxRecDepth 100000
set_option maxHeartbeats 4000000
namespace Gz
open PySem PySem.Spec PyProof.Rows L2
theorem cutV_from (xs : List V) (a : Nat) : cutV xs (some (a : Int)) none = xs.drop a := by
  unfold cutV
  rw [HT.sIx_nat, HT.sIx_none]
  by_cases h : a ≤ xs.length
  · rw [Nat.min_eq_left h, List.take_of_length_le (by rw [List.length_drop]; omega)]
  · rw [Nat.min_eq_right (by omega), List.drop_eq_nil_of_le (Nat.le_refl _), List.drop_eq_nil_of_le (by omega)]; simp
mutual
def plainD : Nat → PyData → Bool
  | _, .none => true
  | _, .bool _ => true
  | _, .int _ => true
  | n + 1, .tuple ds => plainDs n ds
  | n + 1, .list ds => plainDs n ds
  | _, _ => false
def plainDs : Nat → List PyData → Bool
  | _, [] => true
  | n, d :: ds => plainD n d && plainDs n ds
end
mutual
theorem plain_ok : ∀ (d : PyData) {n : Nat}, plainD n d = true → PyData.eqv d d = true ∧ d.canLay0 = true ∧ d.depth ≤ n
  | .none, n, _ => ⟨rfl, rfl, Nat.zero_le _⟩
  | .bool b, n, _ => ⟨by simp [PyData.eqv], rfl, Nat.zero_le _⟩
  | .int i, n, _ => ⟨by simp [PyData.eqv], rfl, Nat.zero_le _⟩
  | .str x, 0, h => by simp [plainD] at h
  | .str x, n + 1, h => by simp [plainD] at h
  | .dict x, 0, h => by simp [plainD] at h
  | .dict x, n + 1, h => by simp [plainD] at h
  | .tuple ds, 0, h => by simp [plainD] at h
  | .list ds, 0, h => by simp [plainD] at h
  | .tuple ds, n + 1, h => by
    obtain ⟨a, b, c⟩ := plain_oks ds (n := n) (by simpa [plainD] using h)
    exact ⟨by simpa only [PyData.eqv] using a, by simpa only [PyData.canLay0] using b, by simp only [PyData.depth]; omega⟩
  | .list ds, n + 1, h => by
    obtain ⟨a, b, c⟩ := plain_oks ds (n := n) (by simpa [plainD] using h)
    exact ⟨by simpa only [PyData.eqv] using a, by simpa only [PyData.canLay0] using b, by simp only [PyData.depth]; omega⟩
theorem plain_oks : ∀ (ds : List PyData) {n : Nat}, plainDs n ds = true → PyData.eqvAll ds ds = true ∧ PyData.canLayAll0 ds = true ∧ PyData.depthAll ds ≤ n
  | [], n, _ => ⟨rfl, rfl, Nat.zero_le _⟩
  | d :: ds, n, h => by
    have h' : plainD n d = true ∧ plainDs n ds = true := by simpa [plainDs] using h
    obtain ⟨a, b, c⟩ := plain_ok d h'.1
    obtain ⟨a', b', c'⟩ := plain_oks ds h'.2
    exact ⟨by simp only [PyData.eqvAll, a, a', Bool.and_self], by simp only [PyData.canLayAll0, b, b', Bool.and_self], by simp only [PyData.depthAll]; omega⟩
end
end Gz
namespace Gz
open PySem PySem.Spec PyProof.Rows L2
end Gz
set_option Elab.async false
set_option linter.all false
set_option maxRecDepth 100000
set_option maxHeartbeats 4000000
namespace Gz
open PySem PySem.Spec PyProof.Rows L2
def All2 {α : Type} (R : V → α → Prop) : List V → List α → Prop
  | [], [] => True
  | x :: xs, a :: as => R x a ∧ All2 R xs as
  | _, _ => False
section
variable {α : Type} {R R' : V → α → Prop}
theorem All2.len : ∀ {xs : List V} {as : List α}, All2 R xs as → xs.length = as.length
  | [], [], _ => rfl
  | _ :: _, _ :: _, h => by simp [All2.len h.2]
  | [], _ :: _, h => h.elim
  | _ :: _, [], h => h.elim
theorem All2.imp (f : ∀ x a, R x a → R' x a) : ∀ {xs : List V} {as : List α}, All2 R xs as → All2 R' xs as
  | [], [], _ => trivial
  | _ :: _, _ :: _, h => ⟨f _ _ h.1, All2.imp f h.2⟩
  | [], _ :: _, h => h.elim
  | _ :: _, [], h => h.elim
theorem All2.get : ∀ {xs : List V} {as : List α}, All2 R xs as → ∀ {i : Nat} {x : V}, xs[i]? = some x → ∃ a, as[i]? = some a ∧ R x a
  | [], [], _, i, x, e => by simp at e
  | _ :: _, a :: _, h, 0, x, e => by simp at e; subst e; exact ⟨a, by simp, h.1⟩
  | _ :: _, _ :: _, h, i + 1, x, e => by
    simp only [List.getElem?_cons_succ] at e ⊢
    exact All2.get h.2 e
  | [], _ :: _, h, _, _, _ => h.elim
  | _ :: _, [], h, _, _, _ => h.elim
theorem All2.at : ∀ {xs : List V} {as : List α}, All2 R xs as → ∀ {i : Nat} {a : α}, as[i]? = some a → ∃ x, xs[i]? = some x ∧ R x a
  | [], [], _, i, x, e => by simp at e
  | x :: _, _ :: _, h, 0, a, e => by simp at e; subst e; exact ⟨x, by simp, h.1⟩
  | _ :: _, _ :: _, h, i + 1, a, e => by
    simp only [List.getElem?_cons_succ] at e ⊢
    exact All2.at h.2 e
  | [], _ :: _, h, _, _, _ => h.elim
  | _ :: _, [], h, _, _, _ => h.elim
theorem All2.app : ∀ {xs ys : List V} {as bs : List α}, All2 R xs as → All2 R ys bs → All2 R (xs ++ ys) (as ++ bs)
  | [], _, [], _, _, h => h
  | _ :: _, _, _ :: _, _, h, h' => ⟨h.1, All2.app h.2 h'⟩
  | [], _, _ :: _, _, h, _ => h.elim
  | _ :: _, _, [], _, h, _ => h.elim
theorem All2.snoc {xs : List V} {as : List α} {x : V} {a : α} (h : All2 R xs as) (h' : R x a) : All2 R (xs ++ [x]) (as ++ [a]) := h.app ⟨h', trivial⟩
theorem All2.drop : ∀ {xs : List V} {as : List α} (n : Nat), All2 R xs as → All2 R (xs.drop n) (as.drop n)
  | [], [], n, _ => by simp [All2]
  | _ :: _, _ :: _, 0, h => by simpa using h
  | _ :: _, _ :: _, n + 1, h => by simpa using All2.drop n h.2
  | [], _ :: _, _, h => h.elim
  | _ :: _, [], _, h => h.elim
theorem All2.rng {lo : Int} (n : Nat) : All2 (fun x (k : Nat) => x = V.int (lo + k)) ((List.range n).map fun k => V.int (lo + (k : Nat))) (List.range n) := by
  suffices ∀ l : List Nat, All2 (fun x (k : Nat) => x = V.int (lo + k)) (l.map fun k => V.int (lo + (k : Nat))) l from this _
  intro l
  induction l with
  | nil => trivial
  | cons a l ih => exact ⟨rfl, ih⟩
end
theorem filter_tt {α : Type} (l : List α) : l.filter (fun _ => true) = l := List.filter_eq_self.mpr fun _ _ => rfl
abbrev P2 := Int × Int
def IsPt (H : Hp) (v : V) (p : P2) : Prop := ∃ a, v = .ref a ∧ H a = some (.tup [.int p.1, .int p.2])
theorem IsPt.same {H H' : Hp} {v : V} {p : P2} (h : IsPt H v p) (s : Same H H') : IsPt H' v p := let ⟨a, e, q⟩ := h; ⟨a, e, s _ _ q⟩
theorem IsPt.new {H : Hp} {a : Addr} {x y : Int} : IsPt (upd H a (.tup [.int x, .int y])) (.ref a) (x, y) := ⟨a, rfl, upd_same⟩
theorem IsPt.put {H : Hp} {v : V} {p : P2} {r : Addr} {ys zs : List V} (h : IsPt H v p) (hr : H r = some (.lst ys)) : IsPt (upd H r (.lst zs)) v p := by
  obtain ⟨a, e, q⟩ := h
  refine ⟨a, e, ?_⟩
  rw [upd_ne (ne_of q hr (fun z => nomatch z))]; exact q
abbrev Pts (H : Hp) : List V → List P2 → Prop := All2 (IsPt H)
theorem Pts.same {H H' : Hp} {xs : List V} {ps : List P2} (h : Pts H xs ps) (s : Same H H') : Pts H' xs ps := All2.imp (fun _ _ r => r.same s) h
theorem Pts.put {H : Hp} {xs : List V} {ps : List P2} {r : Addr} {ys zs : List V} (h : Pts H xs ps) (hr : H r = some (.lst ys)) : Pts (upd H r (.lst zs)) xs ps := All2.imp (fun _ _ x => x.put hr) h
def datP (p : P2) : PyData := .tuple [.int p.1, .int p.2]
theorem Pts.dat {K : PySem.W.Frag} {H : Hp} : ∀ {xs : List V} {ps : List P2}, Pts H xs ps → Dats K H xs (ps.map datP)
  | [], [], _ => .nil
  | _ :: _, _ :: _, h => by
    obtain ⟨a, rfl, q⟩ := h.1
    exact .cons (.tup (SqT.of q) (.cons (.int _) (.cons (.int _) .nil))) (Pts.dat h.2)
  | [], _ :: _, h => h.elim
  | _ :: _, [], h => h.elim
def ris (ns : List Int) : Bool := (ns.zip (ns.drop 1)).all fun r => decide (r.1 < r.2)
theorem ris_iff {ns : List Int} : ris ns = true ↔ ∀ i, i + 1 < ns.length → ns.getD i 0 < ns.getD (i + 1) 0 := by
  unfold ris
  rw [List.all_eq_true]
  constructor
  · intro h i hi
    have e : (ns.zip (ns.drop 1))[i]? = some (ns.getD i 0, ns.getD (i + 1) 0) := by
      rw [List.getElem?_zip_eq_some, List.getElem?_drop, List.getD_eq_getElem?_getD, List.getD_eq_getElem?_getD, List.getElem?_eq_getElem (show i < ns.length by omega), show 1 + i = i + 1 by omega, List.getElem?_eq_getElem hi]
      exact ⟨rfl, rfl⟩
    simpa using h _ (List.mem_of_getElem? e)
  · intro h r hr
    obtain ⟨i, hi⟩ := List.mem_iff_getElem?.mp hr
    rw [List.getElem?_zip_eq_some, List.getElem?_drop] at hi
    have h1 := (List.getElem?_eq_some_iff.mp hi.2).1
    have := h i (by omega)
    rw [List.getD_eq_getElem?_getD, List.getD_eq_getElem?_getD, hi.1, show i + 1 = 1 + i by omega, hi.2] at this
    simpa using this
def ptD (ps : List P2) (i : Nat) : P2 := ps.getD i (0, 0)
theorem at_pt {H : Hp} {xs : List V} {ps : List P2} (h : Pts H xs ps) {i : Nat} (hi : i < ps.length) : ∃ v, atI xs (i : Int) = some v ∧ IsPt H v (ptD ps i) := by
  have e : ps[i]? = some (ptD ps i) := by unfold ptD; rw [List.getD_eq_getElem?_getD, List.getElem?_eq_getElem hi]; rfl
  obtain ⟨x, ex, r⟩ := h.at e
  exact ⟨x, atI_nat ex, r⟩
end Gz
namespace Gz
open PySem PySem.Spec PyProof.Rows L2
end Gz
namespace Gz
open PySem PySem.Spec PyProof.Rows L2
end Gz
set_option Elab.async false
set_option linter.all false
set_option maxRecDepth 100000
set_option maxHeartbeats 4000000
namespace Gz
open PySem PySem.Spec PyProof.Rows L2
def onl (s e : P2) (p q t b : Int) : Prop := (t - s.2 * b) * (e.1 - s.1) * q = (p - s.1 * q) * (e.2 - s.2) * b
def inP (ks : List P2) (p q : Int) (i : Nat) : Prop := i + 1 < ks.length ∧ (ptD ks i).1 * q ≤ p ∧ p ≤ (ptD ks (i + 1)).1 * q
def hit (ks : List P2) (p q : Int) : Prop := ∃ i, inP ks p q i
structure Led (ks : List P2) (p q t b : Int) : Prop where
  pos : 1 ≤ b
  low : gcdI t b = 1
  on : ∀ i, inP ks p q i → onl (ptD ks i) (ptD ks (i + 1)) p q t b
theorem ptD_map1 {ks : List P2} {i : Nat} (h : i < ks.length) : (ks.map (·.1)).getD i 0 = (ptD ks i).1 := by
  unfold ptD
  rw [List.getD_eq_getElem?_getD, List.getElem?_map, List.getD_eq_getElem?_getD, List.getElem?_eq_getElem h]; rfl
theorem ris_lt1 {ks : List P2} (h : ris (ks.map (·.1)) = true) : ∀ {i j : Nat}, i < j → j < ks.length → (ptD ks i).1 < (ptD ks j).1 := by
  rw [ris_iff] at h
  have st : ∀ i, i + 1 < ks.length → (ptD ks i).1 < (ptD ks (i + 1)).1 := fun i hi => by
    have := h i (by rw [List.length_map]; exact hi)
    rwa [ptD_map1 (by omega), ptD_map1 hi] at this
  intro i j hij hj
  induction j with
  | zero => omega
  | succ j ih =>
    by_cases e : i = j
    · subst e; exact st i hj
    · exact Int.lt_trans (ih (by omega) (by omega)) (st j hj)
theorem line_next {a b c : P2} {p q t w : Int} (hq : 0 < q) (hab : a.1 < b.1) (h1 : p = b.1 * q) (h : onl a b p q t w) : onl b c p q t w := by
  unfold onl at *
  subst h1
  have e : (t - b.2 * w) * ((b.1 - a.1) * q) = 0 := by grind
  have n : (b.1 - a.1) * q ≠ 0 := Int.mul_ne_zero (by omega) (by omega)
  have := (Int.mul_eq_zero.mp e).resolve_right n
  have e2 : t - b.2 * w = 0 := this
  rw [e2]; grind
theorem Led.of {ks : List P2} {p q t b : Int} {i : Nat} (hr : ris (ks.map (·.1)) = true) (hq : 0 < q) (h1 : 1 ≤ b) (h2 : gcdI t b = 1) (hi : inP ks p q i) (first : ∀ j, j < i → ¬ inP ks p q j) (h : onl (ptD ks i) (ptD ks (i + 1)) p q t b) : Led ks p q t b := by
  refine ⟨h1, h2, fun j hj => ?_⟩
  by_cases e : j = i
  · rw [e]; exact h
  by_cases lt : j < i
  · exact absurd hj (first j lt)
  by_cases e1 : j = i + 1
  · subst e1
    have l1 := ris_lt1 hr (i := i) (j := i + 1) (by omega) (by have := hj.1; omega)
    exact line_next hq l1 (by have := hi.2.2; have := hj.2.1; omega) h
  · have l1 := ris_lt1 hr (i := i + 1) (j := j) (by omega) (by have := hj.1; omega)
    have : (ptD ks (i + 1)).1 * q < (ptD ks j).1 * q := Int.mul_lt_mul_of_pos_right l1 hq
    have a1 := hi.2.2
    have a2 := hj.2.1
    omega
def IsR (H : Hp) (v : V) (t b : Int) : Prop := ∃ a, v = .ref a ∧ H a = some (.tup [.int t, .int b])
theorem IsR.p {K : PySem.W.Frag} {H : Hp} {v : V} {t b : Int} (h : IsR H v t b) : IsP K H v t b := let ⟨a, e, q⟩ := h; ⟨a, e, SqT.of q⟩
def SameBut (x : Addr) (H H' : Hp) : Prop := ∀ b o, b ≠ x → H b = some o → H' b = some o
end Gz
namespace Gz
open PySem PySem.Spec PyProof.Rows L2
theorem mem_ptD {ps : List P2} {i : Nat} (hi : i < ps.length) : ptD ps i ∈ ps := by
  unfold ptD; rw [List.getD_eq_getElem?_getD, List.getElem?_eq_getElem hi]; exact List.getElem_mem hi
end Gz
namespace Gz
open PySem PySem.Spec PyProof.Rows L2
theorem compGo_new {α β : Type} {R : Hp → V → α → Prop} {R' : Hp → V → β → Prop} {Ok : Hp → Prop} {ρ : L2.St} {tt : TT} {te : TE} {f : α → β} {Q' : List V → Hp → Prop} (mono : ∀ H H' x a, Same H H' → R H x a → R H' x a) (mono' : ∀ H H' x a, Same H H' → R' H x a → R' H' x a) :
    ∀ {xs : List V} {as : List α} {ys : List V} {bs : List β} {H : Hp}, All2 (R H) xs as → All2 (R' H) ys bs → (∀ H', Same H H' → Ok H') → (∀ x a, a ∈ as → ∀ H', Same H H' → R H' x a → ∀ Q, Q true H' → tt (some x :: ρ) H' Q) →
    (∀ x a, a ∈ as → ∀ H', Same H H' → R H' x a → ∀ Q : VK, (∀ H'' y, Same H' H'' → R' H'' y (f a) → Q y H'') → te (some x :: ρ) H' Q) →
    (∀ H' zs, Same H H' → All2 (R' H') zs (bs ++ as.map f) → Q' zs H') → compGo Ok ρ tt te xs ys H Q'
  | [], [], ys, bs, H, _, hy, hOk, _, _, q => ⟨hOk H (Same.refl H), q H ys (Same.refl H) (by simpa using hy)⟩
  | x :: xs, a :: as, ys, bs, H, h, hy, hOk, ht, he, q => by
    refine ⟨hOk H (Same.refl H), ht x a (.head _) H (Same.refl H) h.1 _ ?_⟩
    rw [if_pos rfl]
    refine he x a (.head _) H (Same.refl H) h.1 _ fun H2 y s2 r2 => ?_
    refine compGo_new mono mono' (bs := bs ++ [f a]) (h.2.imp fun x a r => mono _ _ _ _ s2 r) ((hy.imp fun x a r => mono' _ _ _ _ s2 r).snoc r2) (fun H' s' => hOk H' (s2.trans s')) (fun x a ha H' s' => ht x a (.tail _ ha) H' (s2.trans s')) (fun x a ha H' s' => he x a (.tail _ ha) H' (s2.trans s')) fun H' zs s' hz => ?_
    refine q H' zs (s2.trans s') ?_
    rw [List.map_cons]
    rwa [List.append_assoc] at hz
  | [], _ :: _, _, _, _, h, _, _, _, _, _ => h.elim
  | _ :: _, [], _, _, _, h, _, _, _, _, _ => h.elim
end Gz
namespace Gz
open PySem PySem.Spec PyProof.Rows L2
end Gz
set_option Elab.async false
set_option linter.all false
set_option maxRecDepth 100000
set_option maxHeartbeats 4000000
namespace Gz
open PySem PySem.Spec PyProof.Rows L2
theorem vals_ints {us : List Value} {ns : List Int} (h : IntsAre us ns) : Vals (ns.map V.int) us := by
  induction h with
  | nil => exact .nil
  | cons n t r ih => exact .cons ⟨t, rfl⟩ ih
abbrev IsS2 (H : Hp) (v : V) (s : S2) : Prop := IsS H v s.1 s.2
theorem Sts.all : ∀ {H : Hp} {xs : List V} {ss : List S2}, Sts H xs ss → All2 (IsS2 H) xs ss
  | _, [], [], _ => trivial
  | _, _ :: _, _ :: _, h => ⟨h.1, Sts.all h.2⟩
  | _, [], _ :: _, h => h.elim
  | _, _ :: _, [], h => h.elim
def cellsFrom : En → List Int → List S2
  | lo, [] => [(lo, none)]
  | lo, z :: zs => (lo, some (z - 1)) :: cellsFrom (some z) zs
def numIn (c : S2) : Int := match c.1, c.2 with
  | some x, _ => x
  | none, some y => y
  | none, none => 0
theorem numIn_in {c : S2} (h : okS c) : hs c (numIn c) = true := by
  rw [hs_iff]
  unfold okS at h
  rcases c with ⟨_ | x, _ | y⟩
  · exact ⟨fun _ e => (nomatch e), fun _ e => (nomatch e)⟩
  · exact ⟨fun _ e => (nomatch e), fun _ e => by cases e; exact Int.le_refl _⟩
  · exact ⟨fun _ e => by cases e; exact Int.le_refl _, fun _ e => (nomatch e)⟩
  · refine ⟨fun _ e => by cases e; exact Int.le_refl _, fun _ e => ?_⟩
    cases e
    show x ≤ y
    simp [crossed] at h; omega
end Gz
namespace Gz
open PySem PySem.Spec PyProof.Rows L2
end Gz
namespace Gz
open PySem PySem.Spec PyProof.Rows L2
end Gz
set_option Elab.async false
set_option linter.all false
set_option maxRecDepth 100000
set_option maxHeartbeats 4000000
namespace Gz
open PySem PySem.Spec PyProof.Rows L2
section
variable {X : Cx} {CX : CXT} {k : Nat} {f C : Addr} {fd : FuncData} {ps : List Str} {ds : List Value} {dvs : List V} {sp : Sp} {E : XK} {x m : Str} {p pos apos : Pos} {e : Expr} {es : List Expr} {t : TA}
end
section
variable {X : Cx}
end
section
variable {X : Cx} {CX : CXT} {k : Nat} {f : Addr} {fd : FuncData} {ps : List Str} {ds : List Value} {dvs : List V} {sp : Sp} {E : XK} {m : Str} {pos apos : Pos} {o e : Expr} {es : List Expr} {ta : TE} {t : TA}
end
abbrev W2 := Option S2
def IsW (H : Hp) (v : V) : W2 → Prop
  | none => v = .non
  | some s => IsS H v s.1 s.2
theorem IsW.same {H H' : Hp} {v : V} {w : W2} (h : IsW H v w) (s : Same H H') : IsW H' v w := by
  cases w with
  | none => exact h
  | some a => exact IsS.same h s
end Gz
set_option Elab.async false
set_option linter.all false
namespace Gz
open PySem L2 PySem.W PySem.Spec PyProof.Rows
def Bt (n : Nat) (x : Int) : Prop := Builtin.Int.intBits x ≤ n
theorem Bt.add {n : Nat} {x y : Int} (h : Bt n x) (h' : Bt n y) : Bt (n + 1) (x + y) := by
  have := PyProof.Rows.bits_add h h'
  rwa [Nat.max_self] at this
theorem Bt.mul {n m : Nat} {x y : Int} (h : Bt n x) (h' : Bt m y) : Bt (n + m) (x * y) := PyProof.Rows.bits_mul h h'
theorem Bt.up {n m : Nat} {x : Int} (h : Bt n x) (hm : n ≤ m) : Bt m x := Nat.le_trans h hm
theorem Bt.small {x : Int} (h1 : -(2 ^ 64) < x) (h2 : x < 2 ^ 64) : Bt 64 x := PySem.intBits_le_64 h1 h2
def MulG (i j : Int) : Prop := Bt 40000000 i ∧ Bt 40000000 j
theorem MulG.ok {i j : Int} (h : MulG i j) : IntMulOk i j := PyProof.Rows.mulOk_of_bits h.1 h.2 (by decide)
theorem op_mulG {X : Cx} : OpR X (binaryOp .Mult) (rI MulG fun i j => .int (i * j)) := opI fun _ _ _ _ _ _ _ hc q => mul_int q hc.ok
def Scr (ns : List Int) : Prop := ns.length ≤ 63 ∧ ∀ x ∈ ns, Bt 1048576 x
theorem weigh : ∀ (ns : List Int) (x : Int), x ∈ ns → Builtin.Int.intBits x ≤ PySem.W.WData.weightAll (ns.map PySem.W.WData.int)
  | [], x, h => by simp at h
  | y :: ns, x, h => by
    have e : PySem.W.WData.weightAll ((y :: ns).map PySem.W.WData.int) = (if y == 0 then 0 else y.natAbs.log2 + 1) + 1 + PySem.W.WData.weightAll (ns.map PySem.W.WData.int) := by
      rw [List.map_cons]
      simp only [PySem.W.WData.weightAll, PySem.W.WData.weight]
    rw [e]
    rcases List.mem_cons.mp h with rfl | h
    · unfold Builtin.Int.intBits
      omega
    · have := weigh ns x h
      omega
theorem scr_bits {ns : List Int} (h : PySem.W.WData.layableAll [PySem.W.WData.list (ns.map PySem.W.WData.int)] = true) : ∀ x ∈ ns, Bt 1048576 x := by
  intro x hx
  have h1 : PySem.W.WData.layable (PySem.W.WData.list (ns.map PySem.W.WData.int)) = true := by
    have : (PySem.W.WData.layable (PySem.W.WData.list (ns.map PySem.W.WData.int)) && true) = true := h
    rwa [Bool.and_true] at this
  unfold PySem.W.WData.layable at h1
  rw [Bool.and_eq_true] at h1
  have h2 := of_decide_eq_true h1.2
  have h3 := weigh ns x hx
  simp only [PySem.W.WData.weight] at h2
  unfold Bt
  omega
theorem walk_big {l : PySem.W.OpenLaw} {k : Nat} {q : Program} {loose : List Str} {XP : (Str → Option Value) → Heap → Prop} {YP : World → Heap → Prop} {d : DefRec} {K : Params → PySem.W.Frag} {CX : World → CXT} {sp : World → Sp} {x : Str}
    (most : l.most = some 63) (plain : d.params.defaults = []) (room : Room k callerA)
    (inK : ∀ (w : World) (h : Heap), YP w h → (K w.params).In h)
    (F : ∀ (w : World) (mg : Str → Option Value) (fa : Addr) (h : Heap), (K w.params).In h → h.Ns mainGlobals mg → mg d.name = some (.ref fa) →
      ∃ fd : FuncData, (∀ (s : Shared) (u : Value), BindsTo s fd ⟨[u], []⟩ [(x, u)]) ∧
        ∀ base : Heap, (K w.params).In base → base.Ns mainGlobals mg → FnOk l.prog w (K w.params) mg base (CX w) k fa fd [x] (sp w))
    (law : ∀ (w : World) (H : Hp) (a : Addr) (ns : List Int), Scr ns → SqL (K w.params) H a (ns.map V.int) → sp w [.ref a] H (fun v _ => v = .bl true) fun _ _ _ => False)
    (calm : ∀ (w : World) (H : Hp) (s : Shared) (e : Value) (s' : Shared), CX w [] H s (fun _ _ _ => False) e s' → False) :
    PySem.W.WalkO q loose XP YP l.row.toRowW d [] (fun f vs => PySem.call f vs) := by
  intro w t₀ t mg mb G Y f ob pm cd doc dV kV look data code defs at_ gens args vals as pre lay _ well _
  have e1 : dV = .none := Dflts.none defs plain
  have e2 : kV = .none := Dflts.noKw defs
  cases e1
  cases e2
  obtain ⟨a, vs, ns, e3, e4, obj, are, len⟩ := Att.script_of most pre well
  cases e3
  cases e4
  have KX := inK w _ Y
  obtain ⟨fd, bind, ok⟩ := F w mg f _ KX G.T.g at_
  have run := law_call KX G.T.g G.T.b G.T.builtins G.T.nolimit gens obj are (Nat.le_trans len (by decide)) room ok bind
    (fun H _ S => law w H a ns ⟨len, scr_bits lay⟩ S) fun H e s' => calm w H t e s'
  refine enter_call (codeAny_mono run ?_)
  rintro r s' ⟨rfl, old, os, bare⟩
  exact ⟨.inl ⟨.bool true, .bool true, [], rfl, fun _ => rfl, .bool true, Att.post_true l _, fun _ => ⟨List.Pairwise.nil, fun _ z => (nomatch z)⟩⟩, old, os, bare⟩
def scell (ns : List Int) (k : Int) : Int := if 0 < (ns.length : Int) then ns.getD (k % (ns.length : Int)).toNat 0 else 0
theorem scell_bits {ns : List Int} (h : Scr ns) (k : Int) : Bt 1048576 (scell ns k) := by
  unfold scell
  split
  · rw [List.getD_eq_getElem?_getD]
    cases e : ns[(k % (ns.length : Int)).toNat]? with
    | none => exact (Bt.small (by decide) (by decide)).up (by decide)
    | some n => exact h.2 _ (List.mem_of_getElem? e)
  · exact (Bt.small (by decide) (by decide)).up (by decide)
theorem scell_at {ns : List Int} {k : Int} (h : 0 < (ns.length : Int)) : atI (ns.map V.int) (k % (ns.length : Int)) = some (.int (scell ns k)) := by
  have h1 := Int.emod_nonneg k (show (ns.length : Int) ≠ 0 by omega)
  have h2 := Int.emod_lt_of_pos k h
  unfold scell
  rw [if_pos h]
  have ek : k % (ns.length : Int) = (((k % (ns.length : Int)).toNat : Nat) : Int) := by omega
  refine (congrArg (atI _) ek).trans (atI_nat ?_)
  rw [List.getElem?_map, List.getD_eq_getElem?_getD, List.getElem?_eq_getElem (by omega)]
  rfl
theorem pick_muls {ns : List Int} (h : Scr ns) {k : Int} (hk : -1000000 ≤ k ∧ k ≤ 1000000) : MulG k k ∧ MulG (scell ns k + 1009) (scell ns k + 48271 + k * k) := by
  have c := scell_bits h k
  have k1 : Bt 64 k := Bt.small (by omega) (by omega)
  have k2 : Bt 128 (k * k) := k1.mul k1
  have n1 : Bt 1048576 1009 := (Bt.small (by decide) (by decide)).up (by decide)
  have n2 : Bt 1048576 48271 := (Bt.small (by decide) (by decide)).up (by decide)
  exact ⟨⟨k1.up (by decide), k1.up (by decide)⟩, (c.add n1).up (by decide), ((c.add n2).add (k2.up (by decide))).up (by decide)⟩
theorem wide_muls {ns : List Int} (h : Scr ns) (k : Int) : MulG 2147483629 (scell ns k) ∧ MulG (2147483629 * scell ns k) (scell ns k) ∧ MulG (2147483629 * scell ns k * scell ns k) (scell ns k) := by
  have c := scell_bits h k
  have n1 : Bt 64 2147483629 := Bt.small (by decide) (by decide)
  have c1 := n1.mul c
  have c2 := c1.mul c
  exact ⟨⟨n1.up (by decide), c.up (by decide)⟩, ⟨c1.up (by decide), c.up (by decide)⟩, c2.up (by decide), c.up (by decide)⟩
end Gz
namespace Gz
open PySem PySem.Spec PyProof.Rows L2
end Gz
namespace Gz
open PySem PySem.Spec PyProof.Rows L2
theorem at_mem {vs : List Int} {p : Int} (h0 : 0 ≤ p) (h1 : p < (vs.length : Int)) : ∃ v, v ∈ vs ∧ atI (vs.map V.int) p = some (.int v) := by
  have e : p = ((p.toNat : Nat) : Int) := by omega
  refine ⟨vs[p.toNat]'(by omega), List.getElem_mem _, ?_⟩
  refine (congrArg (atI _) e).trans (atI_nat ?_)
  rw [List.getElem?_map, List.getElem?_eq_getElem (by omega)]
  rfl
theorem bd600 {x : Int} (h : x.natAbs < 2 ^ 600) : Bd 4000 x := Bd.up (n := 600) h (by decide)
theorem mul600 {x y : Int} (h : x.natAbs < 2 ^ 600) (h' : y.natAbs < 2 ^ 600) : MulB x y := ⟨bd600 h, bd600 h'⟩
end Gz
namespace Gz
theorem min_cast (i j : Nat) : (if (j : Int) < (i : Int) then (j : Int) else (i : Int)) = ((min i j : Nat) : Int) := by split <;> omega
theorem max_cast (i j : Nat) : (if (j : Int) > (i : Int) then (j : Int) else (i : Int)) = ((max i j : Nat) : Int) := by split <;> omega
end Gz
namespace Gz
open PySem L2
theorem seq_cut {a b : TS} {D : Ends} {σ : L2.St} {H : Hp} (I : L2.St → Hp → Prop) (h1 : ∀ N : L2.St → Hp → Prop, (∀ σ H, I σ H → N σ H) → a { D with nx := N } σ H) (h2 : ∀ σ H, I σ H → b D σ H) : tSeq a b D σ H := h1 _ h2
end Gz
set_option Elab.async false
set_option linter.all false
set_option maxRecDepth 100000
set_option maxHeartbeats 4000000
namespace Gz
open PySem PySem.Spec PyProof.Rows L2
def bits (bs : List Int) : Prop := ∀ x ∈ bs, x = 0 ∨ x = 1
abbrev Lk := Option (List Int)
def IsLx (xs : List Addr) (H : Hp) (v : V) : Lk → Prop
  | none => v = .non
  | some bs => ∃ l, v = .ref l ∧ l ∉ xs ∧ H l = some (.lst (bs.map V.int))
abbrev IsL := IsLx []
theorem IsLx.l {xs : List Addr} {H : Hp} {v : V} {k : Lk} (h : IsLx xs H v k) : IsL H v k := by
  cases k with
  | none => exact h
  | some bs => obtain ⟨l, a, b, c⟩ := h; exact ⟨l, a, (fun z => nomatch z), c⟩
end Gz
set_option Elab.async false
set_option linter.all false
set_option maxRecDepth 100000
set_option maxHeartbeats 4000000
namespace Gz
open PySem PySem.Spec PyProof.Rows L2
theorem ite_by {c : Prop} [Decidable c] {a b : Prop} (h : c → a) (h' : ¬ c → b) : if c then a else b := by
  by_cases z : c
  · rw [if_pos z]; exact h z
  · rw [if_neg z]; exact h' z
section
variable {X : Cx} {pos : Pos}
end
end Gz
set_option Elab.async false
set_option linter.all false
set_option maxRecDepth 100000
set_option maxHeartbeats 4000000
namespace Gz
open PySem PySem.Spec PyProof.Rows L2
local macro_rules | `(tactic| walk_at "om") => `(tactic| ((try simp only [PySem.Addr] at *); omega))
section
variable {M : Model} {A : Around} {E : Value → Shared → Prop} {s : Shared} {B : Heap} {l outer : List Env} {env : Env} {L x C : Addr} {cls a0 mk : Value} {Q : Unit → Shared → Prop}
end
section
variable {P : Program} {w : World} {K : PySem.W.Frag} {mg : Str → Option Value} {base : Heap} {N : List Str} {qual : Str} {scope : Scope} {f : Addr} {cd : Value} {A : Around} {outer : List Env} {s : Shared} {H : Hp} {E : XK}
end
section
variable {X : Cx} {pins : List (Addr × Obj)} {σ : L2.St} {H2 : Hp} {s2 : Shared} {x : Str} {px pos : Pos} {elt iter : Expr} {ifs : List Expr} {scope : Scope} {cl : List (Str × Addr)} {fr : List Nat} {ys : List Str} {tt : TT} {te : TE}
end
section
variable {X : Cx} {F : Value → Shared → Prop} {pins pn : List (Addr × Obj)} {σ : L2.St} {H : Hp} {s : Shared} {A' : Around}
end
end Gz
set_option Elab.async false
set_option linter.all false
set_option maxRecDepth 100000
set_option maxHeartbeats 4000000
namespace Gz
open PySem PySem.Spec PyProof.Rows L2
end Gz
set_option Elab.async false
set_option linter.all false
set_option maxRecDepth 100000
set_option maxHeartbeats 4000000
namespace Gz
open PySem PySem.Spec PyProof.Rows L2
local macro_rules | `(tactic| walk_at "om") => `(tactic| ((try simp only [PySem.Addr] at *); omega))
section
variable {κ : Type} [DecidableEq κ]
end
section
variable {prog : Program} {w : World} {K : Type} [DecidableEq K] {knd : HeapKind prog w K} {A : Around} {E : Value → Shared → Prop} {s : Shared}
end
def RawAt (h : Heap) (d : Addr) (es : Array DictEntry) (ep : Nat) : Prop := ∃ o, h.get? d = some o ∧ o.ExactDict ∧ o.data = .dict es ep
theorem RawAt.at {h h' : Heap} {d : Addr} {es : Array DictEntry} {ep : Nat} (x : RawAt h d es ep) (e : ∀ o, h.get? d = some o → h'.get? d = some o) : RawAt h' d es ep := let ⟨o, ho, r⟩ := x; ⟨o, e o ho, r⟩
theorem RawAt.lt {h : Heap} {d : Addr} {es : Array DictEntry} {ep : Nat} (x : RawAt h d es ep) : d < h.objs.size := let ⟨_, ho, _⟩ := x; Heap.lt_size ho
theorem RawAt.ty {s : Shared} {d : Addr} {es : Array DictEntry} {ep : Nat} (x : RawAt s.heap d es ep) : s.TypeIs (.ref d) "dict" := let ⟨o, ho, hc, _⟩ := x; ⟨o, ho, hc.1⟩
section
variable {prog : Program} {w : World} {A : Around} {E : Value → Shared → Prop} {s : Shared} {d it : Addr} {es : Array DictEntry} {i ep : Nat}
end
section
variable {prog : Program} {w : World} {A : Around} {E : Value → Shared → Prop} {s : Shared}
def TupI (h : Heap) (vs : List Value) (kis : List (List Int)) (i : Nat) : Prop := ∃ (p : Addr) (o : Obj) (its : List Value) (m : Nat), vs[i]? = some (.ref p) ∧ h.get? p = some o ∧ o.cls = .type "tuple" ∧ o.data = .seq its.toArray m ∧ IntsAre its (kis.getD i []) ∧ its ≠ []
theorem TupI.keep {h h' : Heap} {vs : List Value} {kis : List (List Int)} {i : Nat} (x : TupI h vs kis i) (k : ∀ b o, h.get? b = some o → (∀ n xs, o ≠ seqObj "list" xs n) → h'.get? b = some o) : TupI h' vs kis i := by
  obtain ⟨p, o, its, m, h1, h2, h3, r⟩ := x
  exact ⟨p, o, its, m, h1, k p o h2 (fun n xs z => by rw [z] at h3; exact absurd (Value.type.inj h3) (by decide)), h3, r⟩
end
section
variable {X : Cx} {pins : List (Addr × Obj)} {σ : L2.St} {H : Hp} {s : Shared} {p : Addr} {kvs : List (List Key × V)}
end
section
variable {X : Cx} {pins : List (Addr × Obj)} {σ : L2.St} {H : Hp} {s : Shared} {p b : Addr} {kvs : List (List Key × V)} {k : List Key} {A : Around} {E : Value → Shared → Prop}
end
section
variable {X : Cx} {o e f : Expr} {td ty tx : TE} {apos cpos : Pos}
end
section
variable {prog : Program} {w : World} {K : Type} [DecidableEq K] {knd : KeyKind prog w K} {A : Around} {E : Value → Shared → Prop} {s : Shared} {o d : Addr} {es : Array DictEntry} {ep : Nat}
end
end Gz
set_option Elab.async false
set_option linter.all false
set_option maxRecDepth 100000
set_option maxHeartbeats 4000000
namespace Gz
open PySem PySem.Spec PyProof.Rows L2
local macro_rules | `(tactic| walk_at "om") => `(tactic| ((try simp only [PySem.Addr] at *); omega))
section
variable {prog : Program} {w : World} {A : Around} {E : Value → Shared → Prop} {s : Shared}
end
abbrev KD (prog : Program) (w : World) := tupleKind (mixKind prog w)
abbrev Row := Addr × List Key × Addr × Value
section
variable {prog : Program} {w : World} {A : Around} {E : Value → Shared → Prop} {s : Shared}
theorem tup_keep {h h' : Heap} {k : List Key} {a : Addr} (x : (KD prog w).is h k a) (e : ∀ o, h.get? a = some o → h'.get? a = some o) : (KD prog w).is h' k a :=
  let ⟨o, its, n, h1, r⟩ := x; ⟨o, its, n, e o h1, r⟩
def RowAt (prog : Program) (w : World) (h : Heap) (r : Row) : Prop := (∃ o m, h.get? r.1 = some o ∧ o.cls = .type "tuple" ∧ o.data = .seq #[.ref r.2.2.1, r.2.2.2] m) ∧ (KD prog w).is h r.2.1 r.2.2.1
theorem RowAt.keep {h h' : Heap} {r : Row} (x : RowAt prog w h r) (e1 : ∀ o, h.get? r.1 = some o → h'.get? r.1 = some o) (e2 : ∀ o, h.get? r.2.2.1 = some o → h'.get? r.2.2.1 = some o) : RowAt prog w h' r :=
  let ⟨⟨o, m, a, b⟩, c⟩ := x; ⟨⟨o, m, e1 o a, b⟩, tup_keep c e2⟩
end
section
variable {X : Cx} {pins : List (Addr × Obj)} {σ : L2.St} {H : Hp} {s : Shared}
end
end Gz
set_option Elab.async false
set_option linter.all false
set_option maxRecDepth 100000
set_option maxHeartbeats 4000000
namespace Gz
open PySem PySem.Spec PyProof.Rows L2
local macro_rules | `(tactic| walk_at "om") => `(tactic| ((try simp only [PySem.Addr] at *); omega))
abbrev Tb := List (P2 × S2)
def spot (i j : Int) : List Key := [.inl i, .inl j]
theorem spot_inj {a b : P2} (h : spot a.1 a.2 = spot b.1 b.2) : a = b := by
  unfold spot at h
  injection h with h1 h2
  injection h2 with h2 _
  exact Prod.ext (Sum.inl.inj h1) (Sum.inl.inj h2)
def dropT (tb : Tb) (s : P2) : Tb := tb.filter fun r => decide (r.1 ≠ s)
def TabAs (H : Hp) : List (List Key × V) → Tb → Prop
  | [], [] => True
  | kv :: kvs, r :: tb => (kv.1 = spot r.1.1 r.1.2 ∧ IsS H kv.2 r.2.1 r.2.2) ∧ TabAs H kvs tb
  | _, _ => False
section
variable {H H' : Hp} {kvs : List (List Key × V)} {tb : Tb}
theorem TabAs.any (s : P2) : ∀ {kvs : List (List Key × V)} {tb : Tb}, TabAs H kvs tb → (kvs.any fun kv => decide (kv.1 = spot s.1 s.2)) = tb.any fun r => decide (r.1 = s)
  | [], [], _ => rfl
  | kv :: kvs, r :: tb, h => by
    rw [List.any_cons, List.any_cons, TabAs.any s (kvs := kvs) (tb := tb) h.2, h.1.1]
    congr 1
    by_cases e : r.1 = s
    · rw [e, decide_eq_true rfl, decide_eq_true rfl]
    · rw [decide_eq_false e, decide_eq_false fun z => e (spot_inj z)]
  | [], _ :: _, h => h.elim
  | _ :: _, [], h => h.elim
theorem TabAs.drop {s : P2} : ∀ {kvs : List (List Key × V)} {tb : Tb}, TabAs H kvs tb → TabAs H (dropK kvs (spot s.1 s.2)) (dropT tb s)
  | [], [], _ => trivial
  | kv :: kvs, r :: tb, h => by
    have ih := TabAs.drop (s := s) (kvs := kvs) (tb := tb) h.2
    unfold dropK dropT at *
    rw [List.filter_cons, List.filter_cons]
    by_cases e : r.1 = s
    · have e2 : kv.1 = spot s.1 s.2 := h.1.1.trans (by rw [e])
      rw [if_neg (by simp [e2]), if_neg (by simp [e])]; exact ih
    · have e2 : ¬ kv.1 = spot s.1 s.2 := fun z => e (spot_inj (h.1.1.symm.trans z))
      rw [if_pos (by simp [e2]), if_pos (by simp [e])]; exact ⟨h.1, ih⟩
  | [], _ :: _, h => h.elim
  | _ :: _, [], h => h.elim
end
def Fr (H H' : Hp) : Prop := ∀ b o, (∀ kvs, o ≠ HO.dT kvs) → H b = some o → H' b = some o
def But (ps : List Addr) (H H' : Hp) : Prop := ∀ b o, b ∉ ps → H b = some o → H' b = some o
section
variable {H H' H2 : Hp} {ps qs : List Addr} {p q : Addr} {tb : Tb}
theorem Fr.trans (a : Fr H H') (b : Fr H' H2) : Fr H H2 := fun c o h e => b c o h (a c o h e)
theorem But.trans (a : But ps H H') (b : But ps H' H2) : But ps H H2 := fun c o h e => b c o h (a c o h e)
end
def onB (e t : Int) (s : P2) : Prop := (0 ≤ s.1 ∧ s.1 < e) ∧ 0 ≤ s.2 ∧ s.2 < t
instance (e t : Int) (s : P2) : Decidable (onB e t s) := by unfold onB; infer_instance
def okT (e t : Int) (tb : Tb) : Prop := (tb.map (·.1)).Nodup ∧ ∀ r ∈ tb, onB e t r.1
theorem okT.drop {e t : Int} {tb : Tb} {s : P2} (h : okT e t tb) : okT e t (dropT tb s) :=
  ⟨h.1.sublist ((List.filter_sublist).map _), fun r hr => h.2 r (List.mem_filter.mp hr).1⟩
theorem okT.nil {e t : Int} : okT e t [] := ⟨List.nodup_nil, fun r h => by cases h⟩
theorem All2.bmap {α β : Type} {R : V → α → Prop} {f : β → α} : ∀ {xs : List V} {bs : List β}, All2 (fun x b => R x (f b)) xs bs → All2 R xs (bs.map f)
  | [], [], _ => trivial
  | _ :: _, _ :: _, h => ⟨h.1, All2.bmap h.2⟩
  | [], _ :: _, h => h.elim
  | _ :: _, [], h => h.elim
end Gz
set_option Elab.async false
set_option linter.all false
namespace Gz
open PySem PySem.Spec PyProof.Rows L2
theorem crossed_mono {a b c d : En} (h : crossed a b = true) : crossed (maxE a c) (minE b d) = true := by
  rcases a with _ | x <;> rcases b with _ | y <;> rcases c with _ | z <;> rcases d with _ | w <;> simp [crossed, maxE, minE] at h ⊢ <;> omega
def comE (e : S2) (ss : List S2) : S2 := ss.foldl (fun e s => (maxE e.1 s.1, minE e.2 s.2)) e
theorem comE_cons (e s : S2) (ss : List S2) : comE e (s :: ss) = comE (maxE e.1 s.1, minE e.2 s.2) ss := rfl
theorem comE_crossed : ∀ (ss : List S2) {e : S2}, crossed e.1 e.2 = true → crossed (comE e ss).1 (comE e ss).2 = true
  | [], _, h => h
  | s :: ss, e, h => by
    rw [comE_cons]
    exact comE_crossed ss (crossed_mono h)
theorem comE_take {ss : List S2} {e : S2} {i : Nat} (h : crossed (comE e (ss.take i)).1 (comE e (ss.take i)).2 = true) : crossed (comE e ss).1 (comE e ss).2 = true := by
  have : comE e ss = comE (comE e (ss.take i)) (ss.drop i) := by
    unfold comE
    rw [← List.foldl_append, List.take_append_drop]
  rw [this]
  exact comE_crossed _ h
theorem comE_succ {ss : List S2} {e s : S2} {i : Nat} (h : ss[i]? = some s) : comE e (ss.take (i + 1)) = (maxE (comE e (ss.take i)).1 s.1, minE (comE e (ss.take i)).2 s.2) := by
  unfold comE
  rw [List.take_succ, h, List.foldl_append]
  rfl
def comW (e : S2) (ss : List S2) : W2 := if crossed (comE e ss).1 (comE e ss).2 = true then none else some (comE e ss)
theorem sts_all2 {H : Hp} : ∀ {xs : List V} {ss : List S2}, Sts H xs ss ↔ All2 (fun x s => IsS H x s.1 s.2) xs ss
  | [], [] => Iff.rfl
  | _ :: _, _ :: _ => and_congr Iff.rfl sts_all2
  | [], _ :: _ => Iff.rfl
  | _ :: _, [] => Iff.rfl
theorem int_at {cs : List Int} {t : Int} (h0 : 0 ≤ t) (h1 : t < (cs.length : Int)) : atI (cs.map V.int) t = some (.int (cs.getD t.toNat 0)) := by
  have e : t = ((t.toNat : Nat) : Int) := by omega
  refine (congrArg (atI _) e).trans (atI_nat ?_)
  rw [List.getElem?_map, List.getD_eq_getElem?_getD, List.getElem?_eq_getElem (by omega)]
  rfl
structure Gd (n : Nat) (d : PyData) : Prop where
  eqv : PyData.eqv d d = true
  lay : d.canLay0 = true
  dep : d.depth ≤ n
theorem Gd.up {n m : Nat} {d : PyData} (h : Gd n d) (hm : n ≤ m) : Gd m d := ⟨h.eqv, h.lay, Nat.le_trans h.dep hm⟩
theorem Gd.of {n : Nat} {d : PyData} (h : plainD n d = true) : Gd n d := let ⟨a, b, c⟩ := plain_ok d h; ⟨a, b, c⟩
theorem Gd.int (i : Int) : Gd 0 (.int i) := .of rfl
theorem Gd.all : ∀ {ds : List PyData} {n : Nat}, (∀ d ∈ ds, Gd n d) → PyData.eqvAll ds ds = true ∧ PyData.canLayAll0 ds = true ∧ PyData.depthAll ds ≤ n
  | [], n, _ => ⟨rfl, rfl, Nat.zero_le _⟩
  | d :: ds, n, h => by
    obtain ⟨a, b, c⟩ := h d (.head _)
    obtain ⟨a', b', c'⟩ := Gd.all (ds := ds) fun x hx => h x (.tail _ hx)
    exact ⟨by simp only [PyData.eqvAll, a, a', Bool.and_self], by simp only [PyData.canLayAll0, b, b', Bool.and_self], by simp only [PyData.depthAll]; omega⟩
theorem Gd.lst {ds : List PyData} {n : Nat} (h : ∀ d ∈ ds, Gd n d) : Gd (n + 1) (.list ds) := by
  obtain ⟨a, b, c⟩ := Gd.all h
  exact ⟨by simpa only [PyData.eqv] using a, by simpa only [PyData.canLay0] using b, by simp only [PyData.depth]; omega⟩
theorem Gd.tup {ds : List PyData} {n : Nat} (h : ∀ d ∈ ds, Gd n d) : Gd (n + 1) (.tuple ds) := by
  obtain ⟨a, b, c⟩ := Gd.all h
  exact ⟨by simpa only [PyData.eqv] using a, by simpa only [PyData.canLay0] using b, by simp only [PyData.depth]; omega⟩
theorem eq_good {K : PySem.W.Frag} {H : Hp} {x y : V} {d : PyData} {n : Nat} {neg : Bool} {Q : VK} (hx : Dat K H x d) (hy : Dat K H y d) (g : Gd n d) (hn : n ≤ 60) (q : Q (.bl (!neg)) H) : rEqD K neg x y H Q := by
  refine ⟨d, d, hx, hy, g.lay, g.lay, Nat.le_trans g.dep hn, ?_⟩
  rw [g.eqv]
  cases neg <;> exact q
theorem gd_S (s : S2) : Gd 1 (datS s) := .of (by
  obtain ⟨a, b⟩ := s
  cases a <;> cases b <;> rfl)
theorem Dats.of_all2 {α : Type} {K : PySem.W.Frag} {H : Hp} {R : V → α → Prop} {f : α → PyData} (h : ∀ v a, R v a → Dat K H v (f a)) : ∀ {xs : List V} {as : List α}, All2 R xs as → Dats K H xs (as.map f)
  | [], [], _ => .nil
  | _ :: _, _ :: _, r => .cons (h _ _ r.1) (Dats.of_all2 h r.2)
  | [], _ :: _, r => r.elim
  | _ :: _, [], r => r.elim
end Gz
namespace Gz
open PySem PySem.Spec PyProof.Rows L2
theorem compGo_pick {α β : Type} {R : V → α → Prop} {R' : V → β → Prop} {Ok : Hp → Prop} {ρ : L2.St} {tt : TT} {te : TE} {p : α → Bool} {f : α → β} {Q' : List V → Hp → Prop} {H : Hp} (hOk : Ok H) : ∀ {xs : List V} {as : List α} {ys : List V}, All2 R xs as →
    (∀ x a, R x a → ∀ Q, Q (p a) H → tt (some x :: ρ) H Q) → (∀ x a, p a = true → R x a → ∀ Q : VK, (∀ y, R' y (f a) → Q y H) → te (some x :: ρ) H Q) → (∀ zs, All2 R' zs ((as.filter p).map f) → Q' (ys ++ zs) H) → compGo Ok ρ tt te xs ys H Q'
  | [], [], ys, _, _, _, q => ⟨hOk, by simpa using q [] trivial⟩
  | x :: xs, a :: as, ys, h, ht, he, q => by
    refine ⟨hOk, ht x a h.1 _ ?_⟩
    by_cases hb : p a = true
    · rw [if_pos hb]
      refine he x a hb h.1 _ fun y ry => compGo_pick hOk h.2 ht he fun zs hz => ?_
      have := q (y :: zs) (by rw [List.filter_cons, if_pos hb]; exact ⟨ry, hz⟩)
      simpa using this
    · rw [if_neg hb]
      refine compGo_pick hOk h.2 ht he fun zs hz => q zs ?_
      rw [List.filter_cons, if_neg hb]
      exact hz
  | [], _ :: _, _, h, _, _, _ => h.elim
  | _ :: _, [], _, h, _, _, _ => h.elim
end Gz
namespace Gz
open PySem PySem.Spec PyProof.Rows L2
end Gz
namespace Gz
open PySem PySem.Spec PyProof.Rows L2
end Gz
namespace Gz
open PySem L2
end Gz
set_option Elab.async false
set_option linter.all false
namespace Gz
open PySem L2 PySem.W PySem.Spec PyProof.Rows
def pre (f : P2 → Int) (ps : List P2) (i : Nat) : Int := ((ps.take i).map f).sum
theorem pre_succ (f : P2 → Int) (ps : List P2) {i : Nat} (h : i < ps.length) : pre f ps (i + 1) = pre f ps i + f (ptD ps i) := by
  unfold pre ptD
  rw [List.take_succ, List.map_append, List.sum_append, List.getD_eq_getElem?_getD, List.getElem?_eq_getElem h]
  simp only [Option.toList_some, List.map_cons, List.map_nil, List.sum_cons, List.sum_nil, Int.add_zero, Option.getD_some]
def riseF (ps : List P2) (i j : Nat) : Int := if i ≤ j then pre (·.2) ps j - pre (·.2) ps i else pre (·.1) ps j - pre (·.1) ps i
def okPc (ps : List P2) : Prop := ∀ p ∈ ps, p.1 ≤ p.2
theorem pre_mono {ps : List P2} (h : okPc ps) (i : Nat) : ∀ n, i + n ≤ ps.length → pre (·.1) ps (i + n) - pre (·.1) ps i ≤ pre (·.2) ps (i + n) - pre (·.2) ps i
  | 0, _ => by simp
  | n + 1, hn => by
    have ih := pre_mono h i n (by omega)
    rw [show i + (n + 1) = (i + n) + 1 by omega, pre_succ _ ps (by omega), pre_succ _ ps (by omega)]
    have := h _ (mem_ptD (ps := ps) (i := i + n) (by omega))
    omega
theorem pre_le {ps : List P2} (h : okPc ps) {i j : Nat} (hij : i ≤ j) (hj : j ≤ ps.length) : pre (·.1) ps j - pre (·.1) ps i ≤ pre (·.2) ps j - pre (·.2) ps i := by
  have := pre_mono h i (j - i) (by omega)
  rwa [show i + (j - i) = j by omega] at this
theorem rise_tri {ps : List P2} (h : okPc ps) {i j k : Nat} (hi : i ≤ ps.length) (hj : j ≤ ps.length) (hk : k ≤ ps.length) : riseF ps i j ≤ riseF ps i k + riseF ps k j := by
  have a := fun h' => pre_le h (i := i) (j := j) h' hj
  have b := fun h' => pre_le h (i := j) (j := i) h' hi
  have c := fun h' => pre_le h (i := i) (j := k) h' hk
  have d := fun h' => pre_le h (i := k) (j := i) h' hi
  have e := fun h' => pre_le h (i := j) (j := k) h' hk
  have f := fun h' => pre_le h (i := k) (j := j) h' hj
  unfold riseF
  split <;> split <;> split <;> omega
def part (ps : List P2) (i j k : Nat) : Int := if i < j then pre (·.2) ps (min i j + k) - pre (·.2) ps i else pre (·.1) ps j - pre (·.1) ps (min i j + k)
theorem part_ends {ps : List P2} {i j : Nat} : part ps i j 0 = 0 ∧ part ps i j (max i j - min i j) = riseF ps i j := by
  unfold part riseF
  by_cases h : i < j
  · rw [if_pos h, if_pos h, if_pos (by omega), show min i j + 0 = i by omega, show min i j + (max i j - min i j) = j by omega]
    omega
  · rw [if_neg h, if_neg h, show min i j + 0 = j by omega, show min i j + (max i j - min i j) = i by omega]
    by_cases e : i = j
    · subst e
      rw [if_pos (by omega)]
      omega
    · rw [if_neg (by omega)]
      omega
end Gz
set_option Elab.async false
set_option linter.all false
namespace Gz
open PySem L2
def inS (s : S2) (x : Int) : Prop := (∀ a, s.1 = some a → a ≤ x) ∧ ∀ b, s.2 = some b → x ≤ b
def inW (w : W2) (x : Int) : Prop := ∃ s, w = some s ∧ inS s x
theorem inS_hold {s : S2} {x : Int} : inS s x ↔ hold s.1 s.2 x = true := hold_iff.symm
theorem inS_meet {a b : S2} {x : Int} : inS (maxE a.1 b.1, minE a.2 b.2) x ↔ inS a x ∧ inS b x := by
  obtain ⟨a1, a2⟩ := a
  obtain ⟨b1, b2⟩ := b
  unfold inS
  rcases a1 with _ | p <;> rcases a2 with _ | q <;> rcases b1 with _ | r <;> rcases b2 with _ | s <;> simp [maxE, minE] <;> (try split) <;> (try split) <;> omega
theorem inS_com {ss : List S2} {x : Int} : ∀ {e : S2}, inS (comE e ss) x ↔ inS e x ∧ ∀ s ∈ ss, inS s x := by
  induction ss with
  | nil => intro e; exact ⟨fun h => ⟨h, fun _ z => nomatch z⟩, fun h => h.1⟩
  | cons s ss ih =>
    intro e
    rw [comE_cons, ih, inS_meet]
    simp only [List.mem_cons, forall_eq_or_imp, and_assoc]
theorem has_of {s : S2} (h : crossed s.1 s.2 = false) : ∃ x, inS s x := by
  obtain ⟨a, b⟩ := s
  rcases a with _ | a <;> rcases b with _ | b
  · exact ⟨0, fun _ z => (nomatch z), fun _ z => (nomatch z)⟩
  · exact ⟨b, fun _ z => (nomatch z), fun _ z => by cases z; exact Int.le_refl _⟩
  · exact ⟨a, fun _ z => by cases z; exact Int.le_refl _, fun _ z => (nomatch z)⟩
  · refine ⟨a, fun _ z => by cases z; exact Int.le_refl _, fun _ z => ?_⟩
    cases z
    simp [crossed] at h
    exact h
theorem of_has {s : S2} {x : Int} (h : inS s x) : crossed s.1 s.2 = false := by
  obtain ⟨a, b⟩ := s
  rcases a with _ | a <;> rcases b with _ | b
  · rfl
  · rfl
  · rfl
  · have h1 := h.1 a rfl
    have h2 := h.2 b rfl
    simp [crossed]
    omega
def meetW (a b : S2) : W2 := if crossed (maxE a.1 b.1) (minE a.2 b.2) = true then none else some (maxE a.1 b.1, minE a.2 b.2)
theorem inW_meet {a b : S2} {x : Int} : inW (meetW a b) x ↔ inS a x ∧ inS b x := by
  unfold meetW
  constructor
  · rintro ⟨s, e, h⟩
    split at e
    · cases e
    · cases e
      exact inS_meet.mp h
  · intro h
    have h := inS_meet.mpr h
    rw [if_neg (by rw [of_has h]; simp)]
    exact ⟨_, rfl, h⟩
theorem meet_ok {a b s : S2} (h : meetW a b = some s) : crossed s.1 s.2 = false := by
  unfold meetW at h
  split at h
  · cases h
  · rename_i hc
    cases h
    simpa using hc
theorem inW_com {ss : List S2} {x : Int} : inW (comW (none, none) ss) x ↔ ∀ s ∈ ss, inS s x := by
  have e0 : inS (none, none) x := ⟨fun _ z => (nomatch z), fun _ z => (nomatch z)⟩
  unfold comW
  constructor
  · rintro ⟨s, e, h⟩
    split at e
    · cases e
    · cases e
      exact (inS_com.mp h).2
  · intro h
    have h := inS_com.mpr ⟨e0, h⟩
    rw [if_neg (by rw [of_has h]; simp)]
    exact ⟨_, rfl, h⟩
def movS (s : S2) (p : P2) : S2 := (s.1.map (· + p.1), s.2.map (· + p.2))
theorem mov_in {s : S2} {p : P2} {x y : Int} (h : inS s x) (h1 : p.1 ≤ y - x) (h2 : y - x ≤ p.2) : inS (movS s p) y := by
  obtain ⟨a, b⟩ := s
  refine ⟨fun z e => ?_, fun z e => ?_⟩
  · obtain ⟨a, ea, rfl⟩ := Option.map_eq_some_iff.mp (show a.map (· + p.1) = some z from e)
    have := h.1 a ea
    omega
  · obtain ⟨b, eb, rfl⟩ := Option.map_eq_some_iff.mp (show b.map (· + p.2) = some z from e)
    have := h.2 b eb
    omega
theorem in_mov {s : S2} {p : P2} {y : Int} (hs : crossed s.1 s.2 = false) (hp : p.1 ≤ p.2) (h : inS (movS s p) y) : ∃ x, inS s x ∧ p.1 ≤ y - x ∧ y - x ≤ p.2 := by
  obtain ⟨a, b⟩ := s
  rcases a with _ | a <;> rcases b with _ | b
  · exact ⟨y - p.1, ⟨fun _ z => (nomatch z), fun _ z => (nomatch z)⟩, by omega, by omega⟩
  · have h2 := h.2 (b + p.2) rfl
    exact ⟨y - p.2, ⟨fun _ z => (nomatch z), fun _ z => by cases z; omega⟩, by omega, by omega⟩
  · have h1 := h.1 (a + p.1) rfl
    exact ⟨y - p.1, ⟨fun _ z => by cases z; omega, fun _ z => (nomatch z)⟩, by omega, by omega⟩
  · have h1 := h.1 (a + p.1) rfl
    have h2 := h.2 (b + p.2) rfl
    simp [crossed] at hs
    by_cases hc : a ≤ y - p.2
    · exact ⟨y - p.2, ⟨fun _ z => by cases z; omega, fun _ z => by cases z; omega⟩, by omega, by omega⟩
    · exact ⟨a, ⟨fun _ z => by cases z; omega, fun _ z => by cases z; omega⟩, by omega, by omega⟩
def narW (bx : Nat → W2) (st : Nat → P2) : Nat → W2
  | 0 => bx 0
  | t + 1 => match bx (t + 1), narW bx st t with
    | some b, some k => meetW b (movS k (st t))
    | _, _ => none
def okW (w : W2) : Prop := ∀ s, w = some s → crossed s.1 s.2 = false
theorem nar_ok {bx : Nat → W2} {st : Nat → P2} (h0 : okW (bx 0)) : ∀ t, okW (narW bx st t)
  | 0 => h0
  | t + 1 => fun s e => by
    unfold narW at e
    split at e
    · exact meet_ok e
    · cases e
theorem nar_some {bx : Nat → W2} {st : Nat → P2} {t : Nat} {s : S2} (h : narW bx st (t + 1) = some s) : ∃ b k, bx (t + 1) = some b ∧ narW bx st t = some k ∧ meetW b (movS k (st t)) = some s := by
  unfold narW at h
  split at h
  · rename_i b k e1 e2
    exact ⟨b, k, e1, e2, h⟩
  · cases h
theorem nar_in {bx : Nat → W2} {st : Nat → P2} {c : Nat → Int} {n : Nat} (hb : ∀ t, t ≤ n → inW (bx t) (c t)) (hs : ∀ t, t < n → (st t).1 ≤ c (t + 1) - c t ∧ c (t + 1) - c t ≤ (st t).2) : ∀ t, t ≤ n → inW (narW bx st t) (c t)
  | 0, h => hb 0 h
  | t + 1, h => by
    obtain ⟨k, ek, hk⟩ := nar_in hb hs t (by omega)
    obtain ⟨b, eb, hbt⟩ := hb (t + 1) h
    obtain ⟨h1, h2⟩ := hs t (by omega)
    unfold narW
    rw [eb, ek]
    exact inW_meet.mpr ⟨hbt, mov_in hk h1 h2⟩
theorem nar_box {bx : Nat → W2} {st : Nat → P2} {x : Int} : ∀ {t : Nat}, inW (narW bx st t) x → inW (bx t) x
  | 0, h => h
  | t + 1, ⟨s, e, h⟩ => by
    obtain ⟨b, k, e1, _, e3⟩ := nar_some e
    exact ⟨b, e1, (inW_meet.mp ⟨s, e3, h⟩).1⟩
theorem nar_pred {bx : Nat → W2} {st : Nat → P2} (h0 : okW (bx 0)) {t : Nat} (hp : (st t).1 ≤ (st t).2) {y : Int} (h : inW (narW bx st (t + 1)) y) : ∃ x, inW (narW bx st t) x ∧ (st t).1 ≤ y - x ∧ y - x ≤ (st t).2 := by
  obtain ⟨s, e, h⟩ := h
  obtain ⟨b, k, _, e2, e3⟩ := nar_some e
  obtain ⟨x, hx, h1, h2⟩ := in_mov (nar_ok h0 t k e2) hp (inW_meet.mp ⟨s, e3, h⟩).2
  exact ⟨x, ⟨k, e2, hx⟩, h1, h2⟩
def bckS (n : Nat) (st : Nat → P2) (t : Nat) : P2 := (-(st (n - 1 - t)).2, -(st (n - 1 - t)).1)
def tubW (n : Nat) (bx : Nat → W2) (st : Nat → P2) (t : Nat) : W2 := narW (fun k => narW bx st (n - k)) (bckS n st) (n - t)
structure TubOk (n : Nat) (bx : Nat → W2) (st : Nat → P2) : Prop where
  ok : ∀ t, t ≤ n → ∃ s, tubW n bx st t = some s ∧ crossed s.1 s.2 = false
  sub : ∀ t x, t ≤ n → inW (tubW n bx st t) x → inW (bx t) x
  next : ∀ t x, t < n → inW (tubW n bx st t) x → ∃ y, inW (tubW n bx st (t + 1)) y ∧ (st t).1 ≤ y - x ∧ y - x ≤ (st t).2
theorem tub_ok {n : Nat} {bx : Nat → W2} {st : Nat → P2} (h0 : okW (bx 0)) (hp : ∀ t, t < n → (st t).1 ≤ (st t).2) (hf : ∀ t, t ≤ n → narW bx st t ≠ none) : TubOk n bx st := by
  have okf := nar_ok (st := st) h0
  have some_ : ∀ k, k ≤ n → ∃ s, narW (fun k => narW bx st (n - k)) (bckS n st) k = some s := by
    intro k
    induction k with
    | zero =>
      intro _
      obtain ⟨s, e⟩ := Option.ne_none_iff_exists'.mp (hf n (Nat.le_refl _))
      exact ⟨s, e⟩
    | succ k ih =>
      intro hk
      obtain ⟨s, e⟩ := ih (by omega)
      obtain ⟨y, hy⟩ := has_of (nar_ok (bx := fun k => narW bx st (n - k)) (okf n) k s e)
      have hy1 : inW (narW bx st (n - k)) y := nar_box (bx := fun k => narW bx st (n - k)) ⟨s, e, hy⟩
      rw [show n - k = n - (k + 1) + 1 by omega] at hy1
      obtain ⟨x, ⟨f, ef, hx⟩, h1, h2⟩ := nar_pred h0 (hp _ (by omega)) hy1
      have em : n - 1 - k = n - (k + 1) := by omega
      have hm : inS (movS s (bckS n st k)) x := mov_in hy (by unfold bckS; rw [em]; dsimp only; omega) (by unfold bckS; rw [em]; dsimp only; omega)
      obtain ⟨z, ez, _⟩ := inW_meet.mpr ⟨hx, hm⟩
      refine ⟨z, ?_⟩
      unfold narW
      rw [e]
      show (match narW bx st (n - (k + 1)), some s with
        | some b, some k_1 => meetW b (movS k_1 (bckS n st k))
        | _, _ => none) = some z
      rw [ef]
      exact ez
  refine ⟨fun t ht => ?_, fun t x ht h => ?_, fun t x ht h => ?_⟩
  · obtain ⟨s, e⟩ := some_ (n - t) (by omega)
    exact ⟨s, e, nar_ok (bx := fun k => narW bx st (n - k)) (okf n) _ s e⟩
  · have := nar_box (bx := fun k => narW bx st (n - k)) h
    rw [show n - (n - t) = t by omega] at this
    exact nar_box this
  · unfold tubW at h
    rw [show n - t = n - (t + 1) + 1 by omega] at h
    have hb : (bckS n st (n - (t + 1))).1 ≤ (bckS n st (n - (t + 1))).2 := by
      unfold bckS
      have := hp (n - 1 - (n - (t + 1))) (by omega)
      dsimp only
      omega
    obtain ⟨y, hy, h1, h2⟩ := nar_pred (bx := fun k => narW bx st (n - k)) (okf n) hb h
    have em : n - 1 - (n - (t + 1)) = t := by omega
    unfold bckS at h1 h2
    rw [em] at h1 h2
    dsimp only at h1 h2
    exact ⟨y, hy, by omega, by omega⟩
def isCrs (ps : List P2) (c : Nat → Int) : Prop := ∀ k, k < ps.length → (ptD ps k).1 ≤ c (k + 1) - c k ∧ c (k + 1) - c k ≤ (ptD ps k).2
abbrev Mk := Nat × S2
def meets (ms : List Mk) (c : Nat → Int) : Prop := ∀ m ∈ ms, inS m.2 (c m.1)
structure Tops (ps : List P2) (ms : List Mk) (tp : Nat → Option P2) : Prop where
  val : ∀ t v k, t ≤ ps.length → tp t = some (v, k) → ∃ (i : Nat) (m : Mk) (h : Int), k = (i : Int) ∧ ms[i]? = some m ∧ m.2.2 = some h ∧ h + riseF ps m.1 t ≤ v
  top : ∀ m ∈ ms, ∀ h, m.2.2 = some h → ∃ v k, tp m.1 = some (v, k) ∧ v ≤ h
  fwd : ∀ t v k, t < ps.length → tp t = some (v, k) → ∃ v' k', tp (t + 1) = some (v', k') ∧ v' ≤ v + (ptD ps t).2
  bwd : ∀ t v k, t < ps.length → tp (t + 1) = some (v, k) → ∃ v' k', tp t = some (v', k') ∧ v' ≤ v - (ptD ps t).1
def noCr (ms : List Mk) (tp : Nat → Option P2) : Prop := ∀ m ∈ ms, ∀ l v k, m.2.1 = some l → tp m.1 = some (v, k) → l ≤ v
theorem course_of {ps : List P2} {ms : List Mk} {tp : Nat → Option P2} (hp : okPc ps) (hm : ∀ m ∈ ms, m.1 ≤ ps.length) (T : Tops ps ms tp) (hn : noCr ms tp) : ∃ c, isCrs ps c ∧ meets ms c := by
  by_cases h0 : tp 0 = none
  · have all0 : ∀ t, t ≤ ps.length → tp t = none := by
      intro t
      induction t with
      | zero => intro _; exact h0
      | succ t ih =>
        intro ht
        cases e : tp (t + 1) with
        | none => rfl
        | some q =>
          obtain ⟨v, k⟩ := q
          obtain ⟨v', k', e', _⟩ := T.bwd t v k (by omega) e
          rw [ih (by omega)] at e'
          cases e'
    have nohi : ∀ m ∈ ms, m.2.2 = none := fun m hmm => by
      cases e : m.2.2 with
      | none => rfl
      | some h =>
        obtain ⟨v, k, e', _⟩ := T.top m hmm h e
        rw [all0 m.1 (hm m hmm)] at e'
        cases e'
    have big : ∀ (l : List Mk), ∃ M : Int, ∀ m ∈ l, ∀ a, m.2.1 = some a → a ≤ M + pre (·.1) ps m.1 := by
      intro l
      induction l with
      | nil => exact ⟨0, fun _ z => nomatch z⟩
      | cons m l ih =>
        obtain ⟨M, hM⟩ := ih
        cases e : m.2.1 with
        | none =>
          refine ⟨M, fun q hq a ha => ?_⟩
          rcases List.mem_cons.mp hq with rfl | hq
          · rw [e] at ha; cases ha
          · exact hM q hq a ha
        | some b =>
          refine ⟨if M ≤ b - pre (·.1) ps m.1 then b - pre (·.1) ps m.1 else M, fun q hq a ha => ?_⟩
          rcases List.mem_cons.mp hq with rfl | hq
          · rw [e] at ha
            cases ha
            split <;> omega
          · have := hM q hq a ha
            split <;> omega
    obtain ⟨M, hM⟩ := big ms
    refine ⟨fun t => M + pre (·.1) ps t, fun k hk => ?_, fun m hmm => ⟨fun a ha => hM m hmm a ha, fun b hb => ?_⟩⟩
    · have := hp _ (mem_ptD hk)
      dsimp only
      rw [pre_succ _ ps hk]
      omega
    · rw [nohi m hmm] at hb
      cases hb
  · have alls : ∀ t, t ≤ ps.length → ∃ v k, tp t = some (v, k) := by
      intro t
      induction t with
      | zero =>
        intro _
        obtain ⟨⟨v, k⟩, e⟩ := Option.ne_none_iff_exists'.mp h0
        exact ⟨v, k, e⟩
      | succ t ih =>
        intro ht
        obtain ⟨v, k, e⟩ := ih (by omega)
        obtain ⟨v', k', e', _⟩ := T.fwd t v k (by omega) e
        exact ⟨v', k', e'⟩
    refine ⟨fun t => ((tp t).map (·.1)).getD 0, fun k hk => ?_, fun m hmm => ⟨fun a ha => ?_, fun b hb => ?_⟩⟩
    · obtain ⟨v, q, e⟩ := alls k (by omega)
      obtain ⟨v', q', e', h1⟩ := T.fwd k v q hk e
      obtain ⟨v2, q2, e2, h2⟩ := T.bwd k v' q' hk e'
      rw [e] at e2
      cases e2
      dsimp only
      rw [e, e']
      simp only [Option.map_some, Option.getD_some]
      omega
    · obtain ⟨v, q, e⟩ := alls m.1 (hm m hmm)
      have := hn m hmm a v q ha e
      dsimp only
      rw [e]
      exact this
    · obtain ⟨v, q, e, h1⟩ := T.top m hmm b hb
      dsimp only
      rw [e]
      exact h1
def clash (ps : List P2) (a b : Mk) : Prop := ∃ h l, a.2.2 = some h ∧ b.2.1 = some l ∧ h + riseF ps a.1 b.1 < l
def lessP (a b : P2) : Bool := decide (a.1 < b.1) || (decide (a.1 = b.1) && decide (a.2 < b.2))
def minP (a b : P2) : P2 := if lessP b a = true then b else a
def lesO : Option P2 → Option P2 → Option P2
  | none, b => b
  | some a, none => some a
  | some a, some b => some (minP a b)
theorem minP_or (a b : P2) : (minP a b = a ∨ minP a b = b) ∧ (minP a b).1 ≤ a.1 ∧ (minP a b).1 ≤ b.1 := by
  unfold minP lessP
  split
  · rename_i h
    simp only [Bool.or_eq_true, Bool.and_eq_true, decide_eq_true_eq] at h
    exact ⟨.inr rfl, by omega, by omega⟩
  · rename_i h
    simp only [Bool.or_eq_true, Bool.and_eq_true, decide_eq_true_eq, not_or, not_and] at h
    exact ⟨.inl rfl, by omega, by omega⟩
theorem lesO_or (a b : Option P2) : lesO a b = a ∨ lesO a b = b := by
  rcases a with _ | a <;> rcases b with _ | b
  · exact .inl rfl
  · exact .inr rfl
  · exact .inl rfl
  · show some (minP a b) = some a ∨ some (minP a b) = some b
    rcases (minP_or a b).1 with h | h <;> rw [h]
    · exact .inl rfl
    · exact .inr rfl
def leO (a : Option P2) (v : Int) : Prop := ∃ w k, a = some (w, k) ∧ w ≤ v
theorem leO_left {a b : Option P2} {v : Int} (h : leO a v) : leO (lesO a b) v := by
  obtain ⟨w, k, rfl, hw⟩ := h
  rcases b with _ | b
  · exact ⟨w, k, rfl, hw⟩
  · have := (minP_or (w, k) b).2.1
    exact ⟨(minP (w, k) b).1, (minP (w, k) b).2, rfl, by dsimp only at this; omega⟩
theorem leO_right {a b : Option P2} {v : Int} (h : leO b v) : leO (lesO a b) v := by
  obtain ⟨w, k, rfl, hw⟩ := h
  rcases a with _ | a
  · exact ⟨w, k, rfl, hw⟩
  · have := (minP_or a (w, k)).2.2
    exact ⟨(minP a (w, k)).1, (minP a (w, k)).2, rfl, by dsimp only at this; omega⟩
def lifO (a : Option P2) (by_ : Int) : Option P2 := a.map fun q => (q.1 + by_, q.2)
theorem lifO_le {a : Option P2} {v b : Int} (h : leO a v) : leO (lifO a b) (v + b) := by
  obtain ⟨w, k, rfl, hw⟩ := h
  exact ⟨w + b, k, rfl, by omega⟩
def valOk (ps : List P2) (ms : List Mk) (t : Nat) (a : Option P2) : Prop := ∀ v k, a = some (v, k) → ∃ (i : Nat) (m : Mk) (h : Int), k = (i : Int) ∧ ms[i]? = some m ∧ m.2.2 = some h ∧ h + riseF ps m.1 t ≤ v
theorem valOk.les {ps : List P2} {ms : List Mk} {t : Nat} {a b : Option P2} (ha : valOk ps ms t a) (hb : valOk ps ms t b) : valOk ps ms t (lesO a b) := by
  rcases lesO_or a b with h | h <;> rw [h]
  · exact ha
  · exact hb
theorem rise_self (ps : List P2) (t : Nat) : riseF ps t t = 0 := by unfold riseF; rw [if_pos (Nat.le_refl _)]; omega
theorem rise_up {ps : List P2} {t : Nat} (h : t < ps.length) : riseF ps t (t + 1) = (ptD ps t).2 := by
  unfold riseF
  rw [if_pos (Nat.le_succ _), pre_succ _ ps h]
  omega
theorem rise_down {ps : List P2} {t : Nat} (h : t < ps.length) : riseF ps (t + 1) t = -(ptD ps t).1 := by
  unfold riseF
  rw [if_neg (by omega), pre_succ _ ps h]
  omega
theorem valOk.lift {ps : List P2} {ms : List Mk} (hp : okPc ps) (hm : ∀ m ∈ ms, m.1 ≤ ps.length) {t u : Nat} (ht : t ≤ ps.length) (hu : u ≤ ps.length) {a : Option P2} {b : Int} (hb : riseF ps t u = b) (h : valOk ps ms t a) : valOk ps ms u (lifO a b) := by
  intro v k e
  obtain ⟨⟨w, q⟩, ea, e⟩ := Option.map_eq_some_iff.mp e
  cases e
  obtain ⟨i, m, x, e1, e2, e3, hx⟩ := h w q ea
  refine ⟨i, m, x, e1, e2, e3, ?_⟩
  have := rise_tri hp (hm m (List.mem_of_getElem? e2)) hu ht
  dsimp only
  omega
def updT (tp : Nat → Option P2) (i : Nat) (x : Option P2) : Nat → Option P2 := fun t => if t = i then x else tp t
theorem updT_same {tp : Nat → Option P2} {i : Nat} {x : Option P2} : updT tp i x i = x := if_pos rfl
theorem updT_ne {tp : Nat → Option P2} {i t : Nat} {x : Option P2} (h : t ≠ i) : updT tp i x t = tp t := if_neg h
theorem updT_val {ps : List P2} {ms : List Mk} {tp : Nat → Option P2} {i : Nat} {x : Option P2} (h : ∀ t, t ≤ ps.length → valOk ps ms t (tp t)) (hx : valOk ps ms i x) : ∀ t, t ≤ ps.length → valOk ps ms t (updT tp i x t) := fun t ht => by
  by_cases e : t = i
  · subst e; rw [updT_same]; exact hx
  · rw [updT_ne e]; exact h t ht
theorem updT_le {tp : Nat → Option P2} {i t : Nat} {b : Option P2} {v : Int} (h : leO (tp t) v) : leO (updT tp i (lesO (tp i) b) t) v := by
  by_cases e : t = i
  · subst e; rw [updT_same]; exact leO_left h
  · rw [updT_ne e]; exact h
structure T1 (ps : List P2) (ms : List Mk) (j : Nat) (tp : Nat → Option P2) : Prop where
  val : ∀ t, t ≤ ps.length → valOk ps ms t (tp t)
  top : ∀ m ∈ ms.take j, ∀ h, m.2.2 = some h → leO (tp m.1) h
theorem T1.nil {ps : List P2} {ms : List Mk} : T1 ps ms 0 fun _ => none := ⟨fun _ _ _ _ e => (nomatch e), fun _ h => by simp at h⟩
theorem T1.skip {ps : List P2} {ms : List Mk} {j : Nat} {tp : Nat → Option P2} {m : Mk} (T : T1 ps ms j tp) (hm : ms[j]? = some m) (hn : m.2.2 = none) : T1 ps ms (j + 1) tp := ⟨T.val, fun q hq h e => by
  rw [List.take_succ, hm] at hq
  rcases List.mem_append.mp hq with z | z
  · exact T.top q z h e
  · obtain rfl : q = m := by simpa using z
    rw [hn] at e; cases e⟩
theorem T1.put {ps : List P2} {ms : List Mk} {j : Nat} {tp : Nat → Option P2} {m : Mk} {h : Int} (T : T1 ps ms j tp) (hm : ms[j]? = some m) (hh : m.2.2 = some h) : T1 ps ms (j + 1) (updT tp m.1 (lesO (tp m.1) (some (h, (j : Int))))) := by
  have hv : valOk ps ms m.1 (some (h, (j : Int))) := fun v k e => by
    cases e
    exact ⟨j, m, h, rfl, hm, hh, by rw [rise_self]; omega⟩
  refine ⟨fun t ht => ?_, fun q hq x e => ?_⟩
  · by_cases e : t = m.1
    · subst e; rw [updT_same]; exact (T.val _ ht).les hv
    · rw [updT_ne e]; exact T.val t ht
  · rw [List.take_succ, hm] at hq
    rcases List.mem_append.mp hq with z | z
    · exact updT_le (T.top q z x e)
    · obtain rfl : q = m := by simpa using z
      rw [hh] at e
      cases e
      rw [updT_same]
      exact leO_right ⟨h, j, rfl, Int.le_refl _⟩
structure T2 (ps : List P2) (ms : List Mk) (j : Nat) (tp : Nat → Option P2) : Prop where
  val : ∀ t, t ≤ ps.length → valOk ps ms t (tp t)
  top : ∀ m ∈ ms, ∀ h, m.2.2 = some h → leO (tp m.1) h
  fwd : ∀ t, t < j → ∀ v, leO (tp t) v → leO (tp (t + 1)) (v + (ptD ps t).2)
theorem T1.two {ps : List P2} {ms : List Mk} {tp : Nat → Option P2} (T : T1 ps ms ms.length tp) : T2 ps ms 0 tp := ⟨T.val, fun m h => T.top m (by rw [List.take_length]; exact h), fun _ h => absurd h (Nat.not_lt_zero _)⟩
theorem T2.step {ps : List P2} {ms : List Mk} {j : Nat} {tp : Nat → Option P2} (hp : okPc ps) (hm : ∀ m ∈ ms, m.1 ≤ ps.length) (hj : j < ps.length) (T : T2 ps ms j tp) : T2 ps ms (j + 1) (updT tp (j + 1) (lesO (tp (j + 1)) (lifO (tp j) (ptD ps j).2))) := by
  refine ⟨updT_val T.val ((T.val _ (by omega)).les ((T.val j (by omega)).lift hp hm (by omega) (by omega) (rise_up hj))), fun m h x e => updT_le (T.top m h x e), fun t ht v hv => ?_⟩
  rw [updT_ne (by omega)] at hv
  by_cases e : t = j
  · subst e
    rw [updT_same]
    exact leO_right (lifO_le hv)
  · rw [updT_ne (by omega)]
    exact T.fwd t (by omega) v hv
structure T3 (ps : List P2) (ms : List Mk) (j : Nat) (tp : Nat → Option P2) : Prop where
  val : ∀ t, t ≤ ps.length → valOk ps ms t (tp t)
  top : ∀ m ∈ ms, ∀ h, m.2.2 = some h → leO (tp m.1) h
  fwd : ∀ t, t < ps.length → ∀ v, leO (tp t) v → leO (tp (t + 1)) (v + (ptD ps t).2)
  bwd : ∀ t, j ≤ t → t < ps.length → ∀ v, leO (tp (t + 1)) v → leO (tp t) (v - (ptD ps t).1)
theorem T2.three {ps : List P2} {ms : List Mk} {tp : Nat → Option P2} (T : T2 ps ms ps.length tp) : T3 ps ms ps.length tp := ⟨T.val, T.top, T.fwd, fun t h1 h2 => absurd h2 (by omega)⟩
theorem T3.step {ps : List P2} {ms : List Mk} {j : Nat} {tp : Nat → Option P2} (hp : okPc ps) (hm : ∀ m ∈ ms, m.1 ≤ ps.length) (hj : j < ps.length) (T : T3 ps ms (j + 1) tp) : T3 ps ms j (updT tp j (lesO (tp j) (lifO (tp (j + 1)) (-(ptD ps j).1)))) := by
  have h1 := hp _ (mem_ptD hj)
  refine ⟨updT_val T.val ((T.val _ (by omega)).les ((T.val (j + 1) (by omega)).lift hp hm (by omega) (by omega) (rise_down hj))), fun m h x e => updT_le (T.top m h x e), fun t ht v hv => ?_, fun t h2 h3 v hv => ?_⟩
  · by_cases e : t = j
    · subst e
      rw [updT_same] at hv
      rw [updT_ne (by omega)]
      rcases lesO_or (tp t) (lifO (tp (t + 1)) (-(ptD ps t).1)) with z | z
      · rw [z] at hv; exact T.fwd t ht v hv
      · rw [z] at hv
        obtain ⟨w, k, e, hw⟩ := hv
        obtain ⟨⟨w', k'⟩, e1, e2⟩ := Option.map_eq_some_iff.mp e
        cases e2
        exact ⟨w', k', e1, by dsimp only at hw; omega⟩
    · rw [updT_ne e] at hv
      exact updT_le (T.fwd t ht v hv)
  · rw [updT_ne (by omega)] at hv
    by_cases e : t = j
    · subst e
      rw [updT_same]
      refine leO_right ?_
      have := lifO_le (b := -(ptD ps t).1) hv
      rwa [show v + -(ptD ps t).1 = v - (ptD ps t).1 by omega] at this
    · rw [updT_ne e]
      exact T.bwd t (by omega) h3 v hv
theorem T3.tops {ps : List P2} {ms : List Mk} {tp : Nat → Option P2} (T : T3 ps ms 0 tp) : Tops ps ms tp :=
  ⟨fun t v k ht e => T.val t ht v k e, T.top, fun t v k ht e => T.fwd t ht v ⟨v, k, e, Int.le_refl _⟩, fun t v k ht e => T.bwd t (Nat.zero_le _) ht v ⟨v, k, e, Int.le_refl _⟩⟩
theorem Tops.clash {ps : List P2} {ms : List Mk} {tp : Nat → Option P2} (T : Tops ps ms tp) {b : Mk} {v k l : Int} (hb : b.1 ≤ ps.length) (e : tp b.1 = some (v, k)) (hl : b.2.1 = some l) (hv : v < l) : ∃ (i : Nat) (a : Mk), k = (i : Int) ∧ ms[i]? = some a ∧ clash ps a b := by
  obtain ⟨i, m, h, e1, e2, e3, h4⟩ := T.val _ v k hb e
  exact ⟨i, m, e1, e2, h, l, e3, hl, by omega⟩
theorem nar_congr {bx bx' : Nat → W2} {st st' : Nat → P2} : ∀ t, (∀ k, k ≤ t → bx k = bx' k) → (∀ k, k < t → st k = st' k) → narW bx st t = narW bx' st' t
  | 0, h, _ => h 0 (Nat.le_refl _)
  | t + 1, h, hs => by
    unfold narW
    rw [h (t + 1) (Nat.le_refl _), nar_congr t (fun k hk => h k (by omega)) (fun k hk => hs k (by omega)), hs t (by omega)]
def wAt (ws : List W2) (t : Nat) : W2 := ws.getD t none
def sAt (ss : List S2) (t : Nat) : S2 := ss.getD t (none, none)
def atT (ms : List Mk) (t : Nat) : List S2 := (ms.filter fun m => decide (m.1 = t)).map (·.2)
def bxT (ms : List Mk) (t : Nat) : W2 := comW (none, none) (atT ms t)
theorem bxT_in {ms : List Mk} {t : Nat} {x : Int} : inW (bxT ms t) x ↔ ∀ m ∈ ms, m.1 = t → inS m.2 x := by
  unfold bxT
  rw [inW_com]
  unfold atT
  constructor
  · intro h m hm e
    exact h _ (List.mem_map.mpr ⟨m, List.mem_filter.mpr ⟨hm, by simpa using e⟩, rfl⟩)
  · intro h s hs
    obtain ⟨m, hm, rfl⟩ := List.mem_map.mp hs
    obtain ⟨h1, h2⟩ := List.mem_filter.mp hm
    exact h m h1 (by simpa using h2)
theorem bxT_ok (ms : List Mk) (t : Nat) : okW (bxT ms t) := fun s e => by
  unfold bxT comW at e
  split at e
  · cases e
  · rename_i h
    cases e
    simpa using h
theorem nar_of_course {ps : List P2} {ms : List Mk} {c : Nat → Int} (hc : isCrs ps c) (hm : meets ms c) : ∀ t, t ≤ ps.length → narW (bxT ms) (ptD ps) t ≠ none := fun t ht e => by
  obtain ⟨s, es, _⟩ := nar_in (bx := bxT ms) (st := ptD ps) (c := c) (n := ps.length) (fun t _ => bxT_in.mpr fun m hmm e => by rw [← e]; exact hm m hmm) (fun t ht => hc t ht) t ht
  rw [e] at es
  cases es
theorem tub_of {ps : List P2} {ms : List Mk} (hp : okPc ps) (hf : ∀ t, t ≤ ps.length → narW (bxT ms) (ptD ps) t ≠ none) : TubOk ps.length (bxT ms) (ptD ps) := tub_ok (bxT_ok ms 0) (fun t ht => hp _ (mem_ptD ht)) hf
def bckL (ps : List P2) : List P2 := ps.reverse.map fun p => (-p.2, -p.1)
theorem bckL_at {ps : List P2} {t : Nat} (h : t < ps.length) : ptD (bckL ps) t = bckS ps.length (ptD ps) t := by
  unfold bckL bckS ptD
  rw [List.getD_eq_getElem?_getD, List.getElem?_map, List.getElem?_reverse h, List.getD_eq_getElem?_getD, List.getElem?_eq_getElem (by omega)]
  rfl
theorem back_eq {ps : List P2} {ms : List Mk} {ss : List S2} (hl : ss.length = ps.length + 1) (h : ∀ t, t < ps.length + 1 → narW (bxT ms) (ptD ps) t = some (sAt ss t)) {t : Nat} (ht : t ≤ ps.length) : narW (wAt (ss.reverse.map some)) (ptD (bckL ps)) t = tubW ps.length (bxT ms) (ptD ps) (ps.length - t) := by
  unfold tubW
  rw [show ps.length - (ps.length - t) = t by omega]
  refine nar_congr t (fun k hk => ?_) fun k hk => bckL_at (by omega)
  rw [h (ps.length - k) (by omega)]
  unfold wAt sAt
  rw [List.getD_eq_getElem?_getD, List.getElem?_map, List.getElem?_reverse (by omega), hl, show ps.length + 1 - 1 - k = ps.length - k by omega, List.getD_eq_getElem?_getD, List.getElem?_eq_getElem (by omega)]
  rfl
theorem sAt_rev {ss : List S2} {n t : Nat} (hl : ss.length = n + 1) (ht : t ≤ n) : sAt ss.reverse t = sAt ss (n - t) := by
  unfold sAt
  rw [List.getD_eq_getElem?_getD, List.getElem?_reverse (by omega), List.getD_eq_getElem?_getD, hl, show n + 1 - 1 - t = n - t by omega]
theorem tub_step {ps : List P2} {ms : List Mk} (T : TubOk ps.length (bxT ms) (ptD ps)) {t : Nat} (ht : t < ps.length) {x : Int} {s : S2} (hx : inW (tubW ps.length (bxT ms) (ptD ps) t) x) (hs : tubW ps.length (bxT ms) (ptD ps) (t + 1) = some s) : ∃ r, meetW s (movS (some x, some x) (ptD ps t)) = some r ∧ ∀ y, inS r y → inW (tubW ps.length (bxT ms) (ptD ps) (t + 1)) y ∧ (ptD ps t).1 ≤ y - x ∧ y - x ≤ (ptD ps t).2 := by
  obtain ⟨y, ⟨s', e', hy⟩, h1, h2⟩ := T.next t x ht hx
  rw [hs] at e'
  cases e'
  have xx : inS (some x, some x) x := ⟨fun _ z => by cases z; exact Int.le_refl _, fun _ z => by cases z; exact Int.le_refl _⟩
  obtain ⟨r, er, _⟩ := inW_meet.mpr ⟨hy, mov_in xx h1 h2⟩
  refine ⟨r, er, fun z hz => ?_⟩
  obtain ⟨z1, z2⟩ := inW_meet.mp ⟨r, er, hz⟩
  refine ⟨⟨s, hs, z1⟩, ?_⟩
  have a := z2.1 (x + (ptD ps t).1) rfl
  have b := z2.2 (x + (ptD ps t).2) rfl
  omega
def crsL (cs : List Int) (t : Nat) : Int := cs.getD t 0
theorem meets_of {ps : List P2} {ms : List Mk} (T : TubOk ps.length (bxT ms) (ptD ps)) (hm : ∀ m ∈ ms, m.1 ≤ ps.length) {c : Nat → Int} (h : ∀ t, t ≤ ps.length → inW (tubW ps.length (bxT ms) (ptD ps) t) (c t)) : meets ms c := fun m hmm => bxT_in.mp (T.sub _ _ (hm m hmm) (h _ (hm m hmm))) m hmm rfl
def tpOf (ts : List (Option P2)) (t : Nat) : Option P2 := ts.getD t none
theorem tpOf_set {ts : List (Option P2)} {i : Nat} {x : Option P2} (h : i < ts.length) : tpOf (ts.set i x) = updT (tpOf ts) i x := by
  funext t
  unfold tpOf updT
  rw [List.getD_eq_getElem?_getD, List.getElem?_set]
  by_cases e : t = i
  · subst e; rw [if_pos rfl, if_pos rfl, if_pos h]; rfl
  · rw [if_neg (fun z => e z.symm), if_neg e]
    exact (List.getD_eq_getElem?_getD ..).symm
theorem tpOf_none (n : Nat) : tpOf (List.replicate n none) = fun _ => none := by
  funext t
  unfold tpOf
  rw [List.getD_eq_getElem?_getD, List.getElem?_replicate]
  split <;> rfl
end Gz
set_option Elab.async false
set_option linter.all false
set_option maxRecDepth 100000
namespace Gz
open PySem PySem.Spec PyProof.Rows L2
def IsPr (h : Heap) (a : Addr) (p : P2) : Prop := ∃ o t u n, h.get? a = some o ∧ o.cls = .type "tuple" ∧ o.data = .seq #[.int p.1 t, .int p.2 u] n
theorem IsPr.keep {h h' : Heap} {a : Addr} {p : P2} (x : IsPr h a p) (k : ∀ o, h.get? a = some o → h'.get? a = some o) : IsPr h' a p := let ⟨o, t, u, n, e, r⟩ := x; ⟨o, t, u, n, k o e, r⟩
section
variable {prog : Program} {w : World} {A : Around} {E : Value → Shared → Prop} {s : Shared}
theorem lt_int2 {x y : Int} {t u : Tok} {Q : Value → Shared → Prop} (h : Q (.bool (decide (x < y))) s) : wpAny (model prog w) A (richCompare .Lt (.int x t) (.int y u)) Q E s :=
  richCompare_gives (op := .Lt) (typeIs_int s _ t) (typeIs_int s _ u) PySem.F.slot_int_lt PySem.F.entry_int_lt (PySem.F.args_int_lt_2 _ _) (gives_int_lt _ _ t u) (fun x => nomatch x) h
theorem lt_pairs {Q : Value → Shared → Prop} {a b : Addr} {p q : P2} (ha : IsPr s.heap a p) (hb : IsPr s.heap b q) (hu : A.units < cLine) (h : Q (.bool (lessP p q)) s) : wpAny (model prog w) A (richCompare .Lt (.ref a) (.ref b)) Q E s := by
  obtain ⟨oa, t1, u1, n1, hoa, hca, hda⟩ := ha
  obtain ⟨ob, t2, u2, n2, hob, hcb, hdb⟩ := hb
  have Ta : s.TypeIs (.ref a) "tuple" := ⟨oa, hoa, hca⟩
  have Tb : s.TypeIs (.ref b) "tuple" := ⟨ob, hob, hcb⟩
  refine wpAny_richCompare_same_room Ta Tb PySem.F.slot_tuple_lt (wpAny_call_entry PySem.F.slot_tuple_lt Ta PySem.F.entry_tuple_lt ?_ (PySem.F.args_tuple_lt_2 _ _)) hu
  show wpAny _ _ (isInstance (.ref b) (.type "tuple") >>= _) _ _ s
  refine wpAny_bind (wpAny_isInstance Tb isSubtype_tuple_tuple ?_)
  simp only [Bool.not_true, Bool.false_eq_true, if_false]
  refine wpAny_bind (wpAny_tupleItemsOf hoa hda ?_)
  refine wpAny_bind (wpAny_tupleItemsOf hob hdb ?_)
  refine wpAny_bind ?_
  refine wpAny_forIn_list _ (fun rest r s' => r.1 = none ∧ s' = s ∧ (rest = [(.int p.1 t1, .int q.1 t2), (.int p.2 u1, .int q.2 u2)] ∨ (rest = [(.int p.2 u1, .int q.2 u2)] ∧ p.1 = q.1) ∨ (rest = [] ∧ p.1 = q.1 ∧ p.2 = q.2))) _ ?_ ?_ _ _ ⟨rfl, rfl, .inl rfl⟩
  · rintro ⟨u, v⟩ rest r s' ⟨hr, rfl, hz⟩
    rcases hz with hz | ⟨hz, e1⟩ | ⟨hz, _⟩
    · cases hz
      refine wpAny_bind (wpAny_eqBool_int ?_)
      by_cases e : p.1 = q.1
      · rw [show (p.1 == q.1) = true by simpa using e]
        simp only [Bool.not_true, Bool.false_eq_true, if_false]
        exact wpAny_pure ⟨rfl, rfl, .inr (.inl ⟨trivial, e⟩)⟩
      · rw [show (p.1 == q.1) = false by simpa using e]
        simp only [Bool.not_false, if_true]
        refine wpAny_bind (wpAny_rule (wpAny_bind (lt_int2 (wpAny_bind (wpAny_pure (wpAny_pure (wpAny_pure ⟨_, rfl, fun z => (nomatch z), ?_⟩)))))))
        have e2 : lessP p q = decide (p.1 < q.1) := by unfold lessP; rw [decide_eq_false e]; simp
        rw [← e2]
        exact h
    · cases hz
      refine wpAny_bind (wpAny_eqBool_int ?_)
      by_cases e : p.2 = q.2
      · rw [show (p.2 == q.2) = true by simpa using e]
        simp only [Bool.not_true, Bool.false_eq_true, if_false]
        exact wpAny_pure ⟨rfl, rfl, .inr (.inr ⟨trivial, e1, e⟩)⟩
      · rw [show (p.2 == q.2) = false by simpa using e]
        simp only [Bool.not_false, if_true]
        refine wpAny_bind (wpAny_rule (wpAny_bind (lt_int2 (wpAny_bind (wpAny_pure (wpAny_pure (wpAny_pure ⟨_, rfl, fun z => (nomatch z), ?_⟩)))))))
        have e2 : lessP p q = decide (p.2 < q.2) := by unfold lessP; rw [e1]; simp
        rw [← e2]
        exact h
    · cases hz
  · rintro ⟨r1, r2⟩ s' ⟨hr, rfl, hz⟩
    simp only at hr
    subst hr
    rcases hz with hz | ⟨hz, _⟩ | ⟨_, e1, e2⟩
    · cases hz
    · cases hz
    · refine wpAny_pure ⟨_, rfl, fun z => (nomatch z), ?_⟩
      have e3 : lessP p q = false := by unfold lessP; rw [e1, e2]; simp
      rw [e3] at h
      exact h
theorem loop_minG {R : Result → Shared → Prop} {I S : Addr} {fp wr : List Addr} {n : Nat} {P : Nat → Value → Prop} {St : Nat → Heap → Prop} {G : Heap → Prop} {bt : Nat → Nat → Bool} {kw : List (Str × Value)}
    (W : Walks prog w A.in1 I fp wr n P St) (hG : ∀ h h', G h → (∀ b o, b ∉ wr → b ≠ S → h.get? b = some o → h'.get? b = some o) → G h')
    (hcmp : ∀ i j vi vj (s : Shared) (Q : Value → Shared → Prop) (E : Value → Shared → Prop), P i vi → P j vj → G s.heap → Q (.bool (bt i j)) s → wpAny (model prog w) A.in1 (richCompare .Lt vi vj) Q E s) (hS : S ∉ fp) : ∀ (k j : Nat) (s : Shared) (vb : Value) (c : Nat), k + (j + 1) = n → St (j + 1) s.heap → G s.heap → P (argBest bt j) vb →
      s.heap.get? S = some { cls := .type "list", dict := none, data := .seq #[vb, vb] c, slots := #[] } →
      (∀ v h' tk, P (argBest bt (n - 1)) v → (∀ b o, b ∉ wr → b ≠ S → s.heap.get? b = some o → h'.get? b = some o) → R (.ok (.ret v)) { s with heap := h', toks := tk }) →
      codeAny (model prog w) A (.builtin "min.loop" ⟨[.ref I, .none, .ref S], kw⟩) R s := by
  have nS : S ∉ wr := fun z => hS (W.sub _ z)
  have nm : (toString "min" ++ toString ".loop" : String) = "min.loop" := by decide
  intro k
  induction k with
  | zero =>
    intro j s vb c e st g pb oS fin
    have e' : j + 1 = n := by omega
    refine codeAny_builtin PySem.F.entry_min_loop ?_
    rw [Around.under_plainId PySem.F.plain_min_loop _]
    show wpAny _ A.in1 (seqItems? (.ref S) >>= _) _ _ s
    refine wpAny_bind (wpAny_seqItems oS rfl ?_)
    show wpAny _ A.in1 (tryCatch (pyNext (.ref I)) _ >>= _) _ _ s
    refine wpAny_bind (wpAny_tryCatch (W.done s _ _ (e' ▸ st) fun h1 tk kp => ?_))
    have oS1 := kp S _ nS oS
    show wpAny _ A.in1 (updateSeq S (fun _ => #[]) >>= _) _ _ _
    refine wpAny_bind ?_
    refine wpAny_updateSeq oS1 rfl (wpAny_bind (wpAny_letGo (wpAny_pure ?_)))
    exact fin vb _ tk (by rw [← e']; exact pb) fun b o hw hb q => (Heap.get?_update_other _ _ (Ne.symm hb)).trans (kp b o hw q)
  | succ k ih =>
    intro j s vb c e st g pb oS fin
    have lt : j + 1 < n := by omega
    refine codeAny_builtin PySem.F.entry_min_loop ?_
    rw [Around.under_plainId PySem.F.plain_min_loop _]
    show wpAny _ A.in1 (seqItems? (.ref S) >>= _) _ _ s
    refine wpAny_bind (wpAny_seqItems oS rfl ?_)
    show wpAny _ A.in1 (tryCatch (pyNext (.ref I)) _ >>= _) _ _ s
    refine wpAny_bind (wpAny_tryCatch (W.item (j + 1) s _ _ lt st fun v h1 tk pv st1 kp => ?_))
    have oS1 := kp S _ nS oS
    have g1 : G h1 := hG _ _ g fun b o hw _ q => kp b o hw q
    show wpAny _ A.in1 (tryCatch (holding [v, v] (richCompare .Lt v vb >>= _)) _ >>= _) _ _ _
    refine wpAny_bind (wpAny_tryCatch (wpAny_holding (wpAny_bind (hcmp (j + 1) (argBest bt j) v vb _ _ _ pv pb g1 ?_))))
    refine wpAny_bind (wpAny_holding (wpAny_truthy_bool ?_))
    refine wpAny_bind (wpAny_letGo (wpAny_pure ?_))
    cases hb : bt (j + 1) (argBest bt j) with
    | true =>
      simp only [if_true]
      refine wpAny_bind ?_
      refine wpAny_updateSeq oS1 rfl (wpAny_bind (wpAny_letGo ?_))
      rw [nm]
      refine wpAny_pure ⟨plainId_quiet PySem.F.plain_min_loop _, ih (j + 1) _ v _ (by omega) (W.frame _ _ _ st1 fun b hf o q => ?_) (hG _ _ g1 fun b o _ hbS q => (Heap.get?_update_other _ _ (Ne.symm hbS)).trans q) (by simp only [argBest, hb, if_true]; exact pv) (Heap.get?_update_self _ oS1 rfl) fun v2 h2 tk2 p2 k2 => ?_⟩
      · exact (Heap.get?_update_other _ _ (fun z : S = b => hS (by rw [z]; exact hf))).trans q
      · exact fin v2 h2 tk2 p2 fun b o hw hbS q => k2 b o hw hbS ((Heap.get?_update_other _ _ (Ne.symm hbS)).trans (kp b o hw q))
    | false =>
      simp only [Bool.false_eq_true, if_false]
      refine wpAny_bind (wpAny_letGo ?_)
      rw [nm]
      refine wpAny_pure ⟨plainId_quiet PySem.F.plain_min_loop _, ih (j + 1) _ vb c (by omega) st1 g1 (by simp only [argBest, hb, Bool.false_eq_true, if_false]; exact pb) oS1 fun v2 h2 tk2 p2 k2 => ?_⟩
      exact fin v2 h2 tk2 p2 fun b o hw hbS q => k2 b o hw hbS (kp b o hw q)
theorem min_two_pairs {Q : Value → Shared → Prop} {a b : Addr} {p q : P2} (hh : A.handled = none) (ha : IsPr s.heap a p) (hb : IsPr s.heap b q) (hu : A.in1.units < cLine)
    (h : ∀ h' tk, (∀ c o, s.heap.get? c = some o → h'.get? c = some o) → Q (.ref (if lessP q p = true then b else a)) { s with heap := h', toks := tk }) : wpAny (model prog w) A (call (.builtin "min") [.ref a, .ref b]) Q E s := by
  have nm : (toString "min" ++ toString ".loop" : String) = "min.loop" := by decide
  refine call_function_tree PySem.F.kind_min PySem.F.plain_min PySem.F.entry_min (PySem.F.args_min2 _ _) ?_
  show wpAny _ A.in1 (Builtin.Builtins.bindParams "min" ["key", "default"] 0 ⟨[], []⟩ >>= _) _ _ s
  refine wpAny_bind (wpAny_of_eq (show Builtin.Builtins.bindParams "min" ["key", "default"] 0 ⟨[], []⟩ = pure [none, none] from rfl) ?_)
  show wpAny _ A.in1 (newTuple [.ref a, .ref b] >>= _) _ _ s
  refine wpAny_bind (wpAny_newObj_type ?_)
  have hT : (s.heap.push { cls := .type "tuple", data := .seq #[.ref a, .ref b] }).IsTuple s.heap.objs.size #[.ref a, .ref b] := ⟨_, Heap.get?_push_size _ rfl, rfl, 0, rfl⟩
  refine wpAny_bind (wpAny_pyIter_tuple hT ?_)
  show wpAny _ A.in1 (newList [] >>= _) _ _ _
  refine wpAny_bind (wpAny_newObj_type ?_)
  generalize e1 : s.heap.push { cls := .type "tuple", data := .seq #[.ref a, .ref b] } = h1 at hT
  have z1 : h1.objs.size = s.heap.objs.size + 1 := by rw [← e1]; exact Heap.size_push ..
  have k1 : ∀ c o, s.heap.get? c = some o → h1.get? c = some o := fun c o e => by rw [← e1]; exact Heap.get?_push_of_some _ e
  dsimp only
  generalize e2 : h1.push { cls := .type "tuple_iterator", data := .fields #[.ref s.heap.objs.size, .int 0 0] } = h2
  have z2 : h2.objs.size = h1.objs.size + 1 := by rw [← e2]; exact Heap.size_push ..
  have k2 : ∀ c o, h1.get? c = some o → h2.get? c = some o := fun c o e => by rw [← e2]; exact Heap.get?_push_of_some _ e
  have W := Walks.tuple (prog := prog) (w := w) (A := A.in1) hh h1.objs.size s.heap.objs.size (by rw [z1]; exact Nat.ne_of_lt (Nat.lt_succ_self _)) #[.ref a, .ref b]
  have st0 : h2.IsTupleIter h1.objs.size s.heap.objs.size 0 ∧ h2.IsTuple s.heap.objs.size #[.ref a, .ref b] := ⟨⟨_, by rw [← e2]; exact Heap.get?_push_size _ rfl, rfl, rfl⟩, by rw [← e2]; exact hT.push _⟩
  have zs : h2.objs.size ∉ [h1.objs.size, s.heap.objs.size] := fun z => by
    simp only [List.mem_cons, List.not_mem_nil, or_false] at z
    rcases z with z | z
    · rw [z2] at z; exact Nat.succ_ne_self _ z
    · rw [z2, z1] at z
      exact absurd z (by intro z; have : s.heap.objs.size < s.heap.objs.size + 1 + 1 := Nat.lt_succ_of_lt (Nat.lt_succ_self _); rw [z] at this; exact Nat.lt_irrefl _ this)
  have nS : h2.objs.size ∉ [h1.objs.size] := fun z => zs (by simp at z; simp [z])
  have up : ∀ c o, s.heap.get? c = some o → c ∉ [h1.objs.size] ∧ c ≠ h2.objs.size ∧ (h2.push { cls := .type "list", data := .seq #[] }).get? c = some o := fun c o e => by
    have l1 := Heap.lt_size (k1 c o e)
    have l2 := Heap.lt_size (k2 c o (k1 c o e))
    exact ⟨fun z => by simp at z; rw [z] at l1; exact Nat.lt_irrefl _ l1, Nat.ne_of_lt l2, Heap.get?_push_of_some _ (k2 c o (k1 c o e))⟩
  let G : Heap → Prop := fun h => IsPr h a p ∧ IsPr h b q
  have inS : ∀ (x : Addr) (r : P2), IsPr s.heap x r → x ∉ [h1.objs.size] ∧ x ≠ h2.objs.size := fun x r hx => by
    obtain ⟨o, _, _, _, e, _⟩ := hx
    exact ⟨(up x o e).1, (up x o e).2.1⟩
  have hG : ∀ h h', G h → (∀ b o, b ∉ [h1.objs.size] → b ≠ h2.objs.size → h.get? b = some o → h'.get? b = some o) → G h' := fun h h' g k => ⟨g.1.keep fun o e => k a o (inS a p ha).1 (inS a p ha).2 e, g.2.keep fun o e => k b o (inS b q hb).1 (inS b q hb).2 e⟩
  let bt : Nat → Nat → Bool := fun i j => lessP (if i = 0 then p else q) (if j = 0 then p else q)
  have itm : ∀ i v, (#[Value.ref a, Value.ref b] : Array Value)[i]? = some v → (i = 0 ∧ v = .ref a) ∨ (i = 1 ∧ v = .ref b) := fun i v e => by
    match i, e with
    | 0, e => cases e; exact .inl ⟨rfl, rfl⟩
    | 1, e => cases e; exact .inr ⟨rfl, rfl⟩
    | i + 2, e => simp at e
  have hcmp : ∀ i j vi vj (s : Shared) (Q : Value → Shared → Prop) (E : Value → Shared → Prop), (#[Value.ref a, Value.ref b] : Array Value)[i]? = some vi → (#[Value.ref a, Value.ref b] : Array Value)[j]? = some vj → G s.heap → Q (.bool (bt i j)) s → wpAny (model prog w) A.in1 (richCompare .Lt vi vj) Q E s := by
    intro i j vi vj s Q E ei ej g hq
    rcases itm i vi ei with ⟨rfl, rfl⟩ | ⟨rfl, rfl⟩ <;> rcases itm j vj ej with ⟨rfl, rfl⟩ | ⟨rfl, rfl⟩
    · exact lt_pairs g.1 g.1 hu hq
    · exact lt_pairs g.1 g.2 hu hq
    · exact lt_pairs g.2 g.1 hu hq
    · exact lt_pairs g.2 g.2 hu hq
  have g0 : G (h2.push { cls := .type "list", data := .seq #[] }) := ⟨ha.keep fun o e => (up a o e).2.2, hb.keep fun o e => (up b o e).2.2⟩
  have oS : (h2.push { cls := .type "list", data := .seq #[] }).get? h2.objs.size = some { cls := .type "list", dict := none, data := .seq #[] 0, slots := #[] } := Heap.get?_push_size _ rfl
  have st1 := W.frame 0 h2 (h2.push { cls := .type "list", data := .seq #[] }) st0 fun b _ o q => Heap.get?_push_of_some _ q
  rw [nm]
  refine wpAny_pure ⟨plainId_quiet PySem.F.plain_min_loop _, ?_⟩
  refine codeAny_builtin PySem.F.entry_min_loop ?_
  rw [Around.under_plainId PySem.F.plain_min_loop _]
  show wpAny _ A.in1 (seqItems? (.ref h2.objs.size) >>= _) _ _ _
  refine wpAny_bind (wpAny_seqItems oS rfl ?_)
  show wpAny _ A.in1 (tryCatch (pyNext (.ref h1.objs.size)) _ >>= _) _ _ _
  refine wpAny_bind (wpAny_tryCatch (W.item 0 _ _ _ (by simp) st1 fun v h3 tk pv st2 kp => ?_))
  have oS1 := kp _ _ nS oS
  show wpAny _ A.in1 (updateSeq h2.objs.size (fun _ => #[v, v]) >>= _) _ _ _
  refine wpAny_bind ?_
  refine wpAny_updateSeq oS1 rfl ?_
  rw [nm]
  have g3 : G h3 := hG _ _ g0 fun b o hw _ e => kp b o hw e
  refine wpAny_pure ⟨plainId_quiet PySem.F.plain_min_loop _, loop_minG W hG hcmp zs 1 0 _ v _ (by simp) (W.frame _ _ _ st2 fun b hf o e => ?_) (hG _ _ g3 fun b o _ hbS e => (Heap.get?_update_other _ _ (Ne.symm hbS)).trans e) pv (Heap.get?_update_self _ oS1 rfl) fun v2 h4 tk4 p4 k4 => ?_⟩
  · exact (Heap.get?_update_other _ _ (fun z : h2.objs.size = b => zs (by rw [z]; exact hf))).trans e
  · have ev : v2 = .ref (if lessP q p = true then b else a) := by
      have e4 : (#[Value.ref a, Value.ref b] : Array Value)[argBest bt 1]? = some v2 := by simpa using p4
      have hbt : argBest bt 1 = if lessP q p = true then 1 else 0 := by
        show (if bt 1 0 then 1 else 0) = _
        rfl
      rw [hbt] at e4
      by_cases hl : lessP q p = true
      · rw [if_pos hl] at e4 ⊢; cases e4; rfl
      · rw [if_neg hl] at e4 ⊢; cases e4; rfl
    subst ev
    refine h h4 tk4 fun c o e => ?_
    obtain ⟨u1, u2, u3⟩ := up c o e
    exact k4 c o u1 u2 ((Heap.get?_update_other _ _ (Ne.symm u2)).trans (kp c o u1 u3))
end
section
variable {X : Cx}
def rMin2P (H : Hp) (Q : VK) (xs : List V) : Prop := ∃ (a b : Addr) (p q : P2), xs = [.ref a, .ref b] ∧ H a = some (.tup [.int p.1, .int p.2]) ∧ H b = some (.tup [.int q.1, .int q.2]) ∧ Q (.ref (if lessP q p = true then b else a)) H
theorem call_min2P (hc : X.calm = true) (hu : X.A.units + 1 < cLine) : CallR X (.builtin "min") (fun xs H Q => rMin2P H Q xs) := by
  intro pins s σ H xs us Q I r h
  obtain ⟨a, b, p, q, rfl, ha, hb, hq⟩ := h
  obtain ⟨u, v, rfl, ru, rv⟩ := vals2 r
  cases ru
  cases rv
  have pr : ∀ (x : Addr) (r : P2), H x = some (.tup [.int r.1, .int r.2]) → IsPr s.heap x r := fun x r hx => by
    obtain ⟨_, its, hv, hi⟩ := (show ObjOk X.prog X.w H s.heap x (.tup [.int r.1, .int r.2]) from I.hok x _ hx)
    obtain ⟨u1, u2, rfl, ⟨t1, rfl⟩, ⟨t2, rfl⟩⟩ := vals2 hv
    obtain ⟨o, ho, hcl, n, hd⟩ := hi
    exact ⟨o, t1, t2, n, ho, hcl, hd⟩
  exact min_two_pairs (I.ok.hd hc) (pr a p ha) (pr b q hb) (show X.A.units + 1 < cLine from hu) fun h' tk k => ⟨.ref _, H, I.kept k, rfl, hq⟩
end
end Gz
set_option Elab.async false
set_option linter.all false
namespace Gz
open PySem PySem.Spec PyProof.Rows L2
def rowOf (H : Hp) : V → List V
  | .ref p => match H p with
    | some (.tup xs) => xs
    | _ => []
  | _ => []
theorem rowOf_tup {H : Hp} {p : Addr} {xs : List V} (h : H p = some (.tup xs)) : rowOf H (.ref p) = xs := by
  show (match H p with
    | some (.tup xs) => xs
    | _ => []) = xs
  rw [h]
def rowT (row : V → List V) (tt : TT) : TT := fun σ H Q => match σ with
  | some v :: ρ => tt ((row v).map some ++ ρ) H Q
  | _ => False
def rowE (row : V → List V) (te : TE) : TE := fun σ H Q => match σ with
  | some v :: ρ => te ((row v).map some ++ ρ) H Q
  | _ => False
section
variable {K : PySem.W.Frag} {ρ : L2.St} {tt : TT} {te : TE} {H : Hp} {Q : VK} {a : Addr} {xs : List V} {row : V → List V}
def RowOk (K : PySem.W.Frag) (a : Addr) (xs : List V) (row : V → List V) (k : Nat) (H : Hp) : Prop := SqL K H a xs ∧ ∀ x ∈ xs, ∃ p, x = .ref p ∧ SqT K H p (row x) ∧ (row x).length = k
theorem blk_rows {k : Nat} {g : TG} (hg : ∀ (p : Addr) (ys : List V) (os : List (Option V)) (H : Hp) (Q : L2.St → Hp → Prop), os.length = k → ys.length = k → SqT K H p ys → Q (ys.map some ++ ρ) H → g (.ref p) (os ++ ρ) H Q)
    (hn : xs.length ≤ sizeLine) (h : compGo (RowOk K a xs row k) ρ (rowT row tt) (rowE row te) xs [] H fun zs H' => ∀ l, H' l = none → Q (.ref l) (upd H' l (.lst zs))) :
    tBlkG k (Itl K a) g ρ tt te H Q := by
  refine ⟨fun i m ys H => m = xs.length - i ∧ i ≤ xs.length ∧ ys.length ≤ i ∧ compGo (RowOk K a xs row k) ρ (rowT row tt) (rowE row te) (xs.drop i) ys H fun ys H' => ∀ l, H' l = none → Q (.ref l) (upd H' l (.lst ys)), ⟨_, rfl, Nat.zero_le _, Nat.le_refl _, h⟩, ?_⟩
  rintro i m ys H ⟨rfl, hi, hy, c⟩
  by_cases hlt : i < xs.length
  · have e := List.drop_eq_getElem_cons hlt
    rw [e] at c
    obtain ⟨⟨c0, c1⟩, c2⟩ := c
    have l1 : ∀ y : V, (ys ++ [y]).length ≤ i + 1 := fun y => by rw [List.length_append, List.length_singleton]; omega
    have l2 : ys.length ≤ i + 1 := by omega
    refine .inr ⟨⟨xs, _, c0, List.getElem?_eq_getElem hlt⟩, by omega, fun zs H' => zs.length ≤ i + 1 ∧ compGo (RowOk K a xs row k) ρ (rowT row tt) (rowE row te) (xs.drop (i + 1)) zs H' fun ys H' => ∀ l, H' l = none → Q (.ref l) (upd H' l (.lst ys)), fun zs H' q => ⟨_, by omega, rfl, hlt, q.1, q.2⟩, fun os hos v H' y => ?_⟩
    obtain ⟨rfl, ex⟩ := y
    have ex := ex xs c0
    rw [List.getElem?_eq_getElem hlt] at ex
    obtain ⟨p, ep, hp, hl⟩ := c1 xs[i] (List.getElem_mem _)
    cases ex
    rw [ep] at hp hl c2 ⊢
    refine hg p _ os _ _ hos hl hp ⟨(row (.ref p)).map some, by rw [List.length_map]; exact hl, rfl, ?_⟩
    simp only [l1, l2, true_and]
    exact c2
  · have e : i = xs.length := by omega
    subst e
    rw [List.drop_length] at c
    exact .inl ⟨⟨xs, c.1.1, Nat.le_refl _⟩, by omega, c.2⟩
theorem g_two {p : Addr} {ys : List V} {os : List (Option V)} {H : Hp} {Q : L2.St → Hp → Prop} (ho : os.length = 2) (hy : ys.length = 2) (h : SqT K H p ys) (q : Q (ys.map some ++ ρ) H) : gTup K 2 (gCons (gName 0) (gCons (gName 1) gNil)) (.ref p) (os ++ ρ) H Q := by
  match os, ho, ys, hy with
  | [o1, o2], _, [x, y], _ => exact gTup2 h q
theorem blk_row2 (hn : xs.length ≤ sizeLine) (h : compGo (RowOk K a xs row 2) ρ (rowT row tt) (rowE row te) xs [] H fun zs H' => ∀ l, H' l = none → Q (.ref l) (upd H' l (.lst zs))) :
    tBlkG 2 (Itl K a) (gTup K 2 (gCons (gName 0) (gCons (gName 1) gNil))) ρ tt te H Q := blk_rows (fun _ _ _ _ _ ho hy h q => g_two ho hy h q) hn h
end
end Gz
set_option Elab.async false
set_option linter.all false
namespace Gz
open PySem PySem.Spec PyProof.Rows L2
theorem slicePick_rev (its : List Value) : slicePick its.toArray none none (some (-1)) = its.reverse.toArray := by
  have e1 : sliceBounds none none (some (-1)) its.toArray.size = (((its.length : Nat) : Int) - 1, -1, -1) := by
    rw [List.size_toArray]
    rfl
  unfold slicePick
  rw [e1]
  dsimp only
  have e2 : sliceRange (((its.length : Nat) : Int) - 1) (-1) (-1) = (List.range its.length).map fun k => its.length - 1 - k := by
    unfold sliceRange
    have h1 : ¬ ((-1 : Int) > 0) := by omega
    simp only [h1, if_false]
    by_cases h : its.length = 0
    · rw [h]; rfl
    · rw [if_pos (by omega), show (((its.length : Nat) : Int) - 1 - -1 - -1 - 1) / (- -1) = ((its.length : Nat) : Int) by
        rw [show (- (-1 : Int)) = 1 by omega, Int.ediv_one]; omega, Int.toNat_natCast]
      refine List.map_congr_left fun k hk => ?_
      have := List.mem_range.mp hk
      omega
  rw [e2]
  congr 1
  refine List.ext_getElem? fun k => ?_
  have key : ((List.range its.length).map fun k => its.length - 1 - k).filterMap (its.toArray[·]?) = (List.range its.length).map fun k => its.getD (its.length - 1 - k) .none := by
    rw [List.filterMap_map]
    have : ∀ (l : List Nat), (∀ k ∈ l, k < its.length) → l.filterMap ((fun x => its.toArray[x]?) ∘ fun k => its.length - 1 - k) = l.map fun k => its.getD (its.length - 1 - k) .none := by
      intro l
      induction l with
      | nil => intro _; rfl
      | cons k l ih =>
        intro h
        have hk := h k (.head _)
        rw [List.filterMap_cons, List.map_cons]
        have e : ((fun x => its.toArray[x]?) ∘ fun k => its.length - 1 - k) k = some (its.getD (its.length - 1 - k) .none) := by
          show its.toArray[its.length - 1 - k]? = _
          rw [List.getElem?_toArray, List.getD_eq_getElem?_getD, List.getElem?_eq_getElem (by omega)]
          rfl
        rw [e, ih fun j hj => h j (.tail _ hj)]
    exact this _ fun k hk => List.mem_range.mp hk
  rw [key]
  by_cases hk : k < its.length
  · rw [List.getElem?_map, List.getElem?_range hk, List.getElem?_reverse hk]
    simp only [Option.map_some]
    rw [List.getD_eq_getElem?_getD, List.getElem?_eq_getElem (by omega)]
    rfl
  · rw [List.getElem?_eq_none (by rw [List.length_map, List.length_range]; omega), List.getElem?_eq_none (by rw [List.length_reverse]; omega)]
section
variable {X : Cx} {e st : Expr} {te ts : TE} {p2 pos : Pos}
def tRevS (K : PySem.W.Frag) (te ts : TE) : TE := fun σ H Q => te σ H fun x H1 => ts σ H1 fun y H2 => y = .int (-1) ∧ ∃ a xs, x = .ref a ∧ SqL K H2 a xs ∧ ∀ p, H2 p = none → Q (.ref p) (upd H2 p (.lst xs.reverse))
theorem pe_revS (he : PE X e te) (hs : PE X st ts) : PE X (.Subscript e (.Slice none none (some st) p2) pos) (tRevS X.K te ts) := by
  intro pins s σ H Q I h
  refine Subscript_ (thn (he pins s σ H _ I h) fun v s1 ⟨x, H1, I1, r1, q1⟩ => ?_)
  refine wpAny_Slice ?_
  rw [evalPart_none]
  refine wpAny_pure (wpAny_pure ?_)
  rw [evalPart_some]
  refine thn (hs pins s1 σ H1 _ I1 q1) fun u s2 ⟨y, H2, I2, r2, q2⟩ => ?_
  obtain ⟨rfl, a, xs, rfl, hx, q⟩ := q2
  obtain ⟨t, rfl⟩ := r2
  cases r1
  have I4 : Inv X pins σ H2 { s2 with heap := s2.heap.push { cls := .type "slice", data := .fields #[.none, .none, .int (-1) t] } } := I2.kept (t' := s2.toks) fun b ob q => Heap.get?_push_of_some _ q
  obtain ⟨its, r, ht, hz⟩ := I4.list hx
  have hlen := r.length
  show wpAny (model X.prog X.w) X.A (subscriptTail e (.Slice none none (some st) p2) (.ref a) (.ref s2.heap.objs.size)) (EP X pins σ Q) X.xe { s2 with heap := s2.heap.push { cls := .type "slice", data := .fields #[.none, .none, .int (-1) t] } }
  refine tail_any (ops := [.ref a, .ref s2.heap.objs.size]) ht.isList.typeIs slot_list_getitem.lookup ?_ (by with_unfolding_all rfl)
  refine wpAny_getItem_list_slice ht.isList (Heap.IsSliceOf.new ..) .none .none (.int (-1) t) (by simp) ?_ (by rw [List.size_toArray]; omega)
  rw [slicePick_rev]
  refine ⟨.ref _, _, I4.laid (t' := s2.toks) (o := .lst xs.reverse) (fun b ob q => Heap.get?_push_of_some _ q) (Nat.le_refl _) ?_, rfl, q _ (I4.hok.fresh (Nat.le_refl _))⟩
  exact ⟨by rw [List.length_reverse]; exact hz, _, 0, r.reverse, Heap.get?_push_size _ rfl⟩
end
theorem blk_rev {K : PySem.W.Frag} {a : Addr} {xs : List V} {ρ : L2.St} {tt : TT} {te : TE} {H : Hp} {Q : VK} (hn : xs.length ≤ sizeLine) (h : compGo (fun H => SqL K H a xs) ρ tt te xs.reverse [] H fun ys H' => ∀ l, H' l = none → Q (.ref l) (upd H' l (.lst ys))) : tBlk (Itv K a xs.length) ρ tt te H Q := by
  have hr : xs.reverse.length = xs.length := List.length_reverse
  refine ⟨fun i m ys H => m = xs.length - i ∧ i ≤ xs.length ∧ ys.length ≤ i ∧ compGo (fun H => SqL K H a xs) ρ tt te (xs.reverse.drop i) ys H fun ys H' => ∀ l, H' l = none → Q (.ref l) (upd H' l (.lst ys)), ⟨_, rfl, Nat.zero_le _, Nat.le_refl _, h⟩, ?_⟩
  rintro i m ys H ⟨rfl, hi, hy, g⟩
  by_cases hlt : i < xs.length
  · have e := List.drop_eq_getElem_cons (show i < xs.reverse.length by omega)
    rw [e] at g
    obtain ⟨g0, g1⟩ := g
    refine .inr ⟨⟨xs, _, g0, rfl, List.getElem?_eq_getElem (by omega)⟩, by omega, fun zs H' => zs.length ≤ i + 1 ∧ compGo (fun H => SqL K H a xs) ρ tt te (xs.reverse.drop (i + 1)) zs H' fun ys H' => ∀ l, H' l = none → Q (.ref l) (upd H' l (.lst ys)), fun zs H' q => ⟨_, by omega, rfl, hlt, q.1, q.2⟩, fun x H' y => ?_⟩
    obtain ⟨rfl, ex⟩ := y
    have ex := ex xs g0 rfl
    rw [List.getElem?_eq_getElem (by omega)] at ex
    cases ex
    have l1 : ∀ y : V, (ys ++ [y]).length ≤ i + 1 := fun y => by rw [List.length_append, List.length_singleton]; omega
    have l2 : ys.length ≤ i + 1 := by omega
    simp only [l1, l2, true_and]
    exact g1
  · have e : i = xs.length := by omega
    subst e
    rw [List.drop_of_length_le (by omega)] at g
    exact .inl ⟨rfl, by omega, g.2⟩
end Gz
set_option Elab.async false
set_option linter.all false
set_option maxRecDepth 100000
namespace Gz
open PySem PySem.Spec PyProof.Rows L2
section
variable {prog : Program} {w : World} {A : Around} {E : Value → Shared → Prop} {s : Shared}
end
section
variable {X : Cx} {pos : Pos}
def gLst2 (K : PySem.W.Frag) (t : TGs) : TG := fun v σ H Q => ∃ a x y, v = .ref a ∧ SqL K H a [x, y] ∧ t [x, y] σ H Q
end
end Gz
set_option Elab.async false
set_option linter.all false
namespace Gz
open PySem L2
theorem tub_prev {n : Nat} {bx : Nat → W2} {st : Nat → P2} (h0 : okW (bx 0)) (hp : ∀ t, t < n → (st t).1 ≤ (st t).2) {t : Nat} (ht : t < n) {y : Int} (h : inW (tubW n bx st (t + 1)) y) (hs : ∃ s, tubW n bx st t = some s) : ∃ x, inW (tubW n bx st t) x ∧ (st t).1 ≤ y - x ∧ y - x ≤ (st t).2 := by
  have hf : inW (narW bx st (t + 1)) y := by
    have := nar_box (bx := fun k => narW bx st (n - k)) h
    rwa [show n - (n - (t + 1)) = t + 1 by omega] at this
  obtain ⟨x, hx, h1, h2⟩ := nar_pred h0 (hp t ht) hf
  refine ⟨x, ?_, h1, h2⟩
  obtain ⟨k, ek, hk⟩ := h
  obtain ⟨f, ef, hxf⟩ := hx
  unfold tubW at ek ⊢
  rw [show n - t = n - (t + 1) + 1 by omega]
  show inW (match narW bx st (n - (n - (t + 1) + 1)), narW (fun k => narW bx st (n - k)) (bckS n st) (n - (t + 1)) with
    | some b, some k => meetW b (movS k (bckS n st (n - (t + 1))))
    | _, _ => none) x
  rw [ek, show n - (n - (t + 1) + 1) = t by omega, ef]
  refine inW_meet.mpr ⟨hxf, mov_in hk ?_ ?_⟩
  · unfold bckS; rw [show n - 1 - (n - (t + 1)) = t by omega]; dsimp only; omega
  · unfold bckS; rw [show n - 1 - (n - (t + 1)) = t by omega]; dsimp only; omega
theorem tub_fwd {n : Nat} {bx : Nat → W2} {st : Nat → P2} (T : TubOk n bx st) : ∀ (d t : Nat) (x : Int), t + d = n → inW (tubW n bx st t) x → ∃ c : Nat → Int, c t = x ∧ (∀ k, t ≤ k → k ≤ n → inW (tubW n bx st k) (c k)) ∧ ∀ k, t ≤ k → k < n → (st k).1 ≤ c (k + 1) - c k ∧ c (k + 1) - c k ≤ (st k).2
  | 0, t, x, e, h => ⟨fun _ => x, rfl, fun k h1 h2 => by rw [show k = t by omega]; exact h, fun k h1 h2 => absurd h2 (by omega)⟩
  | d + 1, t, x, e, h => by
    obtain ⟨y, hy, h1, h2⟩ := T.next t x (by omega) h
    obtain ⟨c, c0, c1, c2⟩ := tub_fwd T d (t + 1) y (by omega) hy
    refine ⟨fun k => if k = t then x else c k, if_pos rfl, fun k k1 k2 => ?_, fun k k1 k2 => ?_⟩
    · dsimp only
      by_cases ek : k = t
      · rw [if_pos ek, ek]; exact h
      · rw [if_neg ek]; exact c1 k (by omega) k2
    · dsimp only
      rw [if_neg (show ¬ k + 1 = t by omega)]
      by_cases ek : k = t
      · rw [if_pos ek, ek, c0]; exact ⟨h1, h2⟩
      · rw [if_neg ek]; exact c2 k (by omega) k2
theorem tub_bwd {n : Nat} {bx : Nat → W2} {st : Nat → P2} (h0 : okW (bx 0)) (hp : ∀ t, t < n → (st t).1 ≤ (st t).2) (T : TubOk n bx st) : ∀ (t : Nat) (x : Int), t ≤ n → inW (tubW n bx st t) x → ∃ c : Nat → Int, c t = x ∧ (∀ k, k ≤ t → inW (tubW n bx st k) (c k)) ∧ ∀ k, k < t → (st k).1 ≤ c (k + 1) - c k ∧ c (k + 1) - c k ≤ (st k).2
  | 0, x, _, h => ⟨fun _ => x, rfl, fun k h1 => by rw [show k = 0 by omega]; exact h, fun k h1 => absurd h1 (by omega)⟩
  | t + 1, x, ht, h => by
    obtain ⟨s, es, _⟩ := T.ok t (by omega)
    obtain ⟨y, hy, h1, h2⟩ := tub_prev h0 hp (by omega) h ⟨s, es⟩
    obtain ⟨c, c0, c1, c2⟩ := tub_bwd h0 hp T t y (by omega) hy
    refine ⟨fun k => if k = t + 1 then x else c k, if_pos rfl, fun k k1 => ?_, fun k k1 => ?_⟩
    · dsimp only
      by_cases ek : k = t + 1
      · rw [if_pos ek, ek]; exact h
      · rw [if_neg ek]; exact c1 k (by omega)
    · dsimp only
      rw [if_neg (show ¬ k = t + 1 by omega)]
      by_cases ek : k = t
      · rw [ek, if_pos rfl, c0]; exact ⟨h1, h2⟩
      · rw [if_neg (by omega)]; exact c2 k (by omega)
theorem tub_course {ps : List P2} {ms : List Mk} (hp : okPc ps) (hm : ∀ m ∈ ms, m.1 ≤ ps.length) (T : TubOk ps.length (bxT ms) (ptD ps)) {t : Nat} (ht : t ≤ ps.length) {x : Int} (h : inW (tubW ps.length (bxT ms) (ptD ps) t) x) : ∃ c, isCrs ps c ∧ meets ms c ∧ c t = x := by
  obtain ⟨c, c0, c1, c2⟩ := tub_fwd T (ps.length - t) t x (by omega) h
  obtain ⟨d, d0, d1, d2⟩ := tub_bwd (bxT_ok ms 0) (fun t ht => hp _ (mem_ptD ht)) T t x ht h
  refine ⟨fun k => if k ≤ t then d k else c k, fun k hk => ?_, meets_of T hm fun k hk => ?_, ?_⟩
  · dsimp only
    by_cases e1 : k < t
    · rw [if_pos (by omega), if_pos (by omega)]; exact d2 k e1
    · by_cases e2 : k = t
      · subst e2
        rw [if_neg (by omega), if_pos (by omega), d0, ← c0]; exact c2 k (by omega) hk
      · rw [if_neg (by omega), if_neg (by omega)]; exact c2 k (by omega) hk
  · by_cases e : k ≤ t
    · rw [if_pos e]; exact d1 k e
    · rw [if_neg e]; exact c1 k (by omega) hk
  · dsimp only
    rw [if_pos (Nat.le_refl _)]; exact d0
theorem tub_has {ps : List P2} {ms : List Mk} {c : Nat → Int} (hc : isCrs ps c) (hm : meets ms c) {t : Nat} (ht : t ≤ ps.length) : inW (tubW ps.length (bxT ms) (ptD ps) t) (c t) := by
  have f := nar_in (bx := bxT ms) (st := ptD ps) (c := c) (n := ps.length) (fun t _ => bxT_in.mpr fun m hmm e => by rw [← e]; exact hm m hmm) (fun t ht => hc t ht)
  have b := nar_in (bx := fun k => narW (bxT ms) (ptD ps) (ps.length - k)) (st := bckS ps.length (ptD ps)) (c := fun k => c (ps.length - k)) (n := ps.length) (fun k hk => f _ (by omega)) (fun k hk => by
    have := hc (ps.length - 1 - k) (by omega)
    unfold bckS
    rw [show ps.length - 1 - k + 1 = ps.length - k by omega] at this
    rw [show ps.length - (k + 1) = ps.length - 1 - k by omega]
    omega) (ps.length - t) (by omega)
  have e : ps.length - (ps.length - t) = t := by omega
  unfold tubW
  rw [e] at b
  exact b
theorem more_iff {ps : List P2} {ms : List Mk} (hp : okPc ps) (hm : ∀ m ∈ ms, m.1 ≤ ps.length) (T : TubOk ps.length (bxT ms) (ptD ps)) {t : Nat} (ht : t ≤ ps.length) {x : Int} : (∃ c, isCrs ps c ∧ meets (ms ++ [(t, (some x, some x))]) c) ↔ inW (tubW ps.length (bxT ms) (ptD ps) t) x := by
  constructor
  · rintro ⟨c, hc, hme⟩
    have h1 := hme (t, (some x, some x)) (by simp)
    have e : c t = x := by
      have a := h1.1 x rfl
      have b := h1.2 x rfl
      dsimp only at a b
      omega
    rw [← e]
    exact tub_has hc (fun m h => hme m (by simp [h])) ht
  · intro h
    obtain ⟨c, hc, hme, e⟩ := tub_course hp hm T ht h
    refine ⟨c, hc, fun m h => ?_⟩
    rcases List.mem_append.mp h with h | h
    · exact hme m h
    · obtain rfl : m = (t, (some x, some x)) := by simpa using h
      refine ⟨fun z hz => ?_, fun z hz => ?_⟩
      · cases hz; show x ≤ c t; omega
      · cases hz; show c t ≤ x; omega
end Gz
set_option Elab.async false
set_option linter.all false
set_option maxRecDepth 100000
set_option maxHeartbeats 1000000
set_option exponentiation.threshold 2000
namespace K39
open PySem L2 Gz
local macro_rules | `(tactic| walk_at "gz") => `(tactic| try simp only [ev_none, ev_some, tRevS, rMin2P, gSub, rSetL, gLst2, rClear, tBM0, rowT, rowE, List.map_cons, List.map_nil, tSeq, tIfS, tTest, tOp, tUn, tVar, tC, tRet, tNext, tAsg, gName, tCB, tCons, tNil, tCall, tIsN, tNotN, tB, tAnd, tOr, tNot, tAndV, tOrV, tNotV, tIf, tDrop, rI, rI0, rU, rEq, rNe, scal_ii, scal_bb, scal_in, scal_ni, scal_nn, isi_ii, isi_ib, isi_bi, isi_bb, isi_ni, isi_nt, ite_tt, ite_ff, L2.start, cxK, cxN, List.map_cons, List.map_nil, List.length_cons, List.length_nil, List.replicate, List.append_nil, List.nil_append, List.cons_append, List.getElem?_cons_zero, List.getElem?_cons_succ, List.set_cons_zero, List.set_cons_succ, Option.some.injEq, V.int.injEq, V.bl.injEq, V.ref.injEq, List.cons.injEq, exists_eq_left, exists_eq_left', exists_and_left, true_and, and_true, decide_eq_true_eq, Nat.zero_add, Nat.sub_self, Nat.add_one_sub_one, Nat.reduceAdd, Nat.reduceSub, reduceCtorEq, decide_true, decide_false, Bool.not_true, Bool.not_false, Bool.not_eq_true', decide_eq_false_iff_not, false_and, exists_false, and_assoc, tTup, tLst, tBM, tBM0, rAppend, rExtend, for_rng1, for_lst, for_tpl, ↓reduceIte, not_false_eq_true, not_true_eq_false, tComp, tMM, tSortK, tSetC, iTup, iList, tAll, gSub, rSetL, iRng3, iRng2, iRng1, for_rng2, for_rng3, tFld, sFld, tMeth, tMake, tSl, tNoPart, tPart, rSlL, rCat, for_rev, for_enum, for_zip, tChain, tCompG, iRev, iEnum, iZip, Option.join_some])
local macro_rules | `(tactic| walk_at "gzp") => `(tactic| simp only [ev_none, ev_some, tRevS, rMin2P, gSub, rSetL, gLst2, rClear, tBM0, rowT, rowE, List.map_cons, List.map_nil, tSeq, tIfS, tTest, tOp, tUn, tVar, tC, tRet, tNext, tAsg, gName, tCB, tCons, tNil, tCall, tIsN, tNotN, tB, tAnd, tOr, tNot, tAndV, tOrV, tNotV, tIf, tDrop, rI, rI0, rU, rEq, rNe, scal_ii, scal_bb, scal_in, scal_ni, scal_nn, isi_ii, isi_ib, isi_bi, isi_bb, isi_ni, isi_nt, ite_tt, ite_ff, L2.start, cxK, cxN, List.map_cons, List.map_nil, List.length_cons, List.length_nil, List.replicate, List.append_nil, List.nil_append, List.cons_append, List.getElem?_cons_zero, List.getElem?_cons_succ, List.set_cons_zero, List.set_cons_succ, Option.some.injEq, V.int.injEq, V.bl.injEq, V.ref.injEq, List.cons.injEq, exists_eq_left, exists_eq_left', exists_and_left, true_and, and_true, decide_eq_true_eq, Nat.zero_add, Nat.sub_self, Nat.add_one_sub_one, Nat.reduceAdd, Nat.reduceSub, reduceCtorEq, decide_true, decide_false, Bool.not_true, Bool.not_false, Bool.not_eq_true', decide_eq_false_iff_not, false_and, exists_false, and_assoc, tTup, tLst, tBM, tBM0, rAppend, rExtend, for_rng1, for_lst, for_tpl, ↓reduceIte, not_false_eq_true, not_true_eq_false, tComp, tMM, tSortK, tSetC, iTup, iList, tAll, gSub, rSetL, iRng3, iRng2, iRng1, for_rng2, for_rng3, tFld, sFld, tMeth, tMake, tSl, tNoPart, tPart, rSlL, rCat, for_rev, for_enum, for_zip, tChain, tCompG, iRev, iEnum, iZip, Option.join_some])
local macro_rules | `(tactic| walk_at "gza") => `(tactic| simp only [ev_none, ev_some, tRevS, rMin2P, gSub, rSetL, gLst2, rClear, tBM0, rowT, rowE, List.map_cons, List.map_nil, tSeq, tIfS, tTest, tOp, tUn, tVar, tC, tRet, tNext, tAsg, gName, tCB, tCons, tNil, tCall, tIsN, tNotN, tB, tAnd, tOr, tNot, tAndV, tOrV, tNotV, tIf, tDrop, rI, rI0, rU, rEq, rNe, scal_ii, scal_bb, scal_in, scal_ni, scal_nn, isi_ii, isi_ib, isi_bi, isi_bb, isi_ni, isi_nt, ite_tt, ite_ff, L2.start, cxK, cxN, List.map_cons, List.map_nil, List.length_cons, List.length_nil, List.replicate, List.append_nil, List.nil_append, List.cons_append, List.getElem?_cons_zero, List.getElem?_cons_succ, List.set_cons_zero, List.set_cons_succ, Option.some.injEq, V.int.injEq, V.bl.injEq, V.ref.injEq, List.cons.injEq, exists_eq_left, exists_eq_left', exists_and_left, true_and, and_true, decide_eq_true_eq, Nat.zero_add, Nat.sub_self, Nat.add_one_sub_one, Nat.reduceAdd, Nat.reduceSub, reduceCtorEq, decide_true, decide_false, Bool.not_true, Bool.not_false, Bool.not_eq_true', decide_eq_false_iff_not, false_and, exists_false, and_assoc, tTup, tLst, tBM, tBM0, rAppend, rExtend, for_rng1, for_lst, for_tpl, ↓reduceIte, not_false_eq_true, not_true_eq_false, tComp, tMM, tSortK, tSetC, iTup, iList, tAll, gSub, rSetL, iRng3, iRng2, iRng1, for_rng2, for_rng3, tFld, sFld, tMeth, tMake, tSl, tNoPart, tPart, rSlL, rCat, for_rev, for_enum, for_zip, tChain, tCompG, iRev, iEnum, iZip, Option.join_some] at *)
local macro_rules | `(tactic| walk_at "sd") => `(tactic| (and_intros <;> first | assumption | exact bd200 (by decide) | exact bd200 (em30 _) | exact mul200 (by decide) (by decide) | exact ⟨by decide, by decide, by decide⟩ | decide | omega))
local macro_rules | `(tactic| walk_at "gzn") => `(tactic| (try simp only [ev_none, ev_some, tRevS, rMin2P, gSub, rSetL, gLst2, rClear, tBM0, rowT, rowE, List.map_cons, List.map_nil, tSeq, tIfS, tTest, tOp, tUn, tVar, tC, tRet, tNext, tAsg, gName, tCB, tCons, tNil, tCall, tIsN, tNotN, tB, tAnd, tOr, tNot, tAndV, tOrV, tNotV, tIf, tDrop, rI, rI0, rU, rEq, rNe, scal_ii, scal_bb, scal_in, scal_ni, scal_nn, isi_ii, isi_ib, isi_bi, isi_bb, isi_ni, isi_nt, ite_tt, ite_ff, L2.start, cxK, cxN, List.map_cons, List.map_nil, List.length_cons, List.length_nil, List.replicate, List.append_nil, List.nil_append, List.cons_append, List.getElem?_cons_zero, List.getElem?_cons_succ, List.set_cons_zero, List.set_cons_succ, Option.some.injEq, V.int.injEq, V.bl.injEq, V.ref.injEq, List.cons.injEq, exists_eq_left, exists_eq_left', exists_and_left, true_and, and_true, decide_eq_true_eq, Nat.zero_add, Nat.sub_self, Nat.add_one_sub_one, Nat.reduceAdd, Nat.reduceSub, reduceCtorEq, decide_true, decide_false, Bool.not_true, Bool.not_false, Bool.not_eq_true', decide_eq_false_iff_not, false_and, exists_false, and_assoc, tTup, tLst, tBM, tBM0, rAppend, rExtend, for_rng1, for_lst, for_tpl, ↓reduceIte, not_false_eq_true, not_true_eq_false, tComp, tMM, tSortK, tSetC, iTup, iList, tAll, gSub, rSetL, iRng3, iRng2, iRng1, for_rng2, for_rng3, tFld, sFld, tMeth, tMake, tSl, tNoPart, tPart, rSlL, rCat, for_rev, for_enum, for_zip, tChain, tCompG, iRev, iEnum, iZip, Option.join_some, Int.reducePow, Int.reduceToNat, Int.reduceMul, Int.reduceAdd]))
def IsMk (H : Hp) (v : V) (m : Mk) : Prop := ∃ (t p : Addr), v = .ref t ∧ H t = some (.tup [.int m.1, .ref p]) ∧ H p = some (.tup [ev m.2.1, ev m.2.2])
theorem IsMk.same {H H' : Hp} {v : V} {m : Mk} (h : IsMk H v m) (s : Same H H') : IsMk H' v m := let ⟨t, p, e, a, b⟩ := h; ⟨t, p, e, s _ _ a, s _ _ b⟩
def clashB (ps : List P2) (a b : Mk) : Bool := match a.2.2, b.2.1 with
  | some hi, some lo => decide (riseF ps a.1 b.1 < lo - hi)
  | _, _ => false
def top (i : Nat) : Stmt := PySem.Challenge.pw_gaze_k39_tubes.main.body.getD i (.Pass ⟨0, 0, 0, 0⟩)
abbrev s_is_crossed : Stmt := top 1
abbrev s_meet : Stmt := top 2
abbrev s_common : Stmt := top 3
abbrev s_number_in : Stmt := top 5
abbrev s_moved : Stmt := top 7
abbrev s_narrowed : Stmt := top 8
abbrev s_stretches_at : Stmt := top 9
abbrev s_tube : Stmt := top 10
abbrev s_course_in : Stmt := top 11
abbrev s_lesser : Stmt := top 12
abbrev s_lifted : Stmt := top 13
abbrev s_ceilings : Stmt := top 14
abbrev s_crossing : Stmt := top 15
abbrev s_clashing : Stmt := top 16
abbrev s_law_pick : Stmt := top 18
abbrev s_law_wide : Stmt := top 19
abbrev s_law_paces : Stmt := top 20
abbrev s_law_many : Stmt := top 21
abbrev s_law_word : Stmt := top 22
abbrev s_law_in : Stmt := top 23
abbrev s_law_whole : Stmt := top 24
abbrev s_law_rise : Stmt := top 25
abbrev s_law_clash : Stmt := top 26
abbrev s_law_path : Stmt := top 27
abbrev s_law_marks : Stmt := top 28
abbrev s_law_held : Stmt := top 29
abbrev s_law_pair : Stmt := top 30
abbrev s_law_asked : Stmt := top 31
abbrev s_law_numbers : Stmt := top 32
abbrev s_law_spans : Stmt := top 33
abbrev s_law : Stmt := top 34
theorem sc_is_crossed : FnScope ["lo", "hi"] ["lo", "hi"] (defScope s_is_crossed) := ⟨rfl, rfl, rfl, by decide +kernel, rfl, by decide +kernel, by decide +kernel⟩
theorem sc_meet : FnScope ["one", "other", "lo", "hi"] ["one", "other"] (defScope s_meet) := ⟨rfl, rfl, rfl, by decide +kernel, rfl, by decide +kernel, by decide +kernel⟩
theorem sc_common : FnScope ["some", "whole", "one"] ["some"] (defScope s_common) := ⟨rfl, rfl, rfl, by decide +kernel, rfl, by decide +kernel, by decide +kernel⟩
theorem sc_number_in : FnScope ["cell"] ["cell"] (defScope s_number_in) := ⟨rfl, rfl, rfl, by decide +kernel, rfl, by decide +kernel, by decide +kernel⟩
theorem sc_moved : FnScope ["one", "step", "lo", "hi"] ["one", "step"] (defScope s_moved) := ⟨rfl, rfl, rfl, by decide +kernel, rfl, by decide +kernel, by decide +kernel⟩
theorem sc_narrowed : FnScope ["boxes", "steps", "kept", "turn", "box", "left"] ["boxes", "steps"] (defScope s_narrowed) := ⟨rfl, rfl, rfl, by decide +kernel, rfl, by decide +kernel, by decide +kernel⟩
theorem sc_stretches_at : FnScope ["marks", "turn"] ["marks", "turn"] (defScope s_stretches_at) := ⟨rfl, rfl, rfl, by decide +kernel, rfl, by decide +kernel, by decide +kernel⟩
theorem sc_tube : FnScope ["steps", "marks", "forth", "backward"] ["steps", "marks"] (defScope s_tube) := ⟨rfl, rfl, rfl, by decide +kernel, rfl, by decide +kernel, by decide +kernel⟩
theorem sc_course_in : FnScope ["steps", "marks", "boxes", "course", "step", "box"] ["steps", "marks"] (defScope s_course_in) := ⟨rfl, rfl, rfl, by decide +kernel, rfl, by decide +kernel, by decide +kernel⟩
theorem sc_lesser : FnScope ["one", "other"] ["one", "other"] (defScope s_lesser) := ⟨rfl, rfl, rfl, by decide +kernel, rfl, by decide +kernel, by decide +kernel⟩
theorem sc_lifted : FnScope ["one", "by"] ["one", "by"] (defScope s_lifted) := ⟨rfl, rfl, rfl, by decide +kernel, rfl, by decide +kernel, by decide +kernel⟩
theorem sc_ceilings : FnScope ["steps", "marks", "tops", "number", "mark", "turn"] ["steps", "marks"] (defScope s_ceilings) := ⟨rfl, rfl, rfl, by decide +kernel, rfl, by decide +kernel, by decide +kernel⟩
theorem sc_crossing : FnScope ["tops", "marks", "number", "mark", "top"] ["tops", "marks"] (defScope s_crossing) := ⟨rfl, rfl, rfl, by decide +kernel, rfl, by decide +kernel, by decide +kernel⟩
theorem sc_clashing : FnScope ["steps", "marks"] ["steps", "marks"] (defScope s_clashing) := ⟨rfl, rfl, rfl, by decide +kernel, rfl, by decide +kernel, by decide +kernel⟩
theorem sc_law_pick : FnScope ["_law_script", "_law_k", "_law_many_here", "_law_cell"] ["_law_script", "_law_k", "_law_many_here"] (defScope s_law_pick) := ⟨rfl, rfl, rfl, by decide +kernel, rfl, by decide +kernel, by decide +kernel⟩
theorem sc_law_wide : FnScope ["_law_script", "_law_k", "_law_many_here", "_law_cell"] ["_law_script", "_law_k", "_law_many_here"] (defScope s_law_wide) := ⟨rfl, rfl, rfl, by decide +kernel, rfl, by decide +kernel, by decide +kernel⟩
theorem sc_law_paces : FnScope ["_law_script", "_law_many_here", "_law_size", "_law_broad", "_law_rows", "_law_k", "_law_lo"] ["_law_script", "_law_many_here"] (defScope s_law_paces) := ⟨rfl, rfl, rfl, by decide +kernel, rfl, by decide +kernel, by decide +kernel⟩
theorem sc_law_many : FnScope ["_law_script"] ["_law_script"] (defScope s_law_many) := ⟨rfl, rfl, rfl, by decide +kernel, rfl, by decide +kernel, by decide +kernel⟩
theorem sc_law_word : FnScope ["_law_script", "_law_k", "_law_far", "_law_number", "_law_false", "_law_by", "_law_lo", "_law_hi", "_law_end"] ["_law_script", "_law_k", "_law_far", "_law_number", "_law_false"] (defScope s_law_word) := ⟨rfl, rfl, rfl, by decide +kernel, rfl, by decide +kernel, by decide +kernel⟩
theorem sc_law_in : FnScope ["_law_span", "_law_number"] ["_law_span", "_law_number"] (defScope s_law_in) := ⟨rfl, rfl, rfl, by decide +kernel, rfl, by decide +kernel, by decide +kernel⟩
theorem sc_law_whole : FnScope ["_law_found"] ["_law_found"] (defScope s_law_whole) := ⟨rfl, rfl, rfl, by decide +kernel, rfl, by decide +kernel, by decide +kernel⟩
theorem sc_law_rise : FnScope ["_law_steps", "_law_one", "_law_other", "_law_total", "_law_k"] ["_law_steps", "_law_one", "_law_other"] (defScope s_law_rise) := ⟨rfl, rfl, rfl, by decide +kernel, rfl, by decide +kernel, by decide +kernel⟩
theorem sc_law_clash : FnScope ["_law_steps", "_law_one", "_law_other"] ["_law_steps", "_law_one", "_law_other"] (defScope s_law_clash) := ⟨rfl, rfl, rfl, by decide +kernel, rfl, by decide +kernel, by decide +kernel⟩
theorem sc_law_path : FnScope ["_law_script", "_law_steps", "_law_number", "_law_course", "_law_k"] ["_law_script", "_law_steps"] (defScope s_law_path) := ⟨rfl, rfl, rfl, by decide +kernel, rfl, by decide +kernel, by decide +kernel⟩
theorem sc_law_marks : FnScope ["_law_script", "_law_course", "_law_many_here", "_law_far", "_law_marks_here", "_law_j", "_law_k", "_law_turn", "_law_false", "_law_way"] ["_law_script", "_law_course"] (defScope s_law_marks) := ⟨rfl, rfl, rfl, by decide +kernel, rfl, by decide +kernel, by decide +kernel⟩
theorem sc_law_held : FnScope ["_law_found", "_law_steps", "_law_marks_here", "_law_number", "_law_k", "_law_turn", "_law_span"] ["_law_found", "_law_steps", "_law_marks_here"] (defScope s_law_held) := ⟨rfl, rfl, rfl, by decide +kernel, rfl, by decide +kernel, by decide +kernel⟩
theorem sc_law_pair : FnScope ["_law_found", "_law_steps", "_law_marks_here", "_law_k"] ["_law_found", "_law_steps", "_law_marks_here"] (defScope s_law_pair) := ⟨rfl, rfl, rfl, by decide +kernel, rfl, by decide +kernel, by decide +kernel⟩
theorem sc_law_asked : FnScope ["_law_steps", "_law_marks_here", "_law_turn", "_law_number", "_law_due", "_law_more", "_law_found"] ["_law_steps", "_law_marks_here", "_law_turn", "_law_number", "_law_due"] (defScope s_law_asked) := ⟨rfl, rfl, rfl, by decide +kernel, rfl, by decide +kernel, by decide +kernel⟩
theorem sc_law_numbers : FnScope ["_law_script", "_law_span", "_law_lo", "_law_hi", "_law_far", "_law_some", "_law_number"] ["_law_script", "_law_span"] (defScope s_law_numbers) := ⟨rfl, rfl, rfl, by decide +kernel, rfl, by decide +kernel, by decide +kernel⟩
theorem sc_law_spans : FnScope ["_law_found", "_law_many_here", "_law_span", "_law_end"] ["_law_found", "_law_many_here"] (defScope s_law_spans) := ⟨rfl, rfl, rfl, by decide +kernel, rfl, by decide +kernel, by decide +kernel⟩
theorem sc_law : FnScope ["_law_script", "_law_steps", "_law_marks_here", "_law_handed", "_law_found", "_law_kept", "_law_turn", "_law_number", "_law_due", "_law_again"] ["_law_script"] (defScope s_law) := ⟨rfl, rfl, rfl, by decide +kernel, rfl, by decide +kernel, by decide +kernel⟩
set_option genInjectivity false
set_option genSizeOf false
structure Tx (K : PySem.W.Frag) (mg : Str → Option Value) where
  a_is_crossed : Addr
  fd_is_crossed : FuncData
  F_is_crossed : Fun K "is_crossed" "is_crossed" s_is_crossed a_is_crossed fd_is_crossed
  m_is_crossed : mg "is_crossed" = some (.ref a_is_crossed)
  b_is_crossed : Binds K fd_is_crossed ["lo", "hi"] []
  a_meet : Addr
  fd_meet : FuncData
  F_meet : Fun K "meet" "meet" s_meet a_meet fd_meet
  m_meet : mg "meet" = some (.ref a_meet)
  b_meet : Binds K fd_meet ["one", "other"] []
  a_common : Addr
  fd_common : FuncData
  F_common : Fun K "common" "common" s_common a_common fd_common
  m_common : mg "common" = some (.ref a_common)
  b_common : Binds K fd_common ["some"] []
  a_number_in : Addr
  fd_number_in : FuncData
  F_number_in : Fun K "number_in" "number_in" s_number_in a_number_in fd_number_in
  m_number_in : mg "number_in" = some (.ref a_number_in)
  b_number_in : Binds K fd_number_in ["cell"] []
  a_moved : Addr
  fd_moved : FuncData
  F_moved : Fun K "moved" "moved" s_moved a_moved fd_moved
  m_moved : mg "moved" = some (.ref a_moved)
  b_moved : Binds K fd_moved ["one", "step"] []
  a_narrowed : Addr
  fd_narrowed : FuncData
  F_narrowed : Fun K "narrowed" "narrowed" s_narrowed a_narrowed fd_narrowed
  m_narrowed : mg "narrowed" = some (.ref a_narrowed)
  b_narrowed : Binds K fd_narrowed ["boxes", "steps"] []
  a_stretches_at : Addr
  fd_stretches_at : FuncData
  F_stretches_at : Fun K "stretches_at" "stretches_at" s_stretches_at a_stretches_at fd_stretches_at
  m_stretches_at : mg "stretches_at" = some (.ref a_stretches_at)
  b_stretches_at : Binds K fd_stretches_at ["marks", "turn"] []
  a_tube : Addr
  fd_tube : FuncData
  F_tube : Fun K "tube" "tube" s_tube a_tube fd_tube
  m_tube : mg "tube" = some (.ref a_tube)
  b_tube : Binds K fd_tube ["steps", "marks"] []
  a_course_in : Addr
  fd_course_in : FuncData
  F_course_in : Fun K "course_in" "course_in" s_course_in a_course_in fd_course_in
  m_course_in : mg "course_in" = some (.ref a_course_in)
  b_course_in : Binds K fd_course_in ["steps", "marks"] []
  a_lesser : Addr
  fd_lesser : FuncData
  F_lesser : Fun K "lesser" "lesser" s_lesser a_lesser fd_lesser
  m_lesser : mg "lesser" = some (.ref a_lesser)
  b_lesser : Binds K fd_lesser ["one", "other"] []
  a_lifted : Addr
  fd_lifted : FuncData
  F_lifted : Fun K "lifted" "lifted" s_lifted a_lifted fd_lifted
  m_lifted : mg "lifted" = some (.ref a_lifted)
  b_lifted : Binds K fd_lifted ["one", "by"] []
  a_ceilings : Addr
  fd_ceilings : FuncData
  F_ceilings : Fun K "ceilings" "ceilings" s_ceilings a_ceilings fd_ceilings
  m_ceilings : mg "ceilings" = some (.ref a_ceilings)
  b_ceilings : Binds K fd_ceilings ["steps", "marks"] []
  a_crossing : Addr
  fd_crossing : FuncData
  F_crossing : Fun K "crossing" "crossing" s_crossing a_crossing fd_crossing
  m_crossing : mg "crossing" = some (.ref a_crossing)
  b_crossing : Binds K fd_crossing ["tops", "marks"] []
  a_clashing : Addr
  fd_clashing : FuncData
  F_clashing : Fun K "clashing" "clashing" s_clashing a_clashing fd_clashing
  m_clashing : mg "clashing" = some (.ref a_clashing)
  b_clashing : Binds K fd_clashing ["steps", "marks"] []
  a_law_pick : Addr
  fd_law_pick : FuncData
  F_law_pick : Fun K "_law_pick" "_law_pick" s_law_pick a_law_pick fd_law_pick
  m_law_pick : mg "_law_pick" = some (.ref a_law_pick)
  b_law_pick : Binds K fd_law_pick ["_law_script", "_law_k", "_law_many_here"] []
  a_law_wide : Addr
  fd_law_wide : FuncData
  F_law_wide : Fun K "_law_wide" "_law_wide" s_law_wide a_law_wide fd_law_wide
  m_law_wide : mg "_law_wide" = some (.ref a_law_wide)
  b_law_wide : Binds K fd_law_wide ["_law_script", "_law_k", "_law_many_here"] []
  a_law_paces : Addr
  fd_law_paces : FuncData
  F_law_paces : Fun K "_law_paces" "_law_paces" s_law_paces a_law_paces fd_law_paces
  m_law_paces : mg "_law_paces" = some (.ref a_law_paces)
  b_law_paces : Binds K fd_law_paces ["_law_script", "_law_many_here"] []
  a_law_many : Addr
  fd_law_many : FuncData
  F_law_many : Fun K "_law_many" "_law_many" s_law_many a_law_many fd_law_many
  m_law_many : mg "_law_many" = some (.ref a_law_many)
  b_law_many : Binds K fd_law_many ["_law_script"] []
  a_law_word : Addr
  fd_law_word : FuncData
  F_law_word : Fun K "_law_word" "_law_word" s_law_word a_law_word fd_law_word
  m_law_word : mg "_law_word" = some (.ref a_law_word)
  b_law_word : Binds K fd_law_word ["_law_script", "_law_k", "_law_far", "_law_number", "_law_false"] []
  a_law_in : Addr
  fd_law_in : FuncData
  F_law_in : Fun K "_law_in" "_law_in" s_law_in a_law_in fd_law_in
  m_law_in : mg "_law_in" = some (.ref a_law_in)
  b_law_in : Binds K fd_law_in ["_law_span", "_law_number"] []
  a_law_whole : Addr
  fd_law_whole : FuncData
  F_law_whole : Fun K "_law_whole" "_law_whole" s_law_whole a_law_whole fd_law_whole
  m_law_whole : mg "_law_whole" = some (.ref a_law_whole)
  b_law_whole : Binds K fd_law_whole ["_law_found"] []
  a_law_rise : Addr
  fd_law_rise : FuncData
  F_law_rise : Fun K "_law_rise" "_law_rise" s_law_rise a_law_rise fd_law_rise
  m_law_rise : mg "_law_rise" = some (.ref a_law_rise)
  b_law_rise : Binds K fd_law_rise ["_law_steps", "_law_one", "_law_other"] []
  a_law_clash : Addr
  fd_law_clash : FuncData
  F_law_clash : Fun K "_law_clash" "_law_clash" s_law_clash a_law_clash fd_law_clash
  m_law_clash : mg "_law_clash" = some (.ref a_law_clash)
  b_law_clash : Binds K fd_law_clash ["_law_steps", "_law_one", "_law_other"] []
  a_law_path : Addr
  fd_law_path : FuncData
  F_law_path : Fun K "_law_path" "_law_path" s_law_path a_law_path fd_law_path
  m_law_path : mg "_law_path" = some (.ref a_law_path)
  b_law_path : Binds K fd_law_path ["_law_script", "_law_steps"] []
  a_law_marks : Addr
  fd_law_marks : FuncData
  F_law_marks : Fun K "_law_marks" "_law_marks" s_law_marks a_law_marks fd_law_marks
  m_law_marks : mg "_law_marks" = some (.ref a_law_marks)
  b_law_marks : Binds K fd_law_marks ["_law_script", "_law_course"] []
  a_law_held : Addr
  fd_law_held : FuncData
  F_law_held : Fun K "_law_held" "_law_held" s_law_held a_law_held fd_law_held
  m_law_held : mg "_law_held" = some (.ref a_law_held)
  b_law_held : Binds K fd_law_held ["_law_found", "_law_steps", "_law_marks_here"] []
  a_law_pair : Addr
  fd_law_pair : FuncData
  F_law_pair : Fun K "_law_pair" "_law_pair" s_law_pair a_law_pair fd_law_pair
  m_law_pair : mg "_law_pair" = some (.ref a_law_pair)
  b_law_pair : Binds K fd_law_pair ["_law_found", "_law_steps", "_law_marks_here"] []
  a_law_asked : Addr
  fd_law_asked : FuncData
  F_law_asked : Fun K "_law_asked" "_law_asked" s_law_asked a_law_asked fd_law_asked
  m_law_asked : mg "_law_asked" = some (.ref a_law_asked)
  b_law_asked : Binds K fd_law_asked ["_law_steps", "_law_marks_here", "_law_turn", "_law_number", "_law_due"] []
  a_law_numbers : Addr
  fd_law_numbers : FuncData
  F_law_numbers : Fun K "_law_numbers" "_law_numbers" s_law_numbers a_law_numbers fd_law_numbers
  m_law_numbers : mg "_law_numbers" = some (.ref a_law_numbers)
  b_law_numbers : Binds K fd_law_numbers ["_law_script", "_law_span"] []
  a_law_spans : Addr
  fd_law_spans : FuncData
  F_law_spans : Fun K "_law_spans" "_law_spans" s_law_spans a_law_spans fd_law_spans
  m_law_spans : mg "_law_spans" = some (.ref a_law_spans)
  b_law_spans : Binds K fd_law_spans ["_law_found", "_law_many_here"] []
  a_law : Addr
  fd_law : FuncData
  F_law : Fun K "law" "law" s_law a_law fd_law
  m_law : mg "law" = some (.ref a_law)
  b_law : Binds K fd_law ["_law_script"] []
  n_bool : mg "bool" = none
  n_enumerate : mg "enumerate" = none
  n_int : mg "int" = none
  n_isinstance : mg "isinstance" = none
  n_len : mg "len" = none
  n_list : mg "list" = none
  n_max : mg "max" = none
  n_min : mg "min" = none
  n_range : mg "range" = none
  n_reversed : mg "reversed" = none
  n_tuple : mg "tuple" = none
  n_zip : mg "zip" = none
set_option genInjectivity true
set_option genSizeOf true
section
seal L2.PE L2.PS L2.PSs L2.PA
variable {P : Program} {w : World} {K : PySem.W.Frag} {mg : Str → Option Value} {base : Heap}
def sp_pick (K : PySem.W.Frag) : Sp := fun vs H Q _ => ∃ (a : Addr) (ns : List Int) (k m : Int), vs = [.ref a, .int k, .int m] ∧ SqL K H a (ns.map V.int) ∧ Scr ns ∧ (-1000000 ≤ k ∧ k ≤ 1000000) ∧ 0 < m ∧ ∀ p : Int, 0 ≤ p → p < m → Q (.int p) H
theorem ok_law_pick (T : Tx K mg) : FnOk P w K mg base (CXX P w) 1 T.a_law_pick T.fd_law_pick ["_law_script", "_law_k", "_law_many_here"] (sp_pick K) := by
  refine okN T.F_law_pick sc_law_pick (fun vs H Q E h => ?_) (fun cdv A outer s H vs Q E hr h => ?_)
  · obtain ⟨a, ns, k, m, rfl, _⟩ := h
    rfl
  · obtain ⟨a, ns, k, m, rfl, hS, hn, hk, hm, q⟩ := h
    refine ⟨_, (pss_cons (ps_set (i := 3) sc_law_pick.nd rfl (Or.inl rfl) pe_int)
    (pss_cons (ps_if (pt_cmpR op_gt (pe_callB call_len (by rfl) T.n_len b_len (pa_cons (pv 0) pa_nil)) pe_int (nomark _)) (pss_one (ps_set (i := 3) sc_law_pick.nd rfl (Or.inl rfl) (pe_ix ix_seq (pv 0) (pe_op op_mod (pv 1) (pe_callB call_len (by rfl) T.n_len b_len (pa_cons (pv 0) pa_nil))) (fun _ _ => rfl)))) pss_nil)
    (pss_one (ps_ret (pe_op op_mod (pe_op op_mod (pe_op op_mod (pe_op op_mulG (pe_op op_add (pv 3) pe_int) (pe_op op_add (pe_op op_add (pv 3) pe_int) (pe_op op_mulG (pv 1) (pv 1)))) pe_int) pe_int) (pv 2)))))), ?_⟩
    walk_at "gz"
    refine ⟨_, lenL hS, ?_⟩
    rw [List.length_map]
    have pm := pick_muls hn hk
    have fin : ∀ x : Int, Q (.int (x % 2147483629 % 999983 % m)) H := fun x => q _ (Int.emod_nonneg _ (by omega)) (Int.emod_lt_of_pos _ hm)
    split
    · rename_i h
      refine ⟨_, lenL hS, ?_⟩
      rw [List.length_map]
      refine ⟨h, ixL hS (scell_at h) ?_⟩
      walk_at "gz"
      exact ⟨pm.1, pm.2, by decide, by decide, hm, fin _⟩
    · rename_i h
      have e : scell ns k = 0 := if_neg h
      rw [e] at pm
      exact ⟨pm.1, pm.2, by decide, by decide, hm, fin _⟩
def sp_wide (K : PySem.W.Frag) : Sp := fun vs H Q _ => ∃ (a : Addr) (ns : List Int) (k m : Int), vs = [.ref a, .int k, .int m] ∧ SqL K H a (ns.map V.int) ∧ Scr ns ∧ (-1000000 ≤ k ∧ k ≤ 1000000) ∧ 0 < m ∧ ∀ p : Int, 0 ≤ p → p < m → Q (.int p) H
theorem ok_law_wide (T : Tx K mg) : FnOk P w K mg base (CXX P w) 2 T.a_law_wide T.fd_law_wide ["_law_script", "_law_k", "_law_many_here"] (sp_wide K) := by
  refine okN T.F_law_wide sc_law_wide (fun vs H Q E h => ?_) (fun cdv A outer s H vs Q E hr h => ?_)
  · obtain ⟨a, ns, k, m, rfl, _⟩ := h
    rfl
  · obtain ⟨a, ns, k, m, rfl, hS, hn, hk, hm, q⟩ := h
    refine ⟨_, (pss_cons (ps_set (i := 3) sc_law_wide.nd rfl (Or.inl rfl) pe_int)
    (pss_cons (ps_if (pt_cmpR op_gt (pe_callB call_len (by rfl) T.n_len b_len (pa_cons (pv 0) pa_nil)) pe_int (nomark _)) (pss_one (ps_set (i := 3) sc_law_wide.nd rfl (Or.inl rfl) (pe_ix ix_seq (pv 0) (pe_op op_mod (pv 1) (pe_callB call_len (by rfl) T.n_len b_len (pa_cons (pv 0) pa_nil))) (fun _ _ => rfl)))) pss_nil)
    (pss_one (ps_ret (pe_op op_mod (pe_op op_add (pe_call (ok_law_pick T) (hr.mono (by decide)) rfl T.m_law_pick T.F_law_pick.kp T.b_law_pick .nil passE0 (pa_cons (pv 0) (pa_cons (pv 1) (pa_cons pe_int pa_nil)))) (pe_op op_mulG (pe_op op_mulG (pe_op op_mulG pe_int (pv 3)) (pv 3)) (pv 3))) (pv 2)))))), ?_⟩
    walk_at "gz"
    refine ⟨_, lenL hS, ?_⟩
    rw [List.length_map]
    have pm := wide_muls hn k
    have fin : ∀ x : Int, Q (.int (x % m)) H := fun x => q _ (Int.emod_nonneg _ (by omega)) (Int.emod_lt_of_pos _ hm)
    split
    · rename_i h
      refine ⟨_, lenL hS, ?_⟩
      rw [List.length_map]
      refine ⟨h, ixL hS (scell_at h) ?_⟩
      walk_at "gz"
      refine ⟨a, ns, k, 999983, rfl, hS, hn, hk, by decide, fun p _ _ => ?_⟩
      walk_at "gz"
      exact ⟨pm.1, pm.2.1, pm.2.2, hm, fin _⟩
    · rename_i h
      have e : scell ns k = 0 := if_neg h
      rw [e] at pm
      refine ⟨a, ns, k, 999983, rfl, hS, hn, hk, by decide, fun p _ _ => ?_⟩
      walk_at "gz"
      exact ⟨pm.1, pm.2.1, pm.2.2, hm, fin _⟩
def sp_whole : Sp := fun vs H Q _ => ∃ (v : V), vs = [v] ∧ (v = .non ∨ ∃ i, v = .int i) ∧ Q (.bl (isWhole v)) H
theorem ok_law_whole (T : Tx K mg) : FnOk P w K mg base (CXX P w) 1 T.a_law_whole T.fd_law_whole ["_law_found"] sp_whole := by
  refine okN T.F_law_whole sc_law_whole (fun vs H Q E h => ?_) (fun cdv A outer s H vs Q E hr h => ?_)
  · obtain ⟨v, rfl, _⟩ := h
    rfl
  · obtain ⟨v, rfl, hv, q⟩ := h
    refine ⟨_, (pss_one (ps_ret (pe_and (pe_callB call_isiA (by rfl) T.n_isinstance b_isinstance (pa_cons (pv 0) (pa_cons (pe_bltn (v := .ty "int") rfl T.n_int b_int rfl) pa_nil))) (pe_one (pe_not (pe_callB call_isiA (by rfl) T.n_isinstance b_isinstance (pa_cons (pv 0) (pa_cons (pe_bltn (v := .ty "bool") rfl T.n_bool b_bool rfl) pa_nil)))))))), ?_⟩
    rcases hv with rfl | ⟨i, rfl⟩
    · walk_at "gz"
      exact q
    · walk_at "gz"
      exact q
def sp_many (K : PySem.W.Frag) : Sp := fun vs H Q _ => ∃ (a : Addr) (ns : List Int), vs = [.ref a] ∧ SqL K H a (ns.map V.int) ∧ Scr ns ∧ ∀ m : Nat, m ≤ 41 → Q (.int m) H
theorem ok_law_many (T : Tx K mg) : FnOk P w K mg base (CXX P w) 2 T.a_law_many T.fd_law_many ["_law_script"] (sp_many K) := by
  refine okN T.F_law_many sc_law_many (fun vs H Q E h => ?_) (fun cdv A outer s H vs Q E hr h => ?_)
  · obtain ⟨a, ns, rfl, _⟩ := h
    rfl
  · obtain ⟨a, ns, rfl, hS, hn, q⟩ := h
    refine ⟨_, (pss_cons (ps_if (pt_cmpR op_eq (pe_call (ok_law_pick T) (hr.mono (by decide)) rfl T.m_law_pick T.F_law_pick.kp T.b_law_pick .nil passE0 (pa_cons (pv 0) (pa_cons pe_int (pa_cons pe_int pa_nil)))) pe_int (nomark _)) (pss_one (ps_ret (pe_op op_add pe_int (pe_call (ok_law_pick T) (hr.mono (by decide)) rfl T.m_law_pick T.F_law_pick.kp T.b_law_pick .nil passE0 (pa_cons (pv 0) (pa_cons pe_int (pa_cons pe_int pa_nil))))))) pss_nil)
    (pss_one (ps_ret (pe_call (ok_law_pick T) (hr.mono (by decide)) rfl T.m_law_pick T.F_law_pick.kp T.b_law_pick .nil passE0 (pa_cons (pv 0) (pa_cons pe_int (pa_cons pe_int pa_nil))))))), ?_⟩
    walk_at "gz"
    refine ⟨a, ns, 0, 6, rfl, hS, hn, by decide, by decide, fun p _ _ => ?_⟩
    walk_at "gz"
    split
    · refine ⟨a, ns, 3, 30, rfl, hS, hn, by decide, by decide, fun p h1 h2 => ?_⟩
      walk_at "gz"
      have := q (12 + p).toNat (by omega)
      rwa [show (((12 + p).toNat : Nat) : Int) = 12 + p by omega] at this
    · refine ⟨a, ns, 3, 12, rfl, hS, hn, by decide, by decide, fun p h1 h2 => ?_⟩
      have := q p.toNat (by omega)
      rwa [show ((p.toNat : Nat) : Int) = p by omega] at this
def sp_paces (K : PySem.W.Frag) : Sp := fun vs H Q _ => ∃ (a : Addr) (ns : List Int) (m : Nat), vs = [.ref a, .int m] ∧ SqL K H a (ns.map V.int) ∧ Scr ns ∧ m ≤ 41 ∧ ∀ (l : Addr) (xs : List V) (ps : List P2) (H' : Hp), Same H H' → H l = none → H' l = some (.lst xs) → Pts H' xs ps → okPc ps → ps.length = m → Q (.ref l) H'
def inv_paces (H : Hp) (a l : Addr) (m : Nat) (z b : Int) (i : Nat) (σ : St) (H1 : Hp) : Prop := ∃ (xs : List V) (ps : List P2) (e1 e2 : Option V), σ = [some (.ref a), some (.int m), some (.int z), some (.int b), some (.ref l), e1, e2] ∧ Same H H1 ∧ H1 l = some (.lst xs) ∧ Pts H1 xs ps ∧ okPc ps ∧ ps.length = i
theorem ok_law_paces (T : Tx K mg) : FnOk P w K mg base (CXX P w) 3 T.a_law_paces T.fd_law_paces ["_law_script", "_law_many_here"] (sp_paces K) := by
  refine okN T.F_law_paces sc_law_paces (fun vs H Q E h => ?_) (fun cdv A outer s H vs Q E hr h => ?_)
  · obtain ⟨a, ns, m, rfl, _⟩ := h
    rfl
  · obtain ⟨a, ns, m, rfl, hS, hn, hm, q⟩ := h
    refine ⟨_, (pss_cons (ps_set (i := 2) sc_law_paces.nd rfl (Or.inl rfl) (pe_ix ix_seq (pe_lst (pa_cons pe_int (pa_cons pe_int (pa_cons (pe_op op_pow pe_int pe_int) (pa_cons (pe_op op_mulB (pe_op op_pow pe_int pe_int) (pe_op op_pow pe_int pe_int)) pa_nil))))) (pe_call (ok_law_pick T) (hr.mono (by decide)) rfl T.m_law_pick T.F_law_pick.kp T.b_law_pick .nil passE0 (pa_cons (pv 0) (pa_cons pe_int (pa_cons pe_int pa_nil)))) (fun _ _ => rfl)))
    (pss_cons (ps_set (i := 3) sc_law_paces.nd rfl (Or.inl rfl) (pe_ix ix_seq (pe_lst (pa_cons pe_int (pa_cons pe_int (pa_cons pe_int (pa_cons pe_int (pa_cons (pe_op op_mulB (pe_op op_pow pe_int pe_int) (pe_op op_pow pe_int pe_int)) pa_nil)))))) (pe_call (ok_law_pick T) (hr.mono (by decide)) rfl T.m_law_pick T.F_law_pick.kp T.b_law_pick .nil passE0 (pa_cons (pv 0) (pa_cons pe_int (pa_cons pe_int pa_nil)))) (fun _ _ => rfl)))
    (pss_cons (ps_set (i := 4) sc_law_paces.nd rfl (Or.inl rfl) (pe_lst pa_nil))
    (pss_cons (ps_for PassesOwn.never rfl (pi_range1 rfl T.n_range (pa_cons (pv 1) pa_nil)) (pg_name (i := 5) sc_law_paces.nd rfl (Or.inl rfl)) (pss_cons (ps_set (i := 6) sc_law_paces.nd rfl (Or.inl rfl) (pe_op op_sub (pe_call (ok_law_wide T) (hr.mono (by decide)) rfl T.m_law_wide T.F_law_wide.kp T.b_law_wide .nil passE0 (pa_cons (pv 0) (pa_cons (pe_op op_add pe_int (pe_op op_mulB pe_int (pv 5))) (pa_cons (pe_op op_add (pe_op op_mulB pe_int (pv 2)) pe_int) pa_nil)))) (pv 2)))
        (pss_one (ps_expr (pe_bm PySem.F.plainAttrs_list PySem.F.slot_list_append PySem.F.type_list_append mt_append (pv 4) (pa_cons (pe_tup (pa_cons (pv 6) (pa_cons (pe_op op_add (pv 6) (pe_call (ok_law_wide T) (hr.mono (by decide)) rfl T.m_law_wide T.F_law_wide.kp T.b_law_wide .nil passE0 (pa_cons (pv 0) (pa_cons (pe_op op_add pe_int (pe_op op_mulB pe_int (pv 5))) (pa_cons (pe_op op_add (pv 3) pe_int) pa_nil))))) pa_nil))) pa_nil))))))
    (pss_one (ps_ret (pv 4))))))), ?_⟩
    walk_at "gzn"
    refine ⟨⟨by decide, by decide, by decide⟩, ⟨by decide, by decide, by decide⟩, ⟨by decide, by decide, by decide⟩, mul200 (by decide) (by decide), by decide, fun t ht => ?_⟩
    have P1 : upd H t (.lst [V.int 4, V.int 1000, V.int 10000000000000000000000000000000000000000, V.int 1000000000000000000000000000000000000000000000000000000000000000000000000000000000000000000000000000000000000000000000000]) t = some (.lst (([4, 1000, 10000000000000000000000000000000000000000, 1000000000000000000000000000000000000000000000000000000000000000000000000000000000000000000000000000000000000000000000000] : List Int).map V.int)) := upd_same
    have s1 := same_upd (o := .lst [V.int 4, V.int 1000, V.int 10000000000000000000000000000000000000000, V.int 1000000000000000000000000000000000000000000000000000000000000000000000000000000000000000000000000000000000000000000000000]) ht
    refine ⟨a, ns, 1, 4, rfl, s1.seq hS, hn, by decide, by decide, fun k h1 h2 => ?_⟩
    obtain ⟨z, hz, ez⟩ := at_mem (vs := ([4, 1000, 10000000000000000000000000000000000000000, 1000000000000000000000000000000000000000000000000000000000000000000000000000000000000000000000000000000000000000000000000] : List Int)) h1 h2
    have hz : 0 ≤ z ∧ z ≤ 1000000000000000000000000000000000000000000000000000000000000000000000000000000000000000000000000000000000000000000000000 := by
      simp only [List.mem_cons, List.not_mem_nil, or_false] at hz
      omega
    refine ixL (SqL.of P1) ez ?_
    walk_at "gzn"
    generalize upd H t (.lst [V.int 4, V.int 1000, V.int 10000000000000000000000000000000000000000, V.int 1000000000000000000000000000000000000000000000000000000000000000000000000000000000000000000000000000000000000000000000000]) = H1 at s1 ht ⊢
    refine ⟨⟨by decide, by decide, by decide⟩, ⟨by decide, by decide, by decide⟩, mul200 (by decide) (by decide), by decide, fun t ht => ?_⟩
    have P2 : upd H1 t (.lst [V.int 0, V.int 3, V.int 4, V.int 1000, V.int 1000000000000000000000000000000000000000000000000000000000000000000000000000000000000000000000000000000000000000000000000]) t = some (.lst (([0, 3, 4, 1000, 1000000000000000000000000000000000000000000000000000000000000000000000000000000000000000000000000000000000000000000000000] : List Int).map V.int)) := upd_same
    have s2 := s1.trans (same_upd (o := .lst [V.int 0, V.int 3, V.int 4, V.int 1000, V.int 1000000000000000000000000000000000000000000000000000000000000000000000000000000000000000000000000000000000000000000000000]) ht)
    refine ⟨a, ns, 2, 5, rfl, s2.seq hS, hn, by decide, by decide, fun k h1 h2 => ?_⟩
    obtain ⟨b, hb, eb⟩ := at_mem (vs := ([0, 3, 4, 1000, 1000000000000000000000000000000000000000000000000000000000000000000000000000000000000000000000000000000000000000000000000] : List Int)) h1 h2
    have hb : 0 ≤ b ∧ b ≤ 1000000000000000000000000000000000000000000000000000000000000000000000000000000000000000000000000000000000000000000000000 := by
      simp only [List.mem_cons, List.not_mem_nil, or_false] at hb
      omega
    refine ixL (SqL.of P2) eb ?_
    walk_at "gzn"
    generalize upd H1 t (.lst [V.int 0, V.int 3, V.int 4, V.int 1000, V.int 1000000000000000000000000000000000000000000000000000000000000000000000000000000000000000000000000000000000000000000000000]) = H2 at s2 ⊢
    refine ⟨by decide, fun l hl => ⟨by omega, by omega, ?_⟩⟩
    have hl0 : H l = none := s2.free hl
    have s3 := s2.trans (same_upd (o := .lst []) hl)
    refine by_range (inv_paces H a l m z b) ⟨[], [], _, _, rfl, s3, upd_same, trivial, fun _ h => by simp at h, rfl⟩ ?_ ?_
    · rintro i σ H4 hi ⟨xs, ps, e1, e2, rfl, s4, L4, hP, hk, hlen⟩
      walk_at "gzn"
      refine ⟨mul600 (by decide) (by omega), mul600 (by decide) (by omega), ?_⟩
      refine ⟨a, ns, _, _, rfl, s4.seq hS, hn, by omega, by omega, fun u u1 u2 => ?_⟩
      walk_at "gzn"
      refine ⟨.inl ⟨rfl, _, SqL.of L4⟩, mul600 (by decide) (by omega), ?_⟩
      refine ⟨a, ns, _, _, rfl, s4.seq hS, hn, by omega, by omega, fun v v1 v2 => ?_⟩
      walk_at "gzn"
      refine ⟨line2, fun t ht => ?_⟩
      have s5 := same_upd (o := .tup [.int (u - z), .int (u - z + v)]) ht
      have T5 : IsPt (upd H4 t (.tup [.int (u - z), .int (u - z + v)])) (.ref t) (u - z, u - z + v) := IsPt.new
      have S5 := s4.trans s5
      have L5 := s5 _ _ L4
      have hP5 := hP.same s5
      generalize upd H4 t (.tup [.int (u - z), .int (u - z + v)]) = H5 at S5 L5 hP5 T5 ⊢
      walk_at "gzn"
      have hl := hP.len
      refine ⟨_, L5, Nat.lt_of_le_of_lt (by omega : xs.length ≤ 41) (by decide), xs ++ [.ref t], ps ++ [(u - z, u - z + v)], _, _, rfl, same_put hl0 S5, upd_same, Pts.put (hP5.snoc T5) L5, ?_, by rw [List.length_append, List.length_singleton, hlen]⟩
      intro p hp
      rcases List.mem_append.mp hp with h | h
      · exact hk p h
      · have : p = (u - z, u - z + v) := by simpa using h
        subst this
        show u - z ≤ u - z + v
        omega
    · rintro σ H4 ⟨xs, ps, e1, e2, rfl, s4, L4, hP, hk, hlen⟩
      walk_at "gzn"
      exact q l xs ps H4 s4 hl0 L4 hP hk (by omega)
def sp_lrise (K : PySem.W.Frag) : Sp := fun vs H Q _ => ∃ (a : Addr) (xs : List V) (ps : List P2) (i j : Nat), vs = [.ref a, .int i, .int j] ∧ SqL K H a xs ∧ Pts H xs ps ∧ ps.length ≤ 1000 ∧ i ≤ ps.length ∧ j ≤ ps.length ∧ Q (.int (riseF ps i j)) H
def inv_lrise (H : Hp) (a : Addr) (ps : List P2) (i j k : Nat) (σ : St) (H1 : Hp) : Prop := ∃ (e : Option V), σ = [some (.ref a), some (.int i), some (.int j), some (.int (part ps i j k)), e] ∧ H1 = H
theorem ok_law_rise (T : Tx K mg) : FnOk P w K mg base (CXX P w) 1 T.a_law_rise T.fd_law_rise ["_law_steps", "_law_one", "_law_other"] (sp_lrise K) := by
  refine okN T.F_law_rise sc_law_rise (fun vs H Q E h => ?_) (fun cdv A outer s H vs Q E hr h => ?_)
  · obtain ⟨a, xs, ps, i, j, rfl, _⟩ := h
    rfl
  · obtain ⟨a, xs, ps, i, j, rfl, hS, hP, hn, hi, hj, q⟩ := h
    refine ⟨_, (pss_cons (ps_set (i := 3) sc_law_rise.nd rfl (Or.inl rfl) pe_int)
    (pss_cons (ps_for PassesOwn.never rfl (pi_range2 rfl T.n_range (pa_cons (pe_callB (call_min2 rfl) (by rfl) T.n_min b_min (pa_cons (pv 1) (pa_cons (pv 2) pa_nil))) (pa_cons (pe_callB (call_max2 rfl) (by rfl) T.n_max b_max (pa_cons (pv 1) (pa_cons (pv 2) pa_nil))) pa_nil))) (pg_name (i := 4) sc_law_rise.nd rfl (Or.inl rfl)) (pss_one (ps_if (pt_cmpR op_lt (pv 1) (pv 2) (nomark _)) (pss_one (ps_set (i := 3) sc_law_rise.nd rfl (Or.inl rfl) (pe_op op_add (pv 3) (pe_ix ix_seq (pe_ix ix_seq (pv 0) (pv 4) (fun _ _ => rfl)) pe_int (fun _ _ => rfl))))) (pss_one (ps_set (i := 3) sc_law_rise.nd rfl (Or.inl rfl) (pe_op op_sub (pv 3) (pe_ix ix_seq (pe_ix ix_seq (pv 0) (pv 4) (fun _ _ => rfl)) pe_int (fun _ _ => rfl))))))))
    (pss_one (ps_ret (pv 3))))), ?_⟩
    have hl := hP.len
    walk_at "gzn"
    rw [min_cast, max_cast]
    refine ⟨by omega, by omega, by omega, by omega, ?_⟩
    rw [show (((max i j : Nat) : Int) - ((min i j : Nat) : Int)).toNat = max i j - min i j by omega]
    refine by_range (inv_lrise H a ps i j) ⟨_, by rw [part_ends.1], rfl⟩ ?_ ?_
    · rintro k σ H1 hk ⟨e, rfl, rfl⟩
      obtain ⟨v, ev, hv⟩ := at_pt hP (i := min i j + k) (by omega)
      obtain ⟨t, rfl, ht⟩ := hv
      rw [show ((min i j + k : Nat) : Int) = ((min i j : Nat) : Int) + (k : Int) by omega] at ev
      walk_at "gzn"
      split
      · rename_i h
        refine ixL hS ev (ixT (SqT.of ht) rfl ?_)
        walk_at "gzn"
        refine ⟨some (.int (((min i j : Nat) : Int) + (k : Int))), ?_, rfl⟩
        unfold part
        rw [if_pos (by omega), if_pos (by omega), show min i j + (k + 1) = min i j + k + 1 by omega, pre_succ _ _ (by omega)]
        simp only [List.cons.injEq, Option.some.injEq, V.int.injEq, true_and, and_true]
        omega
      · rename_i h
        refine ixL hS ev (ixT (SqT.of ht) rfl ?_)
        walk_at "gzn"
        refine ⟨some (.int (((min i j : Nat) : Int) + (k : Int))), ?_, rfl⟩
        unfold part
        rw [if_neg (by omega), if_neg (by omega), show min i j + (k + 1) = min i j + k + 1 by omega, pre_succ _ _ (by omega)]
        simp only [List.cons.injEq, Option.some.injEq, V.int.injEq, true_and, and_true]
        omega
    · rintro σ H1 ⟨e, rfl, rfl⟩
      walk_at "gzn"
      rw [part_ends.2]
      exact q
def sp_crossed : Sp := fun vs H Q _ => ∃ (a b : En), vs = [ev a, ev b] ∧ Q (.bl (crossed a b)) H
theorem ok_is_crossed (T : Tx K mg) : FnOk P w K mg base (CXX P w) 1 T.a_is_crossed T.fd_is_crossed ["lo", "hi"] sp_crossed := by
  refine okN T.F_is_crossed sc_is_crossed (fun vs H Q E h => ?_) (fun cdv A outer s H vs Q E hr h => ?_)
  · obtain ⟨a, b, rfl, _⟩ := h
    rfl
  · obtain ⟨a, b, rfl, q⟩ := h
    refine ⟨_, (pss_one (ps_ret (pe_and (pe_cmp (pc_notN (pv 0))) (pe_and (pe_cmp (pc_notN (pv 1))) (pe_one (pe_cmpR op_gt (pv 0) (pv 1) (nomark _))))))), ?_⟩
    rcases a with _ | x
    · walk_at "gz"
      exact q
    rcases b with _ | y
    · walk_at "gz"
      exact q
    walk_at "gz"
    exact q
def sp_meet : Sp := fun vs H Q _ => ∃ (v u : V) (a b c d : En), vs = [v, u] ∧ IsS H v a b ∧ IsS H u c d ∧ ∀ x H', Same H H' → MeetIs H' x (maxE a c) (minE b d) → Q x H'
theorem ok_meet (T : Tx K mg) : FnOk P w K mg base (CXX P w) 2 T.a_meet T.fd_meet ["one", "other"] sp_meet := by
  refine okN T.F_meet sc_meet (fun vs H Q E h => ?_) (fun cdv A outer s H vs Q E hr h => ?_)
  · obtain ⟨v, u, a, b, c, d, rfl, _⟩ := h
    rfl
  · obtain ⟨v, u, a, b, c, d, rfl, ⟨p, rfl, hp⟩, ⟨r, rfl, hr0⟩, q⟩ := h
    refine ⟨_, (pss_cons (ps_set (i := 2) sc_meet.nd rfl (Or.inl rfl) (pe_maxD rfl rfl T.n_max (pe_comp (CompOk.mk (fr := []) (ys := []) rfl (by decide +kernel) rfl (by decide +kernel) rfl rfl .nil .nil (by decide) rfl) rfl (pi_tup (pe_tup (pa_cons (pe_ix ix_seq (pv 0) pe_int (fun _ _ => rfl)) (pa_cons (pe_ix ix_seq (pv 1) pe_int (fun _ _ => rfl)) pa_nil)))) (fun C s2 H2 ex pn => ⟨(pts_one (pt_cmp (pc_notN (pv 0)))), (pv 0)⟩)) pe_non))
    (pss_cons (ps_set (i := 3) sc_meet.nd rfl (Or.inl rfl) (pe_minD rfl rfl T.n_min (pe_comp (CompOk.mk (fr := []) (ys := []) rfl (by decide +kernel) rfl (by decide +kernel) rfl rfl .nil .nil (by decide) rfl) rfl (pi_tup (pe_tup (pa_cons (pe_ix ix_seq (pv 0) pe_int (fun _ _ => rfl)) (pa_cons (pe_ix ix_seq (pv 1) pe_int (fun _ _ => rfl)) pa_nil)))) (fun C s2 H2 ex pn => ⟨(pts_one (pt_cmp (pc_notN (pv 0)))), (pv 0)⟩)) pe_non))
    (pss_cons (ps_if (pt_val (pe_call (ok_is_crossed T) (hr.mono (by decide)) rfl T.m_is_crossed T.F_is_crossed.kp T.b_is_crossed .nil passE0 (pa_cons (pv 2) (pa_cons (pv 3) pa_nil)))) (pss_one (ps_ret pe_non)) pss_nil)
    (pss_one (ps_ret (pe_tup (pa_cons (pv 2) (pa_cons (pv 3) pa_nil)))))))), ?_⟩
    walk_at "gz"
    refine ixT (SqT.of hp) rfl (ixT (SqT.of hr0) rfl ?_)
    walk_at "gz"
    refine ⟨line2, fun t ht => ⟨⟨_, SqT.of upd_same⟩, comp_ends upd_same (fun x H Q h => ?_) (fun x H Q h => ?_) fun l hl => ?_⟩⟩
    · walk_at "gz"
      exact h
    · walk_at "gz"
      exact h
    refine ⟨l, rfl, nums a c, SqL.of upd_same, ?_⟩
    rw [max_nums]
    have s2 := (same_upd (o := .tup [ev a, ev c]) ht).trans (same_upd (o := .lst ((nums a c).map V.int)) hl)
    generalize upd (upd H t (.tup [ev a, ev c])) l (.lst ((nums a c).map V.int)) = H2 at s2 ⊢
    refine ixT (SqT.of (s2 _ _ hp)) rfl (ixT (SqT.of (s2 _ _ hr0)) rfl ?_)
    walk_at "gz"
    refine ⟨line2, fun t' ht' => ⟨⟨_, SqT.of upd_same⟩, comp_ends upd_same (fun x H Q h => ?_) (fun x H Q h => ?_) fun l' hl' => ?_⟩⟩
    · walk_at "gz"
      exact h
    · walk_at "gz"
      exact h
    refine ⟨l', rfl, nums b d, SqL.of upd_same, ?_⟩
    rw [min_nums]
    have s3 := s2.trans ((same_upd (o := .tup [ev b, ev d]) ht').trans (same_upd (o := .lst ((nums b d).map V.int)) hl'))
    generalize upd (upd H2 t' (.tup [ev b, ev d])) l' (.lst ((nums b d).map V.int)) = H3 at s3 ⊢
    refine ⟨_, _, rfl, ?_⟩
    cases hc : crossed (maxE a c) (minE b d) with
    | true =>
      walk_at "gz"
      exact q _ _ s3 ⟨fun _ => rfl, fun z => nomatch hc.symm.trans z⟩
    | false =>
      walk_at "gz"
      exact ⟨line2, fun p' hp' => q _ _ (s3.trans (same_upd hp')) ⟨fun z => (nomatch hc.symm.trans z), fun _ => IsS.new⟩⟩
def sp_common (K : PySem.W.Frag) : Sp := fun vs H Q _ => ∃ (a : Addr) (xs : List V) (ss : List S2), vs = [.ref a] ∧ SqL K H a xs ∧ Sts H xs ss ∧ xs.length ≤ 1000 ∧ ∀ v H', Same H H' → IsW H' v (comW (none, none) ss) → Q v H'
def inv_common (K : PySem.W.Frag) (H : Hp) (a : Addr) (xs : List V) (ss : List S2) (i : Nat) (σ : St) (H1 : Hp) : Prop := ∃ (v : V) (e : Option V), σ = [some (.ref a), some v, e] ∧ Same H H1 ∧ IsS H1 v (comE (none, none) (ss.take i)).1 (comE (none, none) (ss.take i)).2 ∧ crossed (comE (none, none) (ss.take i)).1 (comE (none, none) (ss.take i)).2 = false
theorem ok_common (T : Tx K mg) : FnOk P w K mg base (CXX P w) 3 T.a_common T.fd_common ["some"] (sp_common K) := by
  refine okN T.F_common sc_common (fun vs H Q E h => ?_) (fun cdv A outer s H vs Q E hr h => ?_)
  · obtain ⟨a, xs, ss, rfl, _⟩ := h
    rfl
  · obtain ⟨a, xs, ss, rfl, hS, hP, hn, q⟩ := h
    refine ⟨_, (pss_cons (ps_set (i := 1) sc_common.nd rfl (Or.inl rfl) (pe_tup (pa_cons pe_non (pa_cons pe_non pa_nil))))
    (pss_cons (ps_for PassesOwn.never rfl (pi_list (pv 0)) (pg_name (i := 2) sc_common.nd rfl (Or.inl rfl)) (pss_cons (ps_set (i := 1) sc_common.nd rfl (Or.inl rfl) (pe_call (ok_meet T) (hr.mono (by decide)) rfl T.m_meet T.F_meet.kp T.b_meet .nil passE0 (pa_cons (pv 1) (pa_cons (pv 2) pa_nil))))
        (pss_one (ps_if (pt_cmp (pc_isN (pv 1))) (pss_one (ps_ret pe_non)) pss_nil))))
    (pss_one (ps_ret (pv 1))))), ?_⟩
    have hA := sts_all2.mp hP
    have hl := hA.len
    walk_at "gz"
    refine ⟨line2, fun p hp => ?_⟩
    have s0 := same_upd (o := .tup [.non, .non]) hp
    refine ⟨⟨_, s0.seq hS⟩, by_list (xs := xs) (inv_common K H a xs ss) ⟨_, _, rfl, s0, ⟨p, rfl, upd_same⟩, rfl⟩ ?_ ?_ ?_⟩
    · rintro i σ H1 _ ⟨_, _, _, s1, _⟩
      exact s1.seq hS
    · rintro i x σ H1 hx ⟨v, e, rfl, s1, hv, hc⟩
      obtain ⟨w, hw, r⟩ := hA.get hx
      have e1 := comE_succ (e := (none, none)) hw
      walk_at "gz"
      refine ⟨v, x, _, _, w.1, w.2, rfl, hv, r.same s1, fun y H2 s2 hm => ?_⟩
      have hm2 : MeetIs H2 y (comE (none, none) (ss.take (i + 1))).1 (comE (none, none) (ss.take (i + 1))).2 := by rw [e1]; exact hm
      cases hk : crossed (comE (none, none) (ss.take (i + 1))).1 (comE (none, none) (ss.take (i + 1))).2 with
      | true =>
        have ey := hm2.1 hk
        subst ey
        walk_at "gz"
        refine q _ _ (s1.trans s2) ?_
        unfold comW
        rw [if_pos (comE_take hk)]
        rfl
      | false =>
        have hy := hm2.2 hk
        obtain ⟨t, rfl, ht⟩ := id hy
        walk_at "gz"
        exact ⟨_, _, rfl, s1.trans s2, hy, hk⟩
    · rintro σ H1 ⟨v, e, rfl, s1, hv, hc⟩
      walk_at "gz"
      rw [hl, List.take_length] at hv hc
      refine q _ _ s1 ?_
      unfold comW
      rw [if_neg (by rw [hc]; simp)]
      exact hv
def sp_numin : Sp := fun vs H Q _ => ∃ (v : V) (c : S2), vs = [v] ∧ IsS2 H v c ∧ Q (.int (numIn c)) H
theorem ok_number_in (T : Tx K mg) : FnOk P w K mg base (CXX P w) 1 T.a_number_in T.fd_number_in ["cell"] sp_numin := by
  refine okN T.F_number_in sc_number_in (fun vs H Q E h => ?_) (fun cdv A outer s H vs Q E hr h => ?_)
  · obtain ⟨v, c, rfl, _⟩ := h
    rfl
  · obtain ⟨v, ⟨e1, e2⟩, rfl, ⟨p, rfl, hp⟩, q⟩ := h
    refine ⟨_, (pss_cons (ps_if (pt_cmp (pc_notN (pe_ix ix_seq (pv 0) pe_int (fun _ _ => rfl)))) (pss_one (ps_ret (pe_ix ix_seq (pv 0) pe_int (fun _ _ => rfl)))) pss_nil)
    (pss_cons (ps_if (pt_cmp (pc_notN (pe_ix ix_seq (pv 0) pe_int (fun _ _ => rfl)))) (pss_one (ps_ret (pe_ix ix_seq (pv 0) pe_int (fun _ _ => rfl)))) pss_nil)
    (pss_one (ps_ret pe_int)))), ?_⟩
    walk_at "gz"
    refine ixT (SqT.of hp) rfl ?_
    rcases e1 with _ | x
    · walk_at "gz"
      refine ixT (SqT.of hp) rfl ?_
      rcases e2 with _ | y
      · walk_at "gz"
        exact q
      · walk_at "gz"
        exact ixT (SqT.of hp) rfl q
    · walk_at "gz"
      exact ixT (SqT.of hp) rfl q
def sp_word (K : PySem.W.Frag) : Sp := fun vs H Q _ => ∃ (a : Addr) (ns : List Int) (k f n : Int) (b : Bool), vs = [.ref a, .int k, .int f, .int n, .bl b] ∧ SqL K H a (ns.map V.int) ∧ Scr ns ∧ (-900000 ≤ k ∧ k ≤ 900000) ∧ (1 ≤ f ∧ f ≤ 1000000000000000000000000000000000000000000000000000000000) ∧ ∀ (p : Addr) (lo hi : En) (H' : Hp), Same H H' → H p = none → H' p = some (.tup [ev lo, ev hi]) → crossed lo hi = false → (b = false → hold lo hi n = true) → Q (.ref p) H'
def wdI (a : Addr) (H : Hp) (k f n : Int) (b : Bool) (σ : St) (H' : Hp) : Prop := ∃ y lo hi : Int, σ = [some (.ref a), some (.int k), some (.int f), some (.int n), some (.bl b), some (.int y), some (.int lo), some (.int hi), none] ∧ Same H H' ∧ (1 ≤ y ∧ y ≤ 1000000000000000000000000000000000000000000000000000000000) ∧ lo ≤ hi ∧ (b = false → lo ≤ n ∧ n ≤ hi)
def wdI2 (a : Addr) (H : Hp) (k f n : Int) (b : Bool) (σ : St) (H' : Hp) : Prop := ∃ y lo hi : Int, σ = [some (.ref a), some (.int k), some (.int f), some (.int n), some (.bl b), some (.int y), some (.int lo), some (.int hi), none] ∧ Same H H' ∧ lo ≤ hi ∧ (b = false → lo ≤ n ∧ n ≤ hi)
def wdJ (a : Addr) (H : Hp) (k f n : Int) (b : Bool) (σ : St) (H' : Hp) : Prop := ∃ (y g lo : Int) (l h : En) (hi : Int), σ = [some (.ref a), some (.int k), some (.int f), some (.int n), some (.bl b), some (.int y), some (ev l), some (ev h), some (.int g)] ∧ Same H H' ∧ (l = none ∨ l = some lo) ∧ (h = none ∨ h = some hi) ∧ lo ≤ hi ∧ (b = false → lo ≤ n ∧ n ≤ hi)
theorem mulP {p y : Int} (h0 : 0 ≤ p) (y0 : 0 ≤ y) : 0 ≤ p * y := Int.mul_nonneg h0 y0
theorem ok_law_word (T : Tx K mg) : FnOk P w K mg base (CXX P w) 2 T.a_law_word T.fd_law_word ["_law_script", "_law_k", "_law_far", "_law_number", "_law_false"] (sp_word K) := by
  refine okN T.F_law_word sc_law_word (fun vs H Q E h => ?_) (fun cdv A outer s H vs Q E hr h => ?_)
  · obtain ⟨a, ns, k, f, n, b, rfl, _⟩ := h
    rfl
  · obtain ⟨a, ns, k, f, n, b, rfl, hS, hn, hk, hf, q⟩ := h
    refine ⟨_, (pss_cons (ps_set (i := 5) sc_law_word.nd rfl (Or.inl rfl) (pe_ix ix_seq (pe_lst (pa_cons pe_int (pa_cons (pv 2) pa_nil))) (pe_call (ok_law_pick T) (hr.mono (by decide)) rfl T.m_law_pick T.F_law_pick.kp T.b_law_pick .nil passE0 (pa_cons (pv 0) (pa_cons (pv 1) (pa_cons pe_int pa_nil)))) (fun _ _ => rfl)))
    (pss_cons (ps_set (i := 6) sc_law_word.nd rfl (Or.inl rfl) (pe_op op_sub (pv 3) (pe_op op_mulB (pe_call (ok_law_pick T) (hr.mono (by decide)) rfl T.m_law_pick T.F_law_pick.kp T.b_law_pick .nil passE0 (pa_cons (pv 0) (pa_cons (pe_op op_add (pv 1) pe_int) (pa_cons pe_int pa_nil)))) (pv 5))))
    (pss_cons (ps_set (i := 7) sc_law_word.nd rfl (Or.inl rfl) (pe_op op_add (pv 3) (pe_op op_mulB (pe_call (ok_law_pick T) (hr.mono (by decide)) rfl T.m_law_pick T.F_law_pick.kp T.b_law_pick .nil passE0 (pa_cons (pv 0) (pa_cons (pe_op op_add (pv 1) pe_int) (pa_cons pe_int pa_nil)))) (pv 5))))
    (pss_cons (ps_if (pt_val (pv 4)) (pss_cons (ps_set (i := 5) sc_law_word.nd rfl (Or.inl rfl) (pe_op op_mulB (pe_op op_sub (pe_call (ok_law_pick T) (hr.mono (by decide)) rfl T.m_law_pick T.F_law_pick.kp T.b_law_pick .nil passE0 (pa_cons (pv 0) (pa_cons (pe_op op_add (pv 1) pe_int) (pa_cons pe_int pa_nil)))) pe_int) (pv 5)))
        (pss_cons (ps_set (i := 6) sc_law_word.nd rfl (Or.inl rfl) (pe_op op_add (pv 6) (pv 5)))
        (pss_one (ps_set (i := 7) sc_law_word.nd rfl (Or.inl rfl) (pe_op op_add (pv 7) (pv 5)))))) pss_nil)
    (pss_cons (ps_set (i := 8) sc_law_word.nd rfl (Or.inl rfl) (pe_call (ok_law_pick T) (hr.mono (by decide)) rfl T.m_law_pick T.F_law_pick.kp T.b_law_pick .nil passE0 (pa_cons (pv 0) (pa_cons (pe_op op_add (pv 1) pe_int) (pa_cons pe_int pa_nil)))))
    (pss_cons (ps_if (PW.pt (pw_or (pt_cmpR op_eq (pv 8) pe_int (nomark _)) (pw_or1 (pt_cmpR op_eq (pv 8) pe_int (nomark _))))) (pss_one (ps_set (i := 6) sc_law_word.nd rfl (Or.inl rfl) pe_non)) pss_nil)
    (pss_cons (ps_if (PW.pt (pw_or (pt_cmpR op_eq (pv 8) pe_int (nomark _)) (pw_or1 (pt_cmpR op_eq (pv 8) pe_int (nomark _))))) (pss_one (ps_set (i := 7) sc_law_word.nd rfl (Or.inl rfl) pe_non)) pss_nil)
    (pss_one (ps_ret (pe_tup (pa_cons (pv 6) (pa_cons (pv 7) pa_nil)))))))))))), ?_⟩
    refine seq_cut (fun σ H' => ∃ y : Int, σ = [some (.ref a), some (.int k), some (.int f), some (.int n), some (.bl b), some (.int y), none, none, none] ∧ Same H H' ∧ 1 ≤ y ∧ y ≤ 1000000000000000000000000000000000000000000000000000000000) (fun N hN => ?_) ?_
    · walk_at "gzn"
      refine ⟨by decide, fun l hl => ?_⟩
      refine ⟨a, ns, _, _, rfl, (same_upd hl).seq hS, hn, by omega, by omega, fun p p1 p2 => ?_⟩
      obtain ⟨v, hv, ev⟩ := at_mem (vs := [1, f]) p1 p2
      refine ixL (SqL.of upd_same) ev ?_
      walk_at "gzn"
      refine hN _ _ ⟨_, rfl, same_upd hl, ?_⟩
      simp only [List.mem_cons, List.not_mem_nil, or_false] at hv
      omega
    rintro σ H1 ⟨y, rfl, s1, y1, y2⟩
    refine seq_cut (fun σ H' => ∃ lo : Int, σ = [some (.ref a), some (.int k), some (.int f), some (.int n), some (.bl b), some (.int y), some (.int lo), none, none] ∧ H' = H1 ∧ lo ≤ n) (fun N hN => ?_) ?_
    · walk_at "gzn"
      refine ⟨a, ns, _, _, rfl, s1.seq hS, hn, by omega, by omega, fun p p1 p2 => ?_⟩
      walk_at "gzn"
      have := mulP p1 (show 0 ≤ y by omega)
      exact ⟨mul600 (by omega) (by omega), hN _ _ ⟨_, rfl, rfl, by omega⟩⟩
    rintro σ H2 ⟨lo, rfl, rfl, l1⟩
    refine seq_cut (wdI a H k f n b) (fun N hN => ?_) ?_
    · walk_at "gzn"
      refine ⟨a, ns, _, _, rfl, s1.seq hS, hn, by omega, by omega, fun p p1 p2 => ?_⟩
      walk_at "gzn"
      have := mulP p1 (show 0 ≤ y by omega)
      exact ⟨mul600 (by omega) (by omega), hN _ _ ⟨_, _, _, rfl, s1, ⟨y1, y2⟩, by omega, fun _ => by omega⟩⟩
    rintro σ H3 ⟨y, lo, hi, rfl, s3, hy, h1, h2⟩
    refine seq_cut (wdI2 a H k f n b) (fun N hN => ?_) ?_
    · cases b with
      | true =>
        walk_at "gzn"
        refine ⟨a, ns, _, _, rfl, s3.seq hS, hn, by omega, by omega, fun p p1 p2 => ?_⟩
        walk_at "gzn"
        exact ⟨mul600 (by omega) (by omega), hN _ _ ⟨_, _, _, rfl, s3, by omega, fun z => nomatch z⟩⟩
      | false =>
        walk_at "gzn"
        exact hN _ _ ⟨_, _, _, rfl, s3, h1, h2⟩
    rintro σ H4 ⟨y, lo, hi, rfl, s4, h1, h2⟩
    refine seq_cut (wdJ a H k f n b) (fun N hN => ?_) ?_
    · walk_at "gzn"
      refine ⟨a, ns, _, _, rfl, s4.seq hS, hn, by omega, by omega, fun p p1 p2 => ?_⟩
      walk_at "gzn"
      exact hN _ _ ⟨_, _, lo, some lo, some hi, hi, rfl, s4, .inr rfl, .inr rfl, h1, h2⟩
    rintro σ H5 ⟨y, g, lo, l, h, hi, rfl, s5, hl, hh, h1, h2⟩
    refine seq_cut (wdJ a H k f n b) (fun N hN => ?_) ?_
    · walk_at "gzn"
      have none_ := hN _ _ ⟨y, g, lo, none, h, hi, rfl, s5, .inl rfl, hh, h1, h2⟩
      have same_ := hN _ _ ⟨y, g, lo, l, h, hi, rfl, s5, hl, hh, h1, h2⟩
      exact ite_by (fun _ => none_) fun _ => ite_by (fun _ => none_) fun _ => same_
    rintro σ H6 ⟨y, g, lo, l, h, hi, rfl, s6, hl, hh, h1, h2⟩
    refine seq_cut (wdJ a H k f n b) (fun N hN => ?_) ?_
    · walk_at "gzn"
      have none_ := hN _ _ ⟨y, g, lo, l, none, hi, rfl, s6, hl, .inl rfl, h1, h2⟩
      have same_ := hN _ _ ⟨y, g, lo, l, h, hi, rfl, s6, hl, hh, h1, h2⟩
      exact ite_by (fun _ => none_) fun _ => ite_by (fun _ => none_) fun _ => same_
    rintro σ H7 ⟨y, g, lo, l, h, hi, rfl, s7, hl, hh, h1, h2⟩
    walk_at "gzn"
    refine ⟨line2, fun p hp => q p l h _ (s7.trans (same_upd hp)) (s7.free hp) upd_same ?_ fun hb => hold_iff.mpr ⟨?_, ?_⟩⟩
    · rcases hl with rfl | rfl <;> rcases hh with rfl | rfl <;> simp [crossed] <;> omega
    · intro x hx
      rcases hl with rfl | rfl <;> cases hx
      exact (h2 hb).1
    · intro x hx
      rcases hh with rfl | rfl <;> cases hx
      exact (h2 hb).2
def sp_lin (K : PySem.W.Frag) : Sp := fun vs H Q _ => ∃ (p : Addr) (lo hi : En) (n : Int), vs = [.ref p, .int n] ∧ SqT K H p [ev lo, ev hi] ∧ Q (.bl (hold lo hi n)) H
theorem ok_law_in (T : Tx K mg) : FnOk P w K mg base (CXX P w) 1 T.a_law_in T.fd_law_in ["_law_span", "_law_number"] (sp_lin K) := by
  refine okN T.F_law_in sc_law_in (fun vs H Q E h => ?_) (fun cdv A outer s H vs Q E hr h => ?_)
  · obtain ⟨p, lo, hi, n, rfl, _⟩ := h
    rfl
  · obtain ⟨p, lo, hi, n, rfl, hp, q⟩ := h
    refine ⟨_, (pss_cons (ps_if (PW.pt (pw_and (pt_cmp (pc_notN (pe_ix ix_seq (pv 0) pe_int (fun _ _ => rfl)))) (pw_and1 (pt_cmpR op_lt (pv 1) (pe_ix ix_seq (pv 0) pe_int (fun _ _ => rfl)) (nomark _))))) (pss_one (ps_ret pe_bl)) pss_nil)
    (pss_one (ps_ret (pe_or (pe_cmp (pc_isN (pe_ix ix_seq (pv 0) pe_int (fun _ _ => rfl)))) (pe_one (pe_cmpR op_le (pv 1) (pe_ix ix_seq (pv 0) pe_int (fun _ _ => rfl)) (nomark _))))))), ?_⟩
    rcases lo with _ | lo <;> rcases hi with _ | hi
    all_goals simp only [ev_none, ev_some] at hp
    all_goals
      walk_at "gzn"
      repeat' first
      | refine ixT hp rfl ?_
      | (walk_at "gzp")
      | (refine ite_by (fun hc => ?_) fun hc => ?_)
    all_goals first
      | exact q
      | (rw [hold_out _ hc] at q; exact q)
      | (rw [hold_lo _ hc] at q; exact q)
      | (rw [hold_hi] at q; exact q)
      | (rw [hold_lo _ hc, hold_hi] at q; exact q)
end
section
seal L2.PE L2.PS L2.PSs L2.PA
variable {P : Program} {w : World} {K : PySem.W.Frag} {mg : Str → Option Value} {base : Heap}
def sp_moved (K : PySem.W.Frag) : Sp := fun vs H Q _ => ∃ (v u : V) (s : S2) (p : P2), vs = [v, u] ∧ IsS H v s.1 s.2 ∧ IsPt H u p ∧ ∀ r H', Same H H' → H r = none → H' r = some (.tup [ev (movS s p).1, ev (movS s p).2]) → Q (.ref r) H'
theorem ok_moved (T : Tx K mg) : FnOk P w K mg base (CXX P w) 1 T.a_moved T.fd_moved ["one", "step"] (sp_moved K) := by
  refine okN T.F_moved sc_moved (fun vs H Q E h => ?_) (fun cdv A outer s H vs Q E hr h => ?_)
  · obtain ⟨v, u, s, p, rfl, _⟩ := h
    rfl
  · obtain ⟨v, u, ⟨lo, hi⟩, ⟨p1, p2⟩, rfl, ⟨a, rfl, ha⟩, ⟨b, rfl, hb⟩, q⟩ := h
    refine ⟨_, (pss_cons (ps_set (i := 2) sc_moved.nd rfl (Or.inl rfl) (pe_ifExp (pt_cmp (pc_isN (pe_ix ix_seq (pv 0) pe_int (fun _ _ => rfl)))) pe_non (pe_op op_add (pe_ix ix_seq (pv 0) pe_int (fun _ _ => rfl)) (pe_ix ix_seq (pv 1) pe_int (fun _ _ => rfl)))))
    (pss_cons (ps_set (i := 3) sc_moved.nd rfl (Or.inl rfl) (pe_ifExp (pt_cmp (pc_isN (pe_ix ix_seq (pv 0) pe_int (fun _ _ => rfl)))) pe_non (pe_op op_add (pe_ix ix_seq (pv 0) pe_int (fun _ _ => rfl)) (pe_ix ix_seq (pv 1) pe_int (fun _ _ => rfl)))))
    (pss_one (ps_ret (pe_tup (pa_cons (pv 2) (pa_cons (pv 3) pa_nil))))))), ?_⟩
    rcases lo with _ | lo <;> rcases hi with _ | hi
    all_goals simp only [ev_none, ev_some] at ha
    all_goals
      walk_at "gzn"
      repeat' first
      | refine ixT (SqT.of ha) rfl ?_
      | refine ixT (SqT.of hb) rfl ?_
      | (walk_at "gzp")
    all_goals exact ⟨line2, fun r hr => q r _ (same_upd hr) hr upd_same⟩
theorem st_last {H : Hp} {zs : List V} {ss : List S2} (h : All2 (fun v (s : S2) => IsS H v s.1 s.2) zs ss) (h0 : 0 < ss.length) : ∃ v, atI zs (-1) = some v ∧ IsS H v (sAt ss (ss.length - 1)).1 (sAt ss (ss.length - 1)).2 := by
  have hl := h.len
  obtain ⟨v, hv, r⟩ := h.at (List.getElem?_eq_getElem (l := ss) (i := ss.length - 1) (by omega))
  have e : zs = zs.take (ss.length - 1) ++ [v] := by
    have := List.take_append_drop (ss.length - 1) zs
    rw [List.drop_eq_getElem_cons (by omega), List.drop_of_length_le (by omega)] at this
    rw [List.getElem?_eq_getElem (by omega)] at hv
    cases hv
    exact this.symm
  refine ⟨v, by rw [e]; exact atI_last _ _, ?_⟩
  unfold sAt
  rw [List.getD_eq_getElem?_getD, List.getElem?_eq_getElem (by omega)]
  exact r
def sp_narrowed (K : PySem.W.Frag) : Sp := fun vs H Q _ => ∃ (a b : Addr) (xs ys : List V) (ws : List W2) (ps : List P2), vs = [.ref a, .ref b] ∧ SqL K H a xs ∧ All2 (IsW H) xs ws ∧ SqL K H b ys ∧ Pts H ys ps ∧ ws.length ≤ ps.length + 1 ∧ ws.length ≤ 1000 ∧
  (∀ t, t < ws.length → narW (wAt ws) (ptD ps) t = none → ∀ H', Same H H' → Q .non H') ∧
  ((∀ t, t < ws.length → narW (wAt ws) (ptD ps) t ≠ none) → ∀ l zs ss H', Same H H' → H l = none → H' l = some (.lst zs) → All2 (IsS2 H') zs ss → ss.length = ws.length → (∀ t, t < ws.length → narW (wAt ws) (ptD ps) t = some (sAt ss t)) → Q (.ref l) H')
def inv_nar (H : Hp) (a b l : Addr) (ws : List W2) (ps : List P2) (i : Nat) (σ : St) (H1 : Hp) : Prop := ∃ (zs : List V) (ss : List S2) (e1 e2 e3 : Option V), σ = [some (.ref a), some (.ref b), some (.ref l), e1, e2, e3] ∧ Same H H1 ∧ H1 l = some (.lst zs) ∧ All2 (IsS2 H1) zs ss ∧ ss.length = i ∧ ∀ t, t < i → narW (wAt ws) (ptD ps) t = some (sAt ss t)
theorem ok_narrowed (T : Tx K mg) : FnOk P w K mg base (CXX P w) 3 T.a_narrowed T.fd_narrowed ["boxes", "steps"] (sp_narrowed K) := by
  refine okN T.F_narrowed sc_narrowed (fun vs H Q E h => ?_) (fun cdv A outer s H vs Q E hr h => ?_)
  · obtain ⟨a, b, xs, ys, ws, ps, rfl, _⟩ := h
    rfl
  · obtain ⟨a, b, xs, ys, ws, ps, rfl, hS, hW, hT, hP, hl, hn, q0, q⟩ := h
    refine ⟨_, (pss_cons (ps_set (i := 2) sc_narrowed.nd rfl (Or.inl rfl) (pe_lst pa_nil))
    (pss_cons (ps_for PassesOwn.never rfl (pi_enum rfl T.n_enumerate (pa_cons (pv 0) pa_nil)) (pg_tup rfl (pgs_cons (pg_name (i := 3) sc_narrowed.nd rfl (Or.inl rfl)) (pgs_cons (pg_name (i := 4) sc_narrowed.nd rfl (Or.inl rfl)) pgs_nil))) (pss_cons (ps_set (i := 5) sc_narrowed.nd rfl (Or.inl rfl) (pv 4))
        (pss_cons (ps_if (PW.pt (pw_and (pt_cmpR op_gt (pv 3) pe_int (nomark _)) (pw_and1 (pt_cmp (pc_notN (pv 4)))))) (pss_one (ps_set (i := 5) sc_narrowed.nd rfl (Or.inl rfl) (pe_call (ok_meet T) (hr.mono (by decide)) rfl T.m_meet T.F_meet.kp T.b_meet .nil passE0 (pa_cons (pv 4) (pa_cons (pe_call (ok_moved T) (hr.mono (by decide)) rfl T.m_moved T.F_moved.kp T.b_moved .nil passE0 (pa_cons (pe_ix ix_seq (pv 2) (pe_un un_neg pe_int) (fun _ _ => rfl)) (pa_cons (pe_ix ix_seq (pv 1) (pe_op op_sub (pv 3) pe_int) (fun _ _ => rfl)) pa_nil))) pa_nil))))) pss_nil)
        (pss_cons (ps_if (pt_cmp (pc_isN (pv 5))) (pss_one (ps_ret pe_non)) pss_nil)
        (pss_one (ps_expr (pe_bm PySem.F.plainAttrs_list PySem.F.slot_list_append PySem.F.type_list_append mt_append (pv 2) (pa_cons (pv 5) pa_nil))))))))
    (pss_one (ps_ret (pv 2))))), ?_⟩
    have l1 := hW.len
    have l2 := hP.len
    walk_at "gzn"
    refine ⟨by decide, fun l hl0 => ?_⟩
    have s1 := same_upd (o := .lst []) hl0
    have e1 : upd H l (.lst []) l = some (.lst []) := upd_same
    generalize upd H l (.lst []) = H1 at s1 e1 ⊢
    walk_at "gzn"
    refine ⟨⟨_, s1.seq hS⟩, by_enum (xs := xs) (inv_nar H a b l ws ps) ⟨[], [], _, _, _, rfl, s1, e1, trivial, rfl, fun t h => absurd h (Nat.not_lt_zero _)⟩ ?_ ?_ ?_⟩
    · rintro i σ H2 _ ⟨_, _, _, _, _, _, s2, _⟩
      exact s2.seq hS
    · rintro i x σ H2 p hx ⟨zs, ss, d1, d2, d3, rfl, s2, hl2, hz, hlen, hnar⟩ hp
      obtain ⟨w, hw, r⟩ := hW.get hx
      have sp := same_upd (o := .tup [.int i, x]) hp
      refine gTup2 (SqT.of upd_same) ?_
      generalize upd H2 p (.tup [.int i, x]) = H3 at sp ⊢
      have s3 := s2.trans sp
      have r3 := r.same s3
      have hl3 := sp _ _ hl2
      have hz3 := hz.imp fun _ _ r => IsS.same r sp
      have zl := hz.len
      have ew : wAt ws i = w := by unfold wAt; rw [List.getD_eq_getElem?_getD, hw]; rfl
      have hi := (List.getElem?_eq_some_iff.mp hx).1
      have add : ∀ (v : V) (k : S2) (H4 : Hp) (d1 d2 d3 : Option V), Same H3 H4 → IsS H4 v k.1 k.2 → narW (wAt ws) (ptD ps) i = some k → inv_nar H a b l ws ps (i + 1) [some (.ref a), some (.ref b), some (.ref l), d1, d2, d3] (upd H4 l (.lst (zs ++ [v]))) := fun v k H4 d1 d2 d3 s4 hv ek => by
        have hl4 := s4 _ _ hl3
        refine ⟨zs ++ [v], ss ++ [k], d1, d2, d3, rfl, same_put hl0 (s3.trans s4), upd_same, ?_, by rw [List.length_append, List.length_singleton, hlen], fun t ht => ?_⟩
        · exact ((hz3.imp fun _ _ r => IsS.same r s4).snoc hv).imp fun _ _ r => IsS.put r hl4
        · unfold sAt
          rw [List.getD_eq_getElem?_getD]
          by_cases e : t = i
          · subst e
            rw [ek, List.getElem?_append_right (by omega), hlen, Nat.sub_self]
            rfl
          · rw [hnar t (by omega), List.getElem?_append_left (by omega)]
            unfold sAt
            rw [List.getD_eq_getElem?_getD]
      cases w with
      | none =>
        obtain rfl : x = .non := r3
        have e0 : narW (wAt ws) (ptD ps) i = none := by
          cases i with
          | zero => exact ew
          | succ i => unfold narW; rw [ew]
        walk_at "gzn"
        have fin := q0 i (by omega) e0 _ s3
        exact ite_by (fun _ => fin) fun _ => fin
      | some k =>
        obtain ⟨rp, rfl, hrp⟩ := id (show IsS H3 x k.1 k.2 from r3)
        cases i with
        | zero =>
          walk_at "gzn"
          rw [if_neg (by simp)]
          exact ⟨.inl ⟨rfl, _, SqL.of hl3⟩, _, hl3, Nat.lt_of_le_of_lt (by omega : zs.length ≤ 1000) (by decide), add _ k _ _ _ _ (Same.refl _) r3 ew⟩
        | succ i =>
          walk_at "gzn"
          rw [if_pos (by omega)]
          obtain ⟨v, hv, rv⟩ := st_last (ss := ss) hz3 (by omega)
          obtain ⟨u, hu, ru⟩ := hP.at (List.getElem?_eq_getElem (l := ps) (i := i) (by omega))
          have ep : ps[i]'(by omega) = ptD ps i := by unfold ptD; rw [List.getD_eq_getElem?_getD, List.getElem?_eq_getElem (by omega)]; rfl
          rw [ep] at ru
          rw [show (((i + 1 : Nat) : Int) - 1) = ((i : Nat) : Int) by omega]
          refine ixL (SqL.of hl3) hv (ixL (s3.seq hT) (atI_nat hu) ?_)
          rw [hlen, Nat.add_sub_cancel] at rv
          refine ⟨v, u, sAt ss i, ptD ps i, rfl, rv, ru.same s3, fun r H4 s4 _ hr4 => ?_⟩
          refine ⟨_, _, k.1, k.2, _, _, rfl, ⟨rp, rfl, s4 _ _ hrp⟩, ⟨r, rfl, hr4⟩, fun y H5 s5 hy => ?_⟩
          have ek := hnar i (by omega)
          have en : narW (wAt ws) (ptD ps) (i + 1) = meetW k (movS (sAt ss i) (ptD ps i)) := by
            show (match wAt ws (i + 1), narW (wAt ws) (ptD ps) i with
              | some b, some k => meetW b (movS k (ptD ps i))
              | _, _ => none) = _
            rw [ew, ek]
          have hl5 := (s4.trans s5) _ _ hl3
          unfold meetW at en
          cases hc : crossed (maxE k.1 (movS (sAt ss i) (ptD ps i)).1) (minE k.2 (movS (sAt ss i) (ptD ps i)).2) with
          | true =>
            rw [if_pos hc] at en
            obtain rfl := hy.1 hc
            walk_at "gzn"
            exact q0 (i + 1) (by omega) en _ (s3.trans (s4.trans s5))
          | false =>
            rw [if_neg (by rw [hc]; simp)] at en
            have hy2 := hy.2 hc
            obtain ⟨yp, rfl, hyp⟩ := id hy2
            walk_at "gzn"
            exact ⟨.inl ⟨rfl, _, SqL.of hl5⟩, _, hl5, Nat.lt_of_le_of_lt (by omega : zs.length ≤ 1000) (by decide), add _ _ _ _ _ _ (s4.trans s5) hy2 en⟩
    · rintro σ H2 ⟨zs, ss, d1, d2, d3, rfl, s2, hl2, hz, hlen, hnar⟩
      walk_at "gzn"
      rw [l1] at hlen hnar
      exact q (fun t ht => by rw [hnar t ht]; simp) l zs ss H2 s2 hl0 hl2 hz hlen hnar
end
section
seal L2.PE L2.PS L2.PSs L2.PA
variable {P : Program} {w : World} {K : PySem.W.Frag} {mg : Str → Option Value} {base : Heap}
def sp_strat (K : PySem.W.Frag) : Sp := fun vs H Q _ => ∃ (a : Addr) (xs : List V) (ms : List Mk) (t : Nat), vs = [.ref a, .int t] ∧ SqL K H a xs ∧ All2 (IsMk H) xs ms ∧ ms.length ≤ 1000 ∧ ∀ l ys H', Same H H' → H' l = some (.lst ys) → Sts H' ys (atT ms t) → Q (.ref l) H'
theorem ok_stretches_at (T : Tx K mg) : FnOk P w K mg base (CXX P w) 1 T.a_stretches_at T.fd_stretches_at ["marks", "turn"] (sp_strat K) := by
  refine okN T.F_stretches_at sc_stretches_at (fun vs H Q E h => ?_) (fun cdv A outer s H vs Q E hr h => ?_)
  · obtain ⟨a, xs, ms, t, rfl, _⟩ := h
    rfl
  · obtain ⟨a, xs, ms, t, rfl, hS, hM, hn, q⟩ := h
    refine ⟨_, (pss_one (ps_ret (pe_comp (CompOk.mk (fr := [1]) (ys := ["turn"]) rfl (by decide +kernel) rfl (by decide +kernel) rfl rfl (.cons rfl .nil) (.cons rfl rfl rfl rfl .nil) (by decide) rfl) rfl (pi_list (pv 0)) (fun C s2 H2 ex pn => ⟨(pts_one (pt_cmpR op_eq (pe_ix (ix_seqK (K := K) rfl) (pv 0) pe_int (fun _ _ => rfl)) (pv 1) (nomark _))), (pe_ix (ix_seqK (K := K) rfl) (pv 0) pe_int (fun _ _ => rfl))⟩)))), ?_⟩
    have hl := hM.len
    walk_at "gzn"
    refine ⟨⟨_, hS⟩, blk_of it_list (Nat.le_trans (by omega : xs.length ≤ 1000) (by decide)) (compGo_pick (R := IsMk H) (R' := fun v (s : S2) => IsS H v s.1 s.2) (p := fun m => decide (m.1 = t)) (f := fun m => m.2) hS hM (fun x m r Q h => ?_) (fun x m hp r Q h => ?_) fun zs hz => ?_)⟩
    · obtain ⟨tp, sp, rfl, h1, h2⟩ := r
      walk_at "gzn"
      refine ixT (SqT.of h1) rfl ?_
      walk_at "gzn"
      rw [show decide ((m.1 : Int) = (t : Int)) = decide (m.1 = t) from decide_eq_decide.mpr (by omega)]
      exact h
    · obtain ⟨tp, sp, rfl, h1, h2⟩ := r
      walk_at "gzn"
      exact ixT (SqT.of h1) rfl (h _ ⟨sp, rfl, h2⟩)
    · rw [List.nil_append]
      intro l hl
      exact q l zs _ (same_upd hl) upd_same (sts_all2.mpr (hz.imp fun _ _ r => r.same (same_upd hl)))
theorem All2.rev {α : Type} {R : V → α → Prop} : ∀ {xs : List V} {as : List α}, All2 R xs as → All2 R xs.reverse as.reverse
  | [], [], _ => trivial
  | x :: xs, a :: as, h => by rw [List.reverse_cons, List.reverse_cons]; exact (All2.rev h.2).app ⟨h.1, trivial⟩
  | [], _ :: _, h => h.elim
  | _ :: _, [], h => h.elim
def sp_tube (K : PySem.W.Frag) : Sp := fun vs H Q _ => ∃ (a b : Addr) (xs ys : List V) (ps : List P2) (ms : List Mk), vs = [.ref a, .ref b] ∧ SqL K H a xs ∧ Pts H xs ps ∧ SqL K H b ys ∧ All2 (IsMk H) ys ms ∧ okPc ps ∧ ps.length ≤ 900 ∧ ms.length ≤ 1000 ∧
  (∀ t, t ≤ ps.length → narW (bxT ms) (ptD ps) t = none → ∀ H', Same H H' → Q .non H') ∧
  ((∀ t, t ≤ ps.length → narW (bxT ms) (ptD ps) t ≠ none) → ∀ l zs ss H', Same H H' → H l = none → H' l = some (.lst zs) → All2 (IsS2 H') zs ss → ss.length = ps.length + 1 → (∀ t, t ≤ ps.length → tubW ps.length (bxT ms) (ptD ps) t = some (sAt ss t)) → Q (.ref l) H')
theorem ok_tube (T : Tx K mg) : FnOk P w K mg base (CXX P w) 4 T.a_tube T.fd_tube ["steps", "marks"] (sp_tube K) := by
  refine okN T.F_tube sc_tube (fun vs H Q E h => ?_) (fun cdv A outer s H vs Q E hr h => ?_)
  · obtain ⟨a, b, xs, ys, ps, ms, rfl, _⟩ := h
    rfl
  · obtain ⟨a, b, xs, ys, ps, ms, rfl, hS, hP, hT, hM, hok, hn, hm, q0, q⟩ := h
    refine ⟨_, (pss_cons (ps_set (i := 2) sc_tube.nd rfl (Or.inl rfl) (pe_call (ok_narrowed T) (hr.mono (by decide)) rfl T.m_narrowed T.F_narrowed.kp T.b_narrowed .nil passE0 (pa_cons (pe_comp (CompOk.mk (fr := [1]) (ys := ["marks"]) rfl (by decide +kernel) rfl (by decide +kernel) rfl rfl (.cons rfl .nil) (.cons rfl rfl rfl rfl .nil) (by decide) rfl) rfl (pi_range1 rfl T.n_range (pa_cons (pe_op op_add (pe_callB call_len (by rfl) T.n_len b_len (pa_cons (pv 0) pa_nil)) pe_int) pa_nil)) (fun C s2 H2 ex pn => ⟨pts_nil, (pe_call (ok_common T) (hr.mono (by decide)) rfl T.m_common T.F_common.kp T.b_common .nil passE0 (pa_cons (pe_call (ok_stretches_at T) (hr.mono (by decide)) rfl T.m_stretches_at T.F_stretches_at.kp T.b_stretches_at .nil passE0 (pa_cons (pv 1) (pa_cons (pv 0) pa_nil))) pa_nil))⟩)) (pa_cons (pv 0) pa_nil))))
    (pss_cons (ps_if (pt_cmp (pc_isN (pv 2))) (pss_one (ps_ret pe_non)) pss_nil)
    (pss_cons (ps_setComp (i := 3) (CompOk.mk (fr := []) (ys := []) rfl (by decide +kernel) rfl (by decide +kernel) rfl rfl .nil .nil (by decide) rfl) rfl sc_tube.nd rfl rfl (pi_rev rfl T.n_reversed (pa_cons (pv 0) pa_nil)) (fun C s2 H2 ex pn => ⟨pts_nil, (pe_tup (pa_cons (pe_un un_neg (pe_ix (ix_seqK (K := K) rfl) (pv 0) pe_int (fun _ _ => rfl))) (pa_cons (pe_un un_neg (pe_ix (ix_seqK (K := K) rfl) (pv 0) pe_int (fun _ _ => rfl))) pa_nil)))⟩))
    (pss_one (ps_ret (pe_revS (pe_call (ok_narrowed T) (hr.mono (by decide)) rfl T.m_narrowed T.F_narrowed.kp T.b_narrowed .nil passE0 (pa_cons (pe_revS (pv 2) (pe_un un_neg pe_int)) (pa_cons (pv 3) pa_nil))) (pe_un un_neg pe_int))))))), ?_⟩
    have l1 := hP.len
    walk_at "gzn"
    refine ⟨_, lenL hS, by omega, by omega, ?_⟩
    rw [l1, show ((ps.length : Int) + 1).toNat = ps.length + 1 by omega]
    refine blk_of it_rng (by rw [List.length_map, List.length_range]; exact Nat.le_trans (by omega : _ ≤ 901) (by decide)) (compGo_new (R := fun _ x (k : Nat) => x = V.int ((0 : Int) + k)) (R' := IsW) (f := fun (k : Nat) => bxT ms k) (fun _ _ _ _ _ h => h) (fun _ _ _ _ s' h => h.same s') (All2.rng _) (bs := []) trivial (fun _ _ => trivial) (fun x k _ H2 s2 r Q h => ?_) (fun x k _ H2 s2 r Q h => ?_) fun H2 zs s2 hz => ?_)
    · walk_at "gzn"
      exact h
    · subst r
      walk_at "gzn"
      rw [show (0 : Int) + (k : Nat) = ((k : Nat) : Int) by omega]
      refine ⟨b, ys, ms, k, rfl, s2.seq hT, hM.imp fun _ _ r => r.same s2, hm, fun l zs H3 s3 hl hs => ?_⟩
      refine ⟨l, zs, _, rfl, SqL.of hl, hs, ?_, fun v H4 s4 hv => h H4 v (s3.trans s4) hv⟩
      rw [hs.len]
      unfold atT
      rw [List.length_map]
      exact Nat.le_trans (List.length_filter_le _ _) hm
    rw [List.nil_append] at hz
    intro c hc
    have s3 := s2.trans (same_upd (o := .lst zs) hc)
    have c3 : upd H2 c (.lst zs) c = some (.lst zs) := upd_same
    have hz3 := hz.imp fun _ _ r => r.same (same_upd (o := .lst zs) hc)
    generalize upd H2 c (.lst zs) = H3 at s3 c3 hz3 ⊢
    clear hz hc s2
    have wl : ((List.range (ps.length + 1)).map fun (k : Nat) => bxT ms k).length = ps.length + 1 := by rw [List.length_map, List.length_range]
    have we : ∀ t, t ≤ ps.length → wAt ((List.range (ps.length + 1)).map fun (k : Nat) => bxT ms k) t = bxT ms t := fun t ht => by
      unfold wAt
      rw [List.getD_eq_getElem?_getD, List.getElem?_map, List.getElem?_range (by omega)]
      rfl
    have ne : ∀ t, t ≤ ps.length → narW (wAt ((List.range (ps.length + 1)).map fun (k : Nat) => bxT ms k)) (ptD ps) t = narW (bxT ms) (ptD ps) t := fun t ht => nar_congr t (fun k hk => we k (by omega)) fun k _ => rfl
    refine ⟨c, a, zs, xs, _, ps, rfl, SqL.of c3, hz3, s3.seq hS, hP.same s3, by rw [wl]; exact Nat.le_refl _, by rw [wl]; omega, fun t ht en H4 s4 => ?_, fun hne l zs2 ss H4 s4 _ hl hz2 hsl hnar => ?_⟩
    · rw [wl] at ht
      rw [ne t (by omega)] at en
      walk_at "gzn"
      exact q0 t (by omega) en _ (s3.trans s4)
    rw [wl] at hne hnar hsl
    have hne2 : ∀ t, t ≤ ps.length → narW (bxT ms) (ptD ps) t ≠ none := fun t ht z => hne t (by omega) (by rw [ne t ht]; exact z)
    have hnar2 : ∀ t, t < ps.length + 1 → narW (bxT ms) (ptD ps) t = some (sAt ss t) := fun t ht => by rw [← ne t (by omega)]; exact hnar t ht
    have TB := tub_of hok hne2
    have S4 := s3.trans s4
    walk_at "gzn"
    refine ⟨xs, S4.seq hS, blk_rev (Nat.le_trans (by omega : _ ≤ 900) (by decide)) (compGo_new (R := IsPt) (R' := IsPt) (f := fun p => (-p.2, -p.1)) (fun _ _ _ _ s' h => h.same s') (fun _ _ _ _ s' h => h.same s') (All2.rev (hP.same S4)) (bs := []) trivial (fun H' s' => (S4.trans s').seq hS) (fun x k _ H2 s2 r Q h => ?_) (fun x k _ H2 s2 r Q h => ?_) fun H5 bs s5 hb => ?_)⟩
    · walk_at "gzn"
      exact h
    · obtain ⟨t, rfl, ht⟩ := r
      walk_at "gzn"
      refine ixT (SqT.of ht) rfl ?_
      walk_at "gzn"
      refine ixT (SqT.of ht) rfl ?_
      walk_at "gzn"
      exact ⟨line2, fun p hp => h _ _ (same_upd hp) ⟨p, rfl, upd_same⟩⟩
    rw [List.nil_append] at hb
    intro d hd
    have s6 := s5.trans (same_upd (o := .lst bs) hd)
    have d6 : upd H5 d (.lst bs) d = some (.lst bs) := upd_same
    have hb6 : Pts (upd H5 d (.lst bs)) bs (bckL ps) := hb.imp fun _ _ r => r.same (same_upd (o := .lst bs) hd)
    generalize upd H5 d (.lst bs) = H6 at s6 d6 hb6 ⊢
    clear hb hd s5
    refine ⟨zs2, SqL.of (s6 _ _ hl), fun p hp => ?_⟩
    have s7 := s6.trans (same_upd (o := .lst zs2.reverse) hp)
    have p7 : upd H6 p (.lst zs2.reverse) p = some (.lst zs2.reverse) := upd_same
    have d7 := (same_upd (o := .lst zs2.reverse) hp) _ _ d6
    have hb7 : Pts (upd H6 p (.lst zs2.reverse)) bs (bckL ps) := hb6.same (same_upd (o := .lst zs2.reverse) hp)
    generalize upd H6 p (.lst zs2.reverse) = H7 at s7 p7 d7 hb7 ⊢
    have rl : (ss.reverse.map some).length = ps.length + 1 := by rw [List.length_map, List.length_reverse, hsl]
    have bl : (bckL ps).length = ps.length := by unfold bckL; rw [List.length_map, List.length_reverse]
    have be : ∀ t, t ≤ ps.length → narW (wAt (ss.reverse.map some)) (ptD (bckL ps)) t = tubW ps.length (bxT ms) (ptD ps) (ps.length - t) := fun t ht => back_eq hsl hnar2 ht
    refine ⟨p, d, _, bs, ss.reverse.map some, bckL ps, rfl, SqL.of p7, All2.bmap (All2.rev (hz2.imp fun _ _ r => IsS.same r s7)), SqL.of d7, hb7, by rw [rl, bl]; exact Nat.le_refl _, by rw [rl]; omega, fun t ht en H8 s8 => ?_, fun _ l3 zs3 ss3 H8 s8 fl3 hl3 hz8 hsl3 hnar3 => ?_⟩
    · rw [rl] at ht
      rw [be t (by omega)] at en
      obtain ⟨z, ez, _⟩ := TB.ok (ps.length - t) (by omega)
      rw [en] at ez
      cases ez
    rw [rl] at hsl3 hnar3
    have S8 := S4.trans (s7.trans s8)
    refine ⟨l3, rfl, zs3, SqL.of hl3, fun p3 hp3 => q hne2 p3 _ ss3.reverse _ (S8.trans (same_upd hp3)) (S8.free hp3) upd_same (All2.rev (hz8.imp fun _ _ r => IsS.same r (same_upd hp3))) (by rw [List.length_reverse, hsl3]) fun t ht => ?_⟩
    rw [sAt_rev hsl3 ht, ← hnar3 (ps.length - t) (by omega), be _ (by omega), show ps.length - (ps.length - t) = t by omega]
end
section
seal L2.PE L2.PS L2.PSs L2.PA
variable {P : Program} {w : World} {K : PySem.W.Frag} {mg : Str → Option Value} {base : Heap}
def sp_crs (K : PySem.W.Frag) : Sp := fun vs H Q _ => ∃ (a b : Addr) (xs ys : List V) (ps : List P2) (ms : List Mk), vs = [.ref a, .ref b] ∧ SqL K H a xs ∧ Pts H xs ps ∧ SqL K H b ys ∧ All2 (IsMk H) ys ms ∧ okPc ps ∧ ps.length ≤ 900 ∧ ms.length ≤ 1000 ∧ (∀ m ∈ ms, m.1 ≤ ps.length) ∧
  ((¬ ∃ c, isCrs ps c ∧ meets ms c) → ∀ H', Same H H' → Q .non H') ∧
  (∀ l cs H', Same H H' → H l = none → H' l = some (.lst (cs.map V.int)) → cs.length = ps.length + 1 → isCrs ps (crsL cs) → meets ms (crsL cs) → Q (.ref l) H')
def inv_crs (H : Hp) (a b x l c : Addr) (zs : List V) (ss : List S2) (ps : List P2) (ms : List Mk) (i : Nat) (σ : St) (H1 : Hp) : Prop := ∃ (cs : List Int) (e1 e2 : Option V), σ = [some (.ref a), some (.ref b), some (.ref x), some (.ref l), e1, e2] ∧ Same H H1 ∧ H1 l = some (.lst (cs.map V.int)) ∧ H1 c = some (.lst (zs.drop 1)) ∧ All2 (IsS2 H1) zs ss ∧ cs.length = i + 1 ∧ (∀ t, t ≤ i → inW (tubW ps.length (bxT ms) (ptD ps) t) (crsL cs t)) ∧ ∀ k, k < i → (ptD ps k).1 ≤ crsL cs (k + 1) - crsL cs k ∧ crsL cs (k + 1) - crsL cs k ≤ (ptD ps k).2
theorem crsL_left {cs : List Int} {n : Int} {t : Nat} (h : t < cs.length) : crsL (cs ++ [n]) t = crsL cs t := by
  unfold crsL
  rw [List.getD_eq_getElem?_getD, List.getD_eq_getElem?_getD, List.getElem?_append_left h]
theorem crsL_last {cs : List Int} {n : Int} {t : Nat} (h : cs.length = t) : crsL (cs ++ [n]) t = n := by
  unfold crsL
  rw [List.getD_eq_getElem?_getD, List.getElem?_append_right (by omega), h, Nat.sub_self]
  rfl
theorem int_last {cs : List Int} {i : Nat} (h : cs.length = i + 1) : atI (cs.map V.int) (-1) = some (.int (crsL cs i)) := by
  have e : cs = cs.take i ++ [crsL cs i] := by
    have := List.take_append_drop i cs
    rw [List.drop_eq_getElem_cons (by omega), List.drop_of_length_le (by omega)] at this
    unfold crsL
    rw [List.getD_eq_getElem?_getD, List.getElem?_eq_getElem (by omega)]
    exact this.symm
  have e2 : cs.map V.int = (cs.take i).map V.int ++ [V.int (crsL cs i)] := (congrArg (List.map V.int) e).trans (by rw [List.map_append]; rfl)
  rw [e2]
  exact atI_last _ _
theorem numIn_S {s : S2} (h : crossed s.1 s.2 = false) : inS s (numIn s) := inS_hold.mpr (numIn_in h)
theorem sAt_get {ss : List S2} {i : Nat} (h : i < ss.length) : ss[i]? = some (sAt ss i) := by unfold sAt; rw [List.getD_eq_getElem?_getD, List.getElem?_eq_getElem h]; rfl
theorem ptD_get {ps : List P2} {i : Nat} (h : i < ps.length) : ps[i]? = some (ptD ps i) := by unfold ptD; rw [List.getD_eq_getElem?_getD, List.getElem?_eq_getElem h]; rfl
theorem ok_course_in (T : Tx K mg) : FnOk P w K mg base (CXX P w) 5 T.a_course_in T.fd_course_in ["steps", "marks"] (sp_crs K) := by
  refine okN T.F_course_in sc_course_in (fun vs H Q E h => ?_) (fun cdv A outer s H vs Q E hr h => ?_)
  · obtain ⟨a, b, xs, ys, ps, ms, rfl, _⟩ := h
    rfl
  · obtain ⟨a, b, xs, ys, ps, ms, rfl, hS, hP, hT, hM, hok, hn, hm, ht, q0, q⟩ := h
    refine ⟨_, (pss_cons (ps_set (i := 2) sc_course_in.nd rfl (Or.inl rfl) (pe_call (ok_tube T) (hr.mono (by decide)) rfl T.m_tube T.F_tube.kp T.b_tube .nil passE0 (pa_cons (pv 0) (pa_cons (pv 1) pa_nil))))
    (pss_cons (ps_if (pt_cmp (pc_isN (pv 2))) (pss_one (ps_ret pe_non)) pss_nil)
    (pss_cons (ps_set (i := 3) sc_course_in.nd rfl (Or.inl rfl) (pe_lst (pa_cons (pe_call (ok_number_in T) (hr.mono (by decide)) rfl T.m_number_in T.F_number_in.kp T.b_number_in .nil passE0 (pa_cons (pe_ix ix_seq (pv 2) pe_int (fun _ _ => rfl)) pa_nil)) pa_nil)))
    (pss_cons (ps_for PassesOwn.never rfl (pi_zip rfl T.n_zip (pa_cons (pv 0) (pa_cons (pe_slice sl_list (pv 2) (po_some pe_int) po_none) pa_nil))) (pg_tup rfl (pgs_cons (pg_name (i := 4) sc_course_in.nd rfl (Or.inl rfl)) (pgs_cons (pg_name (i := 5) sc_course_in.nd rfl (Or.inl rfl)) pgs_nil))) (pss_one (ps_expr (pe_bm PySem.F.plainAttrs_list PySem.F.slot_list_append PySem.F.type_list_append mt_append (pv 3) (pa_cons (pe_call (ok_number_in T) (hr.mono (by decide)) rfl T.m_number_in T.F_number_in.kp T.b_number_in .nil passE0 (pa_cons (pe_call (ok_meet T) (hr.mono (by decide)) rfl T.m_meet T.F_meet.kp T.b_meet .nil passE0 (pa_cons (pv 5) (pa_cons (pe_call (ok_moved T) (hr.mono (by decide)) rfl T.m_moved T.F_moved.kp T.b_moved .nil passE0 (pa_cons (pe_tup (pa_cons (pe_ix ix_seq (pv 3) (pe_un un_neg pe_int) (fun _ _ => rfl)) (pa_cons (pe_ix ix_seq (pv 3) (pe_un un_neg pe_int) (fun _ _ => rfl)) pa_nil))) (pa_cons (pv 4) pa_nil))) pa_nil))) pa_nil)) pa_nil)))))
    (pss_one (ps_ret (pv 3))))))), ?_⟩
    have l1 := hP.len
    walk_at "gzn"
    refine ⟨a, b, xs, ys, ps, ms, rfl, hS, hP, hT, hM, hok, hn, hm, fun t ht en H1 s1 => ?_, fun hne x zs ss H1 s1 fx hx hz hsl hnar => ?_⟩
    · walk_at "gzn"
      refine q0 ?_ _ s1
      rintro ⟨c, hc, hmt⟩
      exact nar_of_course hc hmt t ht en
    have TB := tub_of hok hne
    have zl := hz.len
    have ok0 : ∀ t, t ≤ ps.length → crossed (sAt ss t).1 (sAt ss t).2 = false := fun t ht => by
      obtain ⟨s, es, hs⟩ := TB.ok t ht
      rw [hnar t ht] at es
      cases es
      exact hs
    walk_at "gzn"
    obtain ⟨v0, hv0, r0⟩ := hz.at (sAt_get (ss := ss) (i := 0) (by omega))
    refine ixL (SqL.of hx) (atI_nat (j := 0) hv0) ?_
    refine ⟨v0, sAt ss 0, rfl, r0, by decide, fun l hl0 => ?_⟩
    have u1 := same_upd (o := .lst [.int (numIn (sAt ss 0))]) hl0
    have L1 : upd H1 l (.lst [.int (numIn (sAt ss 0))]) l = some (.lst ([numIn (sAt ss 0)].map V.int)) := upd_same
    have fl := s1.free hl0
    generalize upd H1 l (.lst [.int (numIn (sAt ss 0))]) = H2 at u1 L1 ⊢
    refine ⟨zs, SqL.of (u1 _ _ hx), fun c hc => ?_⟩
    rw [show cutV zs (some 1) none = zs.drop 1 from cutV_from zs 1]
    have u2 := same_upd (o := .lst (zs.drop 1)) hc
    have c3 : upd H2 c (.lst (zs.drop 1)) c = some (.lst (zs.drop 1)) := upd_same
    have lc : l ≠ c := fun z => by rw [← z, L1] at hc; cases hc
    generalize upd H2 c (.lst (zs.drop 1)) = H3 at u2 c3 ⊢
    have S3 := s1.trans (u1.trans u2)
    refine ⟨⟨_, S3.seq hS⟩, ⟨_, SqL.of c3⟩, by_zip (xs := xs) (ys := zs.drop 1) (inv_crs H a b x l c zs ss ps ms) ⟨[numIn (sAt ss 0)], _, _, rfl, S3, u2 _ _ L1, c3, hz.imp fun _ _ r => IsS.same r (u1.trans u2), rfl, fun t ht => ?_, fun k hk => absurd hk (Nat.not_lt_zero _)⟩ ?_ ?_ ?_⟩
    · obtain rfl : t = 0 := by omega
      exact ⟨_, hnar 0 (by omega), numIn_S (ok0 0 (by omega))⟩
    · rintro i σ H4 ⟨_, _, _, _, s4, _, c4, _⟩
      exact ⟨s4.seq hS, SqL.of c4⟩
    · rintro i u v σ H4 p hu hv ⟨cs, d1, d2, rfl, s4, L4, c4, hz4, hcl, hin, hst⟩ hp
      have hi : i < ps.length := by have := (List.getElem?_eq_some_iff.mp hu).1; omega
      obtain ⟨pt, ept, ru⟩ := hP.get hu
      rw [ptD_get hi] at ept
      cases ept
      rw [List.getElem?_drop, Nat.add_comm 1 i] at hv
      obtain ⟨sv, esv, rv⟩ := hz4.get hv
      rw [sAt_get (by omega)] at esv
      cases esv
      refine gTup2 (SqT.of upd_same) ?_
      have up := same_upd (o := .tup [u, v]) hp
      generalize upd H4 p (.tup [u, v]) = H5 at up ⊢
      have L5 := up _ _ L4
      walk_at "gzn"
      have lst := int_last hcl
      refine ⟨.inl ⟨rfl, _, SqL.of L5⟩, ixL (SqL.of L5) lst (ixL (SqL.of L5) lst ⟨line2, fun t1 ht1 => ?_⟩)⟩
      have ut := same_upd (o := .tup [.int (crsL cs i), .int (crsL cs i)]) ht1
      refine ⟨.ref t1, u, (some (crsL cs i), some (crsL cs i)), ptD ps i, rfl, ⟨t1, rfl, upd_same⟩, ru.same (s4.trans (up.trans ut)), fun r H6 s6 _ hr6 => ?_⟩
      obtain ⟨m, em, hmm⟩ := tub_step TB hi (hin i (Nat.le_refl _)) (hnar (i + 1) (by omega))
      have rv6 := IsS.same rv (up.trans (ut.trans s6))
      refine ⟨v, .ref r, _, _, _, _, rfl, rv6, ⟨r, rfl, hr6⟩, fun y H7 s7 hy => ?_⟩
      have cm := meet_ok em
      have em2 : crossed (maxE (sAt ss (i + 1)).1 (movS (some (crsL cs i), some (crsL cs i)) (ptD ps i)).1) (minE (sAt ss (i + 1)).2 (movS (some (crsL cs i), some (crsL cs i)) (ptD ps i)).2) = false ∧ m = (maxE (sAt ss (i + 1)).1 (movS (some (crsL cs i), some (crsL cs i)) (ptD ps i)).1, minE (sAt ss (i + 1)).2 (movS (some (crsL cs i), some (crsL cs i)) (ptD ps i)).2) := by
        unfold meetW at em
        split at em
        · cases em
        · rename_i hc
          cases em
          exact ⟨by simpa using hc, rfl⟩
      have hy2 := hy.2 em2.1
      refine ⟨y, m, rfl, by rw [em2.2]; exact hy2, ?_⟩
      have S7 := up.trans (ut.trans (s6.trans s7))
      have L7 := S7 _ _ L4
      obtain ⟨n1, n2, n3⟩ := hmm _ (numIn_S cm)
      refine ⟨_, L7, by rw [List.length_map]; exact Nat.lt_of_le_of_lt (by omega : _ ≤ 1000) (by decide), cs ++ [numIn m], _, _, rfl, same_put fl (s4.trans S7), by rw [upd_same, List.map_append]; rfl, by rw [upd_ne (Ne.symm lc)]; exact S7 _ _ c4, hz4.imp fun _ _ r => IsS.put (IsS.same r S7) L7, by rw [List.length_append, List.length_singleton]; omega, fun t ht => ?_, fun k hk => ?_⟩
      · by_cases e : t = i + 1
        · subst e
          rw [crsL_last hcl]
          exact n1
        · rw [crsL_left (by omega)]
          exact hin t (by omega)
      · by_cases e : k = i
        · subst e
          rw [crsL_last hcl, crsL_left (by omega)]
          exact ⟨n2, n3⟩
        · rw [crsL_left (by omega), crsL_left (by omega)]
          exact hst k (by omega)
    · rintro σ H4 ⟨cs, d1, d2, rfl, s4, L4, c4, hz4, hcl, hin, hst⟩
      walk_at "gzn"
      rw [List.length_drop, show min xs.length (zs.length - 1) = ps.length by omega] at hcl hin hst
      exact q l cs H4 s4 fl L4 hcl hst (meets_of TB ht hin)
end
section
seal L2.PE L2.PS L2.PSs L2.PA
variable {P : Program} {w : World} {K : PySem.W.Frag} {mg : Str → Option Value} {base : Heap}
def IsTop (H : Hp) (v : V) : Option P2 → Prop
  | none => v = .non
  | some p => IsPt H v p
theorem IsTop.same {H H' : Hp} {v : V} {o : Option P2} (h : IsTop H v o) (s : Same H H') : IsTop H' v o := by
  cases o with
  | none => exact h
  | some p => exact IsPt.same h s
def sp_lesser (K : PySem.W.Frag) : Sp := fun vs H Q _ => ∃ (v u : V) (a b : Option P2), vs = [v, u] ∧ IsTop H v a ∧ IsTop H u b ∧ ∀ x, IsTop H x (lesO a b) → (x = v ∨ x = u) → Q x H
theorem ok_lesser (T : Tx K mg) : FnOk P w K mg base (CXX P w) 1 T.a_lesser T.fd_lesser ["one", "other"] (sp_lesser K) := by
  refine okN T.F_lesser sc_lesser (fun vs H Q E h => ?_) (fun cdv A outer s H vs Q E hr h => ?_)
  · obtain ⟨v, u, a, b, rfl, _⟩ := h
    rfl
  · obtain ⟨v, u, a, b, rfl, ha, hb, q⟩ := h
    refine ⟨_, (pss_cons (ps_if (PW.pt (pw_or (pt_cmp (pc_isN (pv 0))) (pw_or1 (pt_cmp (pc_isN (pv 1)))))) (pss_one (ps_ret (pe_ifExp (pt_cmp (pc_isN (pv 0))) (pv 1) (pv 0)))) pss_nil)
    (pss_one (ps_ret (pe_callB (call_min2P rfl (hu_of hr)) (by rfl) T.n_min b_min (pa_cons (pv 0) (pa_cons (pv 1) pa_nil)))))), ?_⟩
    rcases a with _ | a <;> rcases b with _ | b
    · obtain rfl : v = .non := ha
      obtain rfl : u = .non := hb
      walk_at "gzn"
      exact q _ rfl (.inl rfl)
    · obtain rfl : v = .non := ha
      obtain ⟨r, rfl, hr1⟩ := id hb
      walk_at "gzn"
      exact q _ hb (.inr rfl)
    · obtain rfl : u = .non := hb
      obtain ⟨r, rfl, hr1⟩ := id ha
      walk_at "gzn"
      exact q _ ha (.inl rfl)
    · obtain ⟨r, rfl, hr1⟩ := id ha
      obtain ⟨r2, rfl, hr2⟩ := id hb
      walk_at "gzn"
      refine ⟨a, hr1, b, hr2, ?_⟩
      by_cases hl : lessP b a = true
      · rw [if_pos hl]
        exact q _ (by show IsPt H _ (minP a b); unfold minP; rw [if_pos hl]; exact hb) (.inr rfl)
      · rw [if_neg hl]
        exact q _ (by show IsPt H _ (minP a b); unfold minP; rw [if_neg hl]; exact ha) (.inl rfl)
def sp_lifted (K : PySem.W.Frag) : Sp := fun vs H Q _ => ∃ (v : V) (a : Option P2) (b : Int), vs = [v, .int b] ∧ IsTop H v a ∧ ∀ x H', Same H H' → IsTop H' x (lifO a b) → Q x H'
theorem ok_lifted (T : Tx K mg) : FnOk P w K mg base (CXX P w) 1 T.a_lifted T.fd_lifted ["one", "by"] (sp_lifted K) := by
  refine okN T.F_lifted sc_lifted (fun vs H Q E h => ?_) (fun cdv A outer s H vs Q E hr h => ?_)
  · obtain ⟨v, a, b, rfl, _⟩ := h
    rfl
  · obtain ⟨v, a, b, rfl, ha, q⟩ := h
    refine ⟨_, (pss_one (ps_ret (pe_ifExp (pt_cmp (pc_isN (pv 0))) pe_non (pe_tup (pa_cons (pe_op op_add (pe_ix ix_seq (pv 0) pe_int (fun _ _ => rfl)) (pv 1)) (pa_cons (pe_ix ix_seq (pv 0) pe_int (fun _ _ => rfl)) pa_nil)))))), ?_⟩
    rcases a with _ | a
    · obtain rfl : v = .non := ha
      walk_at "gzn"
      exact q _ _ (Same.refl _) rfl
    · obtain ⟨r, rfl, hr1⟩ := id ha
      walk_at "gzn"
      refine ixT (SqT.of hr1) rfl ?_
      walk_at "gzn"
      refine ixT (SqT.of hr1) rfl ⟨line2, fun p hp => q _ _ (same_upd hp) ⟨p, rfl, upd_same⟩⟩
def sp_ceil (K : PySem.W.Frag) : Sp := fun vs H Q _ => ∃ (a b : Addr) (xs ys : List V) (ps : List P2) (ms : List Mk), vs = [.ref a, .ref b] ∧ SqL K H a xs ∧ Pts H xs ps ∧ SqL K H b ys ∧ All2 (IsMk H) ys ms ∧ okPc ps ∧ ps.length ≤ 900 ∧ ms.length ≤ 1000 ∧ (∀ m ∈ ms, m.1 ≤ ps.length) ∧
  ∀ l zs ts H', Same H H' → H l = none → H' l = some (.lst zs) → All2 (IsTop H') zs ts → ts.length = ps.length + 1 → Tops ps ms (tpOf ts) → Q (.ref l) H'
def inv_c (P : Nat → (Nat → Option P2) → Prop) (H : Hp) (a b l : Addr) (n : Nat) (i : Nat) (σ : St) (H1 : Hp) : Prop := ∃ (zs : List V) (ts : List (Option P2)) (e1 e2 e3 : Option V), σ = [some (.ref a), some (.ref b), some (.ref l), e1, e2, e3] ∧ Same H H1 ∧ H1 l = some (.lst zs) ∧ All2 (IsTop H1) zs ts ∧ ts.length = n + 1 ∧ P i (tpOf ts)
theorem IsTop.put {H : Hp} {v : V} {o : Option P2} {l : Addr} {ys zs : List V} (h : IsTop H v o) (hl : H l = some (.lst ys)) : IsTop (upd H l (.lst zs)) v o := by
  cases o with
  | none => exact h
  | some p => exact IsPt.put h hl
theorem All2.setA {α : Type} {R : V → α → Prop} {x : V} {a : α} (r : R x a) : ∀ {xs : List V} {as : List α} (j : Nat), All2 R xs as → All2 R (xs.set j x) (as.set j a)
  | [], [], _, _ => trivial
  | _ :: _, _ :: _, 0, h => ⟨r, h.2⟩
  | _ :: _, _ :: _, j + 1, h => ⟨h.1, All2.setA r j h.2⟩
  | [], _ :: _, _, h => h.elim
  | _ :: _, [], _, h => h.elim
theorem top_at {H : Hp} {zs : List V} {ts : List (Option P2)} {t : Nat} (h : All2 (IsTop H) zs ts) (ht : t < ts.length) : ∃ v, atI zs (t : Int) = some v ∧ IsTop H v (tpOf ts t) := by
  obtain ⟨v, hv, r⟩ := h.at (List.getElem?_eq_getElem ht)
  refine ⟨v, atI_nat hv, ?_⟩
  unfold tpOf
  rw [List.getD_eq_getElem?_getD, List.getElem?_eq_getElem ht]
  exact r
theorem ixN_nat {n t : Nat} (h : t < n) : ixN n (t : Int) = some t := by
  unfold ixN
  rw [if_pos (by omega), if_pos (by omega), Int.toNat_natCast]
theorem put_c {P : Nat → (Nat → Option P2) → Prop} {H : Hp} {a b l : Addr} {n i : Nat} {zs : List V} {ts : List (Option P2)} {H1 : Hp} {v : V} {x : Option P2} {t : Nat} {d1 d2 d3 : Option V} (hl0 : H l = none) (s : Same H H1) (hl : H1 l = some (.lst zs)) (hz : All2 (IsTop H1) zs ts) (hlen : ts.length = n + 1) (hv : IsTop H1 v x) (ht : t < n + 1) (hP : P i (updT (tpOf ts) t x)) : inv_c P H a b l n i [some (.ref a), some (.ref b), some (.ref l), d1, d2, d3] (upd H1 l (.lst (zs.set t v))) :=
  ⟨zs.set t v, ts.set t x, d1, d2, d3, rfl, same_put hl0 s, upd_same, (All2.setA hv t hz).imp fun _ _ r => r.put hl, by rw [List.length_set]; exact hlen, by rw [tpOf_set (by omega)]; exact hP⟩
theorem step_back (n : Nat) : stepN ((n : Int) - 1) (-1) (-1) = n := by
  unfold stepN Builtin.Range.rangeSize
  simp only [show ¬ ((-1 : Int) > 0) by omega, if_false, show (- (-1 : Int)) = 1 by omega, Int.ediv_one]
  split <;> omega
theorem ok_ceilings (T : Tx K mg) : FnOk P w K mg base (CXX P w) 2 T.a_ceilings T.fd_ceilings ["steps", "marks"] (sp_ceil K) := by
  refine okN T.F_ceilings sc_ceilings (fun vs H Q E h => ?_) (fun cdv A outer s H vs Q E hr h => ?_)
  · obtain ⟨a, b, xs, ys, ps, ms, rfl, _⟩ := h
    rfl
  · obtain ⟨a, b, xs, ys, ps, ms, rfl, hS, hP, hT, hM, hok, hn, hm, ht, q⟩ := h
    refine ⟨_, (pss_cons (ps_setComp (i := 2) (CompOk.mk (fr := []) (ys := []) rfl (by decide +kernel) rfl (by decide +kernel) rfl rfl .nil .nil (by decide) rfl) rfl sc_ceilings.nd rfl rfl (pi_range1 rfl T.n_range (pa_cons (pe_op op_add (pe_callB call_len (by rfl) T.n_len b_len (pa_cons (pv 0) pa_nil)) pe_int) pa_nil)) (fun C s2 H2 ex pn => ⟨pts_nil, pe_non⟩))
    (pss_cons (ps_for PassesOwn.never rfl (pi_enum rfl T.n_enumerate (pa_cons (pv 1) pa_nil)) (pg_tup rfl (pgs_cons (pg_name (i := 3) sc_ceilings.nd rfl (Or.inl rfl)) (pgs_cons (pg_name (i := 4) sc_ceilings.nd rfl (Or.inl rfl)) pgs_nil))) (pss_one (ps_if (pt_cmp (pc_notN (pe_ix ix_seq (pe_ix ix_seq (pv 4) pe_int (fun _ _ => rfl)) pe_int (fun _ _ => rfl)))) (pss_one (ps_asg (pe_call (ok_lesser T) (hr.mono (by decide)) rfl T.m_lesser T.F_lesser.kp T.b_lesser .nil passE0 (pa_cons (pe_ix ix_seq (pv 2) (pe_ix ix_seq (pv 4) pe_int (fun _ _ => rfl)) (fun _ _ => rfl)) (pa_cons (pe_tup (pa_cons (pe_ix ix_seq (pe_ix ix_seq (pv 4) pe_int (fun _ _ => rfl)) pe_int (fun _ _ => rfl)) (pa_cons (pv 3) pa_nil))) pa_nil))) (pg_sub (pv 2) (pe_ix ix_seq (pv 4) pe_int (fun _ _ => rfl)) set_list))) pss_nil)))
    (pss_cons (ps_for PassesOwn.never rfl (pi_range1 rfl T.n_range (pa_cons (pe_callB call_len (by rfl) T.n_len b_len (pa_cons (pv 0) pa_nil)) pa_nil)) (pg_name (i := 5) sc_ceilings.nd rfl (Or.inl rfl)) (pss_one (ps_asg (pe_call (ok_lesser T) (hr.mono (by decide)) rfl T.m_lesser T.F_lesser.kp T.b_lesser .nil passE0 (pa_cons (pe_ix ix_seq (pv 2) (pe_op op_add (pv 5) pe_int) (fun _ _ => rfl)) (pa_cons (pe_call (ok_lifted T) (hr.mono (by decide)) rfl T.m_lifted T.F_lifted.kp T.b_lifted .nil passE0 (pa_cons (pe_ix ix_seq (pv 2) (pv 5) (fun _ _ => rfl)) (pa_cons (pe_ix ix_seq (pe_ix ix_seq (pv 0) (pv 5) (fun _ _ => rfl)) pe_int (fun _ _ => rfl)) pa_nil))) pa_nil))) (pg_sub (pv 2) (pe_op op_add (pv 5) pe_int) set_list))))
    (pss_cons (ps_for PassesOwn.never rfl (pi_range3 rfl T.n_range (pa_cons (pe_op op_sub (pe_callB call_len (by rfl) T.n_len b_len (pa_cons (pv 0) pa_nil)) pe_int) (pa_cons (pe_un un_neg pe_int) (pa_cons (pe_un un_neg pe_int) pa_nil)))) (pg_name (i := 5) sc_ceilings.nd rfl (Or.inl rfl)) (pss_one (ps_asg (pe_call (ok_lesser T) (hr.mono (by decide)) rfl T.m_lesser T.F_lesser.kp T.b_lesser .nil passE0 (pa_cons (pe_ix ix_seq (pv 2) (pv 5) (fun _ _ => rfl)) (pa_cons (pe_call (ok_lifted T) (hr.mono (by decide)) rfl T.m_lifted T.F_lifted.kp T.b_lifted .nil passE0 (pa_cons (pe_ix ix_seq (pv 2) (pe_op op_add (pv 5) pe_int) (fun _ _ => rfl)) (pa_cons (pe_un un_neg (pe_ix ix_seq (pe_ix ix_seq (pv 0) (pv 5) (fun _ _ => rfl)) pe_int (fun _ _ => rfl))) pa_nil))) pa_nil))) (pg_sub (pv 2) (pv 5) set_list))))
    (pss_one (ps_ret (pv 2))))))), ?_⟩
    have l1 := hP.len
    have l2 := hM.len
    refine seq_cut (fun σ H1 => ∃ l, σ = [some (.ref a), some (.ref b), some (.ref l), none, none, none] ∧ Same H H1 ∧ H l = none ∧ H1 l = some (.lst (List.replicate (ps.length + 1) .non))) (fun N hN => ?_) ?_
    · walk_at "gzn"
      refine ⟨_, lenL hS, by omega, by omega, ?_⟩
      rw [l1, show ((ps.length : Int) + 1).toNat = ps.length + 1 by omega]
      refine blk_of it_rng (by rw [List.length_map, List.length_range]; exact Nat.le_trans (by omega : _ ≤ 901) (by decide)) (compGo_map (p := fun _ => true) (f := fun _ => .non) trivial (fun x _ Q h => ?_) (fun x _ _ Q h => ?_) ?_)
      · walk_at "gzn"
        exact h
      · walk_at "gzn"
        exact h
      rw [List.nil_append, filter_tt]
      intro l hl
      refine hN _ _ ⟨l, rfl, same_upd hl, hl, ?_⟩
      rw [upd_same]
      congr 2
      refine List.ext_getElem? fun k => ?_
      rw [List.getElem?_map, List.getElem?_map, List.getElem?_replicate]
      by_cases hk : k < ps.length + 1
      · rw [List.getElem?_range hk, if_pos hk]; rfl
      · rw [List.getElem?_eq_none (by rw [List.length_range]; omega), if_neg hk]; rfl
    rintro σ H1 ⟨l, rfl, s1, hl0, hl1⟩
    refine seq_cut (inv_c (T1 ps ms) H a b l ps.length ms.length) (fun N hN => ?_) ?_
    · walk_at "gzn"
      refine ⟨⟨_, s1.seq hT⟩, by_enum (xs := ys) (inv_c (T1 ps ms) H a b l ps.length) ⟨_, List.replicate (ps.length + 1) none, _, _, _, rfl, s1, hl1, ?_, by rw [List.length_replicate], by rw [tpOf_none]; exact T1.nil⟩ ?_ ?_ ?_⟩
      · have : ∀ k, All2 (IsTop H1) (List.replicate k .non) (List.replicate k none) := fun k => by
          induction k with
          | zero => exact trivial
          | succ k ih => exact ⟨rfl, ih⟩
        exact this _
      · rintro i σ H2 _ ⟨_, _, _, _, _, _, s2, _⟩
        exact s2.seq hT
      · rintro i x σ H2 p hx ⟨zs, ts, d1, d2, d3, rfl, s2, hl2, hz, htl, hT1⟩ hp
        obtain ⟨m, hm0, tp, sp, rfl, h1, h2⟩ := hM.get hx
        have hmt := ht m (List.mem_of_getElem? hm0)
        have up := same_upd (o := .tup [.int i, .ref tp]) hp
        refine gTup2 (SqT.of upd_same) ?_
        generalize upd H2 p (.tup [.int i, .ref tp]) = H3 at up ⊢
        have s3 := s2.trans up
        have g1 := s3 _ _ h1
        have g2 := s3 _ _ h2
        have hl3 := up _ _ hl2
        have hz3 := hz.imp fun _ _ r => r.same up
        obtain ⟨mt, lo, hi⟩ := m
        walk_at "gzn"
        refine ixT (SqT.of g1) rfl (ixT (SqT.of g2) rfl ?_)
        cases hi with
        | none =>
          walk_at "gzn"
          exact ⟨zs, ts, _, _, _, rfl, s3, hl3, hz3, htl, hT1.skip hm0 rfl⟩
        | some h =>
          walk_at "gzn"
          obtain ⟨v, hv, rv⟩ := top_at hz3 (t := mt) (by dsimp only at hmt; omega)
          refine ixT (SqT.of g1) rfl (ixL (SqL.of hl3) hv (ixT (SqT.of g1) rfl (ixT (SqT.of g2) rfl ?_)))
          walk_at "gzn"
          refine ⟨line2, fun t1 ht1 => ?_⟩
          have ut := same_upd (o := .tup [.int h, .int i]) ht1
          have S4 := s3.trans ut
          refine ⟨v, .ref t1, _, some (h, (i : Int)), rfl, rv.same ut, ⟨t1, rfl, upd_same⟩, fun y hy _ => ?_⟩
          refine ixT (SqT.of (ut _ _ g1)) rfl ?_
          exact ⟨zs, _, rfl, ut _ _ hl3, mt, ixN_nat (by rw [hz.len, htl]; dsimp only at hmt; omega), put_c hl0 S4 (ut _ _ hl3) (hz3.imp fun _ _ r => r.same ut) htl hy (by dsimp only at hmt; omega) (hT1.put hm0 rfl)⟩
      · rintro σ H2 h
        rw [l2] at h
        exact hN _ _ h
    rintro σ H2 h2
    refine seq_cut (inv_c (T2 ps ms) H a b l ps.length ps.length) (fun N hN => ?_) ?_
    · obtain ⟨zs, ts, d1, d2, d3, rfl, s2, hl2, hz, htl, hT1⟩ := h2
      walk_at "gzn"
      refine ⟨_, lenL (s2.seq hS), ?_⟩
      rw [l1]
      refine ⟨by omega, by omega, ?_⟩
      rw [Int.toNat_natCast]
      refine by_range (inv_c (T2 ps ms) H a b l ps.length) ⟨zs, ts, d1, d2, d3, rfl, s2, hl2, hz, htl, hT1.two⟩ ?_ (fun σ H3 h => hN _ _ h)
      rintro i σ H3 hi ⟨zs, ts, d1, d2, d3, rfl, s3, hl3, hz3, htl, hT2⟩
      have zl := hz3.len
      obtain ⟨v, hv, rv⟩ := top_at hz3 (t := i + 1) (by omega)
      obtain ⟨u, hu, ru⟩ := top_at hz3 (t := i) (by omega)
      obtain ⟨w, hw, tw, rfl, hw2⟩ := hP.at (ptD_get hi)
      walk_at "gzn"
      rw [show (0 : Int) + (i : Int) = ((i : Nat) : Int) by omega, show ((i : Nat) : Int) + 1 = ((i + 1 : Nat) : Int) by omega]
      refine ixL (SqL.of hl3) hv (ixL (SqL.of hl3) hu (ixL (s3.seq hS) (atI_nat hw) (ixT (SqT.of (s3 _ _ hw2)) rfl ?_)))
      refine ⟨u, _, _, rfl, ru, fun y H4 s4 hy => ?_⟩
      refine ⟨v, y, _, _, rfl, rv.same s4, hy, fun z hz5 _ => ?_⟩
      exact ⟨zs, s4 _ _ hl3, i + 1, ixN_nat (by omega), put_c hl0 (s3.trans s4) (s4 _ _ hl3) (hz3.imp fun _ _ r => r.same s4) htl hz5 (by omega) (hT2.step hok ht hi)⟩
    rintro σ H3 h3
    refine seq_cut (inv_c (fun i => T3 ps ms (ps.length - i)) H a b l ps.length ps.length) (fun N hN => ?_) ?_
    · obtain ⟨zs, ts, d1, d2, d3, rfl, s2, hl2, hz, htl, hT1⟩ := h3
      walk_at "gzn"
      refine ⟨_, lenL (s2.seq hS), ?_⟩
      rw [l1, step_back]
      refine ⟨by omega, by omega, by decide, by decide, by decide, by decide, by decide, by_step (inv_c (fun i => T3 ps ms (ps.length - i)) H a b l ps.length) ⟨zs, ts, d1, d2, d3, rfl, s2, hl2, hz, htl, hT1.three⟩ ?_ (fun σ H3 h => hN _ _ h)⟩
      rintro i σ H3 hi ⟨zs, ts, d1, d2, d3, rfl, s3, hl3, hz3, htl, hT3⟩
      have zl := hz3.len
      obtain ⟨j, hj⟩ : ∃ j, ps.length = j + 1 + i := ⟨ps.length - 1 - i, by omega⟩
      obtain ⟨v, hv, rv⟩ := top_at hz3 (t := j + 1) (by omega)
      obtain ⟨u, hu, ru⟩ := top_at hz3 (t := j) (by omega)
      obtain ⟨w, hw, tw, rfl, hw2⟩ := hP.at (ptD_get (ps := ps) (i := j) (by omega))
      walk_at "gzn"
      rw [show (ps.length : Int) - 1 + (i : Int) * -1 = ((j : Nat) : Int) by omega, show ((j : Nat) : Int) + 1 = ((j + 1 : Nat) : Int) by omega]
      refine ixL (SqL.of hl3) hu (ixL (SqL.of hl3) hv (ixL (s3.seq hS) (atI_nat hw) (ixT (SqT.of (s3 _ _ hw2)) rfl ?_)))
      walk_at "gzn"
      refine ⟨v, _, _, rfl, rv, fun y H4 s4 hy => ?_⟩
      refine ⟨u, y, _, _, rfl, ru.same s4, hy, fun z hz5 _ => ?_⟩
      refine ⟨zs, s4 _ _ hl3, j, ixN_nat (by omega), put_c hl0 (s3.trans s4) (s4 _ _ hl3) (hz3.imp fun _ _ r => r.same s4) htl hz5 (by omega) ?_⟩
      show T3 ps ms (ps.length - (i + 1)) _
      rw [show ps.length - (i + 1) = j by omega]
      have hT3 : T3 ps ms (ps.length - i) (tpOf ts) := hT3
      rw [show ps.length - i = j + 1 by omega] at hT3
      exact hT3.step hok ht (by omega)
    rintro σ H4 ⟨zs, ts, d1, d2, d3, rfl, s4, hl4, hz4, htl, hT4⟩
    rw [Nat.sub_self] at hT4
    walk_at "gzn"
    exact q l zs ts H4 s4 hl0 hl4 hz4 htl hT4.tops
end
section
seal L2.PE L2.PS L2.PSs L2.PA
variable {P : Program} {w : World} {K : PySem.W.Frag} {mg : Str → Option Value} {base : Heap}
def sp_cross (K : PySem.W.Frag) : Sp := fun vs H Q _ => ∃ (a b : Addr) (zs ys : List V) (ts : List (Option P2)) (ms : List Mk), vs = [.ref a, .ref b] ∧ SqL K H a zs ∧ All2 (IsTop H) zs ts ∧ SqL K H b ys ∧ All2 (IsMk H) ys ms ∧ (∀ m ∈ ms, m.1 < ts.length) ∧
  (noCr ms (tpOf ts) → ∀ H', Same H H' → Q .non H') ∧
  (∀ (j : Nat) m l v k, ms[j]? = some m → m.2.1 = some l → tpOf ts m.1 = some (v, k) → v < l → ∀ p H', Same H H' → H p = none → H' p = some (.tup [.int k, .int j]) → Q (.ref p) H')
def inv_cross (H : Hp) (a b : Addr) (ts : List (Option P2)) (ms : List Mk) (i : Nat) (σ : St) (H1 : Hp) : Prop := ∃ (e1 e2 e3 : Option V), σ = [some (.ref a), some (.ref b), e1, e2, e3] ∧ Same H H1 ∧ noCr (ms.take i) (tpOf ts)
theorem ok_crossing (T : Tx K mg) : FnOk P w K mg base (CXX P w) 1 T.a_crossing T.fd_crossing ["tops", "marks"] (sp_cross K) := by
  refine okN T.F_crossing sc_crossing (fun vs H Q E h => ?_) (fun cdv A outer s H vs Q E hr h => ?_)
  · obtain ⟨a, b, zs, ys, ts, ms, rfl, _⟩ := h
    rfl
  · obtain ⟨a, b, zs, ys, ts, ms, rfl, hA, hZ, hT, hM, ht, q0, q⟩ := h
    refine ⟨_, (pss_cons (ps_for PassesOwn.never rfl (pi_enum rfl T.n_enumerate (pa_cons (pv 1) pa_nil)) (pg_tup rfl (pgs_cons (pg_name (i := 2) sc_crossing.nd rfl (Or.inl rfl)) (pgs_cons (pg_name (i := 3) sc_crossing.nd rfl (Or.inl rfl)) pgs_nil))) (pss_cons (ps_set (i := 4) sc_crossing.nd rfl (Or.inl rfl) (pe_ix ix_seq (pv 0) (pe_ix ix_seq (pv 3) pe_int (fun _ _ => rfl)) (fun _ _ => rfl)))
        (pss_one (ps_if (PW.pt (pw_and (pt_cmp (pc_notN (pv 4))) (pw_and (pt_cmp (pc_notN (pe_ix ix_seq (pe_ix ix_seq (pv 3) pe_int (fun _ _ => rfl)) pe_int (fun _ _ => rfl)))) (pw_and1 (pt_cmpR op_gt (pe_ix ix_seq (pe_ix ix_seq (pv 3) pe_int (fun _ _ => rfl)) pe_int (fun _ _ => rfl)) (pe_ix ix_seq (pv 4) pe_int (fun _ _ => rfl)) (nomark _)))))) (pss_one (ps_ret (pe_tup (pa_cons (pe_ix ix_seq (pv 4) pe_int (fun _ _ => rfl)) (pa_cons (pv 2) pa_nil))))) pss_nil))))
    (pss_one (ps_ret pe_non))), ?_⟩
    have l1 := hZ.len
    have l2 := hM.len
    walk_at "gzn"
    refine ⟨⟨_, hT⟩, by_enum (xs := ys) (inv_cross H a b ts ms) ⟨_, _, _, rfl, Same.refl _, fun m h => by simp at h⟩ ?_ ?_ ?_⟩
    · rintro i σ H2 _ ⟨_, _, _, _, s2, _⟩
      exact s2.seq hT
    · rintro i x σ H2 p hx ⟨d1, d2, d3, rfl, s2, hno⟩ hp
      obtain ⟨m, hm0, tp, sp, rfl, h1, h2⟩ := hM.get hx
      have hmt := ht m (List.mem_of_getElem? hm0)
      have up := same_upd (o := .tup [.int i, .ref tp]) hp
      refine gTup2 (SqT.of upd_same) ?_
      generalize upd H2 p (.tup [.int i, .ref tp]) = H3 at up ⊢
      have s3 := s2.trans up
      have g1 := s3 _ _ h1
      have g2 := s3 _ _ h2
      have next : (∀ l v k, m.2.1 = some l → tpOf ts m.1 = some (v, k) → l ≤ v) → noCr (ms.take (i + 1)) (tpOf ts) := fun hh n hn => by
        rw [List.take_succ, hm0] at hn
        rcases List.mem_append.mp hn with z | z
        · exact hno n z
        · obtain rfl : n = m := by simpa using z
          exact hh
      obtain ⟨v, hv, rv⟩ := top_at hZ hmt
      obtain ⟨mt, lo, hi⟩ := m
      walk_at "gzn"
      refine ixT (SqT.of g1) rfl (ixL (s3.seq hA) hv ?_)
      cases et : tpOf ts mt with
      | none =>
        rw [show tpOf ts (mt, lo, hi).1 = none from et] at rv
        obtain rfl : v = .non := rv
        walk_at "gzn"
        exact ⟨_, _, _, rfl, s3, next fun l v k _ e => by rw [show tpOf ts (mt, lo, hi).1 = none from et] at e; cases e⟩
      | some q2 =>
        obtain ⟨w, k⟩ := q2
        rw [show tpOf ts (mt, lo, hi).1 = some (w, k) from et] at rv
        obtain ⟨rt, rfl, hrt⟩ := rv
        walk_at "gzn"
        refine ixT (SqT.of g1) rfl (ixT (SqT.of g2) rfl ?_)
        cases lo with
        | none =>
          walk_at "gzn"
          exact ⟨_, _, _, rfl, s3, next fun l v k e _ => by cases e⟩
        | some l =>
          walk_at "gzn"
          refine ixT (SqT.of g1) rfl (ixT (SqT.of g2) rfl (ixT (SqT.of (s3 _ _ hrt)) rfl ?_))
          walk_at "gzn"
          refine ite_by (fun hc => ?_) fun hc => ?_
          · exact ixT (SqT.of (s3 _ _ hrt)) rfl ⟨line2, fun r hr0 => q i _ l w k hm0 rfl et hc r _ (s3.trans (same_upd hr0)) (s3.free hr0) upd_same⟩
          · exact ⟨_, _, _, rfl, s3, next fun l' v' k' e1 e2 => by
              cases e1
              rw [show tpOf ts (mt, some l, hi).1 = some (w, k) from et] at e2
              cases e2
              omega⟩
    · rintro σ H2 ⟨d1, d2, d3, rfl, s2, hno⟩
      walk_at "gzn"
      rw [l2, List.take_length] at hno
      exact q0 hno _ s2
def sp_clashing (K : PySem.W.Frag) : Sp := fun vs H Q _ => ∃ (a b : Addr) (xs ys : List V) (ps : List P2) (ms : List Mk), vs = [.ref a, .ref b] ∧ SqL K H a xs ∧ Pts H xs ps ∧ SqL K H b ys ∧ All2 (IsMk H) ys ms ∧ okPc ps ∧ ps.length ≤ 900 ∧ ms.length ≤ 1000 ∧ (∀ m ∈ ms, m.1 ≤ ps.length) ∧
  ((∃ c, isCrs ps c ∧ meets ms c) → ∀ H', Same H H' → Q .non H') ∧
  (∀ (i j : Nat) m n, ms[i]? = some m → ms[j]? = some n → clash ps m n → ∀ p H', Same H H' → H' p = some (.tup [.int i, .int j]) → Q (.ref p) H')
theorem ok_clashing (T : Tx K mg) : FnOk P w K mg base (CXX P w) 3 T.a_clashing T.fd_clashing ["steps", "marks"] (sp_clashing K) := by
  refine okN T.F_clashing sc_clashing (fun vs H Q E h => ?_) (fun cdv A outer s H vs Q E hr h => ?_)
  · obtain ⟨a, b, xs, ys, ps, ms, rfl, _⟩ := h
    rfl
  · obtain ⟨a, b, xs, ys, ps, ms, rfl, hS, hP, hT, hM, hok, hn, hm, ht, q0, q⟩ := h
    refine ⟨_, (pss_one (ps_ret (pe_call (ok_crossing T) (hr.mono (by decide)) rfl T.m_crossing T.F_crossing.kp T.b_crossing .nil passE0 (pa_cons (pe_call (ok_ceilings T) (hr.mono (by decide)) rfl T.m_ceilings T.F_ceilings.kp T.b_ceilings .nil passE0 (pa_cons (pv 0) (pa_cons (pv 1) pa_nil))) (pa_cons (pv 1) pa_nil))))), ?_⟩
    walk_at "gzn"
    refine ⟨a, b, xs, ys, ps, ms, rfl, hS, hP, hT, hM, hok, hn, hm, ht, fun l zs ts H1 s1 _ hl hz htl T => ?_⟩
    walk_at "gzn"
    refine ⟨l, b, zs, ys, ts, ms, rfl, SqL.of hl, hz, s1.seq hT, hM.imp fun _ _ r => r.same s1, fun m hmm => by have := ht m hmm; omega, fun hn H2 s2 => q0 (course_of hok ht T hn) H2 (s1.trans s2), fun j m lo v k hj hlo hv hlt p H2 s2 _ hp => ?_⟩
    obtain ⟨i, a, rfl, hi, hc⟩ := T.clash (ht m (List.mem_of_getElem? hj)) hv hlo hlt
    exact q i j a m hi hj hc p H2 (s1.trans s2) hp
end
section
seal L2.PE L2.PS L2.PSs L2.PA
variable {P : Program} {w : World} {K : PySem.W.Frag} {mg : Str → Option Value} {base : Heap}
def sp_lclash (K : PySem.W.Frag) : Sp := fun vs H Q _ => ∃ (a : Addr) (xs : List V) (ps : List P2) (u v : V) (m n : Mk), vs = [.ref a, u, v] ∧ SqL K H a xs ∧ Pts H xs ps ∧ ps.length ≤ 1000 ∧ IsMk H u m ∧ IsMk H v n ∧ m.1 ≤ ps.length ∧ n.1 ≤ ps.length ∧ Q (.bl (clashB ps m n)) H
theorem ok_law_clash (T : Tx K mg) : FnOk P w K mg base (CXX P w) 2 T.a_law_clash T.fd_law_clash ["_law_steps", "_law_one", "_law_other"] (sp_lclash K) := by
  refine okN T.F_law_clash sc_law_clash (fun vs H Q E h => ?_) (fun cdv A outer s H vs Q E hr h => ?_)
  · obtain ⟨a, xs, ps, u, v, m, n, rfl, _⟩ := h
    rfl
  · obtain ⟨a, xs, ps, u, v, ⟨i, lo, hi⟩, ⟨j, lo2, hi2⟩, rfl, hS, hP, hn, ⟨ta, pa, rfl, A1, A2⟩, ⟨tb, pb, rfl, B1, B2⟩, hi1, hj1, q⟩ := h
    refine ⟨_, (pss_cons (ps_if (PW.pt (pw_or (pt_cmp (pc_isN (pe_ix ix_seq (pe_ix ix_seq (pv 1) pe_int (fun _ _ => rfl)) pe_int (fun _ _ => rfl)))) (pw_or1 (pt_cmp (pc_isN (pe_ix ix_seq (pe_ix ix_seq (pv 2) pe_int (fun _ _ => rfl)) pe_int (fun _ _ => rfl))))))) (pss_one (ps_ret pe_bl)) pss_nil)
    (pss_one (ps_ret (pe_cmpR op_gt (pe_ix ix_seq (pe_ix ix_seq (pv 2) pe_int (fun _ _ => rfl)) pe_int (fun _ _ => rfl)) (pe_op op_add (pe_ix ix_seq (pe_ix ix_seq (pv 1) pe_int (fun _ _ => rfl)) pe_int (fun _ _ => rfl)) (pe_call (ok_law_rise T) (hr.mono (by decide)) rfl T.m_law_rise T.F_law_rise.kp T.b_law_rise .nil passE0 (pa_cons (pv 0) (pa_cons (pe_ix ix_seq (pv 1) pe_int (fun _ _ => rfl)) (pa_cons (pe_ix ix_seq (pv 2) pe_int (fun _ _ => rfl)) pa_nil))))) (nomark _))))), ?_⟩
    walk_at "gzn"
    refine ixT (SqT.of A1) rfl (ixT (SqT.of A2) rfl ?_)
    walk_at "gzn"
    cases hi with
    | none =>
      walk_at "gzn"
      exact q
    | some h =>
      walk_at "gzn"
      refine ixT (SqT.of B1) rfl (ixT (SqT.of B2) rfl ?_)
      walk_at "gzn"
      cases lo2 with
      | none =>
        walk_at "gzn"
        exact q
      | some l =>
        walk_at "gzn"
        refine ixT (SqT.of B1) rfl (ixT (SqT.of B2) rfl (ixT (SqT.of A1) rfl (ixT (SqT.of A2) rfl ?_)))
        walk_at "gzn"
        refine ixT (SqT.of A1) rfl (ixT (SqT.of B1) rfl ?_)
        refine ⟨a, xs, ps, i, j, rfl, hS, hP, hn, hi1, hj1, ?_⟩
        walk_at "gzn"
        rw [show clashB ps (i, lo, some h) (j, some l, hi2) = decide (h + riseF ps i j < l) from decide_eq_decide.mpr (by dsimp only; omega)] at q
        exact q
def sp_path (K : PySem.W.Frag) : Sp := fun vs H Q _ => ∃ (a b : Addr) (ns : List Int) (xs : List V) (ps : List P2), vs = [.ref a, .ref b] ∧ SqL K H a (ns.map V.int) ∧ Scr ns ∧ SqL K H b xs ∧ Pts H xs ps ∧ okPc ps ∧ ps.length ≤ 41 ∧ ∀ (l : Addr) (cs : List Int) (H' : Hp), Same H H' → H l = none → H' l = some (.lst (cs.map V.int)) → cs.length = ps.length + 1 → Q (.ref l) H'
def inv_path (H : Hp) (a b l : Addr) (i : Nat) (σ : St) (H1 : Hp) : Prop := ∃ (cs : List Int) (n : Int) (e : Option V), σ = [some (.ref a), some (.ref b), some (.int n), some (.ref l), e] ∧ Same H H1 ∧ H1 l = some (.lst (cs.map V.int)) ∧ cs.length = i + 1
theorem ok_law_path (T : Tx K mg) : FnOk P w K mg base (CXX P w) 3 T.a_law_path T.fd_law_path ["_law_script", "_law_steps"] (sp_path K) := by
  refine okN T.F_law_path sc_law_path (fun vs H Q E h => ?_) (fun cdv A outer s H vs Q E hr h => ?_)
  · obtain ⟨a, b, ns, xs, ps, rfl, _⟩ := h
    rfl
  · obtain ⟨a, b, ns, xs, ps, rfl, hS, hn, hb, hP, hok, hlen, q⟩ := h
    refine ⟨_, (pss_cons (ps_set (i := 2) sc_law_path.nd rfl (Or.inl rfl) (pe_op op_sub (pe_call (ok_law_wide T) (hr.mono (by decide)) rfl T.m_law_wide T.F_law_wide.kp T.b_law_wide .nil passE0 (pa_cons (pv 0) (pa_cons pe_int (pa_cons (pe_op op_add (pe_op op_mulB pe_int (pe_op op_pow pe_int pe_int)) pe_int) pa_nil)))) (pe_op op_pow pe_int pe_int)))
    (pss_cons (ps_if (pt_cmpR op_eq (pe_call (ok_law_pick T) (hr.mono (by decide)) rfl T.m_law_pick T.F_law_pick.kp T.b_law_pick .nil passE0 (pa_cons (pv 0) (pa_cons pe_int (pa_cons pe_int pa_nil)))) pe_int (nomark _)) (pss_one (ps_set (i := 2) sc_law_path.nd rfl (Or.inl rfl) (pe_op op_sub (pe_call (ok_law_pick T) (hr.mono (by decide)) rfl T.m_law_pick T.F_law_pick.kp T.b_law_pick .nil passE0 (pa_cons (pv 0) (pa_cons pe_int (pa_cons pe_int pa_nil)))) pe_int))) pss_nil)
    (pss_cons (ps_set (i := 3) sc_law_path.nd rfl (Or.inl rfl) (pe_lst (pa_cons (pv 2) pa_nil)))
    (pss_cons (ps_for PassesOwn.never rfl (pi_range1 rfl T.n_range (pa_cons (pe_callB call_len (by rfl) T.n_len b_len (pa_cons (pv 1) pa_nil)) pa_nil)) (pg_name (i := 4) sc_law_path.nd rfl (Or.inl rfl)) (pss_cons (ps_set (i := 2) sc_law_path.nd rfl (Or.inl rfl) (pe_op op_add (pe_op op_add (pv 2) (pe_ix ix_seq (pe_ix ix_seq (pv 1) (pv 4) (fun _ _ => rfl)) pe_int (fun _ _ => rfl))) (pe_call (ok_law_wide T) (hr.mono (by decide)) rfl T.m_law_wide T.F_law_wide.kp T.b_law_wide .nil passE0 (pa_cons (pv 0) (pa_cons (pe_op op_add pe_int (pv 4)) (pa_cons (pe_op op_add (pe_op op_sub (pe_ix ix_seq (pe_ix ix_seq (pv 1) (pv 4) (fun _ _ => rfl)) pe_int (fun _ _ => rfl)) (pe_ix ix_seq (pe_ix ix_seq (pv 1) (pv 4) (fun _ _ => rfl)) pe_int (fun _ _ => rfl))) pe_int) pa_nil))))))
        (pss_one (ps_expr (pe_bm PySem.F.plainAttrs_list PySem.F.slot_list_append PySem.F.type_list_append mt_append (pv 3) (pa_cons (pv 2) pa_nil))))))
    (pss_one (ps_ret (pv 3))))))), ?_⟩
    have l1 := hP.len
    refine seq_cut (fun σ H' => ∃ n : Int, σ = [some (.ref a), some (.ref b), some (.int n), none, none] ∧ H' = H) (fun N hN => ?_) ?_
    · walk_at "gzn"
      exact ⟨⟨by decide, by decide, by decide⟩, mul200 (by decide) (by decide), a, ns, _, _, rfl, hS, hn, by decide, by decide, fun p p1 p2 => ⟨⟨by decide, by decide, by decide⟩, p, rfl, hN _ _ ⟨_, rfl, rfl⟩⟩⟩
    rintro σ H1 ⟨n, rfl, rfl⟩
    refine seq_cut (fun σ H' => ∃ n : Int, σ = [some (.ref a), some (.ref b), some (.int n), none, none] ∧ H' = H1) (fun N hN => ?_) ?_
    · walk_at "gzn"
      refine ⟨a, ns, _, _, rfl, hS, hn, by omega, by omega, fun p p1 p2 => ?_⟩
      walk_at "gzn"
      refine ite_by (fun _ => ?_) fun _ => hN _ _ ⟨n, rfl, rfl⟩
      refine ⟨a, ns, _, _, rfl, hS, hn, by omega, by omega, fun r r1 r2 => ?_⟩
      walk_at "gzn"
      exact hN _ _ ⟨_, rfl, rfl⟩
    rintro σ H ⟨n, rfl, rfl⟩
    walk_at "gzn"
    refine ⟨by decide, fun l hl => ?_⟩
    have u1 := same_upd (o := .lst [.int n]) hl
    have L1 : upd H l (.lst [.int n]) l = some (.lst ([n].map V.int)) := upd_same
    generalize upd H l (.lst [.int n]) = H2 at u1 L1 ⊢
    refine ⟨_, lenL (u1.seq hb), ?_⟩
    rw [l1]
    refine ⟨by omega, by omega, ?_⟩
    rw [Int.toNat_natCast]
    refine by_range (inv_path H a b l) ⟨[n], n, _, rfl, u1, L1, rfl⟩ ?_ ?_
    · rintro i σ H3 hi ⟨cs, n, e, rfl, s3, L3, hcl⟩
      obtain ⟨w, hw, tw, rfl, hw2⟩ := hP.at (ptD_get hi)
      have g2 := s3 _ _ hw2
      have hpc := hok _ (mem_ptD hi)
      walk_at "gzn"
      rw [show (0 : Int) + (i : Int) = ((i : Nat) : Int) by omega]
      refine ixL (s3.seq hb) (atI_nat hw) (ixT (SqT.of g2) rfl ⟨_, rfl, ixL (s3.seq hb) (atI_nat hw) (ixT (SqT.of g2) rfl (ixL (s3.seq hb) (atI_nat hw) (ixT (SqT.of g2) rfl ⟨_, rfl, _, rfl, ?_⟩)))⟩)
      refine ⟨a, ns, _, _, rfl, s3.seq hS, hn, by omega, by omega, fun p p1 p2 => ?_⟩
      refine ⟨_, rfl, .inl ⟨rfl, _, SqL.of L3⟩, _, L3, by rw [List.length_map]; exact Nat.lt_of_le_of_lt (by omega : _ ≤ 100) (by decide), cs ++ [n + (ptD ps i).1 + p], _, _, rfl, same_put hl s3, by rw [upd_same, List.map_append]; rfl, by rw [List.length_append, List.length_singleton, hcl]⟩
    · rintro σ H3 ⟨cs, n, e, rfl, s3, L3, hcl⟩
      walk_at "gzn"
      exact q l cs H3 s3 hl L3 hcl
end
section
seal L2.PE L2.PS L2.PSs L2.PA
variable {P : Program} {w : World} {K : PySem.W.Frag} {mg : Str → Option Value} {base : Heap}
def sp_marks (K : PySem.W.Frag) : Sp := fun vs H Q _ => ∃ (a b : Addr) (ns cs : List Int), vs = [.ref a, .ref b] ∧ SqL K H a (ns.map V.int) ∧ Scr ns ∧ SqL K H b (cs.map V.int) ∧ 0 < cs.length ∧ cs.length ≤ 50 ∧ ∀ (l : Addr) (ys : List V) (ms : List Mk) (H' : Hp), Same H H' → H l = none → H' l = some (.lst ys) → All2 (IsMk H') ys ms → ms.length ≤ 20 → (∀ m ∈ ms, m.1 < cs.length) → Q (.ref l) H'
def inv_marks (H : Hp) (a b l : Addr) (cs : List Int) (n : Nat) (f : Int) (i : Nat) (σ : St) (H1 : Hp) : Prop := ∃ (ys : List V) (ms : List Mk) (e1 e2 e3 e4 : Option V), σ = [some (.ref a), some (.ref b), some (.int n), some (.int f), some (.ref l), e1, e2, e3, e4, none] ∧ Same H H1 ∧ H1 l = some (.lst ys) ∧ All2 (IsMk H1) ys ms ∧ ms.length = i ∧ ∀ m ∈ ms, m.1 < cs.length
def mkJ (H : Hp) (a b : Addr) (cs : List Int) (n : Nat) (f w : Int) (σ : St) (H1 : Hp) : Prop := ∃ (l : Addr) (ys : List V) (ms : List Mk) (e1 e2 e3 e4 : Option V), σ = [some (.ref a), some (.ref b), some (.int n), some (.int f), some (.ref l), e1, e2, e3, e4, some (.int w)] ∧ Same H H1 ∧ H l = none ∧ H1 l = some (.lst ys) ∧ All2 (IsMk H1) ys ms ∧ ms.length ≤ 20 ∧ ∀ m ∈ ms, m.1 < cs.length
theorem mk_rows {K : PySem.W.Frag} {H1 H' : Hp} {l : Addr} {ys : List V} {ms : List Mk} (hl : H1 l = some (.lst ys)) (hM : All2 (IsMk H1) ys ms) (s : Same H1 H') : RowOk K l ys (rowOf H1) 2 H' := by
  refine ⟨SqL.of (s _ _ hl), fun x hx => ?_⟩
  obtain ⟨i, hi⟩ := List.mem_iff_getElem?.mp hx
  obtain ⟨m, _, t, p, rfl, h1, h2⟩ := hM.get hi
  rw [rowOf_tup h1]
  exact ⟨t, rfl, SqT.of (s _ _ h1), rfl⟩
theorem IsMk.put {H : Hp} {v : V} {m : Mk} {l : Addr} {ys : List V} {o : HO} (h : IsMk H v m) (hl : H l = some (.lst ys)) : IsMk (upd H l o) v m := by
  obtain ⟨t, p, e, a, b⟩ := h
  have h1 : t ≠ l := fun z => by rw [z, hl] at a; cases a
  have h2 : p ≠ l := fun z => by rw [z, hl] at b; cases b
  exact ⟨t, p, e, by rw [upd_ne h1]; exact a, by rw [upd_ne h2]; exact b⟩
theorem ok_law_marks (T : Tx K mg) : FnOk P w K mg base (CXX P w) 3 T.a_law_marks T.fd_law_marks ["_law_script", "_law_course"] (sp_marks K) := by
  refine okN T.F_law_marks sc_law_marks (fun vs H Q E h => ?_) (fun cdv A outer s H vs Q E hr h => ?_)
  · obtain ⟨a, b, ns, cs, rfl, _⟩ := h
    rfl
  · obtain ⟨a, b, ns, cs, rfl, hS, hn, hb, hc0, hc1, q⟩ := h
    refine ⟨_, (pss_cons (ps_set (i := 2) sc_law_marks.nd rfl (Or.inl rfl) (pe_call (ok_law_pick T) (hr.mono (by decide)) rfl T.m_law_pick T.F_law_pick.kp T.b_law_pick .nil passE0 (pa_cons (pv 0) (pa_cons pe_int (pa_cons pe_int pa_nil)))))
    (pss_cons (ps_if (pt_cmpR op_eq (pe_call (ok_law_pick T) (hr.mono (by decide)) rfl T.m_law_pick T.F_law_pick.kp T.b_law_pick .nil passE0 (pa_cons (pv 0) (pa_cons pe_int (pa_cons pe_int pa_nil)))) pe_int (nomark _)) (pss_one (ps_set (i := 2) sc_law_marks.nd rfl (Or.inl rfl) (pe_op op_add pe_int (pe_call (ok_law_pick T) (hr.mono (by decide)) rfl T.m_law_pick T.F_law_pick.kp T.b_law_pick .nil passE0 (pa_cons (pv 0) (pa_cons pe_int (pa_cons pe_int pa_nil))))))) pss_nil)
    (pss_cons (ps_set (i := 3) sc_law_marks.nd rfl (Or.inl rfl) (pe_ix ix_seq (pe_lst (pa_cons pe_int (pa_cons (pe_op op_pow pe_int pe_int) pa_nil))) (pe_call (ok_law_pick T) (hr.mono (by decide)) rfl T.m_law_pick T.F_law_pick.kp T.b_law_pick .nil passE0 (pa_cons (pv 0) (pa_cons pe_int (pa_cons pe_int pa_nil)))) (fun _ _ => rfl)))
    (pss_cons (ps_set (i := 4) sc_law_marks.nd rfl (Or.inl rfl) (pe_lst pa_nil))
    (pss_cons (ps_for PassesOwn.never rfl (pi_range1 rfl T.n_range (pa_cons (pv 2) pa_nil)) (pg_name (i := 5) sc_law_marks.nd rfl (Or.inl rfl)) (pss_cons (ps_set (i := 6) sc_law_marks.nd rfl (Or.inl rfl) (pe_op op_add pe_int (pe_op op_mulB pe_int (pv 5))))
        (pss_cons (ps_set (i := 7) sc_law_marks.nd rfl (Or.inl rfl) (pe_call (ok_law_pick T) (hr.mono (by decide)) rfl T.m_law_pick T.F_law_pick.kp T.b_law_pick .nil passE0 (pa_cons (pv 0) (pa_cons (pv 6) (pa_cons (pe_callB call_len (by rfl) T.n_len b_len (pa_cons (pv 1) pa_nil)) pa_nil)))))
        (pss_cons (ps_set (i := 8) sc_law_marks.nd rfl (Or.inl rfl) (pe_cmpR op_eq (pe_call (ok_law_pick T) (hr.mono (by decide)) rfl T.m_law_pick T.F_law_pick.kp T.b_law_pick .nil passE0 (pa_cons (pv 0) (pa_cons (pe_op op_add (pv 6) pe_int) (pa_cons pe_int pa_nil)))) pe_int (nomark _)))
        (pss_one (ps_expr (pe_bm PySem.F.plainAttrs_list PySem.F.slot_list_append PySem.F.type_list_append mt_append (pv 4) (pa_cons (pe_tup (pa_cons (pv 7) (pa_cons (pe_call (ok_law_word T) (hr.mono (by decide)) rfl T.m_law_word T.F_law_word.kp T.b_law_word .nil passE0 (pa_cons (pv 0) (pa_cons (pe_op op_add (pv 6) pe_int) (pa_cons (pv 3) (pa_cons (pe_ix ix_seq (pv 1) (pv 7) (fun _ _ => rfl)) (pa_cons (pv 8) pa_nil)))))) pa_nil))) pa_nil))))))))
    (pss_cons (ps_set (i := 9) sc_law_marks.nd rfl (Or.inl rfl) (pe_call (ok_law_pick T) (hr.mono (by decide)) rfl T.m_law_pick T.F_law_pick.kp T.b_law_pick .nil passE0 (pa_cons (pv 0) (pa_cons pe_int (pa_cons pe_int pa_nil)))))
    (pss_cons (ps_if (pt_cmpR op_eq (pv 9) pe_int (nomark _)) (pss_one (ps_setCompG (g := gTup K 2 (gCons (gName 0) (gCons (gName 1) gNil))) (i := 4) (CompOkG.mk (own := ["_law_turn", "_law_span"]) (fr := []) (ys := []) rfl (by decide +kernel) rfl (by decide +kernel) rfl .nil .nil rfl) rfl sc_law_marks.nd rfl rfl (pi_list (pv 4)) (fun C s2 H2 ex pn => pg_tup (n := 2) rfl (pgs_cons (pg_name (i := 0) (show (["_law_turn", "_law_span"] : List Str).Nodup by decide) rfl (.inl (lookup_relabel_local rfl)) (.inr (lookup_relabel_local rfl))) (pgs_cons (pg_name (i := 1) (show (["_law_turn", "_law_span"] : List Str).Nodup by decide) rfl (.inl (lookup_relabel_local rfl)) (.inr (lookup_relabel_local rfl))) pgs_nil))) (fun C s2 H2 ex pn => ⟨pts_nil, (pe_tup (pa_cons (pv 0) (pa_cons (pe_tup (pa_cons pe_non (pa_cons (pe_ix (ix_seqK (K := K) rfl) (pv 1) pe_int (fun _ _ => rfl)) pa_nil))) pa_nil)))⟩))) pss_nil)
    (pss_cons (ps_if (pt_cmpR op_eq (pv 9) pe_int (nomark _)) (pss_one (ps_setCompG (g := gTup K 2 (gCons (gName 0) (gCons (gName 1) gNil))) (i := 4) (CompOkG.mk (own := ["_law_turn", "_law_span"]) (fr := []) (ys := []) rfl (by decide +kernel) rfl (by decide +kernel) rfl .nil .nil rfl) rfl sc_law_marks.nd rfl rfl (pi_list (pv 4)) (fun C s2 H2 ex pn => pg_tup (n := 2) rfl (pgs_cons (pg_name (i := 0) (show (["_law_turn", "_law_span"] : List Str).Nodup by decide) rfl (.inl (lookup_relabel_local rfl)) (.inr (lookup_relabel_local rfl))) (pgs_cons (pg_name (i := 1) (show (["_law_turn", "_law_span"] : List Str).Nodup by decide) rfl (.inl (lookup_relabel_local rfl)) (.inr (lookup_relabel_local rfl))) pgs_nil))) (fun C s2 H2 ex pn => ⟨pts_nil, (pe_tup (pa_cons (pv 0) (pa_cons (pe_tup (pa_cons (pe_ix (ix_seqK (K := K) rfl) (pv 1) pe_int (fun _ _ => rfl)) (pa_cons pe_non pa_nil))) pa_nil)))⟩))) pss_nil)
    (pss_one (ps_ret (pv 4))))))))))), ?_⟩
    refine seq_cut (fun σ H' => ∃ n : Nat, σ = [some (.ref a), some (.ref b), some (.int n), none, none, none, none, none, none, none] ∧ H' = H ∧ n ≤ 20) (fun N hN => ?_) ?_
    · walk_at "gzn"
      refine ⟨a, ns, _, _, rfl, hS, hn, by omega, by omega, fun p p1 p2 => ?_⟩
      walk_at "gzn"
      exact hN _ _ ⟨p.toNat, by rw [show ((p.toNat : Nat) : Int) = p by omega], rfl, by omega⟩
    rintro σ H1 ⟨n, rfl, rfl, hn20⟩
    refine seq_cut (fun σ H' => ∃ n : Nat, σ = [some (.ref a), some (.ref b), some (.int n), none, none, none, none, none, none, none] ∧ H' = H1 ∧ n ≤ 20) (fun N hN => ?_) ?_
    · walk_at "gzn"
      refine ⟨a, ns, _, _, rfl, hS, hn, by omega, by omega, fun p p1 p2 => ?_⟩
      walk_at "gzn"
      refine ite_by (fun _ => ?_) fun _ => hN _ _ ⟨n, rfl, rfl, hn20⟩
      refine ⟨a, ns, _, _, rfl, hS, hn, by omega, by omega, fun r r1 r2 => ?_⟩
      walk_at "gzn"
      exact hN _ _ ⟨(13 + r).toNat, by rw [show (((13 + r).toNat : Nat) : Int) = 13 + r by omega], rfl, by omega⟩
    rintro σ H ⟨n, rfl, rfl, hn20⟩
    refine seq_cut (fun σ H' => ∃ f : Int, σ = [some (.ref a), some (.ref b), some (.int n), some (.int f), none, none, none, none, none, none] ∧ Same H H' ∧ 1 ≤ f ∧ f ≤ 1000000000000000000000000000000000000000000000000000000000) (fun N hN => ?_) ?_
    · walk_at "gzn"
      refine ⟨⟨by decide, by decide, by decide⟩, by decide, fun l hl => ?_⟩
      refine ⟨a, ns, _, _, rfl, (same_upd hl).seq hS, hn, by decide, by decide, fun p p1 p2 => ?_⟩
      obtain ⟨v, hv, ev⟩ := at_mem (vs := [1, 10000000000000000000000000000000000000000]) p1 p2
      refine ixL (SqL.of upd_same) ev ?_
      walk_at "gzn"
      refine hN _ _ ⟨_, rfl, same_upd hl, ?_⟩
      simp only [List.mem_cons, List.not_mem_nil, or_false] at hv
      omega
    rintro σ H1 ⟨f, rfl, s1, f1, f2⟩
    refine seq_cut (fun σ H' => ∃ l, σ = [some (.ref a), some (.ref b), some (.int n), some (.int f), some (.ref l), none, none, none, none, none] ∧ Same H H' ∧ H l = none ∧ H' l = some (.lst [])) (fun N hN => ?_) ?_
    · walk_at "gzn"
      exact ⟨by decide, fun l hl => hN _ _ ⟨l, rfl, s1.trans (same_upd hl), s1.free hl, upd_same⟩⟩
    rintro σ H2 ⟨l, rfl, s2, hl0, hl2⟩
    refine seq_cut (inv_marks H a b l cs n f n) (fun N hN => ?_) ?_
    · walk_at "gzn"
      refine ⟨by omega, by omega, ?_⟩
      rw [Int.toNat_natCast]
      refine by_range (inv_marks H a b l cs n f) ⟨[], [], _, _, _, _, rfl, s2, hl2, trivial, rfl, fun _ h => by simp at h⟩ ?_ (fun σ H' h => hN _ _ h)
      rintro i σ H3 hi ⟨ys, ms, _, _, _, _, rfl, s3, hl3, hM, hlen, hk⟩
      have yl := hM.len
      walk_at "gzn"
      refine ⟨mul600 (by decide) (by omega), ?_⟩
      refine ⟨_, lenL (s3.seq hb), ?_⟩
      rw [List.length_map]
      refine ⟨a, ns, _, _, rfl, s3.seq hS, hn, by omega, by omega, fun p p1 p2 => ?_⟩
      walk_at "gzn"
      refine ⟨a, ns, _, _, rfl, s3.seq hS, hn, by omega, by omega, fun r r1 r2 => ?_⟩
      walk_at "gzn"
      refine ⟨.inl ⟨rfl, _, SqL.of hl3⟩, ixL (s3.seq hb) (int_at p1 (by omega)) ?_⟩
      refine ⟨a, ns, _, _, _, _, rfl, s3.seq hS, hn, by omega, ⟨f1, f2⟩, fun w lo hi H5 s5 _ hw _ _ => ?_⟩
      refine ⟨line2, fun t5 ht5 => ?_⟩
      have s6 := same_upd (o := .tup [.int p, .ref w]) ht5
      have S6 := s5.trans s6
      have hl6 := S6 _ _ hl3
      obtain ⟨pn, rfl⟩ : ∃ k : Nat, p = (k : Int) := ⟨p.toNat, by omega⟩
      refine ⟨ys, hl6, Nat.lt_of_le_of_lt (by omega : ys.length ≤ 20) (by decide), ys ++ [.ref t5], ms ++ [(pn, lo, hi)], _, _, _, _, rfl, same_put hl0 (s3.trans S6), upd_same, ((hM.imp fun _ _ r => r.same S6).snoc ⟨t5, w, rfl, upd_same, s6 _ _ hw⟩).imp fun _ _ r => r.put hl6, by rw [List.length_append, List.length_singleton, hlen], fun m hm => ?_⟩
      rcases List.mem_append.mp hm with h | h
      · exact hk m h
      · obtain rfl : m = (pn, lo, hi) := by simpa using h
        show pn < cs.length
        omega
    rintro σ H3 ⟨ys, ms, e1, e2, e3, e4, rfl, s3, hl3, hM, hlen, hk⟩
    refine seq_cut (fun σ H4 => ∃ w, mkJ H a b cs n f w σ H4) (fun N hN => ?_) ?_
    · walk_at "gzn"
      refine ⟨a, ns, _, _, rfl, s3.seq hS, hn, by omega, by omega, fun p p1 p2 => ?_⟩
      walk_at "gzn"
      exact hN _ _ ⟨p, l, ys, ms, _, _, _, _, rfl, s3, hl0, hl3, hM, by omega, hk⟩
    rintro σ H4 ⟨w, l, ys, ms, e1, e2, e3, e4, rfl, s4, hl0, hl4, hM, hlen, hk⟩
    refine seq_cut (mkJ H a b cs n f w) (fun N hN => ?_) ?_
    · walk_at "gzn"
      refine ite_by (fun _ => ?_) fun _ => hN _ _ ⟨l, ys, ms, _, _, _, _, rfl, s4, hl0, hl4, hM, hlen, hk⟩
      refine ⟨⟨_, SqL.of hl4⟩, blk_row2 (row := rowOf H4) (Nat.le_trans (by have := hM.len; omega : ys.length ≤ 20) (by decide)) (compGo_new (R := fun _ x (m : Mk) => IsMk H4 x m) (R' := IsMk) (f := fun m => (m.1, (none, m.2.2))) (fun _ _ _ _ _ h => h) (fun _ _ _ _ s' h => h.same s') hM (bs := []) trivial (fun H' s' => mk_rows hl4 hM s') (fun x m _ H2 s2 r Q h => ?_) (fun x m _ H2 s2 r Q h => ?_) fun H7 zs s7 hz => ?_)⟩
      · exact h
      · obtain ⟨t, p, rfl, h1, h2⟩ := r
        show _
        unfold rowE
        dsimp only
        rw [rowOf_tup h1]
        walk_at "gzn"
        refine ixT (SqT.of (s2 _ _ h2)) rfl ⟨line2, fun t1 ht1 => ⟨line2, fun t2 ht2 => ?_⟩⟩
        have u1 := same_upd (o := .tup [.non, ev m.2.2]) ht1
        have u2 := same_upd (o := .tup [.int m.1, .ref t1]) ht2
        exact h _ _ (u1.trans u2) ⟨t2, t1, rfl, upd_same, u2 _ _ upd_same⟩
      · rw [List.nil_append] at hz
        intro l2 hl2
        have u := same_upd (o := .lst zs) hl2
        refine hN _ _ ⟨l2, zs, _, _, _, _, _, rfl, s4.trans (s7.trans u), (s4.trans s7).free hl2, upd_same, hz.imp fun _ _ r => r.same u, by rw [List.length_map]; exact hlen, fun m hm => ?_⟩
        obtain ⟨m0, h0, rfl⟩ := List.mem_map.mp hm
        exact hk m0 h0
    rintro σ H5 ⟨l, ys, ms, e1, e2, e3, e4, rfl, s5, hl0, hl5, hM, hlen, hk⟩
    refine seq_cut (mkJ H a b cs n f w) (fun N hN => ?_) ?_
    · walk_at "gzn"
      refine ite_by (fun _ => ?_) fun _ => hN _ _ ⟨l, ys, ms, _, _, _, _, rfl, s5, hl0, hl5, hM, hlen, hk⟩
      refine ⟨⟨_, SqL.of hl5⟩, blk_row2 (row := rowOf H5) (Nat.le_trans (by have := hM.len; omega : ys.length ≤ 20) (by decide)) (compGo_new (R := fun _ x (m : Mk) => IsMk H5 x m) (R' := IsMk) (f := fun m => (m.1, (m.2.1, none))) (fun _ _ _ _ _ h => h) (fun _ _ _ _ s' h => h.same s') hM (bs := []) trivial (fun H' s' => mk_rows hl5 hM s') (fun x m _ H2 s2 r Q h => ?_) (fun x m _ H2 s2 r Q h => ?_) fun H7 zs s7 hz => ?_)⟩
      · exact h
      · obtain ⟨t, p, rfl, h1, h2⟩ := r
        show _
        unfold rowE
        dsimp only
        rw [rowOf_tup h1]
        walk_at "gzn"
        refine ixT (SqT.of (s2 _ _ h2)) rfl ⟨line2, fun t1 ht1 => ⟨line2, fun t2 ht2 => ?_⟩⟩
        have u1 := same_upd (o := .tup [ev m.2.1, .non]) ht1
        have u2 := same_upd (o := .tup [.int m.1, .ref t1]) ht2
        exact h _ _ (u1.trans u2) ⟨t2, t1, rfl, upd_same, u2 _ _ upd_same⟩
      · rw [List.nil_append] at hz
        intro l2 hl2
        have u := same_upd (o := .lst zs) hl2
        refine hN _ _ ⟨l2, zs, _, _, _, _, _, rfl, s5.trans (s7.trans u), (s5.trans s7).free hl2, upd_same, hz.imp fun _ _ r => r.same u, by rw [List.length_map]; exact hlen, fun m hm => ?_⟩
        obtain ⟨m0, h0, rfl⟩ := List.mem_map.mp hm
        exact hk m0 h0
    rintro σ H6 ⟨l, ys, ms, e1, e2, e3, e4, rfl, s6, hl0, hl6, hM, hlen, hk⟩
    walk_at "gzn"
    exact q l ys ms H6 s6 hl0 hl6 hM hlen hk
end
section
seal L2.PE L2.PS L2.PSs L2.PA
variable {P : Program} {w : World} {K : PySem.W.Frag} {mg : Str → Option Value} {base : Heap}
def sp_held (K : PySem.W.Frag) : Sp := fun vs H Q _ => ∃ (a b c : Addr) (cs : List Int) (xs ys : List V) (ps : List P2) (ms : List Mk), vs = [.ref a, .ref b, .ref c] ∧ H a = some (.lst (cs.map V.int)) ∧ SqL K H b xs ∧ Pts H xs ps ∧ SqL K H c ys ∧ All2 (IsMk H) ys ms ∧ cs.length = ps.length + 1 ∧ ps.length ≤ 41 ∧ (∀ m ∈ ms, m.1 ≤ ps.length) ∧ isCrs ps (crsL cs) ∧ meets ms (crsL cs) ∧ Q (.bl true) H
def inv_h (H : Hp) (a b c : Addr) (_ : Nat) (σ : St) (H1 : Hp) : Prop := ∃ (e1 e2 e3 e4 : Option V), σ = [some (.ref a), some (.ref b), some (.ref c), e1, e2, e3, e4] ∧ H1 = H
theorem ok_law_held (T : Tx K mg) : FnOk P w K mg base (CXX P w) 2 T.a_law_held T.fd_law_held ["_law_found", "_law_steps", "_law_marks_here"] (sp_held K) := by
  refine okN T.F_law_held sc_law_held (fun vs H Q E h => ?_) (fun cdv A outer s H vs Q E hr h => ?_)
  · obtain ⟨a, b, c, cs, xs, ys, ps, ms, rfl, _⟩ := h
    rfl
  · obtain ⟨a, b, c, cs, xs, ys, ps, ms, rfl, ha, hb, hP, hc, hM, hcl, hn, ht, hcr, hme, q⟩ := h
    refine ⟨_, (pss_cons (ps_if (PW.pt (pw_or (pt_not (pt_val (pe_callB call_isiA (by rfl) T.n_isinstance b_isinstance (pa_cons (pv 0) (pa_cons (pe_bltn (v := .ty "list") rfl T.n_list b_list rfl) pa_nil))))) (pw_or1 (pt_cmpR op_ne (pe_callB call_len (by rfl) T.n_len b_len (pa_cons (pv 0) pa_nil)) (pe_op op_add (pe_callB call_len (by rfl) T.n_len b_len (pa_cons (pv 1) pa_nil)) pe_int) (nomark _))))) (pss_one (ps_ret pe_bl)) pss_nil)
    (pss_cons (ps_for PassesOwn.never rfl (pi_list (pv 0)) (pg_name (i := 3) sc_law_held.nd rfl (Or.inl rfl)) (pss_one (ps_if (pt_not (pt_val (pe_call (ok_law_whole T) (hr.mono (by decide)) rfl T.m_law_whole T.F_law_whole.kp T.b_law_whole .nil passE0 (pa_cons (pv 3) pa_nil)))) (pss_one (ps_ret pe_bl)) pss_nil)))
    (pss_cons (ps_for PassesOwn.never rfl (pi_range1 rfl T.n_range (pa_cons (pe_callB call_len (by rfl) T.n_len b_len (pa_cons (pv 1) pa_nil)) pa_nil)) (pg_name (i := 4) sc_law_held.nd rfl (Or.inl rfl)) (pss_one (ps_if (pt_not (pt_val (pe_call (ok_law_in T) (hr.mono (by decide)) rfl T.m_law_in T.F_law_in.kp T.b_law_in .nil passE0 (pa_cons (pe_ix ix_seq (pv 1) (pv 4) (fun _ _ => rfl)) (pa_cons (pe_op op_sub (pe_ix ix_seq (pv 0) (pe_op op_add (pv 4) pe_int) (fun _ _ => rfl)) (pe_ix ix_seq (pv 0) (pv 4) (fun _ _ => rfl))) pa_nil))))) (pss_one (ps_ret pe_bl)) pss_nil)))
    (pss_cons (ps_for PassesOwn.never rfl (pi_list (pv 2)) (pg_tup rfl (pgs_cons (pg_name (i := 5) sc_law_held.nd rfl (Or.inl rfl)) (pgs_cons (pg_name (i := 6) sc_law_held.nd rfl (Or.inl rfl)) pgs_nil))) (pss_one (ps_if (pt_not (pt_val (pe_call (ok_law_in T) (hr.mono (by decide)) rfl T.m_law_in T.F_law_in.kp T.b_law_in .nil passE0 (pa_cons (pv 6) (pa_cons (pe_ix ix_seq (pv 0) (pv 5) (fun _ _ => rfl)) pa_nil))))) (pss_one (ps_ret pe_bl)) pss_nil)))
    (pss_one (ps_ret pe_bl)))))), ?_⟩
    have l1 := hP.len
    have l2 := hM.len
    refine seq_cut (inv_h H a b c 0) (fun N hN => ?_) ?_
    · walk_at "gzn"
      refine isi_lst ha ?_
      walk_at "gzn"
      refine ⟨_, lenL (SqL.of ha), _, lenL hb, ?_⟩
      rw [List.length_map, l1, hcl]
      walk_at "gzn"
      rw [if_neg (fun z => z (by omega))]
      exact hN _ _ ⟨_, _, _, _, rfl, rfl⟩
    rintro σ H1 ⟨e1, e2, e3, e4, rfl, rfl⟩
    refine seq_cut (inv_h H1 a b c 0) (fun N hN => ?_) ?_
    · walk_at "gzn"
      refine ⟨⟨_, SqL.of ha⟩, by_list (xs := cs.map V.int) (inv_h H1 a b c) ⟨_, _, _, _, rfl, rfl⟩ ?_ ?_ (fun σ H2 h => hN _ _ h)⟩
      · rintro i σ H2 _ ⟨_, _, _, _, _, rfl⟩
        exact SqL.of ha
      · rintro i x σ H2 hx ⟨e1, e2, e3, e4, rfl, rfl⟩
        rw [List.getElem?_map] at hx
        obtain ⟨n, _, rfl⟩ := Option.map_eq_some_iff.mp hx
        walk_at "gzn"
        refine ⟨_, rfl, .inr ⟨_, rfl⟩, ?_⟩
        simp only [isWhole]
        walk_at "gzn"
        exact ⟨_, _, _, _, rfl, rfl⟩
    rintro σ H2 ⟨e1, e2, e3, e4, rfl, rfl⟩
    refine seq_cut (inv_h H2 a b c 0) (fun N hN => ?_) ?_
    · walk_at "gzn"
      refine ⟨_, lenL hb, ?_⟩
      rw [l1]
      refine ⟨by omega, by omega, ?_⟩
      rw [Int.toNat_natCast]
      refine by_range (inv_h H2 a b c) ⟨_, _, _, _, rfl, rfl⟩ ?_ (fun σ H3 h => hN _ _ h)
      rintro i σ H3 hi ⟨e1, e2, e3, e4, rfl, rfl⟩
      obtain ⟨w, hw, tw, rfl, hw2⟩ := hP.at (ptD_get hi)
      walk_at "gzn"
      rw [show (0 : Int) + (i : Int) = ((i : Nat) : Int) by omega]
      refine ixL hb (atI_nat hw) (ixL (SqL.of ha) (int_at (by omega) (by omega)) (ixL (SqL.of ha) (int_at (by omega) (by omega)) ?_))
      walk_at "gzn"
      obtain ⟨k1, k2⟩ := hcr i hi
      have e : hold (some (ptD ps i).1) (some (ptD ps i).2) (cs.getD ((i : Int) + 1).toNat 0 - cs.getD ((i : Nat) : Int).toNat 0) = true := by
        rw [show ((i : Int) + 1).toNat = i + 1 by omega, Int.toNat_natCast]
        refine hold_iff.mpr ⟨fun z hz => ?_, fun z hz => ?_⟩
        · cases hz; exact k1
        · cases hz; exact k2
      refine ⟨tw, some (ptD ps i).1, some (ptD ps i).2, _, rfl, SqT.of hw2, _, rfl, ?_⟩
      rw [e, if_neg (by simp)]
      exact ⟨_, _, _, _, rfl, rfl⟩
    rintro σ H3 ⟨e1, e2, e3, e4, rfl, rfl⟩
    refine seq_cut (inv_h H3 a b c 0) (fun N hN => ?_) ?_
    · walk_at "gzn"
      refine ⟨⟨_, hc⟩, by_list (xs := ys) (inv_h H3 a b c) ⟨_, _, _, _, rfl, rfl⟩ ?_ ?_ (fun σ H2 h => hN _ _ h)⟩
      · rintro i σ H2 _ ⟨_, _, _, _, _, rfl⟩
        exact hc
      · rintro i x σ H2 hx ⟨e1, e2, e3, e4, rfl, rfl⟩
        obtain ⟨m, hm0, tp, sp, rfl, h1, h2⟩ := hM.get hx
        have hmm := List.mem_of_getElem? hm0
        have hmt := ht m hmm
        refine gTup2 (SqT.of h1) ?_
        walk_at "gzn"
        refine ixL (SqL.of ha) (int_at (by omega) (by omega)) ?_
        walk_at "gzn"
        have e : hold m.2.1 m.2.2 (cs.getD ((m.1 : Nat) : Int).toNat 0) = true := by
          rw [Int.toNat_natCast]
          exact inS_hold.mp (hme m hmm)
        refine ⟨sp, m.2.1, m.2.2, _, rfl, SqT.of h2, _, rfl, ?_⟩
        rw [e, if_neg (by simp)]
        exact ⟨_, _, _, _, rfl, rfl⟩
    rintro σ H4 ⟨e1, e2, e3, e4, rfl, rfl⟩
    walk_at "gzn"
    exact q
def sp_pair (K : PySem.W.Frag) : Sp := fun vs H Q _ => ∃ (p b c : Addr) (xs ys : List V) (ps : List P2) (ms : List Mk) (i j : Nat) (m n : Mk), vs = [.ref p, .ref b, .ref c] ∧ H p = some (.tup [.int i, .int j]) ∧ SqL K H b xs ∧ Pts H xs ps ∧ SqL K H c ys ∧ All2 (IsMk H) ys ms ∧ ps.length ≤ 41 ∧ (∀ m ∈ ms, m.1 ≤ ps.length) ∧ ms[i]? = some m ∧ ms[j]? = some n ∧ clash ps m n ∧ Q (.bl true) H
def inv_pr (H : Hp) (p b c : Addr) (_ : Nat) (σ : St) (H1 : Hp) : Prop := ∃ (e1 : Option V), σ = [some (.ref p), some (.ref b), some (.ref c), e1] ∧ H1 = H
theorem ok_law_pair (T : Tx K mg) : FnOk P w K mg base (CXX P w) 3 T.a_law_pair T.fd_law_pair ["_law_found", "_law_steps", "_law_marks_here"] (sp_pair K) := by
  refine okN T.F_law_pair sc_law_pair (fun vs H Q E h => ?_) (fun cdv A outer s H vs Q E hr h => ?_)
  · obtain ⟨p, b, c, xs, ys, ps, ms, i, j, m, n, rfl, _⟩ := h
    rfl
  · obtain ⟨p, b, c, xs, ys, ps, ms, i, j, m, n, rfl, hp, hb, hP, hc, hM, hn, ht, hi, hj, hcl, q⟩ := h
    refine ⟨_, (pss_cons (ps_if (PW.pt (pw_or (pt_not (pt_val (pe_callB call_isiA (by rfl) T.n_isinstance b_isinstance (pa_cons (pv 0) (pa_cons (pe_bltn (v := .ty "tuple") rfl T.n_tuple b_tuple rfl) pa_nil))))) (pw_or1 (pt_cmpR op_ne (pe_callB call_len (by rfl) T.n_len b_len (pa_cons (pv 0) pa_nil)) pe_int (nomark _))))) (pss_one (ps_ret pe_bl)) pss_nil)
    (pss_cons (ps_for PassesOwn.never rfl (pi_tup (pv 0)) (pg_name (i := 3) sc_law_pair.nd rfl (Or.inl rfl)) (pss_one (ps_if (PW.pt (pw_or (pt_not (pt_val (pe_call (ok_law_whole T) (hr.mono (by decide)) rfl T.m_law_whole T.F_law_whole.kp T.b_law_whole .nil passE0 (pa_cons (pv 3) pa_nil)))) (pw_or (pt_cmpR op_lt (pv 3) pe_int (nomark _)) (pw_or1 (pt_cmpR op_ge (pv 3) (pe_callB call_len (by rfl) T.n_len b_len (pa_cons (pv 2) pa_nil)) (nomark _)))))) (pss_one (ps_ret pe_bl)) pss_nil)))
    (pss_one (ps_ret (pe_call (ok_law_clash T) (hr.mono (by decide)) rfl T.m_law_clash T.F_law_clash.kp T.b_law_clash .nil passE0 (pa_cons (pv 1) (pa_cons (pe_ix ix_seq (pv 2) (pe_ix ix_seq (pv 0) pe_int (fun _ _ => rfl)) (fun _ _ => rfl)) (pa_cons (pe_ix ix_seq (pv 2) (pe_ix ix_seq (pv 0) pe_int (fun _ _ => rfl)) (fun _ _ => rfl)) pa_nil)))))))), ?_⟩
    have l1 := hP.len
    have l2 := hM.len
    have i1 := (List.getElem?_eq_some_iff.mp hi).1
    have j1 := (List.getElem?_eq_some_iff.mp hj).1
    refine seq_cut (inv_pr H p b c 0) (fun N hN => ?_) ?_
    · walk_at "gzn"
      refine isi_tup hp ?_
      walk_at "gzn"
      refine ⟨_, lenT (SqT.of hp), ?_⟩
      walk_at "gzn"
      exact hN _ _ ⟨_, rfl, rfl⟩
    rintro σ H1 ⟨e1, rfl, rfl⟩
    refine seq_cut (inv_pr H1 p b c 0) (fun N hN => ?_) ?_
    · walk_at "gzn"
      refine ⟨⟨_, SqT.of hp⟩, by_tup (xs := [.int i, .int j]) (inv_pr H1 p b c) ⟨_, rfl, rfl⟩ ?_ ?_ (fun σ H2 h => hN _ _ h)⟩
      · rintro k σ H2 _ ⟨_, _, rfl⟩
        exact SqT.of hp
      · rintro k x σ H2 hx ⟨e1, rfl, rfl⟩
        obtain ⟨z, rfl, hz⟩ : ∃ z : Nat, x = .int z ∧ z < ms.length := by
          match k, hx with
          | 0, hx => cases hx; exact ⟨i, rfl, i1⟩
          | 1, hx => cases hx; exact ⟨j, rfl, j1⟩
        walk_at "gzn"
        refine ⟨_, rfl, .inr ⟨_, rfl⟩, ?_⟩
        simp only [isWhole]
        walk_at "gzn"
        rw [if_neg (by omega)]
        refine ⟨_, lenL hc, ?_⟩
        rw [if_neg (by omega)]
        exact ⟨_, rfl, rfl⟩
    rintro σ H2 ⟨e1, rfl, rfl⟩
    obtain ⟨u, hu, ru⟩ := hM.at hi
    obtain ⟨v, hv, rv⟩ := hM.at hj
    walk_at "gzn"
    refine ixT (SqT.of hp) rfl (ixL hc (atI_nat hu) (ixT (SqT.of hp) rfl (ixL hc (atI_nat hv) ?_)))
    refine ⟨b, xs, ps, u, v, m, n, rfl, hb, hP, by omega, ru, rv, ht m (List.mem_of_getElem? hi), ht n (List.mem_of_getElem? hj), ?_⟩
    have e : clashB ps m n = true := by
      obtain ⟨h, l, e1, e2, hlt⟩ := hcl
      unfold clashB
      rw [e1, e2]
      exact decide_eq_true (by omega)
    rw [e]
    exact q
end
section
seal L2.PE L2.PS L2.PSs L2.PA
variable {P : Program} {w : World} {K : PySem.W.Frag} {mg : Str → Option Value} {base : Heap}
def sp_asked (K : PySem.W.Frag) : Sp := fun vs H Q _ => ∃ (b c : Addr) (xs ys : List V) (ps : List P2) (ms : List Mk) (t : Nat) (z : Int) (d : Bool), vs = [.ref b, .ref c, .int t, .int z, .bl d] ∧ SqL K H b xs ∧ Pts H xs ps ∧ H c = some (.lst ys) ∧ All2 (IsMk H) ys ms ∧ okPc ps ∧ ps.length ≤ 41 ∧ ms.length ≤ 20 ∧ (∀ m ∈ ms, m.1 ≤ ps.length) ∧ t ≤ ps.length ∧ (d = true ↔ ∃ c, isCrs ps c ∧ meets (ms ++ [(t, (some z, some z))]) c) ∧ ∀ H', Same H H' → Q (.bl true) H'
theorem ok_law_asked (T : Tx K mg) : FnOk P w K mg base (CXX P w) 6 T.a_law_asked T.fd_law_asked ["_law_steps", "_law_marks_here", "_law_turn", "_law_number", "_law_due"] (sp_asked K) := by
  refine okN T.F_law_asked sc_law_asked (fun vs H Q E h => ?_) (fun cdv A outer s H vs Q E hr h => ?_)
  · obtain ⟨b, c, xs, ys, ps, ms, t, z, d, rfl, _⟩ := h
    rfl
  · obtain ⟨b, c, xs, ys, ps, ms, t, z, d, rfl, hb, hP, hc, hM, hok, hn, hm, ht, htt, hd, q⟩ := h
    refine ⟨_, (pss_cons (ps_set (i := 5) sc_law_asked.nd rfl (Or.inl rfl) (pe_op op_cat (pv 1) (pe_lst (pa_cons (pe_tup (pa_cons (pv 2) (pa_cons (pe_tup (pa_cons (pv 3) (pa_cons (pv 3) pa_nil))) pa_nil))) pa_nil))))
    (pss_cons (ps_set (i := 6) sc_law_asked.nd rfl (Or.inl rfl) (pe_call (ok_course_in T) (hr.mono (by decide)) rfl T.m_course_in T.F_course_in.kp T.b_course_in .nil passE0 (pa_cons (pe_callTy call_list_of (by rfl) T.n_list b_list (pa_cons (pv 0) pa_nil)) (pa_cons (pe_callTy call_list_of (by rfl) T.n_list b_list (pa_cons (pv 5) pa_nil)) pa_nil))))
    (pss_cons (ps_if (pt_val (pv 4)) (pss_one (ps_ret (pe_call (ok_law_held T) (hr.mono (by decide)) rfl T.m_law_held T.F_law_held.kp T.b_law_held .nil passE0 (pa_cons (pv 6) (pa_cons (pv 0) (pa_cons (pv 5) pa_nil)))))) pss_nil)
    (pss_one (ps_ret (pe_and (pe_cmp (pc_isN (pv 6))) (pe_one (pe_call (ok_law_pair T) (hr.mono (by decide)) rfl T.m_law_pair T.F_law_pair.kp T.b_law_pair .nil passE0 (pa_cons (pe_call (ok_clashing T) (hr.mono (by decide)) rfl T.m_clashing T.F_clashing.kp T.b_clashing .nil passE0 (pa_cons (pe_callTy call_list_of (by rfl) T.n_list b_list (pa_cons (pv 0) pa_nil)) (pa_cons (pe_callTy call_list_of (by rfl) T.n_list b_list (pa_cons (pv 5) pa_nil)) pa_nil))) (pa_cons (pv 0) (pa_cons (pv 5) pa_nil))))))))))), ?_⟩
    have l1 := hP.len
    have l2 := hM.len
    refine seq_cut (fun σ H1 => ∃ e zs, σ = [some (.ref b), some (.ref c), some (.int t), some (.int z), some (.bl d), some (.ref e), none] ∧ Same H H1 ∧ H1 e = some (.lst zs) ∧ All2 (IsMk H1) zs (ms ++ [(t, (some z, some z))])) (fun N hN => ?_) ?_
    · walk_at "gzn"
      refine ⟨line2, fun t1 h1 => ⟨line2, fun t2 h2 => ⟨by decide, fun l1 hl1 => ?_⟩⟩⟩
      have u1 := same_upd (o := .tup [.int z, .int z]) h1
      have u2 := same_upd (o := .tup [.int t, .ref t1]) h2
      have u3 := same_upd (o := .lst [.ref t2]) hl1
      have U := u1.trans (u2.trans u3)
      refine ⟨ys, U _ _ hc, [.ref t2], upd_same, Nat.le_trans (by show ys.length + 1 ≤ 30; omega) (by decide), fun e he => ?_⟩
      have u4 := same_upd (o := .lst (ys ++ [.ref t2])) he
      exact hN _ _ ⟨e, _, rfl, U.trans u4, upd_same, (hM.imp fun _ _ r => r.same (U.trans u4)).snoc ⟨t2, t1, rfl, (u3.trans u4) _ _ upd_same, (u2.trans (u3.trans u4)) _ _ upd_same⟩⟩
    rintro σ H1 ⟨e, zs, rfl, s1, he, hZ⟩
    have ml : (ms ++ [((t, (some z, some z)) : Mk)]).length ≤ 21 := by rw [List.length_append, List.length_singleton]; omega
    have mt : ∀ m ∈ ms ++ [((t, (some z, some z)) : Mk)], m.1 ≤ ps.length := fun m hm => by
      rcases List.mem_append.mp hm with h | h
      · exact ht m h
      · obtain rfl : m = (t, (some z, some z)) := by simpa using h
        exact htt
    generalize eM : ms ++ [((t, (some z, some z)) : Mk)] = mm at hZ ml mt hd
    refine seq_cut (fun σ H2 => ∃ f, σ = [some (.ref b), some (.ref c), some (.int t), some (.int z), some (.bl d), some (.ref e), some f] ∧ Same H1 H2 ∧ ((f = .non ∧ ¬ ∃ c, isCrs ps c ∧ meets mm c) ∨ ∃ (a : Addr) (cs : List Int), f = .ref a ∧ H2 a = some (.lst (cs.map V.int)) ∧ cs.length = ps.length + 1 ∧ isCrs ps (crsL cs) ∧ meets mm (crsL cs))) (fun N hN => ?_) ?_
    · walk_at "gzn"
      refine ⟨xs, .inl (s1.seq hb), fun x hx => ⟨zs, .inl (SqL.of ((same_upd hx) _ _ he)), fun y hy => ?_⟩⟩
      have u1 := same_upd (o := .lst xs) hx
      have u2 := same_upd (o := .lst zs) hy
      have U := u1.trans u2
      exact ⟨x, y, xs, zs, ps, mm, rfl, SqL.of (u2 _ _ upd_same), hP.same (s1.trans U), SqL.of upd_same, hZ.imp fun _ _ r => r.same U, hok, by omega, by omega, mt, fun hc H2 s2 => hN _ _ ⟨_, rfl, U.trans s2, .inl ⟨rfl, hc⟩⟩, fun l cs H2 s2 _ hl hcl hcr hme => hN _ _ ⟨_, rfl, U.trans s2, .inr ⟨l, cs, rfl, hl, hcl, hcr, hme⟩⟩⟩
    rintro σ H2 ⟨f, rfl, s2, hf⟩
    have S2 := s1.trans s2
    have hZ2 := hZ.imp fun _ _ r => r.same s2
    cases d with
    | true =>
      have hex := hd.mp rfl
      rcases hf with ⟨rfl, hno⟩ | ⟨a, cs, rfl, ha, hcl, hcr, hme⟩
      · exact absurd hex hno
      walk_at "gzn"
      exact ⟨a, b, e, cs, xs, zs, ps, mm, rfl, ha, S2.seq hb, hP.same S2, SqL.of (s2 _ _ he), hZ2, hcl, hn, mt, hcr, hme, q _ S2⟩
    | false =>
      have hno : ¬ ∃ c, isCrs ps c ∧ meets mm c := fun z => by cases hd.mpr z
      rcases hf with ⟨rfl, _⟩ | ⟨a, cs, rfl, ha, hcl, hcr, hme⟩
      · walk_at "gzn"
        refine ⟨xs, .inl (S2.seq hb), fun x hx => ⟨zs, .inl (SqL.of ((same_upd hx) _ _ (s2 _ _ he))), fun y hy => ?_⟩⟩
        have u1 := same_upd (o := .lst xs) hx
        have u2 := same_upd (o := .lst zs) hy
        have U := S2.trans (u1.trans u2)
        refine ⟨x, y, xs, zs, ps, mm, rfl, SqL.of (u2 _ _ upd_same), hP.same U, SqL.of upd_same, hZ2.imp fun _ _ r => r.same (u1.trans u2), hok, by omega, by omega, mt, fun hc => absurd hc hno, fun i j m n hi hj hcl p H3 s3 hp => ?_⟩
        have U3 := U.trans s3
        exact ⟨p, b, e, xs, zs, ps, mm, i, j, m, n, rfl, hp, U3.seq hb, hP.same U3, SqL.of (s3 _ _ ((u1.trans u2) _ _ (s2 _ _ he))), hZ2.imp fun _ _ r => r.same ((u1.trans u2).trans s3), hn, mt, hi, hj, hcl, q _ U3⟩
      · exact absurd ⟨_, hcr, hme⟩ hno
def sp_spans (K : PySem.W.Frag) : Sp := fun vs H Q _ => ∃ (a : Addr) (zs : List V) (ss : List S2) (n : Nat), vs = [.ref a, .int n] ∧ H a = some (.lst zs) ∧ All2 (IsS2 H) zs ss ∧ ss.length = n ∧ Q (.bl true) H
def inv_sp (H : Hp) (a : Addr) (n : Nat) (_ : Nat) (σ : St) (H1 : Hp) : Prop := ∃ (e1 e2 : Option V), σ = [some (.ref a), some (.int n), e1, e2] ∧ H1 = H
def inv_sq (H : Hp) (a : Addr) (n : Nat) (v : V) (_ : Nat) (σ : St) (H1 : Hp) : Prop := ∃ (e2 : Option V), σ = [some (.ref a), some (.int n), some v, e2] ∧ H1 = H
theorem ok_law_spans (T : Tx K mg) : FnOk P w K mg base (CXX P w) 2 T.a_law_spans T.fd_law_spans ["_law_found", "_law_many_here"] (sp_spans K) := by
  refine okN T.F_law_spans sc_law_spans (fun vs H Q E h => ?_) (fun cdv A outer s H vs Q E hr h => ?_)
  · obtain ⟨a, zs, ss, n, rfl, _⟩ := h
    rfl
  · obtain ⟨a, zs, ss, n, rfl, ha, hz, hn, q⟩ := h
    refine ⟨_, (pss_cons (ps_if (PW.pt (pw_or (pt_not (pt_val (pe_callB call_isiA (by rfl) T.n_isinstance b_isinstance (pa_cons (pv 0) (pa_cons (pe_bltn (v := .ty "list") rfl T.n_list b_list rfl) pa_nil))))) (pw_or1 (pt_cmpR op_ne (pe_callB call_len (by rfl) T.n_len b_len (pa_cons (pv 0) pa_nil)) (pv 1) (nomark _))))) (pss_one (ps_ret pe_bl)) pss_nil)
    (pss_cons (ps_for PassesOwn.never rfl (pi_list (pv 0)) (pg_name (i := 2) sc_law_spans.nd rfl (Or.inl rfl)) (pss_cons (ps_if (PW.pt (pw_or (pt_not (pt_val (pe_callB call_isiA (by rfl) T.n_isinstance b_isinstance (pa_cons (pv 2) (pa_cons (pe_bltn (v := .ty "tuple") rfl T.n_tuple b_tuple rfl) pa_nil))))) (pw_or1 (pt_cmpR op_ne (pe_callB call_len (by rfl) T.n_len b_len (pa_cons (pv 2) pa_nil)) pe_int (nomark _))))) (pss_one (ps_ret pe_bl)) pss_nil)
        (pss_one (ps_for PassesOwn.never rfl (pi_tup (pv 2)) (pg_name (i := 3) sc_law_spans.nd rfl (Or.inl rfl)) (pss_one (ps_if (PW.pt (pw_and (pt_cmp (pc_notN (pv 3))) (pw_and1 (pt_not (pt_val (pe_call (ok_law_whole T) (hr.mono (by decide)) rfl T.m_law_whole T.F_law_whole.kp T.b_law_whole .nil passE0 (pa_cons (pv 3) pa_nil))))))) (pss_one (ps_ret pe_bl)) pss_nil))))))
    (pss_one (ps_ret pe_bl)))), ?_⟩
    have l1 := hz.len
    refine seq_cut (inv_sp H a n 0) (fun N hN => ?_) ?_
    · walk_at "gzn"
      refine isi_lst ha ?_
      walk_at "gzn"
      refine ⟨_, lenL (SqL.of ha), ?_⟩
      rw [l1, hn]
      walk_at "gzn"
      exact hN _ _ ⟨_, _, rfl, rfl⟩
    rintro σ H1 ⟨e1, e2, rfl, rfl⟩
    refine seq_cut (inv_sp H1 a n 0) (fun N hN => ?_) ?_
    · walk_at "gzn"
      refine ⟨⟨_, SqL.of ha⟩, by_list (xs := zs) (inv_sp H1 a n) ⟨_, _, rfl, rfl⟩ ?_ ?_ (fun σ H2 h => hN _ _ h)⟩
      · rintro i σ H2 _ ⟨_, _, _, rfl⟩
        exact SqL.of ha
      · rintro i x σ H2 hx ⟨e1, e2, rfl, rfl⟩
        obtain ⟨s, _, p, rfl, hp⟩ := hz.get hx
        obtain ⟨lo, hi⟩ := s
        walk_at "gzn"
        refine isi_tup hp ?_
        walk_at "gzn"
        refine ⟨_, lenT (SqT.of hp), ?_⟩
        walk_at "gzn"
        refine ⟨⟨_, SqT.of hp⟩, by_tup (xs := [ev lo, ev hi]) (inv_sq H2 a n (.ref p)) ⟨_, rfl, rfl⟩ ?_ ?_ ?_⟩
        · rintro i σ H3 _ ⟨_, _, rfl⟩
          exact SqT.of hp
        · rintro i x σ H3 hx ⟨e, rfl, rfl⟩
          obtain ⟨n, rfl⟩ : ∃ n : En, x = ev n := by
            match i, hx with
            | 0, hx => cases hx; exact ⟨lo, rfl⟩
            | 1, hx => cases hx; exact ⟨hi, rfl⟩
          cases n with
          | none =>
            walk_at "gzn"
            exact ⟨_, rfl, rfl⟩
          | some n =>
            walk_at "gzn"
            refine ⟨_, rfl, .inr ⟨_, rfl⟩, ?_⟩
            simp only [isWhole]
            walk_at "gzn"
            exact ⟨_, rfl, rfl⟩
        · rintro σ H3 ⟨e, rfl, rfl⟩
          exact ⟨_, _, rfl, rfl⟩
    rintro σ H2 ⟨e1, e2, rfl, rfl⟩
    walk_at "gzn"
    exact q
end
section
seal L2.PE L2.PS L2.PSs L2.PA
variable {P : Program} {w : World} {K : PySem.W.Frag} {mg : Str → Option Value} {base : Heap}
def IsNd (H : Hp) (v : V) (r : Int × Bool) : Prop := ∃ t, v = .ref t ∧ H t = some (.tup [.int r.1, .bl r.2])
theorem IsNd.same {H H' : Hp} {v : V} {r : Int × Bool} (h : IsNd H v r) (s : Same H H') : IsNd H' v r := let ⟨t, e, a⟩ := h; ⟨t, e, s _ _ a⟩
def okNd (s : S2) (r : Int × Bool) : Prop := r.2 = true ↔ inS s r.1
theorem nd_in {s : S2} {x : Int} (h : inS s x) : okNd s (x, true) := ⟨fun _ => h, fun _ => rfl⟩
theorem nd_out {s : S2} {x : Int} (h : ¬ inS s x) : okNd s (x, false) := ⟨fun z => (nomatch z), fun z => absurd z h⟩
theorem IsNd.put {H : Hp} {v : V} {r : Int × Bool} {l : Addr} {ys : List V} {o : HO} (h : IsNd H v r) (hl : H l = some (.lst ys)) : IsNd (upd H l o) v r := by
  obtain ⟨t, e, a⟩ := h
  exact ⟨t, e, by rw [upd_ne fun z => by rw [z, hl] at a; cases a]; exact a⟩
def nbI (s : S2) (H : Hp) (j : Nat) (l : Addr) (H1 : Hp) : Prop := ∃ (xs : List V) (rs : List (Int × Bool)), Same H H1 ∧ H l = none ∧ H1 l = some (.lst xs) ∧ All2 (IsNd H1) xs rs ∧ rs.length ≤ j ∧ ∀ r ∈ rs, okNd s r
theorem nb_app {s : S2} {H : Hp} {j : Nat} {l : Addr} {H1 : Hp} (h : nbI s H j l H1) {x : Int} {d : Bool} (hx : okNd s (x, d)) {t : Addr} (ht : H1 t = none) : ∃ xs, upd H1 t (.tup [.int x, .bl d]) l = some (.lst xs) ∧ xs.length ≤ j ∧ nbI s H (j + 1) l (upd (upd H1 t (.tup [.int x, .bl d])) l (.lst (xs ++ [.ref t]))) := by
  obtain ⟨xs, rs, s1, hl0, hl, hA, hj, hr⟩ := h
  have u := same_upd (o := .tup [.int x, .bl d]) ht
  have hl2 := u _ _ hl
  refine ⟨xs, hl2, by rw [hA.len]; exact hj, xs ++ [.ref t], rs ++ [(x, d)], same_put hl0 (s1.trans u), hl0, upd_same, ((hA.imp fun _ _ r => r.same u).snoc ⟨t, rfl, upd_same⟩).imp fun _ _ r => r.put hl2, by rw [List.length_append, List.length_singleton]; omega, fun r hr' => ?_⟩
  rcases List.mem_append.mp hr' with z | z
  · exact hr r z
  · obtain rfl : r = (x, d) := by simpa using z
    exact hx
theorem nb_cat {s : S2} {H : Hp} {j : Nat} {l : Addr} {H1 : Hp} (h : nbI s H j l H1) {x y : Int} {d e : Bool} (hx : okNd s (x, d)) (hy : okNd s (y, e)) {t t' l' : Addr} (ht : H1 t = none) (ht' : upd H1 t (.tup [.int x, .bl d]) t' = none) (hl' : upd (upd H1 t (.tup [.int x, .bl d])) t' (.tup [.int y, .bl e]) l' = none) :
    ∃ xs, upd (upd (upd H1 t (.tup [.int x, .bl d])) t' (.tup [.int y, .bl e])) l' (.lst [.ref t, .ref t']) l = some (.lst xs) ∧ xs.length ≤ j ∧ ∀ m, upd (upd (upd H1 t (.tup [.int x, .bl d])) t' (.tup [.int y, .bl e])) l' (.lst [.ref t, .ref t']) m = none → nbI s H (j + 2) m (upd (upd (upd (upd H1 t (.tup [.int x, .bl d])) t' (.tup [.int y, .bl e])) l' (.lst [.ref t, .ref t'])) m (.lst (xs ++ [.ref t, .ref t']))) := by
  obtain ⟨xs, rs, s1, hl0, hl, hA, hj, hr⟩ := h
  have u1 := same_upd (o := .tup [.int x, .bl d]) ht
  have u2 := same_upd (o := .tup [.int y, .bl e]) ht'
  have u3 := same_upd (o := .lst [.ref t, .ref t']) hl'
  have U := u1.trans (u2.trans u3)
  refine ⟨xs, U _ _ hl, by rw [hA.len]; exact hj, fun m hm => ?_⟩
  have u4 := same_upd (o := .lst (xs ++ [.ref t, .ref t'])) hm
  have U4 := U.trans u4
  refine ⟨_, rs ++ [(x, d), (y, e)], s1.trans U4, (s1.trans U).free hm, upd_same, (hA.imp fun _ _ r => r.same U4).app ⟨⟨t, rfl, (u2.trans (u3.trans u4)) _ _ upd_same⟩, ⟨t', rfl, (u3.trans u4) _ _ upd_same⟩, trivial⟩, by rw [List.length_append]; show rs.length + 2 ≤ j + 2; omega, fun r hr' => ?_⟩
  rcases List.mem_append.mp hr' with z | z
  · exact hr r z
  · simp only [List.mem_cons, List.not_mem_nil, or_false] at z
    rcases z with rfl | rfl
    · exact hx
    · exact hy
theorem nb_up {s : S2} {H : Hp} {j k : Nat} {l : Addr} {H1 : Hp} (h : nbI s H j l H1) (hk : j ≤ k) : nbI s H k l H1 := by
  obtain ⟨xs, rs, r1, r2, r3, r4, r5, r6⟩ := h
  exact ⟨xs, rs, r1, r2, r3, r4, by omega, r6⟩
theorem in_lo {lo : Int} {hi : En} (h : crossed (some lo) hi = false) : inS (some lo, hi) lo := ⟨fun _ z => by cases z; exact Int.le_refl _, fun b z => by
  obtain rfl : hi = some b := z
  simpa [crossed] using h⟩
theorem out_lo {lo : Int} {hi : En} : ¬ inS (some lo, hi) (lo - 1) := fun z => by have := z.1 lo rfl; omega
theorem in_hi {hi : Int} {lo : En} (h : crossed lo (some hi) = false) : inS (lo, some hi) hi := ⟨fun b z => by
  obtain rfl : lo = some b := z
  simpa [crossed] using h, fun _ z => by cases z; exact Int.le_refl _⟩
theorem out_hi {hi : Int} {lo : En} : ¬ inS (lo, some hi) (hi + 1) := fun z => by have := z.2 hi rfl; omega
def nbJ (s : S2) (a p : Addr) (H : Hp) (j : Nat) (σ : St) (H1 : Hp) : Prop := ∃ l, σ = [some (.ref a), some (.ref p), some (ev s.1), some (ev s.2), some (.int 1000000000000000000000000000000000000000000000000000000000000000000000000000000000000000000000000000000000000000000000000000000000000000000000000000000000000000000000000000000000000), some (.ref l), none] ∧ nbI s H j l H1
def sp_numbers (K : PySem.W.Frag) : Sp := fun vs H Q _ => ∃ (a p : Addr) (ns : List Int) (s : S2), vs = [.ref a, .ref p] ∧ SqL K H a (ns.map V.int) ∧ Scr ns ∧ H p = some (.tup [ev s.1, ev s.2]) ∧ crossed s.1 s.2 = false ∧ ∀ (l : Addr) (xs : List V) (rs : List (Int × Bool)) (H' : Hp), Same H H' → H' l = some (.lst xs) → All2 (IsNd H') xs rs → rs.length ≤ 10 → (∀ r ∈ rs, okNd s r) → Q (.ref l) H'
theorem ok_law_numbers (T : Tx K mg) : FnOk P w K mg base (CXX P w) 3 T.a_law_numbers T.fd_law_numbers ["_law_script", "_law_span"] (sp_numbers K) := by
  refine okN T.F_law_numbers sc_law_numbers (fun vs H Q E h => ?_) (fun cdv A outer s H vs Q E hr h => ?_)
  · obtain ⟨a, p, ns, s, rfl, _⟩ := h
    rfl
  · obtain ⟨a, p, ns, s, rfl, hS, hn, hp, hcr, q⟩ := h
    refine ⟨_, (pss_cons (ps_asg (pv 1) (pg_tup (n := 2) rfl (pgs_cons (pg_name (i := 2) sc_law_numbers.nd rfl (Or.inl rfl)) (pgs_cons (pg_name (i := 3) sc_law_numbers.nd rfl (Or.inl rfl)) pgs_nil))))
    (pss_cons (ps_set (i := 4) sc_law_numbers.nd rfl (Or.inl rfl) (pe_op op_mulB (pe_op op_mulB (pe_op op_pow pe_int pe_int) (pe_op op_pow pe_int pe_int)) (pe_op op_pow pe_int pe_int)))
    (pss_cons (ps_set (i := 5) sc_law_numbers.nd rfl (Or.inl rfl) (pe_lst pa_nil))
    (pss_cons (ps_if (PW.pt (pw_and (pt_cmp (pc_isN (pv 2))) (pw_and1 (pt_cmp (pc_isN (pv 3)))))) (pss_cons (ps_set (i := 6) sc_law_numbers.nd rfl (Or.inl rfl) (pe_op op_sub (pe_call (ok_law_wide T) (hr.mono (by decide)) rfl T.m_law_wide T.F_law_wide.kp T.b_law_wide .nil passE0 (pa_cons (pv 0) (pa_cons pe_int (pa_cons (pe_op op_add (pe_op op_mulB pe_int (pv 4)) pe_int) pa_nil)))) (pv 4)))
        (pss_one (ps_ret (pe_lst (pa_cons (pe_tup (pa_cons (pv 6) (pa_cons pe_bl pa_nil))) pa_nil))))) pss_nil)
    (pss_cons (ps_if (pt_cmp (pc_isN (pv 2))) (pss_one (ps_expr (pe_bm PySem.F.plainAttrs_list PySem.F.slot_list_append PySem.F.type_list_append mt_append (pv 5) (pa_cons (pe_tup (pa_cons (pe_op op_sub (pv 3) (pe_call (ok_law_wide T) (hr.mono (by decide)) rfl T.m_law_wide T.F_law_wide.kp T.b_law_wide .nil passE0 (pa_cons (pv 0) (pa_cons pe_int (pa_cons (pv 4) pa_nil))))) (pa_cons pe_bl pa_nil))) pa_nil)))) (pss_one (ps_set (i := 5) sc_law_numbers.nd rfl (Or.inl rfl) (pe_op op_cat (pv 5) (pe_lst (pa_cons (pe_tup (pa_cons (pv 2) (pa_cons pe_bl pa_nil))) (pa_cons (pe_tup (pa_cons (pe_op op_sub (pv 2) pe_int) (pa_cons pe_bl pa_nil))) pa_nil)))))))
    (pss_cons (ps_if (pt_cmp (pc_isN (pv 3))) (pss_one (ps_expr (pe_bm PySem.F.plainAttrs_list PySem.F.slot_list_append PySem.F.type_list_append mt_append (pv 5) (pa_cons (pe_tup (pa_cons (pe_op op_add (pv 2) (pe_call (ok_law_wide T) (hr.mono (by decide)) rfl T.m_law_wide T.F_law_wide.kp T.b_law_wide .nil passE0 (pa_cons (pv 0) (pa_cons pe_int (pa_cons (pv 4) pa_nil))))) (pa_cons pe_bl pa_nil))) pa_nil)))) (pss_one (ps_set (i := 5) sc_law_numbers.nd rfl (Or.inl rfl) (pe_op op_cat (pv 5) (pe_lst (pa_cons (pe_tup (pa_cons (pv 3) (pa_cons pe_bl pa_nil))) (pa_cons (pe_tup (pa_cons (pe_op op_add (pv 3) pe_int) (pa_cons pe_bl pa_nil))) pa_nil)))))))
    (pss_cons (ps_if (PW.pt (pw_and (pt_cmp (pc_notN (pv 2))) (pw_and1 (pt_cmp (pc_notN (pv 3)))))) (pss_one (ps_expr (pe_bm PySem.F.plainAttrs_list PySem.F.slot_list_append PySem.F.type_list_append mt_append (pv 5) (pa_cons (pe_tup (pa_cons (pe_op op_add (pv 2) (pe_call (ok_law_wide T) (hr.mono (by decide)) rfl T.m_law_wide T.F_law_wide.kp T.b_law_wide .nil passE0 (pa_cons (pv 0) (pa_cons pe_int (pa_cons (pe_op op_add (pe_op op_sub (pv 3) (pv 2)) pe_int) pa_nil))))) (pa_cons pe_bl pa_nil))) pa_nil)))) pss_nil)
    (pss_one (ps_ret (pv 5)))))))))), ?_⟩
    obtain ⟨lo, hi⟩ := s
    refine seq_cut (fun σ H1 => σ = [some (.ref a), some (.ref p), some (ev lo), some (ev hi), none, none, none] ∧ H1 = H) (fun N hN => ?_) ?_
    · walk_at "gzn"
      exact gTup2 (SqT.of hp) (hN _ _ ⟨rfl, rfl⟩)
    rintro σ H1 ⟨rfl, rfl⟩
    refine seq_cut (fun σ H2 => σ = [some (.ref a), some (.ref p), some (ev lo), some (ev hi), some (.int 1000000000000000000000000000000000000000000000000000000000000000000000000000000000000000000000000000000000000000000000000000000000000000000000000000000000000000000000000000000000000), none, none] ∧ H2 = H1) (fun N hN => ?_) ?_
    · walk_at "gzn"
      exact ⟨⟨by decide, by decide, by decide⟩, ⟨by decide, by decide, by decide⟩, mul600 (by decide) (by decide), ⟨by decide, by decide, by decide⟩, mul600 (by decide) (by decide), hN _ _ ⟨rfl, rfl⟩⟩
    rintro σ H2 ⟨rfl, rfl⟩
    have W : ∀ (m : Int) (H' : Hp) (Q2 : VK), Same H2 H' → 0 < m → (∀ x, 0 ≤ x → x < m → Q2 (.int x) H') → sp_wide K [.ref a, .int 5, .int m] H' Q2 E0 := fun m H' Q2 s hm hq => ⟨a, ns, _, _, rfl, s.seq hS, hn, by decide, hm, hq⟩
    refine seq_cut (nbJ (lo, hi) a p H2 0) (fun N hN => ?_) ?_
    · walk_at "gzn"
      exact ⟨by decide, fun l hl => hN _ _ ⟨l, rfl, [], [], same_upd hl, hl, upd_same, trivial, Nat.le_refl _, fun _ h => (nomatch h)⟩⟩
    rintro σ H3 ⟨l, rfl, hI⟩
    obtain ⟨_, _, s3, _⟩ := id hI
    refine seq_cut (fun σ H4 => nbJ (lo, hi) a p H2 0 σ H4 ∧ ¬ (lo = none ∧ hi = none)) (fun N hN => ?_) ?_
    · rcases lo with _ | lo <;> rcases hi with _ | hi
      · walk_at "gzn"
        refine ⟨mul600 (by decide) (by decide), W _ _ _ s3 (by decide) fun x _ _ => ⟨x, rfl, line2, fun t ht => ⟨by decide, fun m hm => ?_⟩⟩⟩
        have u1 := same_upd (o := .tup [.int (x - 1000000000000000000000000000000000000000000000000000000000000000000000000000000000000000000000000000000000000000000000000000000000000000000000000000000000000000000000000000000000000), .bl true]) ht
        have u2 := same_upd (o := .lst [.ref t]) hm
        refine q m [.ref t] [(x - 1000000000000000000000000000000000000000000000000000000000000000000000000000000000000000000000000000000000000000000000000000000000000000000000000000000000000000000000000000000000000, true)] _ (s3.trans (u1.trans u2)) upd_same ⟨⟨t, rfl, u2 _ _ upd_same⟩, trivial⟩ (by show 1 ≤ 10; decide) fun r hr' => ?_
        obtain rfl : r = (x - 1000000000000000000000000000000000000000000000000000000000000000000000000000000000000000000000000000000000000000000000000000000000000000000000000000000000000000000000000000000000000, true) := by simpa using hr'
        exact nd_in ⟨fun _ z => (nomatch z), fun _ z => (nomatch z)⟩
      · walk_at "gzn"
        exact hN _ _ ⟨⟨l, rfl, hI⟩, fun z => (nomatch z.2)⟩
      · walk_at "gzn"
        exact hN _ _ ⟨⟨l, rfl, hI⟩, fun z => (nomatch z.1)⟩
      · walk_at "gzn"
        exact hN _ _ ⟨⟨l, rfl, hI⟩, fun z => (nomatch z.1)⟩
    rintro σ H4 ⟨⟨l, rfl, hI⟩, hne⟩
    obtain ⟨_, _, s4, _⟩ := id hI
    refine seq_cut (nbJ (lo, hi) a p H2 2) (fun N hN => ?_) ?_
    · rcases lo with _ | lo
      · rcases hi with _ | hi
        · exact absurd ⟨rfl, rfl⟩ hne
        walk_at "gzn"
        obtain ⟨_, _, _, _, hl, _⟩ := id hI
        refine ⟨.inl ⟨rfl, _, SqL.of hl⟩, W _ _ _ s4 (by decide) fun x x1 x2 => ⟨x, rfl, line2, fun t ht => ?_⟩⟩
        obtain ⟨xs, h1, h2, h3⟩ := nb_app hI (x := hi - x) (d := true) (nd_in ⟨fun _ z => (nomatch z), fun _ z => by cases z; omega⟩) ht
        exact ⟨xs, h1, Nat.lt_of_le_of_lt (Nat.le_trans h2 (by decide : _ ≤ 10)) (by decide), hN _ _ ⟨l, rfl, nb_up h3 (by decide)⟩⟩
      · walk_at "gzn"
        refine ⟨line2, fun t ht => ⟨line2, fun t' ht' => ⟨line2, fun l' hl' => ?_⟩⟩⟩
        obtain ⟨xs, h1, h2, h3⟩ := nb_cat hI (nd_in (in_lo hcr)) (nd_out out_lo) ht ht' hl'
        exact ⟨xs, h1, _, upd_same, Nat.le_trans (by show xs.length + 2 ≤ 20; omega) (by decide), fun m hm => hN _ _ ⟨m, rfl, nb_up (h3 m hm) (by decide)⟩⟩
    rintro σ H5 ⟨l, rfl, hI⟩
    obtain ⟨_, _, s5, _⟩ := id hI
    refine seq_cut (nbJ (lo, hi) a p H2 4) (fun N hN => ?_) ?_
    · rcases hi with _ | hi
      · rcases lo with _ | lo
        · exact absurd ⟨rfl, rfl⟩ hne
        walk_at "gzn"
        obtain ⟨_, _, _, _, hl, _⟩ := id hI
        refine ⟨.inl ⟨rfl, _, SqL.of hl⟩, W _ _ _ s5 (by decide) fun x x1 x2 => ⟨x, rfl, line2, fun t ht => ?_⟩⟩
        obtain ⟨xs, h1, h2, h3⟩ := nb_app hI (x := lo + x) (d := true) (nd_in ⟨fun _ z => by cases z; omega, fun _ z => (nomatch z)⟩) ht
        exact ⟨xs, h1, Nat.lt_of_le_of_lt (Nat.le_trans h2 (by decide : _ ≤ 10)) (by decide), hN _ _ ⟨l, rfl, nb_up h3 (by decide)⟩⟩
      · walk_at "gzn"
        refine ⟨line2, fun t ht => ⟨line2, fun t' ht' => ⟨line2, fun l' hl' => ?_⟩⟩⟩
        obtain ⟨xs, h1, h2, h3⟩ := nb_cat hI (nd_in (in_hi hcr)) (nd_out out_hi) ht ht' hl'
        exact ⟨xs, h1, _, upd_same, Nat.le_trans (by show xs.length + 2 ≤ 20; omega) (by decide), fun m hm => hN _ _ ⟨m, rfl, nb_up (h3 m hm) (by decide)⟩⟩
    rintro σ H6 ⟨l, rfl, hI⟩
    obtain ⟨_, _, s6, _⟩ := id hI
    refine seq_cut (nbJ (lo, hi) a p H2 5) (fun N hN => ?_) ?_
    · rcases lo with _ | lo <;> rcases hi with _ | hi
      · exact absurd ⟨rfl, rfl⟩ hne
      · walk_at "gzn"
        obtain ⟨xs, rs, r1, r2, r3, r4, r5, r6⟩ := hI
        exact hN _ _ ⟨l, rfl, xs, rs, r1, r2, r3, r4, by omega, r6⟩
      · walk_at "gzn"
        obtain ⟨xs, rs, r1, r2, r3, r4, r5, r6⟩ := hI
        exact hN _ _ ⟨l, rfl, xs, rs, r1, r2, r3, r4, by omega, r6⟩
      · walk_at "gzn"
        have hle : lo ≤ hi := by simpa [crossed] using hcr
        obtain ⟨_, _, _, _, hl, _⟩ := id hI
        refine ⟨.inl ⟨rfl, _, SqL.of hl⟩, W _ _ _ s6 (by omega) fun x x1 x2 => ⟨x, rfl, line2, fun t ht => ?_⟩⟩
        obtain ⟨xs, h1, h2, h3⟩ := nb_app hI (x := lo + x) (d := true) (nd_in ⟨fun _ z => by cases z; omega, fun _ z => by cases z; omega⟩) ht
        exact ⟨xs, h1, Nat.lt_of_le_of_lt (Nat.le_trans h2 (by decide : _ ≤ 10)) (by decide), hN _ _ ⟨l, rfl, nb_up h3 (by decide)⟩⟩
    rintro σ H7 ⟨l, rfl, xs, rs, r1, r2, r3, r4, r5, r6⟩
    walk_at "gzn"
    exact q l xs rs H7 r1 r3 r4 (by omega) r6
end
section
seal L2.PE L2.PS L2.PSs L2.PA
variable {P : Program} {w : World} {K : PySem.W.Frag} {mg : Str → Option Value} {base : Heap}
def datMk (m : Mk) : PyData := .tuple [.int m.1, datS m.2]
theorem IsMk.dat {K : PySem.W.Frag} {H : Hp} {v : V} {m : Mk} (h : IsMk H v m) : Dat K H v (datMk m) := by
  obtain ⟨t, p, rfl, a, b⟩ := h
  exact .tup (SqT.of a) (.cons (.int _) (.cons (IsS.dat ⟨p, rfl, b⟩) .nil))
theorem gd_Mk (m : Mk) : Gd 2 (datMk m) := .tup fun d hd => by
  simp only [List.mem_cons, List.not_mem_nil, or_false] at hd
  rcases hd with rfl | rfl
  · exact (Gd.int _).up (by decide)
  · exact gd_S _
def datBoth (ps : List P2) (ms : List Mk) : PyData := .list [.list (ps.map datP), .list (ms.map datMk)]
theorem both_dat {K : PySem.W.Frag} {H : Hp} {h x y : Addr} {xs ys : List V} {ps : List P2} {ms : List Mk} (hh : H h = some (.lst [.ref x, .ref y])) (hx : SqL K H x xs) (hP : Pts H xs ps) (hy : SqL K H y ys) (hM : All2 (IsMk H) ys ms) : Dat K H (.ref h) (datBoth ps ms) :=
  .lst (SqL.of hh) (.cons (.lst hx (Pts.dat hP)) (.cons (.lst hy (Dats.of_all2 (fun _ _ r => IsMk.dat r) hM)) .nil))
theorem gd_both (ps : List P2) (ms : List Mk) : Gd 4 (datBoth ps ms) := .lst fun d hd => by
  simp only [List.mem_cons, List.not_mem_nil, or_false] at hd
  rcases hd with rfl | rfl
  · exact (Gd.lst (n := 1) fun d hd => by
      obtain ⟨p, _, rfl⟩ := List.mem_map.mp hd
      exact .of rfl).up (by decide)
  · exact Gd.lst fun d hd => by
      obtain ⟨m, _, rfl⟩ := List.mem_map.mp hd
      exact gd_Mk m
def TbOk (H0 H : Hp) (f : V) (ps : List P2) (ms : List Mk) : Prop := (f = .non ∧ ∃ t, t ≤ ps.length ∧ narW (bxT ms) (ptD ps) t = none) ∨ ∃ (l : Addr) (zs : List V) (ss : List S2), f = .ref l ∧ H0 l = none ∧ H l = some (.lst zs) ∧ All2 (IsS2 H) zs ss ∧ ss.length = ps.length + 1 ∧ (∀ t, t ≤ ps.length → narW (bxT ms) (ptD ps) t ≠ none) ∧ ∀ t, t ≤ ps.length → tubW ps.length (bxT ms) (ptD ps) t = some (sAt ss t)
theorem tb_call {K : PySem.W.Frag} {H : Hp} {Q : VK} {x y : Addr} {xs ys : List V} {ps : List P2} {ms : List Mk} (hx : SqL K H x xs) (hP : Pts H xs ps) (hy : SqL K H y ys) (hM : All2 (IsMk H) ys ms) (hok : okPc ps) (hn : ps.length ≤ 41) (hm : ms.length ≤ 20) (q : ∀ f H', Same H H' → TbOk H H' f ps ms → Q f H') : sp_tube K [.ref x, .ref y] H Q E0 :=
  ⟨x, y, xs, ys, ps, ms, rfl, hx, hP, hy, hM, hok, by omega, by omega, fun t ht en H' s' => q _ _ s' (.inl ⟨rfl, t, ht, en⟩), fun hne l zs ss H' s' fl hl hz hsl hnar => q _ _ s' (.inr ⟨l, zs, ss, rfl, fl, hl, hz, hsl, hne, hnar⟩)⟩
theorem ss_ext {n : Nat} {T : Nat → W2} {ss ss' : List S2} (h1 : ss.length = n + 1) (h2 : ss'.length = n + 1) (a : ∀ t, t ≤ n → T t = some (sAt ss t)) (b : ∀ t, t ≤ n → T t = some (sAt ss' t)) : ss' = ss := by
  refine List.ext_getElem? fun t => ?_
  by_cases ht : t ≤ n
  · have e := (b t ht).symm.trans (a t ht)
    rw [sAt_get (by omega), sAt_get (by omega), e]
  · rw [List.getElem?_eq_none (by omega), List.getElem?_eq_none (by omega)]
theorem ss_dat {K : PySem.W.Frag} {H : Hp} {l : Addr} {zs : List V} {ss : List S2} (hl : H l = some (.lst zs)) (hz : All2 (IsS2 H) zs ss) : Dat K H (.ref l) (.list (ss.map datS)) := .lst (SqL.of hl) (Dats.of_all2 (fun _ _ r => IsS.dat r) hz)
theorem ss_gd (ss : List S2) : Gd 2 (.list (ss.map datS)) := .lst fun d hd => by
  obtain ⟨s, _, rfl⟩ := List.mem_map.mp hd
  exact gd_S s
def sp_law (K : PySem.W.Frag) : Sp := fun vs H Q _ => ∃ (a : Addr) (ns : List Int), vs = [.ref a] ∧ SqL K H a (ns.map V.int) ∧ Scr ns ∧ ∀ H', Q (.bl true) H'
def inv_lp (σ0 : Option V → Option V → St) (H : Hp) (_ : Nat) (σ : St) (H1 : Hp) : Prop := ∃ e1 e2, σ = σ0 e1 e2 ∧ Same H H1
theorem ok_law (T : Tx K mg) : FnOk P w K mg base (CXX P w) 7 T.a_law T.fd_law ["_law_script"] (sp_law K) := by
  refine okN T.F_law sc_law (fun vs H Q E h => ?_) (fun cdv A outer s H vs Q E hr h => ?_)
  · obtain ⟨a, ns, rfl, _⟩ := h
    rfl
  · obtain ⟨a, ns, rfl, hS, hn, q⟩ := h
    refine ⟨_, (pss_cons (ps_set (i := 1) sc_law.nd rfl (Or.inl rfl) (pe_call (ok_law_paces T) (hr.mono (by decide)) rfl T.m_law_paces T.F_law_paces.kp T.b_law_paces .nil passE0 (pa_cons (pv 0) (pa_cons (pe_call (ok_law_many T) (hr.mono (by decide)) rfl T.m_law_many T.F_law_many.kp T.b_law_many .nil passE0 (pa_cons (pv 0) pa_nil)) pa_nil))))
    (pss_cons (ps_set (i := 2) sc_law.nd rfl (Or.inl rfl) (pe_call (ok_law_marks T) (hr.mono (by decide)) rfl T.m_law_marks T.F_law_marks.kp T.b_law_marks .nil passE0 (pa_cons (pv 0) (pa_cons (pe_call (ok_law_path T) (hr.mono (by decide)) rfl T.m_law_path T.F_law_path.kp T.b_law_path .nil passE0 (pa_cons (pv 0) (pa_cons (pv 1) pa_nil))) pa_nil))))
    (pss_cons (ps_set (i := 3) sc_law.nd rfl (Or.inl rfl) (pe_lst (pa_cons (pe_callTy call_list_of (by rfl) T.n_list b_list (pa_cons (pv 1) pa_nil)) (pa_cons (pe_callTy call_list_of (by rfl) T.n_list b_list (pa_cons (pv 2) pa_nil)) pa_nil))))
    (pss_cons (ps_set (i := 4) sc_law.nd rfl (Or.inl rfl) (pe_call (ok_tube T) (hr.mono (by decide)) rfl T.m_tube T.F_tube.kp T.b_tube .nil passE0 (pa_cons (pe_ix ix_seq (pv 3) pe_int (fun _ _ => rfl)) (pa_cons (pe_ix ix_seq (pv 3) pe_int (fun _ _ => rfl)) pa_nil))))
    (pss_cons (ps_if (pt_cmpR (op_neD hr.units) (pv 3) (pe_lst (pa_cons (pv 1) (pa_cons (pv 2) pa_nil))) (nomark _)) (pss_one (ps_ret pe_bl)) pss_nil)
    (pss_cons (ps_if (pt_cmp (pc_isN (pv 4))) (pss_one (ps_ret (pe_call (ok_law_pair T) (hr.mono (by decide)) rfl T.m_law_pair T.F_law_pair.kp T.b_law_pair .nil passE0 (pa_cons (pe_call (ok_clashing T) (hr.mono (by decide)) rfl T.m_clashing T.F_clashing.kp T.b_clashing .nil passE0 (pa_cons (pe_ix ix_seq (pv 3) pe_int (fun _ _ => rfl)) (pa_cons (pe_ix ix_seq (pv 3) pe_int (fun _ _ => rfl)) pa_nil))) (pa_cons (pv 1) (pa_cons (pv 2) pa_nil)))))) pss_nil)
    (pss_cons (ps_if (pt_not (pt_val (pe_call (ok_law_spans T) (hr.mono (by decide)) rfl T.m_law_spans T.F_law_spans.kp T.b_law_spans .nil passE0 (pa_cons (pv 4) (pa_cons (pe_op op_add (pe_callB call_len (by rfl) T.n_len b_len (pa_cons (pv 1) pa_nil)) pe_int) pa_nil))))) (pss_one (ps_ret pe_bl)) pss_nil)
    (pss_cons (ps_set (i := 5) sc_law.nd rfl (Or.inl rfl) (pe_callTy call_list_of (by rfl) T.n_list b_list (pa_cons (pv 4) pa_nil)))
    (pss_cons (ps_set (i := 6) sc_law.nd rfl (Or.inl rfl) (pe_call (ok_law_pick T) (hr.mono (by decide)) rfl T.m_law_pick T.F_law_pick.kp T.b_law_pick .nil passE0 (pa_cons (pv 0) (pa_cons pe_int (pa_cons (pe_op op_add (pe_callB call_len (by rfl) T.n_len b_len (pa_cons (pv 1) pa_nil)) pe_int) pa_nil)))))
    (pss_cons (ps_for PassesOwn.never rfl (pi_list (pe_call (ok_law_numbers T) (hr.mono (by decide)) rfl T.m_law_numbers T.F_law_numbers.kp T.b_law_numbers .nil passE0 (pa_cons (pv 0) (pa_cons (pe_ix ix_seq (pv 4) (pv 6) (fun _ _ => rfl)) pa_nil)))) (pg_tup rfl (pgs_cons (pg_name (i := 7) sc_law.nd rfl (Or.inl rfl)) (pgs_cons (pg_name (i := 8) sc_law.nd rfl (Or.inl rfl)) pgs_nil))) (pss_one (ps_if (pt_not (pt_val (pe_call (ok_law_asked T) (hr.mono (by decide)) rfl T.m_law_asked T.F_law_asked.kp T.b_law_asked .nil passE0 (pa_cons (pv 1) (pa_cons (pv 2) (pa_cons (pv 6) (pa_cons (pv 7) (pa_cons (pv 8) pa_nil)))))))) (pss_one (ps_ret pe_bl)) pss_nil)))
    (pss_cons (ps_expr (pe_bm0 PySem.F.plainAttrs_list PySem.F.slot_list_clear PySem.F.type_list_clear mt_clear (pe_ix ix_seq (pv 3) pe_int (fun _ _ => rfl))))
    (pss_cons (ps_set (i := 9) sc_law.nd rfl (Or.inl rfl) (pe_call (ok_tube T) (hr.mono (by decide)) rfl T.m_tube T.F_tube.kp T.b_tube .nil passE0 (pa_cons (pe_callTy call_list_of (by rfl) T.n_list b_list (pa_cons (pv 1) pa_nil)) (pa_cons (pe_callTy call_list_of (by rfl) T.n_list b_list (pa_cons (pv 2) pa_nil)) pa_nil))))
    (pss_cons (ps_if (pt_cmpR (op_neD hr.units) (pv 9) (pv 5) (nomark _)) (pss_one (ps_ret pe_bl)) pss_nil)
    (pss_cons (ps_expr (pe_bm0 PySem.F.plainAttrs_list PySem.F.slot_list_clear PySem.F.type_list_clear mt_clear (pv 9)))
    (pss_one (ps_ret (pe_and (pe_cmpR (op_eqD hr.units) (pv 4) (pv 5) (nomark _)) (pe_one (pe_cmpR (op_eqD hr.units) (pe_call (ok_tube T) (hr.mono (by decide)) rfl T.m_tube T.F_tube.kp T.b_tube .nil passE0 (pa_cons (pe_callTy call_list_of (by rfl) T.n_list b_list (pa_cons (pv 1) pa_nil)) (pa_cons (pe_callTy call_list_of (by rfl) T.n_list b_list (pa_cons (pv 2) pa_nil)) pa_nil))) (pv 5) (nomark _)))))))))))))))))))), ?_⟩
    refine seq_cut (fun σ H1 => ∃ b xs ps, σ = [some (.ref a), some (.ref b), none, none, none, none, none, none, none, none] ∧ Same H H1 ∧ H1 b = some (.lst xs) ∧ Pts H1 xs ps ∧ okPc ps ∧ ps.length ≤ 41) (fun N hN => ?_) ?_
    · walk_at "gzn"
      refine ⟨a, ns, rfl, hS, hn, fun m hm => ?_⟩
      exact ⟨a, ns, m, rfl, hS, hn, hm, fun l xs ps H1 s1 _ hl hP hk hlen => hN _ _ ⟨l, xs, ps, rfl, s1, hl, hP, hk, by omega⟩⟩
    rintro σ H1 ⟨b, xs, ps, rfl, s1, hb, hP, hok, hlen⟩
    refine seq_cut (fun σ H2 => ∃ c ys ms, σ = [some (.ref a), some (.ref b), some (.ref c), none, none, none, none, none, none, none] ∧ Same H1 H2 ∧ H2 c = some (.lst ys) ∧ All2 (IsMk H2) ys ms ∧ ms.length ≤ 20 ∧ ∀ m ∈ ms, m.1 ≤ ps.length) (fun N hN => ?_) ?_
    · walk_at "gzn"
      refine ⟨a, b, ns, xs, ps, rfl, s1.seq hS, hn, SqL.of hb, hP, hok, hlen, fun l cs H2 s2 _ hl hcl => ?_⟩
      exact ⟨a, l, ns, cs, rfl, (s1.trans s2).seq hS, hn, SqL.of hl, by omega, by omega, fun c ys ms H3 s3 _ hc hM hml hmk => hN _ _ ⟨c, ys, ms, rfl, s2.trans s3, hc, hM, hml, fun m hm => by have := hmk m hm; omega⟩⟩
    rintro σ H2 ⟨c, ys, ms, rfl, s2, hc, hM, hml, hmk⟩
    have hb2 := s2 _ _ hb
    have hP2 := hP.same s2
    have SS := s1.trans s2
    have pl := hP.len
    clear hb hP s1 s2
    refine seq_cut (fun σ H3 => ∃ h x y, σ = [some (.ref a), some (.ref b), some (.ref c), some (.ref h), none, none, none, none, none, none] ∧ Same H2 H3 ∧ H3 h = some (.lst [.ref x, .ref y]) ∧ H2 x = none ∧ H3 x = some (.lst xs) ∧ H2 y = none ∧ H3 y = some (.lst ys) ∧ h ≠ y) (fun N hN => ?_) ?_
    · walk_at "gzn"
      refine ⟨xs, .inl (SqL.of hb2), fun x hx => ⟨ys, .inl (SqL.of ((same_upd hx) _ _ hc)), fun y hy => ⟨line2, fun h hh => ?_⟩⟩⟩
      have u1 := same_upd (o := .lst xs) hx
      have u2 := same_upd (o := .lst ys) hy
      have u3 := same_upd (o := .lst [.ref x, .ref y]) hh
      refine hN _ _ ⟨h, x, y, rfl, u1.trans (u2.trans u3), upd_same, hx, (u2.trans u3) _ _ upd_same, u1.free hy, u3 _ _ upd_same, fun z => ?_⟩
      rw [z, upd_same] at hh; cases hh
    rintro σ H3 ⟨h, x, y, rfl, s3, hh, fx, hx, fy, hy, hhy⟩
    refine seq_cut (fun σ H4 => ∃ f, σ = [some (.ref a), some (.ref b), some (.ref c), some (.ref h), some f, none, none, none, none, none] ∧ Same H3 H4 ∧ TbOk H3 H4 f ps ms) (fun N hN => ?_) ?_
    · walk_at "gzn"
      refine ixL (SqL.of hh) (v := .ref x) rfl (ixL (SqL.of hh) (v := .ref y) rfl ?_)
      exact tb_call (SqL.of hx) (hP2.same s3) (SqL.of hy) (hM.imp fun _ _ r => r.same s3) hok hlen hml fun f H4 s4 hf => hN _ _ ⟨f, rfl, s4, hf⟩
    rintro σ H4 ⟨f, rfl, s4, hf⟩
    have S4 := s3.trans s4
    refine seq_cut (fun σ H5 => σ = [some (.ref a), some (.ref b), some (.ref c), some (.ref h), some f, none, none, none, none, none] ∧ Same H4 H5) (fun N hN => ?_) ?_
    · walk_at "gzn"
      refine ⟨line2, fun l hl => ?_⟩
      have u := same_upd (o := .lst [.ref b, .ref c]) hl
      have U := S4.trans u
      have U3 := s4.trans u
      refine eq_good (both_dat (U3 _ _ hh) (SqL.of (U3 _ _ hx)) (hP2.same U) (SqL.of (U3 _ _ hy)) (hM.imp fun _ _ r => r.same U)) (both_dat upd_same (SqL.of (U _ _ hb2)) (hP2.same U) (SqL.of (U _ _ hc)) (hM.imp fun _ _ r => r.same U)) (gd_both ps ms) (by decide) ?_
      walk_at "gzn"
      exact hN _ _ ⟨rfl, u⟩
    rintro σ H5 ⟨rfl, s5⟩
    have S5 := S4.trans s5
    have T5 := s4.trans s5
    refine seq_cut (fun σ H6 => ∃ l zs ss, σ = [some (.ref a), some (.ref b), some (.ref c), some (.ref h), some (.ref l), none, none, none, none, none] ∧ H6 = H5 ∧ H3 l = none ∧ H5 l = some (.lst zs) ∧ All2 (IsS2 H5) zs ss ∧ ss.length = ps.length + 1 ∧ (∀ t, t ≤ ps.length → narW (bxT ms) (ptD ps) t ≠ none) ∧ ∀ t, t ≤ ps.length → tubW ps.length (bxT ms) (ptD ps) t = some (sAt ss t)) (fun N hN => ?_) ?_
    · rcases hf with ⟨rfl, t, ht, en⟩ | ⟨l, zs, ss, rfl, fl, hl, hz, hsl, hne, hnar⟩
      · walk_at "gzn"
        refine ixL (SqL.of (T5 _ _ hh)) (v := .ref x) rfl (ixL (SqL.of (T5 _ _ hh)) (v := .ref y) rfl ?_)
        refine ⟨x, y, xs, ys, ps, ms, rfl, SqL.of (T5 _ _ hx), hP2.same S5, SqL.of (T5 _ _ hy), hM.imp fun _ _ r => r.same S5, hok, by omega, by omega, hmk, fun hc => ?_, fun i j m n hi hj hcl p H6 s6 hp => ?_⟩
        · obtain ⟨c, h1, h2⟩ := hc
          exact absurd en (nar_of_course h1 h2 t ht)
        have S6 := S5.trans s6
        exact ⟨p, b, c, xs, ys, ps, ms, i, j, m, n, rfl, hp, SqL.of (S6 _ _ hb2), hP2.same S6, SqL.of (S6 _ _ hc), hM.imp fun _ _ r => r.same S6, hlen, hmk, hi, hj, hcl, q _⟩
      · walk_at "gzn"
        exact hN _ _ ⟨l, zs, ss, rfl, rfl, fl, s5 _ _ hl, hz.imp fun _ _ r => IsS.same r s5, hsl, hne, hnar⟩
    rintro σ H6 ⟨l, zs, ss, rfl, rfl, fl, hl, hz, hsl, hne, hnar⟩
    have TB := tub_of hok hne
    have zl := hz.len
    have okS : ∀ t, t ≤ ps.length → crossed (sAt ss t).1 (sAt ss t).2 = false := fun t ht => by
      obtain ⟨s, es, hs⟩ := TB.ok t ht
      rw [hnar t ht] at es
      cases es
      exact hs
    refine seq_cut (fun σ H7 => σ = [some (.ref a), some (.ref b), some (.ref c), some (.ref h), some (.ref l), none, none, none, none, none] ∧ H7 = H6) (fun N hN => ?_) ?_
    · walk_at "gzn"
      refine ⟨_, lenL (SqL.of (S5 _ _ hb2)), ?_⟩
      rw [pl]
      refine ⟨l, zs, ss, ps.length + 1, by rw [show ((ps.length + 1 : Nat) : Int) = (ps.length : Int) + 1 by omega], hl, hz, hsl, ?_⟩
      walk_at "gzn"
      exact hN _ _ ⟨rfl, rfl⟩
    rintro σ H7 ⟨rfl, rfl⟩
    refine seq_cut (fun σ H8 => ∃ k, σ = [some (.ref a), some (.ref b), some (.ref c), some (.ref h), some (.ref l), some (.ref k), none, none, none, none] ∧ Same H7 H8 ∧ H7 k = none ∧ H8 k = some (.lst zs)) (fun N hN => ?_) ?_
    · walk_at "gzn"
      exact ⟨_, .inl (SqL.of hl), fun k hk => hN _ _ ⟨k, rfl, same_upd hk, hk, upd_same⟩⟩
    rintro σ H8 ⟨k, rfl, s8, fk, hk⟩
    have S8 := S5.trans s8
    refine seq_cut (fun σ H9 => ∃ t : Nat, σ = [some (.ref a), some (.ref b), some (.ref c), some (.ref h), some (.ref l), some (.ref k), some (.int t), none, none, none] ∧ H9 = H8 ∧ t ≤ ps.length) (fun N hN => ?_) ?_
    · walk_at "gzn"
      refine ⟨_, lenL (SqL.of (S8 _ _ hb2)), ?_⟩
      rw [pl]
      refine ⟨a, ns, _, _, rfl, (SS.trans S8).seq hS, hn, by omega, by omega, fun p p1 p2 => ?_⟩
      exact hN _ _ ⟨p.toNat, by rw [show ((p.toNat : Nat) : Int) = p by omega], rfl, by omega⟩
    rintro σ H9 ⟨t, rfl, rfl, ht⟩
    refine seq_cut (inv_lp (fun e1 e2 => [some (.ref a), some (.ref b), some (.ref c), some (.ref h), some (.ref l), some (.ref k), some (.int t), e1, e2, none]) H9 0) (fun N hN => ?_) ?_
    · obtain ⟨v, hv, tv, rfl, hv2⟩ := hz.at (sAt_get (ss := ss) (i := t) (by omega))
      walk_at "gzn"
      refine ixL (SqL.of (s8 _ _ hl)) (atI_nat hv) ?_
      refine ⟨a, tv, ns, sAt ss t, rfl, (SS.trans S8).seq hS, hn, s8 _ _ hv2, okS t ht, fun e vs rs H10 s10 he hA hrl hrs => ?_⟩
      walk_at "gzn"
      refine ⟨⟨_, SqL.of he⟩, by_list (xs := vs) (inv_lp (fun e1 e2 => [some (.ref a), some (.ref b), some (.ref c), some (.ref h), some (.ref l), some (.ref k), some (.int t), e1, e2, none]) H10) ⟨_, _, rfl, Same.refl _⟩ ?_ ?_ (fun σ H' ⟨e1, e2, eσ, s'⟩ => hN _ _ ⟨e1, e2, eσ, s10.trans s'⟩)⟩
      · rintro i σ H' _ ⟨_, _, _, s'⟩
        exact SqL.of (s' _ _ he)
      · rintro i v σ H' hv' ⟨e1, e2, rfl, s'⟩
        obtain ⟨r, hr0, tr, rfl, htr⟩ := hA.get hv'
        have hrs' := hrs r (List.mem_of_getElem? hr0)
        refine gTup2 (SqT.of (s' _ _ htr)) ?_
        walk_at "gzn"
        have SX := S8.trans (s10.trans s')
        refine ⟨b, c, xs, ys, ps, ms, t, r.1, r.2, rfl, SqL.of (SX _ _ hb2), hP2.same SX, SX _ _ hc, hM.imp fun _ _ r => r.same SX, hok, hlen, hml, hmk, ht, hrs'.trans ?_, fun H'' s'' => ?_⟩
        · rw [more_iff hok hmk TB ht, hnar t ht]
          exact ⟨fun z => ⟨_, rfl, z⟩, fun ⟨s, e, z⟩ => by cases e; exact z⟩
        · walk_at "gzn"
          exact ⟨_, _, rfl, s'.trans s''⟩
    rintro σ H10 ⟨e1, e2, rfl, s10⟩
    have S10 := S8.trans s10
    have l10 := s10 _ _ (s8 _ _ hl)
    have k10 := s10 _ _ hk
    have h10 := s10 _ _ (s8 _ _ (T5 _ _ hh))
    have y10 := s10 _ _ (s8 _ _ (T5 _ _ hy))
    have z10 := hz.imp fun _ _ r => IsS.same r (s8.trans s10)
    have ly : l ≠ y := fun z => by rw [z, hy] at fl; cases fl
    have ky : k ≠ y := fun z => by rw [z, T5 _ _ hy] at fk; cases fk
    have SE : Same H (upd H10 y (.lst [])) := same_put (SS.free fy) (SS.trans S10)
    have S11 : Same H2 (upd H10 y (.lst [])) := same_put fy S10
    refine seq_cut (fun σ H11 => σ = [some (.ref a), some (.ref b), some (.ref c), some (.ref h), some (.ref l), some (.ref k), some (.int t), e1, e2, none] ∧ Same H2 H11 ∧ H11 l = some (.lst zs) ∧ H11 k = some (.lst zs) ∧ All2 (IsS2 H11) zs ss) (fun N hN => ?_) ?_
    · walk_at "gzn"
      refine ixL (SqL.of h10) (v := .ref y) rfl ⟨.inl ⟨rfl, _, SqL.of y10⟩, y, rfl, _, y10, hN _ _ ⟨rfl, S11, by rw [upd_ne ly]; exact l10, by rw [upd_ne ky]; exact k10, z10.imp fun _ _ r => IsS.put r y10⟩⟩
    rintro σ H11 ⟨rfl, s11, l11, k11, z11⟩
    have TC : ∀ (H' : Hp) (Q2 : VK), Same H2 H' → (∀ f H3, Same H' H3 → (∃ (l : Addr) (zs : List V), f = .ref l ∧ H' l = none ∧ H3 l = some (.lst zs) ∧ All2 (IsS2 H3) zs ss) → Q2 f H3) → ∃ x, (SqL K H' b x ∨ SqT K H' b x) ∧ ∀ l, H' l = none → ∃ x_1, (SqL K (upd H' l (.lst x)) c x_1 ∨ SqT K (upd H' l (.lst x)) c x_1) ∧ ∀ l_1, upd H' l (.lst x) l_1 = none → sp_tube K [.ref l, .ref l_1] (upd (upd H' l (.lst x)) l_1 (.lst x_1)) Q2 E0 := fun H' Q2 s' hq => by
      refine ⟨xs, .inl (SqL.of (s' _ _ hb2)), fun x hx => ⟨ys, .inl (SqL.of ((same_upd hx) _ _ (s' _ _ hc))), fun y hy => ?_⟩⟩
      have u1 := same_upd (o := .lst xs) hx
      have u2 := same_upd (o := .lst ys) hy
      have U := u1.trans u2
      refine tb_call (SqL.of (u2 _ _ upd_same)) (hP2.same (s'.trans U)) (SqL.of upd_same) (hM.imp fun _ _ r => r.same (s'.trans U)) hok hlen hml fun f H3 s3 hf => ?_
      rcases hf with ⟨rfl, t, ht, en⟩ | ⟨l9, zs9, ss', rfl, fl9, hl9, hz9, hsl', _, hnar'⟩
      · exact absurd en (hne t ht)
      · rw [ss_ext hsl hsl' hnar hnar'] at hz9
        exact hq _ _ (U.trans s3) ⟨l9, zs9, rfl, U.free fl9, hl9, hz9⟩
    refine seq_cut (fun σ H12 => ∃ g vs, σ = [some (.ref a), some (.ref b), some (.ref c), some (.ref h), some (.ref l), some (.ref k), some (.int t), e1, e2, some (.ref g)] ∧ Same H11 H12 ∧ H11 g = none ∧ H12 g = some (.lst vs) ∧ All2 (IsS2 H12) vs ss) (fun N hN => ?_) ?_
    · walk_at "gzn"
      refine TC _ _ s11 fun f H12 s12 hf => ?_
      obtain ⟨g, vs, rfl, fg, hg, hv⟩ := hf
      exact hN _ _ ⟨g, vs, rfl, s12, fg, hg, hv⟩
    rintro σ H12 ⟨g, vs, rfl, s12, fg, hg, hv⟩
    refine seq_cut (fun σ H13 => σ = [some (.ref a), some (.ref b), some (.ref c), some (.ref h), some (.ref l), some (.ref k), some (.int t), e1, e2, some (.ref g)] ∧ H13 = H12) (fun N hN => ?_) ?_
    · walk_at "gzn"
      refine eq_good (ss_dat hg hv) (ss_dat (s12 _ _ k11) (z11.imp fun _ _ r => IsS.same r s12)) (ss_gd ss) (by decide) ?_
      walk_at "gzn"
      exact hN _ _ ⟨rfl, rfl⟩
    rintro σ H13 ⟨rfl, rfl⟩
    refine seq_cut (fun σ H14 => σ = [some (.ref a), some (.ref b), some (.ref c), some (.ref h), some (.ref l), some (.ref k), some (.int t), e1, e2, some (.ref g)] ∧ Same H11 H14) (fun N hN => ?_) ?_
    · walk_at "gzn"
      exact ⟨.inl ⟨rfl, _, SqL.of hg⟩, _, hg, hN _ _ ⟨rfl, same_put fg s12⟩⟩
    rintro σ H14 ⟨rfl, s14⟩
    have z14 := z11.imp fun _ _ r => IsS.same r s14
    walk_at "gzn"
    refine eq_good (ss_dat (s14 _ _ l11) z14) (ss_dat (s14 _ _ k11) z14) (ss_gd ss) (by decide) ?_
    walk_at "gzn"
    refine TC _ _ (s11.trans s14) fun f H15 s15 hf => ?_
    obtain ⟨g2, vs2, rfl, _, hg2, hv2⟩ := hf
    exact eq_good (ss_dat hg2 hv2) (ss_dat (s15 _ _ (s14 _ _ k11)) (z14.imp fun _ _ r => IsS.same r s15)) (ss_gd ss) (by decide) (q _)
end
theorem fin_mk {l : PySem.W.OpenLaw} {w : World} {K : PySem.W.Frag} {h : Heap} {mg : Str → Option Value} {fa : Addr} (X : K.In h) (G : h.Ns mainGlobals mg) (hfa : mg "law" = some (.ref fa))
    {f_is_crossed : Addr} {od_is_crossed an_is_crossed : Option Addr} {sl_is_crossed : Array (Option Value)} {oc_is_crossed kV_is_crossed dc_is_crossed pm_is_crossed cd_is_crossed ct_is_crossed : Value}
    {f_meet : Addr} {od_meet an_meet : Option Addr} {sl_meet : Array (Option Value)} {oc_meet kV_meet dc_meet pm_meet cd_meet ct_meet : Value}
    {f_common : Addr} {od_common an_common : Option Addr} {sl_common : Array (Option Value)} {oc_common kV_common dc_common pm_common cd_common ct_common : Value}
    {f_number_in : Addr} {od_number_in an_number_in : Option Addr} {sl_number_in : Array (Option Value)} {oc_number_in kV_number_in dc_number_in pm_number_in cd_number_in ct_number_in : Value}
    {f_moved : Addr} {od_moved an_moved : Option Addr} {sl_moved : Array (Option Value)} {oc_moved kV_moved dc_moved pm_moved cd_moved ct_moved : Value}
    {f_narrowed : Addr} {od_narrowed an_narrowed : Option Addr} {sl_narrowed : Array (Option Value)} {oc_narrowed kV_narrowed dc_narrowed pm_narrowed cd_narrowed ct_narrowed : Value}
    {f_stretches_at : Addr} {od_stretches_at an_stretches_at : Option Addr} {sl_stretches_at : Array (Option Value)} {oc_stretches_at kV_stretches_at dc_stretches_at pm_stretches_at cd_stretches_at ct_stretches_at : Value}
    {f_tube : Addr} {od_tube an_tube : Option Addr} {sl_tube : Array (Option Value)} {oc_tube kV_tube dc_tube pm_tube cd_tube ct_tube : Value}
    {f_course_in : Addr} {od_course_in an_course_in : Option Addr} {sl_course_in : Array (Option Value)} {oc_course_in kV_course_in dc_course_in pm_course_in cd_course_in ct_course_in : Value}
    {f_lesser : Addr} {od_lesser an_lesser : Option Addr} {sl_lesser : Array (Option Value)} {oc_lesser kV_lesser dc_lesser pm_lesser cd_lesser ct_lesser : Value}
    {f_lifted : Addr} {od_lifted an_lifted : Option Addr} {sl_lifted : Array (Option Value)} {oc_lifted kV_lifted dc_lifted pm_lifted cd_lifted ct_lifted : Value}
    {f_ceilings : Addr} {od_ceilings an_ceilings : Option Addr} {sl_ceilings : Array (Option Value)} {oc_ceilings kV_ceilings dc_ceilings pm_ceilings cd_ceilings ct_ceilings : Value}
    {f_crossing : Addr} {od_crossing an_crossing : Option Addr} {sl_crossing : Array (Option Value)} {oc_crossing kV_crossing dc_crossing pm_crossing cd_crossing ct_crossing : Value}
    {f_clashing : Addr} {od_clashing an_clashing : Option Addr} {sl_clashing : Array (Option Value)} {oc_clashing kV_clashing dc_clashing pm_clashing cd_clashing ct_clashing : Value}
    {f_law_pick : Addr} {od_law_pick an_law_pick : Option Addr} {sl_law_pick : Array (Option Value)} {oc_law_pick kV_law_pick dc_law_pick pm_law_pick cd_law_pick ct_law_pick : Value}
    {f_law_wide : Addr} {od_law_wide an_law_wide : Option Addr} {sl_law_wide : Array (Option Value)} {oc_law_wide kV_law_wide dc_law_wide pm_law_wide cd_law_wide ct_law_wide : Value}
    {f_law_paces : Addr} {od_law_paces an_law_paces : Option Addr} {sl_law_paces : Array (Option Value)} {oc_law_paces kV_law_paces dc_law_paces pm_law_paces cd_law_paces ct_law_paces : Value}
    {f_law_many : Addr} {od_law_many an_law_many : Option Addr} {sl_law_many : Array (Option Value)} {oc_law_many kV_law_many dc_law_many pm_law_many cd_law_many ct_law_many : Value}
    {f_law_word : Addr} {od_law_word an_law_word : Option Addr} {sl_law_word : Array (Option Value)} {oc_law_word kV_law_word dc_law_word pm_law_word cd_law_word ct_law_word : Value}
    {f_law_in : Addr} {od_law_in an_law_in : Option Addr} {sl_law_in : Array (Option Value)} {oc_law_in kV_law_in dc_law_in pm_law_in cd_law_in ct_law_in : Value}
    {f_law_whole : Addr} {od_law_whole an_law_whole : Option Addr} {sl_law_whole : Array (Option Value)} {oc_law_whole kV_law_whole dc_law_whole pm_law_whole cd_law_whole ct_law_whole : Value}
    {f_law_rise : Addr} {od_law_rise an_law_rise : Option Addr} {sl_law_rise : Array (Option Value)} {oc_law_rise kV_law_rise dc_law_rise pm_law_rise cd_law_rise ct_law_rise : Value}
    {f_law_clash : Addr} {od_law_clash an_law_clash : Option Addr} {sl_law_clash : Array (Option Value)} {oc_law_clash kV_law_clash dc_law_clash pm_law_clash cd_law_clash ct_law_clash : Value}
    {f_law_path : Addr} {od_law_path an_law_path : Option Addr} {sl_law_path : Array (Option Value)} {oc_law_path kV_law_path dc_law_path pm_law_path cd_law_path ct_law_path : Value}
    {f_law_marks : Addr} {od_law_marks an_law_marks : Option Addr} {sl_law_marks : Array (Option Value)} {oc_law_marks kV_law_marks dc_law_marks pm_law_marks cd_law_marks ct_law_marks : Value}
    {f_law_held : Addr} {od_law_held an_law_held : Option Addr} {sl_law_held : Array (Option Value)} {oc_law_held kV_law_held dc_law_held pm_law_held cd_law_held ct_law_held : Value}
    {f_law_pair : Addr} {od_law_pair an_law_pair : Option Addr} {sl_law_pair : Array (Option Value)} {oc_law_pair kV_law_pair dc_law_pair pm_law_pair cd_law_pair ct_law_pair : Value}
    {f_law_asked : Addr} {od_law_asked an_law_asked : Option Addr} {sl_law_asked : Array (Option Value)} {oc_law_asked kV_law_asked dc_law_asked pm_law_asked cd_law_asked ct_law_asked : Value}
    {f_law_numbers : Addr} {od_law_numbers an_law_numbers : Option Addr} {sl_law_numbers : Array (Option Value)} {oc_law_numbers kV_law_numbers dc_law_numbers pm_law_numbers cd_law_numbers ct_law_numbers : Value}
    {f_law_spans : Addr} {od_law_spans an_law_spans : Option Addr} {sl_law_spans : Array (Option Value)} {oc_law_spans kV_law_spans dc_law_spans pm_law_spans cd_law_spans ct_law_spans : Value}
    {f_law : Addr} {od_law an_law : Option Addr} {sl_law : Array (Option Value)} {oc_law kV_law dc_law pm_law cd_law ct_law : Value}
    (a_is_crossed : PySem.W.nsIn K mainGlobals "is_crossed" = some (some (.ref f_is_crossed))) (l_is_crossed : K.lookup f_is_crossed = some ⟨oc_is_crossed, od_is_crossed, .func (PySem.W.fnOf "is_crossed" "is_crossed" (defArgs s_is_crossed) (defBody s_is_crossed) (defScope s_is_crossed) .none kV_is_crossed dc_is_crossed pm_is_crossed an_is_crossed cd_is_crossed ct_is_crossed), sl_is_crossed⟩) (c_is_crossed : PySem.W.codeIn K cd_is_crossed "is_crossed" = true) (k_is_crossed : PySem.W.keepIn K (.ref f_is_crossed) = true)
    (a_meet : PySem.W.nsIn K mainGlobals "meet" = some (some (.ref f_meet))) (l_meet : K.lookup f_meet = some ⟨oc_meet, od_meet, .func (PySem.W.fnOf "meet" "meet" (defArgs s_meet) (defBody s_meet) (defScope s_meet) .none kV_meet dc_meet pm_meet an_meet cd_meet ct_meet), sl_meet⟩) (c_meet : PySem.W.codeIn K cd_meet "meet" = true) (k_meet : PySem.W.keepIn K (.ref f_meet) = true)
    (a_common : PySem.W.nsIn K mainGlobals "common" = some (some (.ref f_common))) (l_common : K.lookup f_common = some ⟨oc_common, od_common, .func (PySem.W.fnOf "common" "common" (defArgs s_common) (defBody s_common) (defScope s_common) .none kV_common dc_common pm_common an_common cd_common ct_common), sl_common⟩) (c_common : PySem.W.codeIn K cd_common "common" = true) (k_common : PySem.W.keepIn K (.ref f_common) = true)
    (a_number_in : PySem.W.nsIn K mainGlobals "number_in" = some (some (.ref f_number_in))) (l_number_in : K.lookup f_number_in = some ⟨oc_number_in, od_number_in, .func (PySem.W.fnOf "number_in" "number_in" (defArgs s_number_in) (defBody s_number_in) (defScope s_number_in) .none kV_number_in dc_number_in pm_number_in an_number_in cd_number_in ct_number_in), sl_number_in⟩) (c_number_in : PySem.W.codeIn K cd_number_in "number_in" = true) (k_number_in : PySem.W.keepIn K (.ref f_number_in) = true)
    (a_moved : PySem.W.nsIn K mainGlobals "moved" = some (some (.ref f_moved))) (l_moved : K.lookup f_moved = some ⟨oc_moved, od_moved, .func (PySem.W.fnOf "moved" "moved" (defArgs s_moved) (defBody s_moved) (defScope s_moved) .none kV_moved dc_moved pm_moved an_moved cd_moved ct_moved), sl_moved⟩) (c_moved : PySem.W.codeIn K cd_moved "moved" = true) (k_moved : PySem.W.keepIn K (.ref f_moved) = true)
    (a_narrowed : PySem.W.nsIn K mainGlobals "narrowed" = some (some (.ref f_narrowed))) (l_narrowed : K.lookup f_narrowed = some ⟨oc_narrowed, od_narrowed, .func (PySem.W.fnOf "narrowed" "narrowed" (defArgs s_narrowed) (defBody s_narrowed) (defScope s_narrowed) .none kV_narrowed dc_narrowed pm_narrowed an_narrowed cd_narrowed ct_narrowed), sl_narrowed⟩) (c_narrowed : PySem.W.codeIn K cd_narrowed "narrowed" = true) (k_narrowed : PySem.W.keepIn K (.ref f_narrowed) = true)
    (a_stretches_at : PySem.W.nsIn K mainGlobals "stretches_at" = some (some (.ref f_stretches_at))) (l_stretches_at : K.lookup f_stretches_at = some ⟨oc_stretches_at, od_stretches_at, .func (PySem.W.fnOf "stretches_at" "stretches_at" (defArgs s_stretches_at) (defBody s_stretches_at) (defScope s_stretches_at) .none kV_stretches_at dc_stretches_at pm_stretches_at an_stretches_at cd_stretches_at ct_stretches_at), sl_stretches_at⟩) (c_stretches_at : PySem.W.codeIn K cd_stretches_at "stretches_at" = true) (k_stretches_at : PySem.W.keepIn K (.ref f_stretches_at) = true)
    (a_tube : PySem.W.nsIn K mainGlobals "tube" = some (some (.ref f_tube))) (l_tube : K.lookup f_tube = some ⟨oc_tube, od_tube, .func (PySem.W.fnOf "tube" "tube" (defArgs s_tube) (defBody s_tube) (defScope s_tube) .none kV_tube dc_tube pm_tube an_tube cd_tube ct_tube), sl_tube⟩) (c_tube : PySem.W.codeIn K cd_tube "tube" = true) (k_tube : PySem.W.keepIn K (.ref f_tube) = true)
    (a_course_in : PySem.W.nsIn K mainGlobals "course_in" = some (some (.ref f_course_in))) (l_course_in : K.lookup f_course_in = some ⟨oc_course_in, od_course_in, .func (PySem.W.fnOf "course_in" "course_in" (defArgs s_course_in) (defBody s_course_in) (defScope s_course_in) .none kV_course_in dc_course_in pm_course_in an_course_in cd_course_in ct_course_in), sl_course_in⟩) (c_course_in : PySem.W.codeIn K cd_course_in "course_in" = true) (k_course_in : PySem.W.keepIn K (.ref f_course_in) = true)
    (a_lesser : PySem.W.nsIn K mainGlobals "lesser" = some (some (.ref f_lesser))) (l_lesser : K.lookup f_lesser = some ⟨oc_lesser, od_lesser, .func (PySem.W.fnOf "lesser" "lesser" (defArgs s_lesser) (defBody s_lesser) (defScope s_lesser) .none kV_lesser dc_lesser pm_lesser an_lesser cd_lesser ct_lesser), sl_lesser⟩) (c_lesser : PySem.W.codeIn K cd_lesser "lesser" = true) (k_lesser : PySem.W.keepIn K (.ref f_lesser) = true)
    (a_lifted : PySem.W.nsIn K mainGlobals "lifted" = some (some (.ref f_lifted))) (l_lifted : K.lookup f_lifted = some ⟨oc_lifted, od_lifted, .func (PySem.W.fnOf "lifted" "lifted" (defArgs s_lifted) (defBody s_lifted) (defScope s_lifted) .none kV_lifted dc_lifted pm_lifted an_lifted cd_lifted ct_lifted), sl_lifted⟩) (c_lifted : PySem.W.codeIn K cd_lifted "lifted" = true) (k_lifted : PySem.W.keepIn K (.ref f_lifted) = true)
    (a_ceilings : PySem.W.nsIn K mainGlobals "ceilings" = some (some (.ref f_ceilings))) (l_ceilings : K.lookup f_ceilings = some ⟨oc_ceilings, od_ceilings, .func (PySem.W.fnOf "ceilings" "ceilings" (defArgs s_ceilings) (defBody s_ceilings) (defScope s_ceilings) .none kV_ceilings dc_ceilings pm_ceilings an_ceilings cd_ceilings ct_ceilings), sl_ceilings⟩) (c_ceilings : PySem.W.codeIn K cd_ceilings "ceilings" = true) (k_ceilings : PySem.W.keepIn K (.ref f_ceilings) = true)
    (a_crossing : PySem.W.nsIn K mainGlobals "crossing" = some (some (.ref f_crossing))) (l_crossing : K.lookup f_crossing = some ⟨oc_crossing, od_crossing, .func (PySem.W.fnOf "crossing" "crossing" (defArgs s_crossing) (defBody s_crossing) (defScope s_crossing) .none kV_crossing dc_crossing pm_crossing an_crossing cd_crossing ct_crossing), sl_crossing⟩) (c_crossing : PySem.W.codeIn K cd_crossing "crossing" = true) (k_crossing : PySem.W.keepIn K (.ref f_crossing) = true)
    (a_clashing : PySem.W.nsIn K mainGlobals "clashing" = some (some (.ref f_clashing))) (l_clashing : K.lookup f_clashing = some ⟨oc_clashing, od_clashing, .func (PySem.W.fnOf "clashing" "clashing" (defArgs s_clashing) (defBody s_clashing) (defScope s_clashing) .none kV_clashing dc_clashing pm_clashing an_clashing cd_clashing ct_clashing), sl_clashing⟩) (c_clashing : PySem.W.codeIn K cd_clashing "clashing" = true) (k_clashing : PySem.W.keepIn K (.ref f_clashing) = true)
    (a_law_pick : PySem.W.nsIn K mainGlobals "_law_pick" = some (some (.ref f_law_pick))) (l_law_pick : K.lookup f_law_pick = some ⟨oc_law_pick, od_law_pick, .func (PySem.W.fnOf "_law_pick" "_law_pick" (defArgs s_law_pick) (defBody s_law_pick) (defScope s_law_pick) .none kV_law_pick dc_law_pick pm_law_pick an_law_pick cd_law_pick ct_law_pick), sl_law_pick⟩) (c_law_pick : PySem.W.codeIn K cd_law_pick "_law_pick" = true) (k_law_pick : PySem.W.keepIn K (.ref f_law_pick) = true)
    (a_law_wide : PySem.W.nsIn K mainGlobals "_law_wide" = some (some (.ref f_law_wide))) (l_law_wide : K.lookup f_law_wide = some ⟨oc_law_wide, od_law_wide, .func (PySem.W.fnOf "_law_wide" "_law_wide" (defArgs s_law_wide) (defBody s_law_wide) (defScope s_law_wide) .none kV_law_wide dc_law_wide pm_law_wide an_law_wide cd_law_wide ct_law_wide), sl_law_wide⟩) (c_law_wide : PySem.W.codeIn K cd_law_wide "_law_wide" = true) (k_law_wide : PySem.W.keepIn K (.ref f_law_wide) = true)
    (a_law_paces : PySem.W.nsIn K mainGlobals "_law_paces" = some (some (.ref f_law_paces))) (l_law_paces : K.lookup f_law_paces = some ⟨oc_law_paces, od_law_paces, .func (PySem.W.fnOf "_law_paces" "_law_paces" (defArgs s_law_paces) (defBody s_law_paces) (defScope s_law_paces) .none kV_law_paces dc_law_paces pm_law_paces an_law_paces cd_law_paces ct_law_paces), sl_law_paces⟩) (c_law_paces : PySem.W.codeIn K cd_law_paces "_law_paces" = true) (k_law_paces : PySem.W.keepIn K (.ref f_law_paces) = true)
    (a_law_many : PySem.W.nsIn K mainGlobals "_law_many" = some (some (.ref f_law_many))) (l_law_many : K.lookup f_law_many = some ⟨oc_law_many, od_law_many, .func (PySem.W.fnOf "_law_many" "_law_many" (defArgs s_law_many) (defBody s_law_many) (defScope s_law_many) .none kV_law_many dc_law_many pm_law_many an_law_many cd_law_many ct_law_many), sl_law_many⟩) (c_law_many : PySem.W.codeIn K cd_law_many "_law_many" = true) (k_law_many : PySem.W.keepIn K (.ref f_law_many) = true)
    (a_law_word : PySem.W.nsIn K mainGlobals "_law_word" = some (some (.ref f_law_word))) (l_law_word : K.lookup f_law_word = some ⟨oc_law_word, od_law_word, .func (PySem.W.fnOf "_law_word" "_law_word" (defArgs s_law_word) (defBody s_law_word) (defScope s_law_word) .none kV_law_word dc_law_word pm_law_word an_law_word cd_law_word ct_law_word), sl_law_word⟩) (c_law_word : PySem.W.codeIn K cd_law_word "_law_word" = true) (k_law_word : PySem.W.keepIn K (.ref f_law_word) = true)
    (a_law_in : PySem.W.nsIn K mainGlobals "_law_in" = some (some (.ref f_law_in))) (l_law_in : K.lookup f_law_in = some ⟨oc_law_in, od_law_in, .func (PySem.W.fnOf "_law_in" "_law_in" (defArgs s_law_in) (defBody s_law_in) (defScope s_law_in) .none kV_law_in dc_law_in pm_law_in an_law_in cd_law_in ct_law_in), sl_law_in⟩) (c_law_in : PySem.W.codeIn K cd_law_in "_law_in" = true) (k_law_in : PySem.W.keepIn K (.ref f_law_in) = true)
    (a_law_whole : PySem.W.nsIn K mainGlobals "_law_whole" = some (some (.ref f_law_whole))) (l_law_whole : K.lookup f_law_whole = some ⟨oc_law_whole, od_law_whole, .func (PySem.W.fnOf "_law_whole" "_law_whole" (defArgs s_law_whole) (defBody s_law_whole) (defScope s_law_whole) .none kV_law_whole dc_law_whole pm_law_whole an_law_whole cd_law_whole ct_law_whole), sl_law_whole⟩) (c_law_whole : PySem.W.codeIn K cd_law_whole "_law_whole" = true) (k_law_whole : PySem.W.keepIn K (.ref f_law_whole) = true)
    (a_law_rise : PySem.W.nsIn K mainGlobals "_law_rise" = some (some (.ref f_law_rise))) (l_law_rise : K.lookup f_law_rise = some ⟨oc_law_rise, od_law_rise, .func (PySem.W.fnOf "_law_rise" "_law_rise" (defArgs s_law_rise) (defBody s_law_rise) (defScope s_law_rise) .none kV_law_rise dc_law_rise pm_law_rise an_law_rise cd_law_rise ct_law_rise), sl_law_rise⟩) (c_law_rise : PySem.W.codeIn K cd_law_rise "_law_rise" = true) (k_law_rise : PySem.W.keepIn K (.ref f_law_rise) = true)
    (a_law_clash : PySem.W.nsIn K mainGlobals "_law_clash" = some (some (.ref f_law_clash))) (l_law_clash : K.lookup f_law_clash = some ⟨oc_law_clash, od_law_clash, .func (PySem.W.fnOf "_law_clash" "_law_clash" (defArgs s_law_clash) (defBody s_law_clash) (defScope s_law_clash) .none kV_law_clash dc_law_clash pm_law_clash an_law_clash cd_law_clash ct_law_clash), sl_law_clash⟩) (c_law_clash : PySem.W.codeIn K cd_law_clash "_law_clash" = true) (k_law_clash : PySem.W.keepIn K (.ref f_law_clash) = true)
    (a_law_path : PySem.W.nsIn K mainGlobals "_law_path" = some (some (.ref f_law_path))) (l_law_path : K.lookup f_law_path = some ⟨oc_law_path, od_law_path, .func (PySem.W.fnOf "_law_path" "_law_path" (defArgs s_law_path) (defBody s_law_path) (defScope s_law_path) .none kV_law_path dc_law_path pm_law_path an_law_path cd_law_path ct_law_path), sl_law_path⟩) (c_law_path : PySem.W.codeIn K cd_law_path "_law_path" = true) (k_law_path : PySem.W.keepIn K (.ref f_law_path) = true)
    (a_law_marks : PySem.W.nsIn K mainGlobals "_law_marks" = some (some (.ref f_law_marks))) (l_law_marks : K.lookup f_law_marks = some ⟨oc_law_marks, od_law_marks, .func (PySem.W.fnOf "_law_marks" "_law_marks" (defArgs s_law_marks) (defBody s_law_marks) (defScope s_law_marks) .none kV_law_marks dc_law_marks pm_law_marks an_law_marks cd_law_marks ct_law_marks), sl_law_marks⟩) (c_law_marks : PySem.W.codeIn K cd_law_marks "_law_marks" = true) (k_law_marks : PySem.W.keepIn K (.ref f_law_marks) = true)
    (a_law_held : PySem.W.nsIn K mainGlobals "_law_held" = some (some (.ref f_law_held))) (l_law_held : K.lookup f_law_held = some ⟨oc_law_held, od_law_held, .func (PySem.W.fnOf "_law_held" "_law_held" (defArgs s_law_held) (defBody s_law_held) (defScope s_law_held) .none kV_law_held dc_law_held pm_law_held an_law_held cd_law_held ct_law_held), sl_law_held⟩) (c_law_held : PySem.W.codeIn K cd_law_held "_law_held" = true) (k_law_held : PySem.W.keepIn K (.ref f_law_held) = true)
    (a_law_pair : PySem.W.nsIn K mainGlobals "_law_pair" = some (some (.ref f_law_pair))) (l_law_pair : K.lookup f_law_pair = some ⟨oc_law_pair, od_law_pair, .func (PySem.W.fnOf "_law_pair" "_law_pair" (defArgs s_law_pair) (defBody s_law_pair) (defScope s_law_pair) .none kV_law_pair dc_law_pair pm_law_pair an_law_pair cd_law_pair ct_law_pair), sl_law_pair⟩) (c_law_pair : PySem.W.codeIn K cd_law_pair "_law_pair" = true) (k_law_pair : PySem.W.keepIn K (.ref f_law_pair) = true)
    (a_law_asked : PySem.W.nsIn K mainGlobals "_law_asked" = some (some (.ref f_law_asked))) (l_law_asked : K.lookup f_law_asked = some ⟨oc_law_asked, od_law_asked, .func (PySem.W.fnOf "_law_asked" "_law_asked" (defArgs s_law_asked) (defBody s_law_asked) (defScope s_law_asked) .none kV_law_asked dc_law_asked pm_law_asked an_law_asked cd_law_asked ct_law_asked), sl_law_asked⟩) (c_law_asked : PySem.W.codeIn K cd_law_asked "_law_asked" = true) (k_law_asked : PySem.W.keepIn K (.ref f_law_asked) = true)
    (a_law_numbers : PySem.W.nsIn K mainGlobals "_law_numbers" = some (some (.ref f_law_numbers))) (l_law_numbers : K.lookup f_law_numbers = some ⟨oc_law_numbers, od_law_numbers, .func (PySem.W.fnOf "_law_numbers" "_law_numbers" (defArgs s_law_numbers) (defBody s_law_numbers) (defScope s_law_numbers) .none kV_law_numbers dc_law_numbers pm_law_numbers an_law_numbers cd_law_numbers ct_law_numbers), sl_law_numbers⟩) (c_law_numbers : PySem.W.codeIn K cd_law_numbers "_law_numbers" = true) (k_law_numbers : PySem.W.keepIn K (.ref f_law_numbers) = true)
    (a_law_spans : PySem.W.nsIn K mainGlobals "_law_spans" = some (some (.ref f_law_spans))) (l_law_spans : K.lookup f_law_spans = some ⟨oc_law_spans, od_law_spans, .func (PySem.W.fnOf "_law_spans" "_law_spans" (defArgs s_law_spans) (defBody s_law_spans) (defScope s_law_spans) .none kV_law_spans dc_law_spans pm_law_spans an_law_spans cd_law_spans ct_law_spans), sl_law_spans⟩) (c_law_spans : PySem.W.codeIn K cd_law_spans "_law_spans" = true) (k_law_spans : PySem.W.keepIn K (.ref f_law_spans) = true)
    (a_law : PySem.W.nsIn K mainGlobals "law" = some (some (.ref f_law))) (l_law : K.lookup f_law = some ⟨oc_law, od_law, .func (PySem.W.fnOf "law" "law" (defArgs s_law) (defBody s_law) (defScope s_law) .none kV_law dc_law pm_law an_law cd_law ct_law), sl_law⟩) (c_law : PySem.W.codeIn K cd_law "law" = true) (k_law : PySem.W.keepIn K (.ref f_law) = true)
    (z_bool : PySem.W.nsIn K mainGlobals "bool" = some none)
    (z_enumerate : PySem.W.nsIn K mainGlobals "enumerate" = some none)
    (z_int : PySem.W.nsIn K mainGlobals "int" = some none)
    (z_isinstance : PySem.W.nsIn K mainGlobals "isinstance" = some none)
    (z_len : PySem.W.nsIn K mainGlobals "len" = some none)
    (z_list : PySem.W.nsIn K mainGlobals "list" = some none)
    (z_max : PySem.W.nsIn K mainGlobals "max" = some none)
    (z_min : PySem.W.nsIn K mainGlobals "min" = some none)
    (z_range : PySem.W.nsIn K mainGlobals "range" = some none)
    (z_reversed : PySem.W.nsIn K mainGlobals "reversed" = some none)
    (z_tuple : PySem.W.nsIn K mainGlobals "tuple" = some none)
    (z_zip : PySem.W.nsIn K mainGlobals "zip" = some none)
    : ∃ fd : FuncData, (∀ (s : Shared) (v : Value), BindsTo s fd ⟨[v], []⟩ [("_law_script", v)]) ∧ ∀ base : Heap, K.In base → base.Ns mainGlobals mg → FnOk l.prog w K mg base (CXX l.prog w) 7 fa fd ["_law_script"] (sp_law K) := by
  have e := hfa.symm.trans (PySem.W.mg_of X G a_law)
  cases e
  have F_is_crossed := fun_mk (st := s_is_crossed) l_is_crossed c_is_crossed k_is_crossed
  have b_is_crossed := F_is_crossed.binds (ps := ["lo", "hi"]) fun _ _ _ _ _ _ us hl => match us, hl with | [_, _], _ => rfl
  have F_meet := fun_mk (st := s_meet) l_meet c_meet k_meet
  have b_meet := F_meet.binds (ps := ["one", "other"]) fun _ _ _ _ _ _ us hl => match us, hl with | [_, _], _ => rfl
  have F_common := fun_mk (st := s_common) l_common c_common k_common
  have b_common := F_common.binds (ps := ["some"]) fun _ _ _ _ _ _ us hl => match us, hl with | [_], _ => rfl
  have F_number_in := fun_mk (st := s_number_in) l_number_in c_number_in k_number_in
  have b_number_in := F_number_in.binds (ps := ["cell"]) fun _ _ _ _ _ _ us hl => match us, hl with | [_], _ => rfl
  have F_moved := fun_mk (st := s_moved) l_moved c_moved k_moved
  have b_moved := F_moved.binds (ps := ["one", "step"]) fun _ _ _ _ _ _ us hl => match us, hl with | [_, _], _ => rfl
  have F_narrowed := fun_mk (st := s_narrowed) l_narrowed c_narrowed k_narrowed
  have b_narrowed := F_narrowed.binds (ps := ["boxes", "steps"]) fun _ _ _ _ _ _ us hl => match us, hl with | [_, _], _ => rfl
  have F_stretches_at := fun_mk (st := s_stretches_at) l_stretches_at c_stretches_at k_stretches_at
  have b_stretches_at := F_stretches_at.binds (ps := ["marks", "turn"]) fun _ _ _ _ _ _ us hl => match us, hl with | [_, _], _ => rfl
  have F_tube := fun_mk (st := s_tube) l_tube c_tube k_tube
  have b_tube := F_tube.binds (ps := ["steps", "marks"]) fun _ _ _ _ _ _ us hl => match us, hl with | [_, _], _ => rfl
  have F_course_in := fun_mk (st := s_course_in) l_course_in c_course_in k_course_in
  have b_course_in := F_course_in.binds (ps := ["steps", "marks"]) fun _ _ _ _ _ _ us hl => match us, hl with | [_, _], _ => rfl
  have F_lesser := fun_mk (st := s_lesser) l_lesser c_lesser k_lesser
  have b_lesser := F_lesser.binds (ps := ["one", "other"]) fun _ _ _ _ _ _ us hl => match us, hl with | [_, _], _ => rfl
  have F_lifted := fun_mk (st := s_lifted) l_lifted c_lifted k_lifted
  have b_lifted := F_lifted.binds (ps := ["one", "by"]) fun _ _ _ _ _ _ us hl => match us, hl with | [_, _], _ => rfl
  have F_ceilings := fun_mk (st := s_ceilings) l_ceilings c_ceilings k_ceilings
  have b_ceilings := F_ceilings.binds (ps := ["steps", "marks"]) fun _ _ _ _ _ _ us hl => match us, hl with | [_, _], _ => rfl
  have F_crossing := fun_mk (st := s_crossing) l_crossing c_crossing k_crossing
  have b_crossing := F_crossing.binds (ps := ["tops", "marks"]) fun _ _ _ _ _ _ us hl => match us, hl with | [_, _], _ => rfl
  have F_clashing := fun_mk (st := s_clashing) l_clashing c_clashing k_clashing
  have b_clashing := F_clashing.binds (ps := ["steps", "marks"]) fun _ _ _ _ _ _ us hl => match us, hl with | [_, _], _ => rfl
  have F_law_pick := fun_mk (st := s_law_pick) l_law_pick c_law_pick k_law_pick
  have b_law_pick := F_law_pick.binds (ps := ["_law_script", "_law_k", "_law_many_here"]) fun _ _ _ _ _ _ us hl => match us, hl with | [_, _, _], _ => rfl
  have F_law_wide := fun_mk (st := s_law_wide) l_law_wide c_law_wide k_law_wide
  have b_law_wide := F_law_wide.binds (ps := ["_law_script", "_law_k", "_law_many_here"]) fun _ _ _ _ _ _ us hl => match us, hl with | [_, _, _], _ => rfl
  have F_law_paces := fun_mk (st := s_law_paces) l_law_paces c_law_paces k_law_paces
  have b_law_paces := F_law_paces.binds (ps := ["_law_script", "_law_many_here"]) fun _ _ _ _ _ _ us hl => match us, hl with | [_, _], _ => rfl
  have F_law_many := fun_mk (st := s_law_many) l_law_many c_law_many k_law_many
  have b_law_many := F_law_many.binds (ps := ["_law_script"]) fun _ _ _ _ _ _ us hl => match us, hl with | [_], _ => rfl
  have F_law_word := fun_mk (st := s_law_word) l_law_word c_law_word k_law_word
  have b_law_word := F_law_word.binds (ps := ["_law_script", "_law_k", "_law_far", "_law_number", "_law_false"]) fun _ _ _ _ _ _ us hl => match us, hl with | [_, _, _, _, _], _ => rfl
  have F_law_in := fun_mk (st := s_law_in) l_law_in c_law_in k_law_in
  have b_law_in := F_law_in.binds (ps := ["_law_span", "_law_number"]) fun _ _ _ _ _ _ us hl => match us, hl with | [_, _], _ => rfl
  have F_law_whole := fun_mk (st := s_law_whole) l_law_whole c_law_whole k_law_whole
  have b_law_whole := F_law_whole.binds (ps := ["_law_found"]) fun _ _ _ _ _ _ us hl => match us, hl with | [_], _ => rfl
  have F_law_rise := fun_mk (st := s_law_rise) l_law_rise c_law_rise k_law_rise
  have b_law_rise := F_law_rise.binds (ps := ["_law_steps", "_law_one", "_law_other"]) fun _ _ _ _ _ _ us hl => match us, hl with | [_, _, _], _ => rfl
  have F_law_clash := fun_mk (st := s_law_clash) l_law_clash c_law_clash k_law_clash
  have b_law_clash := F_law_clash.binds (ps := ["_law_steps", "_law_one", "_law_other"]) fun _ _ _ _ _ _ us hl => match us, hl with | [_, _, _], _ => rfl
  have F_law_path := fun_mk (st := s_law_path) l_law_path c_law_path k_law_path
  have b_law_path := F_law_path.binds (ps := ["_law_script", "_law_steps"]) fun _ _ _ _ _ _ us hl => match us, hl with | [_, _], _ => rfl
  have F_law_marks := fun_mk (st := s_law_marks) l_law_marks c_law_marks k_law_marks
  have b_law_marks := F_law_marks.binds (ps := ["_law_script", "_law_course"]) fun _ _ _ _ _ _ us hl => match us, hl with | [_, _], _ => rfl
  have F_law_held := fun_mk (st := s_law_held) l_law_held c_law_held k_law_held
  have b_law_held := F_law_held.binds (ps := ["_law_found", "_law_steps", "_law_marks_here"]) fun _ _ _ _ _ _ us hl => match us, hl with | [_, _, _], _ => rfl
  have F_law_pair := fun_mk (st := s_law_pair) l_law_pair c_law_pair k_law_pair
  have b_law_pair := F_law_pair.binds (ps := ["_law_found", "_law_steps", "_law_marks_here"]) fun _ _ _ _ _ _ us hl => match us, hl with | [_, _, _], _ => rfl
  have F_law_asked := fun_mk (st := s_law_asked) l_law_asked c_law_asked k_law_asked
  have b_law_asked := F_law_asked.binds (ps := ["_law_steps", "_law_marks_here", "_law_turn", "_law_number", "_law_due"]) fun _ _ _ _ _ _ us hl => match us, hl with | [_, _, _, _, _], _ => rfl
  have F_law_numbers := fun_mk (st := s_law_numbers) l_law_numbers c_law_numbers k_law_numbers
  have b_law_numbers := F_law_numbers.binds (ps := ["_law_script", "_law_span"]) fun _ _ _ _ _ _ us hl => match us, hl with | [_, _], _ => rfl
  have F_law_spans := fun_mk (st := s_law_spans) l_law_spans c_law_spans k_law_spans
  have b_law_spans := F_law_spans.binds (ps := ["_law_found", "_law_many_here"]) fun _ _ _ _ _ _ us hl => match us, hl with | [_, _], _ => rfl
  have F_law := fun_mk (st := s_law) l_law c_law k_law
  have b_law := F_law.binds (ps := ["_law_script"]) fun _ _ _ _ _ _ us hl => match us, hl with | [_], _ => rfl
  have T : ∃ T : Tx K mg, T.a_law = fa ∧ T.fd_law = PySem.W.fnOf "law" "law" (defArgs s_law) (defBody s_law) (defScope s_law) .none kV_law dc_law pm_law an_law cd_law ct_law := ⟨{ a_is_crossed := f_is_crossed, fd_is_crossed := _, F_is_crossed := F_is_crossed, b_is_crossed := b_is_crossed, m_is_crossed := PySem.W.mg_of X G a_is_crossed, a_meet := f_meet, fd_meet := _, F_meet := F_meet, b_meet := b_meet, m_meet := PySem.W.mg_of X G a_meet, a_common := f_common, fd_common := _, F_common := F_common, b_common := b_common, m_common := PySem.W.mg_of X G a_common, a_number_in := f_number_in, fd_number_in := _, F_number_in := F_number_in, b_number_in := b_number_in, m_number_in := PySem.W.mg_of X G a_number_in, a_moved := f_moved, fd_moved := _, F_moved := F_moved, b_moved := b_moved, m_moved := PySem.W.mg_of X G a_moved, a_narrowed := f_narrowed, fd_narrowed := _, F_narrowed := F_narrowed, b_narrowed := b_narrowed, m_narrowed := PySem.W.mg_of X G a_narrowed, a_stretches_at := f_stretches_at, fd_stretches_at := _, F_stretches_at := F_stretches_at, b_stretches_at := b_stretches_at, m_stretches_at := PySem.W.mg_of X G a_stretches_at, a_tube := f_tube, fd_tube := _, F_tube := F_tube, b_tube := b_tube, m_tube := PySem.W.mg_of X G a_tube, a_course_in := f_course_in, fd_course_in := _, F_course_in := F_course_in, b_course_in := b_course_in, m_course_in := PySem.W.mg_of X G a_course_in, a_lesser := f_lesser, fd_lesser := _, F_lesser := F_lesser, b_lesser := b_lesser, m_lesser := PySem.W.mg_of X G a_lesser, a_lifted := f_lifted, fd_lifted := _, F_lifted := F_lifted, b_lifted := b_lifted, m_lifted := PySem.W.mg_of X G a_lifted, a_ceilings := f_ceilings, fd_ceilings := _, F_ceilings := F_ceilings, b_ceilings := b_ceilings, m_ceilings := PySem.W.mg_of X G a_ceilings, a_crossing := f_crossing, fd_crossing := _, F_crossing := F_crossing, b_crossing := b_crossing, m_crossing := PySem.W.mg_of X G a_crossing, a_clashing := f_clashing, fd_clashing := _, F_clashing := F_clashing, b_clashing := b_clashing, m_clashing := PySem.W.mg_of X G a_clashing, a_law_pick := f_law_pick, fd_law_pick := _, F_law_pick := F_law_pick, b_law_pick := b_law_pick, m_law_pick := PySem.W.mg_of X G a_law_pick, a_law_wide := f_law_wide, fd_law_wide := _, F_law_wide := F_law_wide, b_law_wide := b_law_wide, m_law_wide := PySem.W.mg_of X G a_law_wide, a_law_paces := f_law_paces, fd_law_paces := _, F_law_paces := F_law_paces, b_law_paces := b_law_paces, m_law_paces := PySem.W.mg_of X G a_law_paces, a_law_many := f_law_many, fd_law_many := _, F_law_many := F_law_many, b_law_many := b_law_many, m_law_many := PySem.W.mg_of X G a_law_many, a_law_word := f_law_word, fd_law_word := _, F_law_word := F_law_word, b_law_word := b_law_word, m_law_word := PySem.W.mg_of X G a_law_word, a_law_in := f_law_in, fd_law_in := _, F_law_in := F_law_in, b_law_in := b_law_in, m_law_in := PySem.W.mg_of X G a_law_in, a_law_whole := f_law_whole, fd_law_whole := _, F_law_whole := F_law_whole, b_law_whole := b_law_whole, m_law_whole := PySem.W.mg_of X G a_law_whole, a_law_rise := f_law_rise, fd_law_rise := _, F_law_rise := F_law_rise, b_law_rise := b_law_rise, m_law_rise := PySem.W.mg_of X G a_law_rise, a_law_clash := f_law_clash, fd_law_clash := _, F_law_clash := F_law_clash, b_law_clash := b_law_clash, m_law_clash := PySem.W.mg_of X G a_law_clash, a_law_path := f_law_path, fd_law_path := _, F_law_path := F_law_path, b_law_path := b_law_path, m_law_path := PySem.W.mg_of X G a_law_path, a_law_marks := f_law_marks, fd_law_marks := _, F_law_marks := F_law_marks, b_law_marks := b_law_marks, m_law_marks := PySem.W.mg_of X G a_law_marks, a_law_held := f_law_held, fd_law_held := _, F_law_held := F_law_held, b_law_held := b_law_held, m_law_held := PySem.W.mg_of X G a_law_held, a_law_pair := f_law_pair, fd_law_pair := _, F_law_pair := F_law_pair, b_law_pair := b_law_pair, m_law_pair := PySem.W.mg_of X G a_law_pair, a_law_asked := f_law_asked, fd_law_asked := _, F_law_asked := F_law_asked, b_law_asked := b_law_asked, m_law_asked := PySem.W.mg_of X G a_law_asked, a_law_numbers := f_law_numbers, fd_law_numbers := _, F_law_numbers := F_law_numbers, b_law_numbers := b_law_numbers, m_law_numbers := PySem.W.mg_of X G a_law_numbers, a_law_spans := f_law_spans, fd_law_spans := _, F_law_spans := F_law_spans, b_law_spans := b_law_spans, m_law_spans := PySem.W.mg_of X G a_law_spans, a_law := fa, fd_law := _, F_law := F_law, b_law := b_law, m_law := PySem.W.mg_of X G a_law, n_bool := PySem.W.mg_none_of X G z_bool, n_enumerate := PySem.W.mg_none_of X G z_enumerate, n_int := PySem.W.mg_none_of X G z_int, n_isinstance := PySem.W.mg_none_of X G z_isinstance, n_len := PySem.W.mg_none_of X G z_len, n_list := PySem.W.mg_none_of X G z_list, n_max := PySem.W.mg_none_of X G z_max, n_min := PySem.W.mg_none_of X G z_min, n_range := PySem.W.mg_none_of X G z_range, n_reversed := PySem.W.mg_none_of X G z_reversed, n_tuple := PySem.W.mg_none_of X G z_tuple, n_zip := PySem.W.mg_none_of X G z_zip }, rfl, rfl⟩
  obtain ⟨T, e1, e2⟩ := T
  refine ⟨PySem.W.fnOf "law" "law" (defArgs s_law) (defBody s_law) (defScope s_law) .none kV_law dc_law pm_law an_law cd_law ct_law, fun s v => .of_eq rfl, fun base _ _ => ?_⟩
  rw [← e1, ← e2]
  exact ok_law T
theorem walk {l : PySem.W.OpenLaw} {q : Program} {loose : List Str} {XP : (Str → Option Value) → Heap → Prop} {YP : World → Heap → Prop} {d : DefRec} {K : Params → PySem.W.Frag} (hn : l.most = some 63) (hdf : d.params.defaults = [])
    (hY : ∀ (w : World) (h : Heap), YP w h → (K w.params).In h)
    (F : ∀ (w : World) (mg : Str → Option Value) (fa : Addr) (h : Heap), (K w.params).In h → h.Ns mainGlobals mg → mg d.name = some (.ref fa) →
      ∃ fd : FuncData, (∀ (s : Shared) (u : Value), BindsTo s fd ⟨[u], []⟩ [("_law_script", u)]) ∧ ∀ base : Heap, (K w.params).In base → base.Ns mainGlobals mg → FnOk l.prog w (K w.params) mg base (CXX l.prog w) 7 fa fd ["_law_script"] (sp_law (K w.params))) :
    PySem.W.WalkO q loose XP YP l.row.toRowW d [] (fun f vs => PySem.call f vs) :=
  Gz.walk_big (k := 7) (x := "_law_script") (CX := fun w => CXX l.prog w) (sp := fun w => sp_law (K w.params)) hn hdf ⟨rfl, by decide, by decide⟩ hY F (fun _ _ a ns hl hS => ⟨a, ns, rfl, hS, hl, fun _ => rfl⟩) fun _ _ _ _ _ z => noCXX z
end K39
def PySem.W.Fast.tw18091964351483246130 : Unit := ()
def PySem.W.Fast.tw241318823640019157 : Unit := ()
def PySem.W.Fast.tw2235528150426820869 : Unit := ()
def PySem.W.Fast.tw15858504744770362483 : Unit := ()
def PySem.W.Fast.tw9918409021079628660 : Unit := ()
def PySem.W.Fast.tw17820232510388179788 : Unit := ()
def PySem.W.Fast.tw18289763421510091287 : Unit := ()
def PySem.W.Fast.tw9111960467129599262 : Unit := ()
def PySem.W.Fast.tw426746678556463791 : Unit := ()
def PySem.W.Fast.tw5085794731776965635 : Unit := ()
def PySem.W.Fast.tw5081740694542747887 : Unit := ()
def PySem.W.Fast.tw2126758346107077076 : Unit := ()
def PySem.W.Fast.tw11867244192923919586 : Unit := ()
def PySem.W.Fast.tw5160373360447303576 : Unit := ()
def PySem.W.Fast.tw1908407256894931465 : Unit := ()
def PySem.W.Fast.tw16582716233412772962 : Unit := ()
def PySem.W.Fast.tw18439531726056333997 : Unit := ()
def PySem.W.Fast.tw10479365982572441845 : Unit := ()
def PySem.W.Fast.tw9652824645294110991 : Unit := ()
def PySem.W.Fast.tw2748103984039583212 : Unit := ()
def PySem.W.Fast.tw15670808085314130912 : Unit := ()
def PySem.W.Fast.tw9861608769686613987 : Unit := ()
def PySem.W.Fast.tw17227443707954578324 : Unit := ()
def PySem.W.Fast.tw13783992871603559282 : Unit := ()
def PySem.W.Fast.tw13289882010812828580 : Unit := ()
def PySem.W.Fast.tw9009919461474433486 : Unit := ()
def PySem.W.Fast.tw5843042354691886093 : Unit := ()
def PySem.W.Fast.tw8357116985891449 : Unit := ()
def PySem.W.Fast.tw12323015204660460545 : Unit := ()
def PySem.W.Fast.tw14094348715409149327 : Unit := ()
def PySem.W.Fast.tw692860743796196836 : Unit := ()
def PySem.W.Fast.tw4907807522531039796 : Unit := ()
def PySem.W.Fast.tw438486427537121696 : Unit := ()
def PySem.W.Fast.tw11287296429664154515 : Unit := ()
def PySem.W.Fast.tw16489813488406998648 : Unit := ()
def PySem.W.Fast.tw18345422700720293815 : Unit := ()
def PySem.W.Fast.tw3822962499203321440 : Unit := ()
def PySem.W.Fast.tw11488596513113679319 : Unit := ()
def PySem.W.Fast.tw3633254571158823325 : Unit := ()
def PySem.W.Fast.tw9003926802902680020 : Unit := ()
def PySem.W.Fast.tw10476793940353112004 : Unit := ()
def PySem.W.Fast.tw12015549619064869550 : Unit := ()
def PySem.W.Fast.tw6352931185365379756 : Unit := ()
def PySem.W.Fast.tw5827663907124298245 : Unit := ()
def PySem.W.Fast.tw16622831014222898005 : Unit := ()
def PySem.W.Fast.tw2256318363037136138 : Unit := ()
def PySem.W.Fast.tw17106226118803211433 : Unit := ()
def PySem.W.Fast.tw16131012111358339031 : Unit := ()
def PySem.W.Fast.tw12538651729912491107 : Unit := ()
def PySem.W.Fast.tw15576055473245489318 : Unit := ()
def PySem.W.Fast.tw11171796683416082740 : Unit := ()
def PySem.W.Fast.tw9043683208728884783 : Unit := ()
def PySem.W.Fast.tw14229470387539332372 : Unit := ()
def PySem.W.Fast.tw14000352420560048469 : Unit := ()
def PySem.W.Fast.tw1286372507009405046 : Unit := ()
def PySem.W.Fast.tw12724651845327746105 : Unit := ()
def PySem.W.Fast.tw6722507024545428001 : Unit := ()
def PySem.W.Fast.tw8189321889629480275 : Unit := ()
def PySem.W.Fast.tw6477402149154673422 : Unit := ()
def PySem.W.Fast.tw14073191385322709640 : Unit := ()
def PySem.W.Fast.tw11526202822024974237 : Unit := ()
def PySem.W.Fast.tw12777574279596956494 : Unit := ()
def PySem.W.Fast.tw9603556856026379077 : Unit := ()
def PySem.W.Fast.tw6565424500460563164 : Unit := ()
def PySem.W.Fast.tw10140185141036360452 : Unit := ()
def PySem.W.Fast.tw6591617580014766811 : Unit := ()
def PySem.W.Fast.tw9506829333081682956 : Unit := ()
def PySem.W.Fast.tw18031862369918088776 : Unit := ()
def PySem.W.Fast.tw6162871303448036763 : Unit := ()
def PySem.W.Fast.tw10492504390958267253 : Unit := ()
def PySem.W.Fast.tw17808225422329261823 : Unit := ()
def PySem.W.Fast.tw8262959212067846129 : Unit := ()
def PySem.W.Fast.tw16764982121722990989 : Unit := ()
def PySem.W.Fast.tw12604395288837917523 : Unit := ()
def PySem.W.Fast.tw7589958084557336333 : Unit := ()
def PySem.W.Fast.tw16870458327571667232 : Unit := ()
def PySem.W.Fast.tw855326982439687279 : Unit := ()
def PySem.W.Fast.tw13200456904208791786 : Unit := ()
def PySem.W.Fast.tw7510607566599873916 : Unit := ()
def PySem.W.Fast.tw5357982450560113369 : Unit := ()
def PySem.W.Fast.tw12619265003254588535 : Unit := ()
def PySem.W.Fast.tw11092649704316085253 : Unit := ()
def PySem.W.Fast.tw11929843145872080485 : Unit := ()
def PySem.W.Fast.tw11676471369572550576 : Unit := ()
def PySem.W.Fast.tw2963942570901812565 : Unit := ()
def PySem.W.Fast.tw4686724307482267910 : Unit := ()
def PySem.W.Fast.tw16952668647916839293 : Unit := ()
def PySem.W.Fast.tw2818241260417440302 : Unit := ()
def PySem.W.Fast.tw3439174912848538025 : Unit := ()
def PySem.W.Fast.tw3069455442361879116 : Unit := ()
def PySem.W.Fast.tw15343687861851668051 : Unit := ()
def PySem.W.Fast.tw1699693412006440173 : Unit := ()
def PySem.W.Fast.tw12827105508044068959 : Unit := ()
def PySem.W.Fast.tw82812260688474964 : Unit := ()
def PySem.W.Fast.tw14759708918278746855 : Unit := ()
def PySem.W.Fast.tw18240542992921350302 : Unit := ()
def PySem.W.Fast.tw11232064876233925528 : Unit := ()
def PySem.W.Fast.tw3059199418546813049 : Unit := ()
def PySem.W.Fast.tw13364247023647587693 : Unit := ()
def PySem.W.Fast.tw8369186271989997031 : Unit := ()
def PySem.W.Fast.tw15117118899809299555 : Unit := ()
def PySem.W.Fast.tw10767813452159098007 : Unit := ()
def PySem.W.Fast.tw15497058286405353303 : Unit := ()
def PySem.W.Fast.tw17858364133112291314 : Unit := ()
def PySem.W.Fast.tw17022990289300544983 : Unit := ()
def PySem.W.Fast.tw15228782622285357725 : Unit := ()
def PySem.W.Fast.tw17734564240769344309 : Unit := ()
def PySem.W.Fast.tw8329822542057241176 : Unit := ()
def PySem.W.Fast.tw2187642030790882604 : Unit := ()
def PySem.W.Fast.tw13238186142186858472 : Unit := ()
def PySem.W.Fast.tw4780275338988068694 : Unit := ()
def PySem.W.Fast.tw17548453210506174545 : Unit := ()
def PySem.W.Fast.tw11764782523915241289 : Unit := ()
def PySem.W.Fast.tw17498524003918827056 : Unit := ()
def PySem.W.Fast.tw12796517625033129119 : Unit := ()
def PySem.W.Fast.tw12548000649220244834 : Unit := ()
def PySem.W.Fast.tw15495794258261731545 : Unit := ()
def PySem.W.Fast.tw10108412515612892466 : Unit := ()
def PySem.W.Fast.tw197561825349763587 : Unit := ()
def PySem.W.Fast.tw5093225932341375001 : Unit := ()
def PySem.W.Fast.tw5997028775091715434 : Unit := ()
def PySem.W.Fast.tw4349685926279860233 : Unit := ()
def PySem.W.Fast.tw2281859570813804069 : Unit := ()
def PySem.W.Fast.tw6037740347127375404 : Unit := ()
def PySem.W.Fast.tw6092852287451125457 : Unit := ()
def PySem.W.Fast.tw445130763781306189 : Unit := ()
def PySem.W.Fast.tw8081004498667933210 : Unit := ()
def PySem.W.Fast.tw6988548574284041252 : Unit := ()
def PySem.W.Fast.tw5275400116905640772 : Unit := ()
def PySem.W.Fast.tw7543522014299874507 : Unit := ()
def PySem.W.Fast.tw9220241991936074066 : Unit := ()
def PySem.W.Fast.tw2237411045099699057 : Unit := ()
def PySem.W.Fast.tw18382903626694510466 : Unit := ()
def PySem.W.Fast.tw1640615479975257594 : Unit := ()
def PySem.W.Fast.tw13395847725285280880 : Unit := ()
def PySem.W.Fast.tw8745871949560408542 : Unit := ()
def PySem.W.Fast.tw9320806781404984390 : Unit := ()
def PySem.W.Fast.tw1221634532338660433 : Unit := ()
def PySem.W.Fast.tw16559014643962411475 : Unit := ()
def PySem.W.Fast.tw9777007197389240057 : Unit := ()
def PySem.W.Fast.tw2040707736412525186 : Unit := ()
def PySem.W.Fast.tw1458289379362277944 : Unit := ()
def PySem.W.Fast.tw13499624779732273506 : Unit := ()
def PySem.W.Fast.tw4456650103342580806 : Unit := ()
def PySem.W.Fast.tw9335765905260880026 : Unit := ()
def PySem.W.Fast.tw34538701047225735 : Unit := ()
def PySem.W.Fast.tw2085751948083247396 : Unit := ()
def PySem.W.Fast.tw12282720111125081714 : Unit := ()
def PySem.W.Fast.tw13679149363250196162 : Unit := ()
def PySem.W.Fast.tw12766123890887164225 : Unit := ()
def PySem.W.Fast.tw14326682557402752599 : Unit := ()
def PySem.W.Fast.tw8739248339791703861 : Unit := ()
def PySem.W.Fast.tw13641429561442354481 : Unit := ()
def PySem.W.Fast.tw14373560245572019064 : Unit := ()
def PySem.W.Fast.tw11876491513713306001 : Unit := ()
def PySem.W.Fast.tw1203912807607600065 : Unit := ()
def PySem.W.Fast.tw15852949926500588690 : Unit := ()
def PySem.W.Fast.tw10364657869023658637 : Unit := ()
def PySem.W.Fast.tw10804745149806015321 : Unit := ()
def PySem.W.Fast.tw18253095534661813171 : Unit := ()
def PySem.W.Fast.tw428490907555592072 : Unit := ()
def PySem.W.Fast.tw9446618876067499601 : Unit := ()
def PySem.W.Fast.tw5140540357952729169 : Unit := ()
def PySem.W.Fast.tw2637090555742055308 : Unit := ()
def PySem.W.Fast.tw11166693683144422803 : Unit := ()
def PySem.W.Fast.tw6966998511528302713 : Unit := ()
def PySem.W.Fast.tw14813804879569008055 : Unit := ()
def PySem.W.Fast.tw5059471520857183834 : Unit := ()
def PySem.W.Fast.tw4473594394781454113 : Unit := ()
def PySem.W.Fast.tw917013990327527307 : Unit := ()
def PySem.W.Fast.tw4149771381044114956 : Unit := ()
def PySem.W.Fast.tw16430955300837201668 : Unit := ()
def PySem.W.Fast.tw16432538656581274295 : Unit := ()
def PySem.W.Fast.tw6397792332502848830 : Unit := ()
def PySem.W.Fast.tw13863409866151949388 : Unit := ()
def PySem.W.Fast.tw13590171351571130950 : Unit := ()
def PySem.W.Fast.tw15911658852191293052 : Unit := ()
def PySem.W.Fast.tw13115952311321237426 : Unit := ()
def PySem.W.Fast.tw12328342825831458570 : Unit := ()
def PySem.W.Fast.tw12504031913013991178 : Unit := ()
def PySem.W.Fast.tw853782515586330373 : Unit := ()
def PySem.W.Fast.tw16871874313995589769 : Unit := ()
def PySem.W.Fast.tw5338940715794848062 : Unit := ()
def PySem.W.Fast.tw4618835040116235267 : Unit := ()
def PySem.W.Fast.tw3651845781683198694 : Unit := ()
def PySem.W.Fast.tw11039479782628480114 : Unit := ()
def PySem.W.Fast.tw6343710840874290060 : Unit := ()
def PySem.W.Fast.tw16122642329772516783 : Unit := ()
def PySem.W.Fast.tw10429954307203169729 : Unit := ()
open PySem PySem.W PyProof.Rows
set_option maxRecDepth 100000 in
set_option maxHeartbeats 0 in
theorem PySem.Challenge.cw_gaze_k39_tubes_holds : PySem.Challenge.rw_gaze_k39_tubes.Holds := by
  w_on; o_law; k_head; (case hw => w_witness2)
  k_fill
  refine K39.walk (l := PySem.Challenge.rw_gaze_k39_tubes) rfl rfl (fun w h Y => PySem.W.kIn_of Y) ?F
  case F =>
    intro w mg fa h KX G hmg
    refine' K39.fin_mk KX G hmg ?a_is_crossed ?l_is_crossed ?c_is_crossed ?k_is_crossed ?a_meet ?l_meet ?c_meet ?k_meet ?a_common ?l_common ?c_common ?k_common ?a_number_in ?l_number_in ?c_number_in ?k_number_in ?a_moved ?l_moved ?c_moved ?k_moved ?a_narrowed ?l_narrowed ?c_narrowed ?k_narrowed ?a_stretches_at ?l_stretches_at ?c_stretches_at ?k_stretches_at ?a_tube ?l_tube ?c_tube ?k_tube ?a_course_in ?l_course_in ?c_course_in ?k_course_in ?a_lesser ?l_lesser ?c_lesser ?k_lesser ?a_lifted ?l_lifted ?c_lifted ?k_lifted ?a_ceilings ?l_ceilings ?c_ceilings ?k_ceilings ?a_crossing ?l_crossing ?c_crossing ?k_crossing ?a_clashing ?l_clashing ?c_clashing ?k_clashing ?a_law_pick ?l_law_pick ?c_law_pick ?k_law_pick ?a_law_wide ?l_law_wide ?c_law_wide ?k_law_wide ?a_law_paces ?l_law_paces ?c_law_paces ?k_law_paces ?a_law_many ?l_law_many ?c_law_many ?k_law_many ?a_law_word ?l_law_word ?c_law_word ?k_law_word ?a_law_in ?l_law_in ?c_law_in ?k_law_in ?a_law_whole ?l_law_whole ?c_law_whole ?k_law_whole ?a_law_rise ?l_law_rise ?c_law_rise ?k_law_rise ?a_law_clash ?l_law_clash ?c_law_clash ?k_law_clash ?a_law_path ?l_law_path ?c_law_path ?k_law_path ?a_law_marks ?l_law_marks ?c_law_marks ?k_law_marks ?a_law_held ?l_law_held ?c_law_held ?k_law_held ?a_law_pair ?l_law_pair ?c_law_pair ?k_law_pair ?a_law_asked ?l_law_asked ?c_law_asked ?k_law_asked ?a_law_numbers ?l_law_numbers ?c_law_numbers ?k_law_numbers ?a_law_spans ?l_law_spans ?c_law_spans ?k_law_spans ?a_law ?l_law ?c_law ?k_law ?z_bool ?z_enumerate ?z_int ?z_isinstance ?z_len ?z_list ?z_max ?z_min ?z_range ?z_reversed ?z_tuple ?z_zip
    (case a_is_crossed => k_is)
    (case l_is_crossed => k_is)
    (case c_is_crossed => k_is)
    (case k_is_crossed => k_is)
    (case a_meet => k_is)
    (case l_meet => k_is)
    (case c_meet => k_is)
    (case k_meet => k_is)
    (case a_common => k_is)
    (case l_common => k_is)
    (case c_common => k_is)
    (case k_common => k_is)
    (case a_number_in => k_is)
    (case l_number_in => k_is)
    (case c_number_in => k_is)
    (case k_number_in => k_is)
    (case a_moved => k_is)
    (case l_moved => k_is)
    (case c_moved => k_is)
    (case k_moved => k_is)
    (case a_narrowed => k_is)
    (case l_narrowed => k_is)
    (case c_narrowed => k_is)
    (case k_narrowed => k_is)
    (case a_stretches_at => k_is)
    (case l_stretches_at => k_is)
    (case c_stretches_at => k_is)
    (case k_stretches_at => k_is)
    (case a_tube => k_is)
    (case l_tube => k_is)
    (case c_tube => k_is)
    (case k_tube => k_is)
    (case a_course_in => k_is)
    (case l_course_in => k_is)
    (case c_course_in => k_is)
    (case k_course_in => k_is)
    (case a_lesser => k_is)
    (case l_lesser => k_is)
    (case c_lesser => k_is)
    (case k_lesser => k_is)
    (case a_lifted => k_is)
    (case l_lifted => k_is)
    (case c_lifted => k_is)
    (case k_lifted => k_is)
    (case a_ceilings => k_is)
    (case l_ceilings => k_is)
    (case c_ceilings => k_is)
    (case k_ceilings => k_is)
    (case a_crossing => k_is)
    (case l_crossing => k_is)
    (case c_crossing => k_is)
    (case k_crossing => k_is)
    (case a_clashing => k_is)
    (case l_clashing => k_is)
    (case c_clashing => k_is)
    (case k_clashing => k_is)
    (case a_law_pick => k_is)
    (case l_law_pick => k_is)
    (case c_law_pick => k_is)
    (case k_law_pick => k_is)
    (case a_law_wide => k_is)
    (case l_law_wide => k_is)
    (case c_law_wide => k_is)
    (case k_law_wide => k_is)
    (case a_law_paces => k_is)
    (case l_law_paces => k_is)
    (case c_law_paces => k_is)
    (case k_law_paces => k_is)
    (case a_law_many => k_is)
    (case l_law_many => k_is)
    (case c_law_many => k_is)
    (case k_law_many => k_is)
    (case a_law_word => k_is)
    (case l_law_word => k_is)
    (case c_law_word => k_is)
    (case k_law_word => k_is)
    (case a_law_in => k_is)
    (case l_law_in => k_is)
    (case c_law_in => k_is)
    (case k_law_in => k_is)
    (case a_law_whole => k_is)
    (case l_law_whole => k_is)
    (case c_law_whole => k_is)
    (case k_law_whole => k_is)
    (case a_law_rise => k_is)
    (case l_law_rise => k_is)
    (case c_law_rise => k_is)
    (case k_law_rise => k_is)
    (case a_law_clash => k_is)
    (case l_law_clash => k_is)
    (case c_law_clash => k_is)
    (case k_law_clash => k_is)
    (case a_law_path => k_is)
    (case l_law_path => k_is)
    (case c_law_path => k_is)
    (case k_law_path => k_is)
    (case a_law_marks => k_is)
    (case l_law_marks => k_is)
    (case c_law_marks => k_is)
    (case k_law_marks => k_is)
    (case a_law_held => k_is)
    (case l_law_held => k_is)
    (case c_law_held => k_is)
    (case k_law_held => k_is)
    (case a_law_pair => k_is)
    (case l_law_pair => k_is)
    (case c_law_pair => k_is)
    (case k_law_pair => k_is)
    (case a_law_asked => k_is)
    (case l_law_asked => k_is)
    (case c_law_asked => k_is)
    (case k_law_asked => k_is)
    (case a_law_numbers => k_is)
    (case l_law_numbers => k_is)
    (case c_law_numbers => k_is)
    (case k_law_numbers => k_is)
    (case a_law_spans => k_is)
    (case l_law_spans => k_is)
    (case c_law_spans => k_is)
    (case k_law_spans => k_is)
    (case a_law => k_is)
    (case l_law => k_is)
    (case c_law => k_is)
    (case k_law => k_is)
    (case z_bool => k_is)
    (case z_enumerate => k_is)
    (case z_int => k_is)
    (case z_isinstance => k_is)
    (case z_len => k_is)
    (case z_list => k_is)
    (case z_max => k_is)
    (case z_min => k_is)
    (case z_range => k_is)
    (case z_reversed => k_is)
    (case z_tuple => k_is)
    (case z_zip => k_is)
#print axioms PySem.Challenge.cw_gaze_k39_tubes_holds
