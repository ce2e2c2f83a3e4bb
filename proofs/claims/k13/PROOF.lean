import PyProof.Rows.All
import Wide.All
import OpenK.AllK
import Wide.FinOn
import Lean
import PyProof.EqAt
import PyProof.EqKinds
import PyProof.TupleCall
import KE.KSortAsk
import KE.KSortTup
import KE.KRevIter
import KE.LcSums
import KE.KDictSum
import PySem.Challenge.RW_gaze_k13_words_of_a_gauged_eye
set_option Elab.async false
set_option linter.all false
set_option maxRecDepth 100000
namespace L2
open PySem PySem.Spec PyProof.Rows
abbrev Key := Sum Int Str
def keyIs : Key → Value → Bool
  | .inl k, v => Value.isInt k v
  | .inr x, v => Value.isStrOf x v
def keyH (w : World) : Key → Int
  | .inl k => hashInt k
  | .inr x => hashStr w x
theorem keyIs_shape : ∀ {k : Key} {v : Value}, keyIs k v = true → (∃ i t, k = Sum.inl i ∧ v = Value.int i t) ∨ (∃ x t, k = Sum.inr x ∧ v = Value.str x t)
  | .inl i, v, h => by
    obtain ⟨t, e⟩ := Value.isInt_shape (k := i) (v := v) h
    exact .inl ⟨i, t, rfl, e⟩
  | .inr x, v, h => by
    obtain ⟨t, e⟩ := Value.isStrOf_shape (x := x) (v := v) h
    exact .inr ⟨x, t, rfl, e⟩
theorem key_ll (a b : Int) : decide ((Sum.inl a : Key) = Sum.inl b) = (a == b) := by
  by_cases e : a = b
  · subst e; simp
  · have h : ¬ (Sum.inl a : Key) = Sum.inl b := fun q => e (Sum.inl.inj q)
    rw [decide_eq_false h]
    exact (beq_eq_false_iff_ne.mpr e).symm
theorem key_rr (a b : Str) : decide ((Sum.inr a : Key) = Sum.inr b) = decide (a = b) := by
  by_cases e : a = b
  · subst e; simp
  · have h : ¬ (Sum.inr a : Key) = Sum.inr b := fun q => e (Sum.inr.inj q)
    rw [decide_eq_false h, decide_eq_false e]
theorem key_lr (a : Int) (b : Str) : decide ((Sum.inl a : Key) = Sum.inr b) = false := decide_eq_false (fun q => nomatch q)
theorem key_rl (a : Str) (b : Int) : decide ((Sum.inr a : Key) = Sum.inl b) = false := decide_eq_false (fun q => nomatch q)
def mixKind (prog : Program) (w : World) : PySem.KeyKind prog w Key where
  is := keyIs
  hash := keyH w
  inj := fun v a b ha hb => by
    rcases keyIs_shape ha with ⟨i, t, rfl, rfl⟩ | ⟨x, t, rfl, rfl⟩
    · rcases keyIs_shape hb with ⟨j, u, rfl, e⟩ | ⟨y, u, rfl, e⟩
      · injection e with e1 _; rw [e1]
      · exact nomatch e
    · rcases keyIs_shape hb with ⟨j, u, rfl, e⟩ | ⟨y, u, rfl, e⟩
      · exact nomatch e
      · injection e with e1 _; rw [e1]
  byValue := fun k v h => by
    rcases keyIs_shape h with ⟨i, t, rfl, rfl⟩ | ⟨x, t, rfl, rfl⟩ <;> rfl
  pyHash := fun hv h => by
    rcases keyIs_shape hv with ⟨i, t, rfl, rfl⟩ | ⟨x, t, rfl, rfl⟩
    · exact wpAny_pyHash_int h
    · exact wpAny_pyHash_str h
  eqBool := fun hu hv h => by
    rcases keyIs_shape hu with ⟨i, t, rfl, rfl⟩ | ⟨x, t, rfl, rfl⟩
    · rcases keyIs_shape hv with ⟨j, u, rfl, rfl⟩ | ⟨y, u, rfl, rfl⟩
      · rw [key_ll] at h; exact wpAny_eqBool_int h
      · rw [key_lr] at h; exact SeqAt.EqAt.int_str i t y u _ _ _ _ h
    · rcases keyIs_shape hv with ⟨j, u, rfl, rfl⟩ | ⟨y, u, rfl, rfl⟩
      · rw [key_rl] at h; exact SeqAt.EqAt.str_int x t j u _ _ _ _ h
      · rw [key_rr] at h; exact wpAny_eqBool_str h
  «strs» := fun k x t v h => by
    rcases keyIs_shape h with ⟨i, u, rfl, e⟩ | ⟨y, u, rfl, e⟩
    · exact nomatch e
    · injection e with e1 _
      subst e1
      cases v <;> rfl
end L2
namespace L2
open PySem PySem.Spec PyProof.Rows
inductive V where
  | non | bl (b : Bool) | int (i : Int) | str (x : Str) | byt (b : Array UInt8) | flt (b : UInt64) | ref (a : Addr) | ty (n : String)
  deriving DecidableEq
def RelV : V → Value → Prop
  | .non, u => u = Value.none
  | .bl b, u => u = Value.bool b
  | .int i, u => ∃ t, u = Value.int i t
  | .str x, u => ∃ t, u = Value.str x t
  | .byt b, u => ∃ t, u = Value.bytes b t
  | .flt b, u => ∃ t, u = Value.float b t
  | .ref a, u => u = Value.ref a
  | .ty n, u => u = Value.type n
abbrev Vals : List V → List Value → Prop := Paired RelV
theorem Vals.length {xs : List V} {us : List Value} (r : Vals xs us) : xs.length = us.length := Paired.length r
theorem Vals.get : ∀ {xs : List V} {us : List Value} {i : Nat} {x : V}, Vals xs us → xs[i]? = some x → ∃ u, us[i]? = some u ∧ RelV x u
  | _, _, _, _, .nil, e => by simp at e
  | _, _, 0, _, .cons r _, e => by simp at e; subst e; exact ⟨_, rfl, r⟩
  | _, _, i + 1, x, .cons _ t, e => by
    obtain ⟨u, h1, h2⟩ := Vals.get (i := i) (x := x) t (by simpa using e)
    exact ⟨u, by simpa using h1, h2⟩
theorem Vals.set {x : V} {u : Value} (r : RelV x u) : ∀ {xs : List V} {us : List Value} (i : Nat), Vals xs us → Vals (xs.set i x) (us.set i u)
  | _, _, _, .nil => .nil
  | _, _, 0, .cons _ t => .cons r t
  | _, _, i + 1, .cons q t => .cons q (Vals.set r i t)
theorem Vals.append : ∀ {xs ys : List V} {us ws : List Value}, Vals xs us → Vals ys ws → Vals (xs ++ ys) (us ++ ws)
  | _, _, _, _, .nil, s => s
  | _, _, _, _, .cons r t, s => .cons r (Vals.append t s)
theorem Vals.take : ∀ {xs : List V} {us : List Value} (n : Nat), Vals xs us → Vals (xs.take n) (us.take n)
  | _, _, 0, _ => .nil
  | _, _, _ + 1, .nil => .nil
  | _, _, n + 1, .cons r t => .cons r (Vals.take n t)
theorem Vals.drop : ∀ {xs : List V} {us : List Value} (n : Nat), Vals xs us → Vals (xs.drop n) (us.drop n)
  | _, _, 0, r => r
  | _, _, _ + 1, .nil => .nil
  | _, _, n + 1, .cons _ t => Vals.drop n t
theorem Vals.none_of : ∀ {xs : List V} {us : List Value} {i : Nat}, Vals xs us → xs[i]? = none → us[i]? = none := fun {xs us i} r e => by
  have h1 := r.length
  have h2 : xs.length ≤ i := List.getElem?_eq_none_iff.mp e
  exact List.getElem?_eq_none_iff.mpr (by omega)
def RelO : Option V → Option Value → Prop
  | some v, some u => RelV v u
  | none, none => True
  | _, _ => False
def KV {κ : Type} : List (κ × V) → List (κ × Value) → Prop := Paired fun (p : κ × V) (q : κ × Value) => p.1 = q.1 ∧ RelV p.2 q.2
def kV : Key → V
  | .inl i => .int i
  | .inr x => .str x
inductive HO where
  | lst (xs : List V)
  | tup (xs : List V)
  | dK (kvs : List (Key × V)) | dT (kvs : List (List Key × V))
  | set (S : Int → Bool) (n : Nat)
  | ins (C dx : Addr) (fs : List (Str × V))
  | own (x : Addr)
  | xd (fs : List (Str × V))
  | met (f x : Addr)
  | rng (lo hi : Int)
  | frz (o : Obj) (u : HO)
  | tbl (ps : Array Value)
  | ext (φ : Heap → Prop)
abbrev Hp := Addr → Option HO
def upd (H : Hp) (a : Addr) (o : HO) : Hp := fun b => if b = a then some o else H b
theorem upd_same {H : Hp} {a : Addr} {o : HO} : upd H a o a = some o := by unfold upd; rw [if_pos rfl]
theorem upd_ne {H : Hp} {a b : Addr} {o : HO} (h : b ≠ a) : upd H a o b = H b := by unfold upd; rw [if_neg h]
theorem upd_upd {H : Hp} {a : Addr} {o u : HO} : upd (upd H a o) a u = upd H a u := by
  funext b; unfold upd; split <;> rfl
theorem ne_of {H : Hp} {a b : Addr} {o u : HO} (h : H a = some o) (h' : H b = some u) (d : o ≠ u) : a ≠ b := by
  intro e; subst e; rw [h] at h'; exact d (Option.some.inj h')
theorem ne_of_none {H : Hp} {a b : Addr} {o : HO} (h : H a = some o) (h' : H b = none) : a ≠ b := by
  intro e; subst e; rw [h] at h'; cases h'
section
variable (P : Program) (w : World)
def ObjOk (H : Hp) (h : Heap) (a : Addr) : HO → Prop
  | .lst xs => xs.length ≤ sizeLine ∧ ∃ (its : List Value) (n : Nat), Vals xs its ∧ h.get? a = some { cls := .type "list", data := .seq its.toArray n }
  | .tup xs => xs.length ≤ sizeLine ∧ ∃ its : List Value, Vals xs its ∧ IsTup h a its.toArray
  | .dK kvs => kvs.length ≤ sizeLine ∧ (a == sysModules) = false ∧ ∃ vs, KV kvs vs ∧ h.DictOf (mixKind P w) a vs
  | .dT kvs => kvs.length ≤ sizeLine ∧ (a == sysModules) = false ∧ ∃ xs : List (List Key × Addr × Value),
      Paired (fun (p : List Key × V) (q : List Key × Addr × Value) => p.1 = q.1 ∧ H q.2.1 = some (.tup (p.1.map kV)) ∧ RelV p.2 q.2.2) kvs xs ∧
      ∃ o es ep, h.get? a = some o ∧ o.ExactDict ∧ o.data = .dict es ep ∧ es.toList = xs.map (entryOfKey (tupleKind (mixKind P w))) ∧ (xs.map (·.1)).Nodup
  | .set S n => h.SetOf (intKind P w) a S n
  | .ins C dx fs => H dx = some (.own a) ∧ fs.length ≤ 1000 ∧ dx ≠ a ∧ h.get? a = some (PySem.W.instObj C dx) ∧
      ∃ mA, h.Ns1 dx mA ∧ (∀ f, RelO (fs.lookup f) (mA f)) ∧ PySem.Within mA (fs.map (·.1))
  | .own _ => ∃ o, h.get? a = some o
  | .xd fs => ∃ mA, h.Ns1 a mA ∧ ∀ f, RelO (fs.lookup f) (mA f)
  | .rng lo hi => ∃ t u v, h.get? a = some { cls := .type "range", data := .fields #[.int lo t, .int hi u, .int 1 v] }
  | .frz o u => h.get? a = some o ∧ ObjOk H h a u
  | .tbl ps => h.get? a = some { cls := .none, data := .fields ps }
  | .met f x => h.get? a = some (PySem.W.methodObj (.ref f) (.ref x))
  | .ext φ => φ h ∧ (∃ o, h.get? a = some o) ∧ ∀ h1 h2 : Heap, φ h1 → (∀ o, h1.get? a = some o → h2.get? a = some o) → φ h2
def HOk (H : Hp) (h : Heap) : Prop := ∀ a o, H a = some o → ObjOk P w H h a o
end
section
variable {P : Program} {w : World} {H H' : Hp} {h h' : Heap} {a : Addr} {o : HO}
theorem ObjOk.lt (x : ObjOk P w H h a o) : a < h.objs.size := by
  cases o with
  | lst xs => obtain ⟨_, _, _, _, e⟩ := x; exact Heap.lt_size e
  | tup xs => obtain ⟨_, _, _, p⟩ := x; exact p.lt
  | dK kvs => obtain ⟨_, _, _, _, o, _, _, e, _⟩ := x; exact Heap.lt_size e
  | dT kvs => obtain ⟨_, _, _, _, o, _, _, e, _⟩ := x; exact Heap.lt_size e
  | set S n => obtain ⟨o, _, _, _, e, _⟩ := x; exact Heap.lt_size e
  | ins C dx fs => obtain ⟨_, _, _, e, _⟩ := x; exact Heap.lt_size e
  | own y => obtain ⟨_, e⟩ := x; exact Heap.lt_size e
  | xd fs => obtain ⟨_, ⟨_, _, _, e, _⟩, _⟩ := x; exact Heap.lt_size e
  | rng lo hi => obtain ⟨_, _, _, e⟩ := x; exact Heap.lt_size e
  | frz ob u => obtain ⟨e, _⟩ := x; exact Heap.lt_size e
  | tbl ps => exact Heap.lt_size (show h.get? a = some _ from x)
  | met f y => exact Heap.lt_size (show h.get? a = some _ from x)
  | ext φ => obtain ⟨_, ⟨_, e⟩, _⟩ := x; exact Heap.lt_size e
theorem Paired.mapP {α β : Type} {F G : α → β → Prop} : ∀ {l₁ : List α} {l₂ : List β}, Paired F l₁ l₂ → (∀ a b, F a b → G a b) → Paired G l₁ l₂
  | _, _, .nil, _ => .nil
  | _, _, .cons r t, f => .cons (f _ _ r) (Paired.mapP t f)
theorem ObjOk.stay (x : ObjOk P w H h a o) (k : ∀ b u, (b = a ∨ H b = some (.own a)) → h.get? b = some u → h'.get? b = some u)
    (ho : ∀ b, H b = some (.own a) → H' b = some (.own a)) (ht : ∀ b xs, H b = some (.tup xs) → H' b = some (.tup xs)) : ObjOk P w H' h' a o := by
  induction o with
  | lst xs => obtain ⟨z, its, n, r, e⟩ := x; exact ⟨z, its, n, r, k _ _ (.inl rfl) e⟩
  | tup xs => obtain ⟨z, its, r, ob, e, c⟩ := x; exact ⟨z, its, r, ob, k _ _ (.inl rfl) e, c⟩
  | dK kvs => obtain ⟨z, y, vs, r, ob, es, ep, e, c⟩ := x; exact ⟨z, y, vs, r, ob, es, ep, k _ _ (.inl rfl) e, c⟩
  | dT kvs =>
    obtain ⟨z, y, xs, r, ob, es, ep, e, c⟩ := x
    exact ⟨z, y, xs, Paired.mapP r fun p q z => ⟨z.1, ht _ _ z.2.1, z.2.2⟩, ob, es, ep, k _ _ (.inl rfl) e, c⟩
  | set S n => obtain ⟨ob, es, ep, t, e, c⟩ := x; exact ⟨ob, es, ep, t, k _ _ (.inl rfl) e, c⟩
  | ins C dx fs =>
    obtain ⟨d, z, ne, e, mA, ⟨od, es, ep, e2, c⟩, r⟩ := x
    exact ⟨ho _ d, z, ne, k _ _ (.inl rfl) e, mA, ⟨od, es, ep, k _ _ (.inr d) e2, c⟩, r⟩
  | own y => obtain ⟨ob, e⟩ := x; exact ⟨ob, k _ _ (.inl rfl) e⟩
  | xd fs => obtain ⟨mA, ⟨od, es, ep, e, c⟩, r⟩ := x; exact ⟨mA, ⟨od, es, ep, k _ _ (.inl rfl) e, c⟩, r⟩
  | rng lo hi => obtain ⟨t, u, v, e⟩ := x; exact ⟨t, u, v, k _ _ (.inl rfl) e⟩
  | frz ob u ih => obtain ⟨e, q⟩ := x; exact ⟨k _ _ (.inl rfl) e, ih q⟩
  | tbl ps =>
    have e : h.get? a = some { cls := .none, data := .fields ps } := x
    show h'.get? a = some { cls := .none, data := .fields ps }
    exact k a _ (.inl rfl) e
  | met f y =>
    have e : h.get? a = some (PySem.W.methodObj (.ref f) (.ref y)) := x
    show h'.get? a = some (PySem.W.methodObj (.ref f) (.ref y))
    exact k a _ (.inl rfl) e
  | ext φ => obtain ⟨p, ⟨o, e⟩, st⟩ := x; exact ⟨st _ _ p fun o q => k _ _ (.inl rfl) q, ⟨o, k _ _ (.inl rfl) e⟩, st⟩
theorem HOk.lt (x : HOk P w H h) (e : H a = some o) : a < h.objs.size := (x a o e).lt
theorem HOk.fresh (x : HOk P w H h) (e : h.objs.size ≤ a) : H a = none := by
  cases q : H a with
  | none => rfl
  | some u => exact absurd (Nat.lt_of_lt_of_le (x.lt q) e) (Nat.lt_irrefl _)
theorem HOk.kept (x : HOk P w H h) (k : ∀ b u, h.get? b = some u → h'.get? b = some u) : HOk P w H h' := fun a o e =>
  (x a o e).stay (fun b u _ q => k b u q) (fun _ q => q) fun _ _ q => q
theorem HOk.laid (x : HOk P w H h) (k : ∀ b u, h.get? b = some u → h'.get? b = some u) (hp : h.objs.size ≤ a) (new : ObjOk P w (upd H a o) h' a o) : HOk P w (upd H a o) h' := fun b u e => by
  have hn := x.fresh hp
  by_cases hb : b = a
  · subst hb; rw [upd_same] at e; cases e; exact new
  · rw [upd_ne hb] at e
    exact (x b u e).stay (fun c v _ q => k c v q) (fun c q => by rw [upd_ne (ne_of_none q hn)]; exact q) fun c xs q => by rw [upd_ne (ne_of_none q hn)]; exact q
end
def Rd (H : Hp) (a : Addr) (u : HO) : Prop := H a = some u ∨ ∃ o, H a = some (.frz o u)
theorem Rd.of {H : Hp} {a : Addr} {u : HO} (h : H a = some u) : Rd H a u := .inl h
theorem Rd.ok {P : Program} {w : World} {H : Hp} {h : Heap} {a : Addr} {u : HO} (r : Rd H a u) (x : HOk P w H h) : ObjOk P w H h a u := by
  rcases r with r | ⟨o, r⟩
  · exact x a u r
  · obtain ⟨_, q⟩ := x a _ r
    exact q
def Mut : Option HO → Prop
  | some (.lst _) => True
  | some (.dK _) => True
  | some (.dT _) => True
  | some (.set _ _) => True
  | some (.ins _ _ _) => True
  | some (.ext _) => True
  | _ => False
section
variable {P : Program} {w : World} {H : Hp} {h h' : Heap} {x e : Addr} {o' : HO}
theorem HOk.write (ok : HOk P w H h) (mu : Mut (H x)) (he : e = x ∨ H e = some (.own x)) (k : ∀ b u, b ≠ e → h.get? b = some u → h'.get? b = some u) (heo : ∃ u, h'.get? e = some u)
    (new : ObjOk P w (upd H x o') h' x o') : HOk P w (upd H x o') h' := fun b u q => by
  have nown : ∀ c y, H c = some (.own y) → c ≠ x := fun c y r z => by subst z; rw [r] at mu; exact mu
  have ntup : ∀ c xs, H c = some (.tup xs) → c ≠ x := fun c xs r z => by subst z; rw [r] at mu; exact mu
  by_cases hb : b = x
  · subst hb; rw [upd_same] at q; cases q; exact new
  · rw [upd_ne hb] at q
    by_cases hbe : b = e
    · have q' : H b = some (.own x) := by
        rcases he with z | z
        · exact absurd (hbe.trans z) hb
        · rw [hbe]; exact z
      rw [q] at q'; cases q'
      obtain ⟨v, hv⟩ := heo
      exact ⟨v, by rw [hbe]; exact hv⟩
    · refine (ok b u q).stay (fun c v hc r => k c v ?_ r) (fun c r => by rw [upd_ne (nown c b r)]; exact r) fun c xs r => by rw [upd_ne (ntup c xs r)]; exact r
      rcases hc with rfl | hc
      · exact hbe
      · rintro rfl
        rcases he with z | z
        · exact nown c b hc z
        · rw [hc] at z; cases z; exact hb rfl
end
structure Un (fs ex : List Addr) (H H' : Hp) (h h' : Heap) : Prop where
  keep : ∀ b o, h.get? b = some o → H b = none → b ∉ fs → b ∉ ex → h'.get? b = some o
  slot : ∀ b o, h.get? b = some o → H b = none → b ∈ fs → b ∉ ex → ∃ sl, h'.get? b = some { o with slots := sl }
  free : ∀ b o, h.get? b = some o → H b = none → b ∉ ex → H' b = none
  there : ∀ b o, h.get? b = some o → b ∉ ex → ∃ o', h'.get? b = some o'
  tups : ∀ b xs, H b = some (.tup xs) → H' b = some (.tup xs)
  frzs : ∀ b o u, H b = some (.frz o u) → H' b = some (.frz o u)
  tbls : ∀ b ps, H b = some (.tbl ps) → ∃ more, H' b = some (.tbl (ps ++ more))
section
variable {fs fs' ex ex' : List Addr} {H H1 H2 : Hp} {h h1 h2 h' : Heap} {a x e : Addr} {o : HO}
theorem Un.any (u : Un fs ex H H1 h h1) {b : Addr} {ob : Obj} (q : h.get? b = some ob) (n : H b = none) (hx : b ∉ ex) : ∃ sl, h1.get? b = some { ob with slots := sl } := by
  by_cases hb : b ∈ fs
  · exact u.slot b ob q n hb hx
  · exact ⟨ob.slots, u.keep b ob q n hb hx⟩
theorem Un.trans (a : Un fs ex H H1 h h1) (b : Un fs ex H1 H2 h1 h2) : Un fs ex H H2 h h2 where
  keep := fun c ob q n hc hx => b.keep c ob (a.keep c ob q n hc hx) (a.free c ob q n hx) hc hx
  slot := fun c ob q n hc hx => by
    obtain ⟨sl, e1⟩ := a.slot c ob q n hc hx
    obtain ⟨sl', e2⟩ := b.slot c _ e1 (a.free c ob q n hx) hc hx
    exact ⟨sl', e2⟩
  free := fun c ob q n hx => by
    obtain ⟨o', e1⟩ := a.there c ob q hx
    exact b.free c o' e1 (a.free c ob q n hx) hx
  there := fun c ob q hx => by
    obtain ⟨o', e1⟩ := a.there c ob q hx
    exact b.there c o' e1 hx
  tups := fun c xs q => b.tups c xs (a.tups c xs q)
  frzs := fun c ob xs q => b.frzs c ob xs (a.frzs c ob xs q)
  tbls := fun c ps q => by
    obtain ⟨m1, e1⟩ := a.tbls c ps q
    obtain ⟨m2, e2⟩ := b.tbls c _ e1
    exact ⟨m1 ++ m2, by rw [e2, Array.append_assoc]⟩
theorem Un.kept (k : ∀ b u, h.get? b = some u → h'.get? b = some u) : Un fs ex H H h h' :=
  ⟨fun b ob q _ _ _ => k b ob q, fun b ob q _ _ _ => ⟨ob.slots, k b ob q⟩, fun _ _ _ n _ => n, fun b ob q _ => ⟨ob, k b ob q⟩, fun _ _ q => q, fun _ _ _ q => q, fun _ ps q => ⟨#[], by rw [q]; simp⟩⟩
theorem Un.refl : Un fs ex H H h h := Un.kept fun _ _ q => q
theorem Un.laid (k : ∀ b u, h.get? b = some u → h'.get? b = some u) (hp : h.objs.size ≤ a) (hn : H a = none) : Un fs ex H (upd H a o) h h' where
  keep := fun b u q _ _ _ => k b u q
  slot := fun b u q _ _ _ => ⟨u.slots, k b u q⟩
  free := fun b u q n _ => by rw [upd_ne (Nat.ne_of_lt (Nat.lt_of_lt_of_le (Heap.lt_size q) hp))]; exact n
  there := fun b u q _ => ⟨u, k b u q⟩
  tups := fun b xs q => by rw [upd_ne (ne_of_none q hn)]; exact q
  frzs := fun b u xs q => by rw [upd_ne (ne_of_none q hn)]; exact q
  tbls := fun b ps q => ⟨#[], by rw [upd_ne (ne_of_none q hn), q]; simp⟩
theorem Un.write (mu : Mut (H x)) (he : e = x ∨ H e = some (.own x)) (k : ∀ b u, b ≠ e → h.get? b = some u → h'.get? b = some u) (heo : ∃ u, h'.get? e = some u) : Un fs ex H (upd H x o) h h' := by
  have hx : ∀ b, H b = none → b ≠ x := fun b n z => by subst z; rw [n] at mu; exact mu
  have hb : ∀ b, H b = none → b ≠ e := fun b n z => by
    subst z
    rcases he with r | r
    · exact hx b n r
    · rw [n] at r; cases r
  have hm : ∀ b u, H b = some u → ¬ Mut (some u) → b ≠ x := fun b u q nm z => by subst z; rw [q] at mu; exact nm mu
  refine ⟨fun b u q n _ _ => k b u (hb b n) q, fun b u q n _ _ => ⟨u.slots, k b u (hb b n) q⟩, fun b u q n _ => by rw [upd_ne (hx b n)]; exact n, fun b u q _ => ?_,
    fun b xs q => by rw [upd_ne (hm b _ q fun z => z)]; exact q, fun b u xs q => by rw [upd_ne (hm b _ q fun z => z)]; exact q, fun b ps q => ⟨#[], by rw [upd_ne (hm b _ q fun z => z), q]; simp⟩⟩
  by_cases hbe : b = e
  · subst hbe; exact heo
  · exact ⟨u, k b u hbe q⟩
theorem Un.mono (u : Un fs ex H H1 h h1) (hs : ∀ b ∈ fs, b ∈ fs') (hx : ∀ b ∈ ex, b ∈ ex') : Un fs' ex' H H1 h h1 :=
  ⟨fun b ob q n hb he => u.keep b ob q n (fun z => hb (hs b z)) fun z => he (hx b z), fun _ _ q n _ he => u.any q n fun z => he (hx _ z), fun b ob q n he => u.free b ob q n fun z => he (hx b z), fun b ob q he => u.there b ob q fun z => he (hx b z), u.tups, u.frzs, u.tbls⟩
end
def trk (h : Heap) (H : Hp) : List Addr := (List.range h.objs.size).filter fun a => (H a).isSome
def hidT (h : Heap) (H : Hp) : Heap := PySem.W.hideAll h (trk h H)
theorem hidT_size (h : Heap) (H : Hp) : (hidT h H).objs.size = h.objs.size := PySem.W.hideAll_size _ _
theorem hidT_get {h : Heap} {H : Hp} {b : Addr} {o : Obj} (e : h.get? b = some o) (n : H b = none) : (hidT h H).get? b = some o :=
  PySem.W.hideAll_get _ e fun hm => by
    have q : (H b).isSome = true := (List.mem_filter.mp hm).2
    rw [n] at q; simp at q
theorem of_hidT {h : Heap} {H : Hp} {b : Addr} {o : Obj} (e : (hidT h H).get? b = some o) : h.get? b = some o ∧ H b = none := by
  have e' : h.get? b = some o := PySem.W.of_hideAll (trk h H) e
  refine ⟨e', ?_⟩
  cases q : H b with
  | none => rfl
  | some x =>
    have hm : b ∈ trk h H := List.mem_filter.mpr ⟨List.mem_range.mpr (Heap.lt_size e'), by simp [q]⟩
    have z : (hidT h H).get? b = none := PySem.W.hideAll_none (trk h H) hm
    rw [z] at e; cases e
def allNews (g h : Heap) (L : Addr) : List (Addr × Obj) := (List.range h.objs.size).filterMap fun a => if a = L ∨ (g.get? a).isSome = true then none else (h.get? a).map fun o => (a, o)
def rest (g h : Heap) (L d : Addr) : List (Addr × Obj) := (allNews g h L).filter fun p => decide (p.1 ≠ d)
end L2
namespace L2
open PySem PySem.Spec PyProof.Rows
structure Mod (K : PySem.W.Frag) (mg : Str → Option Value) (base : Heap) : Prop where
  kin : K.In base
  glob : base.Ns mainGlobals mg
  blt : ∃ mb, base.Ns builtinsNs mb ∧ ∀ x : Str, x ≠ "__name__" → mb x = bootBuiltins x
  nolimit : base.NoLimit
structure Cx where
  prog : Program
  w : World
  K : PySem.W.Frag
  mg : Str → Option Value
  base : Heap
  A : Around
  N : List Str
  s₀ : Shared
  H₀ : Hp
  env : Env
  outer : List Env
  stack : List Env
  ex : List Addr
  fn : Str → Bool
  calm : Bool
  pn : List (Addr × Obj)
  xe : Value → Shared → Prop
def frs (l : List Env) : List Addr := l.filterMap (·.frame)
abbrev Cx.fs (X : Cx) : List Addr := frs X.outer
def Vis (sc : Scope) (x : Str) : Prop := sc.names.lookup x = some .local ∨ sc.names.lookup x = some .cell ∨ sc.names.lookup x = some .free
def Loc (sc : Scope) (x : Str) : Prop := sc.names.lookup x = some .local ∨ sc.names.lookup x = some .cell
def Look (env : Env) (h : Heap) (m : Str → Option Value) (x : Str) (u : Value) : Prop :=
  (env.kindOf x = some .local ∧ m x = some u) ∨ ((env.kindOf x = some .cell ∨ env.kindOf x = some .free) ∧ ∃ c, env.cells.lookup x = some c ∧ h.IsCell c (some u))
structure Cx.Ok (X : Cx) : Prop where
  mod : Mod X.K X.mg X.base
  kind : X.env.scope.kind = .function
  glob : X.env.globals = mainGlobals
  blt : X.env.builtins = builtinsNs
  above : X.s₀.heap.objs.size ≤ X.env.locals
  inj : ∀ x y c, X.env.cells.lookup x = some c → X.env.cells.lookup y = some c → x = y
  has : ∀ x, (X.env.kindOf x = some .cell ∨ X.env.kindOf x = some .free) → ∃ c, X.env.cells.lookup x = some c
  cab : ∀ x c, X.fn x = true → X.env.cells.lookup x = some c → X.s₀.heap.objs.size ≤ c
  hd : X.calm = true → X.A.handled = none
  frames : X.A.frames = some X.stack
  stk : X.stack = X.outer ∨ (X.stack = X.env :: X.outer ∧ X.env.frame = some X.env.locals)
  exf : ∀ b ∈ X.ex, b ≠ X.env.locals ∧ ∀ x c, X.env.cells.lookup x = some c → c ≠ b
  bs : ∀ b o, X.base.get? b = some o → X.s₀.heap.get? b = some o ∧ X.H₀ b = none
  bsz : X.base.objs.size ≤ X.s₀.heap.objs.size
  noex : ∀ b o, X.base.get? b = some o → b ∉ X.ex
  exfs : ∀ b ∈ X.ex, b ∉ X.fs
  funs : X.s₀.heap.FunFrames X.base X.outer
  frf : ∀ b ∈ X.fs, X.H₀ b = none
structure Inv (X : Cx) (pins : List (Addr × Obj)) (σ : List (Option V)) (H : Hp) (s : Shared) : Prop where
  ok : X.Ok
  os : s.os = X.s₀.os
  bare : AllBare s.gens
  base : Un X.fs X.ex X.H₀ H X.s₀.heap s.heap
  loc : ∃ m, s.heap.Ns X.env.locals m ∧ ∀ (i : Nat) (x : Str) (v : V), X.N[i]? = some x → σ[i]? = some (some v) → Vis X.env.scope x → ∃ u, RelV v u ∧ Look X.env s.heap m x u
  cell : ∀ x c, X.env.cells.lookup x = some c → ∃ v, s.heap.IsCell c v
  free : H X.env.locals = none
  freeC : ∀ x c, X.env.cells.lookup x = some c → H c = none
  pin : ∀ p ∈ X.pn ++ pins, s.heap.get? p.1 = some p.2 ∧ H p.1 = none ∧ p.1 ≠ X.env.locals ∧ p.1 ∉ X.fs ∧ ∀ v, p.2.data ≠ .cell v
  hok : HOk X.prog X.w H s.heap
  len : σ.length = X.N.length
section
variable {X : Cx} {pins : List (Addr × Obj)} {σ : List (Option V)} {H H' : Hp} {s : Shared} {h' : Heap}
theorem Cx.Ok.nofr (ok : X.Ok) {b : Addr} {o : Obj} (e : X.base.get? b = some o) : b ∉ X.fs := fun hb => by
  have := (ok.funs.mem hb).1
  rw [e] at this; cases this
theorem Inv.bs (I : Inv X pins σ H s) : ∀ b o, X.base.get? b = some o → s.heap.get? b = some o ∧ H b = none := fun b o e =>
  ⟨I.base.keep b o (I.ok.bs b o e).1 (I.ok.bs b o e).2 (I.ok.nofr e) (I.ok.noex b o e), I.base.free b o (I.ok.bs b o e).1 (I.ok.bs b o e).2 (I.ok.noex b o e)⟩
theorem Inv.bk (I : Inv X pins σ H s) : ∀ b o, X.base.get? b = some o → s.heap.get? b = some o := fun b o e => (I.bs b o e).1
theorem Inv.mod (I : Inv X pins σ H s) : Mod X.K X.mg X.base := I.ok.mod
theorem Inv.kIn (I : Inv X pins σ H s) : X.K.In s.heap := I.ok.mod.kin.keeps I.bk
theorem Inv.nolimit (I : Inv X pins σ H s) : s.heap.NoLimit := I.ok.mod.nolimit.keeps I.bk
theorem Inv.fr (I : Inv X pins σ H s) : ∃ m, Fr X.base X.env.locals s.heap m :=
  let ⟨m, hn, _⟩ := I.loc
  ⟨m, hn, I.bk, Nat.le_trans I.ok.bsz I.ok.above⟩
theorem Inv.lt (I : Inv X pins σ H s) : X.env.locals < s.heap.objs.size := let ⟨_, hn, _⟩ := I.loc; hn.lt
theorem Inv.sz (I : Inv X pins σ H s) : X.s₀.heap.objs.size ≤ s.heap.objs.size := Nat.le_trans I.ok.above (Nat.le_of_lt I.lt)
theorem Inv.nofs (I : Inv X pins σ H s) {a : Addr} (h : s.heap.objs.size ≤ a) : a ∉ X.fs := fun hb => by
  obtain ⟨_, o, ho, _⟩ := I.ok.funs.mem hb
  exact absurd (Nat.lt_of_lt_of_le (Heap.lt_size ho) (Nat.le_trans I.sz h)) (Nat.lt_irrefl _)
theorem Inv.cne (I : Inv X pins σ H s) : ∀ x c, X.env.cells.lookup x = some c → c ≠ X.env.locals := fun x c e z => by
  obtain ⟨v, o, ho, hd⟩ := I.cell x c e
  obtain ⟨m, ⟨o', es, ep, ho', hd', _⟩, _⟩ := I.loc
  rw [z, ho'] at ho; cases ho; rw [hd'] at hd; cases hd
theorem Inv.funs (I : Inv X pins σ H s) : s.heap.FunFrames X.base X.outer := by
  have all : ∀ (l : List Env), (∀ b ∈ frs l, b ∈ X.fs) → X.s₀.heap.FunFrames X.base l → s.heap.FunFrames X.base l := by
    intro l
    induction l with
    | nil => intro _ _; trivial
    | cons env r ih =>
      intro hs hl
      obtain ⟨hk, ⟨L, o, hf, hn, ho, hd⟩, hr⟩ := hl
      have hL : L ∈ X.fs := hs L (by unfold frs; rw [List.filterMap_cons, hf]; exact List.mem_cons_self)
      obtain ⟨sl, e⟩ := I.base.slot L o ho (I.ok.frf L hL) hL fun z => I.ok.exfs L z hL
      exact ⟨hk, ⟨L, _, hf, hn, e, hd⟩, ih (fun b hb => hs b (by unfold frs; rw [List.filterMap_cons, hf]; exact List.mem_cons_of_mem _ hb)) hr⟩
  exact all X.outer (fun _ hb => hb) I.ok.funs
theorem Inv.stack (I : Inv X pins σ H s) : s.heap.FunFrames X.base X.stack := by
  rcases I.ok.stk with e | ⟨e, hf⟩
  · rw [e]; exact I.funs
  · rw [e]
    obtain ⟨m, hn, _⟩ := I.loc
    refine .cons (by rw [I.ok.kind]; decide) hf hn ?_ I.funs
    exact Heap.get?_none_of_le (Nat.le_trans I.ok.bsz I.ok.above)
theorem Inv.stkSub (I : Inv X pins σ H s) : ∀ b ∈ frs X.stack, b ∈ X.env.locals :: X.fs := fun b hb => by
  rcases I.ok.stk with e | ⟨e, hf⟩
  · rw [e] at hb; exact List.mem_cons_of_mem _ hb
  · rw [e] at hb
    unfold frs at hb
    rw [List.filterMap_cons, hf] at hb
    exact hb
theorem Inv.stkFree (I : Inv X pins σ H s) : ∀ b ∈ frs X.stack, H b = none := fun b hb => by
  rcases List.mem_cons.mp (I.stkSub b hb) with e | hb
  · rw [e]; exact I.free
  · obtain ⟨_, o, ho, _⟩ := I.ok.funs.mem hb
    exact I.base.free b o ho (I.ok.frf b hb) fun z => I.ok.exfs b z hb
theorem Inv.step {g' : Array GenState} {t' : Nat} {d' : Drawn} {ch : List Addr} (I : Inv X pins σ H s)
    (hch : ∀ b ∈ ch, (b ∈ X.ex ∨ X.s₀.heap.objs.size ≤ b) ∧ b ≠ X.env.locals ∧ (∀ x c, X.env.cells.lookup x = some c → c ≠ b) ∧ ∀ p ∈ X.pn ++ pins, p.1 ≠ b)
    (keep : ∀ b o, b ≠ X.env.locals → b ∉ X.fs → b ∉ ch → s.heap.get? b = some o → H b = none → h'.get? b = some o)
    (slot : ∀ b o, b ≠ X.env.locals → b ∈ X.fs → b ∉ ch → s.heap.get? b = some o → H b = none → ∃ sl, h'.get? b = some { o with slots := sl }) (free : ∀ b o, b ∉ ch → s.heap.get? b = some o → H b = none → H' b = none)
    (there : ∀ b o, b ∉ ch → s.heap.get? b = some o → ∃ o', h'.get? b = some o')
    (tups : ∀ b xs, H b = some (.tup xs) → H' b = some (.tup xs)) (frzs : ∀ b o u, H b = some (.frz o u) → H' b = some (.frz o u)) (tbls : ∀ b ps, H b = some (.tbl ps) → ∃ more, H' b = some (.tbl (ps ++ more)))
    (ns : ∀ m, s.heap.Ns X.env.locals m → h'.Ns X.env.locals m) (hok : HOk X.prog X.w H' h') (hg : AllBare g') :
    Inv X pins σ H' { s with heap := h', gens := g', drawn := d', toks := t' } := by
  have neL : ∀ b o, X.s₀.heap.get? b = some o → b ≠ X.env.locals := fun b o e => Nat.ne_of_lt (Nat.lt_of_lt_of_le (Heap.lt_size e) I.ok.above)
  have neC : ∀ b o, X.s₀.heap.get? b = some o → b ∉ X.ex → b ∉ ch := fun b o e hx hb => by
    rcases (hch b hb).1 with z | z
    · exact hx z
    · exact absurd (Nat.lt_of_lt_of_le (Heap.lt_size e) z) (Nat.lt_irrefl _)
  have cellK : ∀ x c, X.env.cells.lookup x = some c → ∀ v, s.heap.IsCell c v → h'.IsCell c v := fun x c e v ⟨o, ho, hd⟩ => by
    have nch : c ∉ ch := fun z => (hch c z).2.2.1 x c e rfl
    by_cases hc : c ∈ X.fs
    · obtain ⟨sl, q⟩ := slot c o (I.cne x c e) hc nch ho (I.freeC x c e)
      exact ⟨_, q, hd⟩
    · exact ⟨o, keep c o (I.cne x c e) hc nch ho (I.freeC x c e), hd⟩
  refine ⟨I.ok, I.os, hg, ⟨fun b o e n hb hx => ?_, fun b o e n hb hx => ?_, fun b o e n hx => ?_, fun b o e hx => ?_, fun b xs e => tups b xs (I.base.tups b xs e), fun b o xs e => frzs b o xs (I.base.frzs b o xs e), fun b ps e => ?_⟩, ?_, fun x c e => ?_, ?_, fun x c e => ?_, fun p hp => ?_, hok, I.len⟩
  · exact keep b o (neL b o e) hb (neC b o e hx) (I.base.keep b o e n hb hx) (I.base.free b o e n hx)
  · obtain ⟨sl, e1⟩ := I.base.slot b o e n hb hx
    obtain ⟨sl', e2⟩ := slot b _ (neL b o e) hb (neC b o e hx) e1 (I.base.free b o e n hx)
    exact ⟨sl', e2⟩
  · obtain ⟨o', e1⟩ := I.base.there b o e hx
    exact free b o' (neC b o e hx) e1 (I.base.free b o e n hx)
  · obtain ⟨o', e1⟩ := I.base.there b o e hx
    exact there b o' (neC b o e hx) e1
  · obtain ⟨m1, e1⟩ := I.base.tbls b ps e
    obtain ⟨m2, e2⟩ := tbls b _ e1
    exact ⟨m1 ++ m2, by rw [e2, Array.append_assoc]⟩
  · obtain ⟨m, hn, hl⟩ := I.loc
    refine ⟨m, ns m hn, fun i x v e1 e2 e3 => ?_⟩
    obtain ⟨u, r, l⟩ := hl i x v e1 e2 e3
    refine ⟨u, r, ?_⟩
    rcases l with l | ⟨k, c, e, z⟩
    · exact .inl l
    · exact .inr ⟨k, c, e, cellK x c e _ z⟩
  · obtain ⟨v, z⟩ := I.cell x c e
    exact ⟨v, cellK x c e v z⟩
  · obtain ⟨m, ⟨o, _, _, ho, _⟩, _⟩ := I.loc
    exact free _ o (fun z => (hch _ z).2.1 rfl) ho I.free
  · obtain ⟨v, o, ho, hd⟩ := I.cell x c e
    exact free c o (fun z => (hch c z).2.2.1 x c e rfl) ho (I.freeC x c e)
  · obtain ⟨e, n, ne, nf, d⟩ := I.pin p hp
    have nch : p.1 ∉ ch := fun z => (hch p.1 z).2.2.2 p hp rfl
    exact ⟨keep p.1 p.2 ne nf nch e n, free p.1 p.2 nch e n, ne, nf, d⟩
theorem Inv.un {t' : Nat} (I : Inv X pins σ H s) (u : Un X.fs [] H H' s.heap h') (hok : HOk X.prog X.w H' h') : Inv X pins σ H' { s with heap := h', toks := t' } := by
  obtain ⟨m, ⟨o, es, ep, ho, r⟩, _⟩ := id I.loc
  obtain ⟨sl, hL⟩ := u.any ho I.free (by simp)
  exact I.step (g' := s.gens) (d' := s.drawn) (ch := []) (fun _ z => nomatch z) (fun b o _ hb _ e n => u.keep b o e n hb (by simp)) (fun b o _ hb _ e n => u.slot b o e n hb (by simp)) (fun b o _ e n => u.free b o e n (by simp)) (fun b o _ e => u.there b o e (by simp)) u.tups u.frzs u.tbls (fun m' hm => by
    obtain ⟨o', es', ep', ho', r'⟩ := hm
    rw [ho] at ho'; cases ho'
    exact ⟨_, es', ep', hL, r'⟩) hok I.bare
theorem Inv.call {g' : Array GenState} {t' : Nat} {d' : Drawn} {ch : List Addr} (I : Inv X pins σ H s) (u : Un (frs X.stack) ch H H' s.heap h') (hok : HOk X.prog X.w H' h') (hg : AllBare g')
    (hch : ∀ b ∈ ch, (b ∈ X.ex ∨ X.s₀.heap.objs.size ≤ b) ∧ b ≠ X.env.locals ∧ (∀ x c, X.env.cells.lookup x = some c → c ≠ b) ∧ ∀ p ∈ X.pn ++ pins, p.1 ≠ b) :
    Inv X pins σ H' { s with heap := h', gens := g', drawn := d', toks := t' } := by
  obtain ⟨m, ⟨o, es, ep, ho, r⟩, _⟩ := id I.loc
  obtain ⟨sl, hL⟩ := u.any ho I.free fun z => (hch _ z).2.1 rfl
  exact I.step (ch := ch) hch (fun b o hL hb hc e n => u.keep b o e n (fun z => (List.mem_cons.mp (I.stkSub b z)).elim hL hb) hc) (fun b o _ _ hc e n => u.any e n hc) (fun b o hc e n => u.free b o e n hc) (fun b o hc e => u.there b o e hc) u.tups u.frzs u.tbls (fun m' hm => by
    obtain ⟨o', es', ep', ho', r'⟩ := hm
    rw [ho] at ho'; cases ho'
    exact ⟨_, es', ep', hL, r'⟩) hok hg
theorem Inv.turned {t' : Nat} {it : Addr} (I : Inv X pins σ H s) (k : ∀ b o, b ≠ it → s.heap.get? b = some o → h'.get? b = some o) (hn : H it = none) (hL : it ≠ X.env.locals)
    (h1 : it ∈ X.ex ∨ X.s₀.heap.objs.size ≤ it) (h2 : ∀ x c, X.env.cells.lookup x = some c → c ≠ it) (h3 : ∀ p ∈ X.pn ++ pins, p.1 ≠ it) : Inv X pins σ H { s with heap := h', toks := t' } := by
  have nit : ∀ b u, H b = some u → b ≠ it := fun b u e z => by rw [z, hn] at e; cases e
  refine I.step (g' := s.gens) (d' := s.drawn) (ch := [it]) (fun b hb => ?_) (fun b o _ _ hc e _ => k b o (fun z => hc (by simp [z])) e) (fun b o _ _ hc e _ => ⟨o.slots, k b o (fun z => hc (by simp [z])) e⟩) (fun _ _ _ _ n => n)
    (fun b o hc e => ⟨o, k b o (fun z => hc (by simp [z])) e⟩) (fun _ _ e => e) (fun _ _ _ e => e) (fun b ps e => ⟨#[], by rw [e]; simp⟩) (fun m hm => ?_) (fun b u e => ?_) I.bare
  · have e : b = it := by simpa using hb
    subst e
    exact ⟨h1, hL, h2, h3⟩
  · obtain ⟨o, es, ep, ho, r⟩ := hm
    exact ⟨o, es, ep, k _ o (Ne.symm hL) ho, r⟩
  · refine (I.hok b u e).stay (fun c v hc q => k c v ?_ q) (fun _ q => q) fun _ _ q => q
    rcases hc with z | z
    · rw [z]; exact nit b u e
    · exact nit c _ z
theorem Inv.tok (I : Inv X pins σ H s) (t : Nat) : Inv X pins σ H { s with toks := t } := I.un (h' := s.heap) (t' := t) Un.refl I.hok
theorem Inv.kept {t' : Nat} (I : Inv X pins σ H s) (k : ∀ b u, s.heap.get? b = some u → h'.get? b = some u) : Inv X pins σ H { s with heap := h', toks := t' } := I.un (Un.kept k) (I.hok.kept k)
theorem Inv.laid {a : Addr} {o : HO} {t' : Nat} (I : Inv X pins σ H s) (k : ∀ b u, s.heap.get? b = some u → h'.get? b = some u) (hp : s.heap.objs.size ≤ a) (new : ObjOk X.prog X.w (upd H a o) h' a o) :
    Inv X pins σ (upd H a o) { s with heap := h', toks := t' } := I.un (Un.laid k hp (I.hok.fresh hp)) (I.hok.laid k hp new)
theorem Inv.write {x e : Addr} {o : HO} {t' : Nat} (I : Inv X pins σ H s) (mu : Mut (H x)) (he : e = x ∨ H e = some (.own x)) (k : ∀ b u, b ≠ e → s.heap.get? b = some u → h'.get? b = some u) (heo : ∃ u, h'.get? e = some u)
    (new : ObjOk X.prog X.w (upd H x o) h' x o) : Inv X pins σ (upd H x o) { s with heap := h', toks := t' } := I.un (Un.write mu he k heo) (I.hok.write mu he k heo new)
theorem Inv.weak {σ' : List (Option V)} (I : Inv X pins σ H s) (hl : σ'.length = σ.length) (w : ∀ (i : Nat) v, σ'[i]? = some (some v) → σ[i]? = some (some v)) : Inv X pins σ' H s :=
  ⟨I.ok, I.os, I.bare, I.base, let ⟨m, hn, hl'⟩ := I.loc; ⟨m, hn, fun i x v e1 e2 e3 => hl' i x v e1 (w i v e2) e3⟩, I.cell, I.free, I.freeC, I.pin, I.hok, hl.trans I.len⟩
theorem Inv.pins_of {pins' : List (Addr × Obj)} (I : Inv X pins σ H s) (h : ∀ p ∈ pins', s.heap.get? p.1 = some p.2 ∧ H p.1 = none ∧ p.1 ≠ X.env.locals ∧ p.1 ∉ X.fs ∧ ∀ v, p.2.data ≠ .cell v) : Inv X pins' σ H s :=
  ⟨I.ok, I.os, I.bare, I.base, I.loc, I.cell, I.free, I.freeC, fun p hp => (List.mem_append.mp hp).elim (fun z => I.pin p (List.mem_append_left _ z)) (h p), I.hok, I.len⟩
theorem nodup_ix {N : List Str} (hN : N.Nodup) {i j : Nat} {x : Str} (a : N[i]? = some x) (b : N[j]? = some x) : i = j := by
  obtain ⟨h1, e1⟩ := List.getElem?_eq_some_iff.mp a
  obtain ⟨h2, e2⟩ := List.getElem?_eq_some_iff.mp b
  exact (List.getElem_inj hN).mp (e1.trans e2.symm)
theorem store_ok2 {M : Model} {A : Around} {E : Value → Shared → Prop} {i : Nat} {x : Str} {v : V} {u : Value} {Q : Unit → Shared → Prop} (I : Inv X pins σ H s) (hN : X.N.Nodup) (hi : X.N[i]? = some x) (hx : Loc X.env.scope x) (r : RelV v u)
    (h : ∀ s', Inv X pins (σ.set i (some v)) H s' → (∃ a, Heap.SameBut a s.heap s'.heap ∧ (a = X.env.locals ∨ X.env.cells.lookup x = some a)) → Q () s') (hf : X.fn x = true ∨ X.env.scope.names.lookup x = some .local := by first | exact .inl rfl | exact .inr rfl | assumption) : wpAny M A (storeName X.env x u) Q E s := by
  obtain ⟨m, hn, hl⟩ := id I.loc
  have hcls : (X.env.scope.kind == .class || (X.env.scope.kind == .module && X.env.locals != X.env.globals)) = false := by rw [I.ok.kind]; rfl
  have hiσ : i < σ.length := by rw [I.len]; exact (List.getElem?_eq_some_iff.mp hi).1
  have cne := I.cne
  have tracked : ∀ {a : Addr} {h' : Heap}, (∃ o, s.heap.get? a = some o ∧ H a = none) → Heap.SameBut a s.heap h' → HOk X.prog X.w H h' := fun {a h'} ha hs b ob e => by
    obtain ⟨_, _, hfree⟩ := ha
    refine (I.hok b ob e).stay (fun c w' hc q => (hs.2 c ?_).trans q) (fun _ q => q) fun _ _ q => q
    rintro rfl
    rcases hc with rfl | hc
    · rw [hfree] at e; cases e
    · rw [hfree] at hc; cases hc
  rcases hx with hk | hk
  · refine wpAny_storeName_local hk hn (fun h' hn' hs => ?_) hcls
    obtain ⟨oL, _, _, hoL, _⟩ := id hn
    refine h _ ⟨I.ok, I.os, I.bare, ⟨fun b o e n hb hx => ?_, fun b o e n hb hx => ?_, I.base.free, fun b o e hx => ?_, I.base.tups, I.base.frzs, I.base.tbls⟩, ⟨_, hn', fun j y v' e1 e2 e3 => ?_⟩, fun y c e => ?_, I.free, I.freeC, fun p hp => ?_, tracked ⟨oL, hoL, I.free⟩ hs, by simpa using I.len⟩ ⟨_, hs, .inl rfl⟩
    · exact (hs.2 b (Nat.ne_of_lt (Nat.lt_of_lt_of_le (Heap.lt_size e) I.ok.above))).trans (I.base.keep b o e n hb hx)
    · obtain ⟨sl, e1⟩ := I.base.slot b o e n hb hx
      exact ⟨sl, (hs.2 b (Nat.ne_of_lt (Nat.lt_of_lt_of_le (Heap.lt_size e) I.ok.above))).trans e1⟩
    · obtain ⟨o', e1⟩ := I.base.there b o e hx
      exact ⟨o', (hs.2 b (Nat.ne_of_lt (Nat.lt_of_lt_of_le (Heap.lt_size e) I.ok.above))).trans e1⟩
    · by_cases hj : j = i
      · subst hj
        rw [hi] at e1; cases e1
        rw [List.getElem?_set_self hiσ] at e2
        cases e2
        exact ⟨u, r, .inl ⟨hk, by simp⟩⟩
      · rw [List.getElem?_set_ne (Ne.symm hj)] at e2
        obtain ⟨u', r', q⟩ := hl j y v' e1 e2 e3
        refine ⟨u', r', ?_⟩
        rcases q with ⟨k, e⟩ | ⟨k, c, e, z⟩
        · refine .inl ⟨k, ?_⟩
          have : y ≠ x := fun e => hj (nodup_ix hN e1 (e ▸ hi))
          simp [this, e]
        · exact .inr ⟨k, c, e, z.sameBut hs (cne y c e)⟩
    · obtain ⟨w', z⟩ := I.cell y c e
      exact ⟨w', z.sameBut hs (cne y c e)⟩
    · obtain ⟨e, n, ne, nf, d⟩ := I.pin p hp
      exact ⟨(hs.2 p.1 ne).trans e, n, ne, nf, d⟩
  · have hfn : X.fn x = true := by
      rcases hf with z | z
      · exact z
      · rw [z] at hk; cases hk
    obtain ⟨c, hc⟩ := I.ok.has x (.inl hk)
    obtain ⟨w', z⟩ := I.cell x c hc
    refine wpAny_storeName_cell I.ok.kind hk hc z (fun h' hc' hs => ?_)
    obtain ⟨oc, hoc, hocd⟩ := id z
    refine h { s with heap := h' } ⟨I.ok, I.os, I.bare, ⟨fun b o e n hb hx => ?_, fun b o e n hb hx => ?_, I.base.free, fun b o e hx => ?_, I.base.tups, I.base.frzs, I.base.tbls⟩, ⟨m, hn.sameBut hs (Ne.symm (cne x c hc)), fun j y v' e1 e2 e3 => ?_⟩, fun y c' e => ?_, I.free, I.freeC, fun p hp => ?_, tracked ⟨oc, hoc, I.freeC x c hc⟩ hs, by simpa using I.len⟩ ⟨c, hs, .inr hc⟩
    · exact (hs.2 b (Nat.ne_of_lt (Nat.lt_of_lt_of_le (Heap.lt_size e) (I.ok.cab x c hfn hc)))).trans (I.base.keep b o e n hb hx)
    · obtain ⟨sl, e1⟩ := I.base.slot b o e n hb hx
      exact ⟨sl, (hs.2 b (Nat.ne_of_lt (Nat.lt_of_lt_of_le (Heap.lt_size e) (I.ok.cab x c hfn hc)))).trans e1⟩
    · obtain ⟨o', e1⟩ := I.base.there b o e hx
      exact ⟨o', (hs.2 b (Nat.ne_of_lt (Nat.lt_of_lt_of_le (Heap.lt_size e) (I.ok.cab x c hfn hc)))).trans e1⟩
    · by_cases hj : j = i
      · subst hj
        rw [hi] at e1; cases e1
        rw [List.getElem?_set_self hiσ] at e2
        cases e2
        exact ⟨u, r, .inr ⟨.inl hk, c, hc, hc'⟩⟩
      · rw [List.getElem?_set_ne (Ne.symm hj)] at e2
        obtain ⟨u', r', q⟩ := hl j y v' e1 e2 e3
        refine ⟨u', r', ?_⟩
        rcases q with q | ⟨k, c', e, z'⟩
        · exact .inl q
        · refine .inr ⟨k, c', e, z'.sameBut hs ?_⟩
          rintro rfl
          exact hj (nodup_ix hN e1 (I.ok.inj _ _ _ e hc ▸ hi))
    · by_cases hcc : c' = c
      · subst hcc; exact ⟨_, hc'⟩
      · obtain ⟨w2, z2⟩ := I.cell y c' e
        exact ⟨w2, z2.sameBut hs hcc⟩
    · obtain ⟨e, n, ne, nf, d⟩ := I.pin p hp
      refine ⟨(hs.2 p.1 ?_).trans e, n, ne, nf, d⟩
      intro q
      rw [q, hoc] at e
      have q' : oc = p.2 := Option.some.inj e
      exact d w' (by rw [← q']; exact hocd)
theorem store_ok {M : Model} {A : Around} {E : Value → Shared → Prop} {i : Nat} {x : Str} {v : V} {u : Value} {Q : Unit → Shared → Prop} (I : Inv X pins σ H s) (hN : X.N.Nodup) (hi : X.N[i]? = some x) (hx : Loc X.env.scope x) (r : RelV v u)
    (h : ∀ s', Inv X pins (σ.set i (some v)) H s' → Q () s') (hf : X.fn x = true ∨ X.env.scope.names.lookup x = some .local := by first | exact .inl rfl | exact .inr rfl | assumption) : wpAny M A (storeName X.env x u) Q E s :=
  store_ok2 I hN hi hx r (fun s' I' _ => h s' I') hf
theorem Inv.call' {s' : Shared} {ch : List Addr} (I : Inv X pins σ H s) (ho : s'.os = s.os) (u : Un (frs X.stack) ch H H' s.heap s'.heap) (hok : HOk X.prog X.w H' s'.heap) (hg : AllBare s'.gens)
    (hch : ∀ b ∈ ch, (b ∈ X.ex ∨ X.s₀.heap.objs.size ≤ b) ∧ b ≠ X.env.locals ∧ (∀ x c, X.env.cells.lookup x = some c → c ≠ b) ∧ ∀ p ∈ X.pn ++ pins, p.1 ≠ b) : Inv X pins σ H' s' := by
  obtain ⟨h', g', d', t', o'⟩ := s'
  have e : o' = s.os := ho
  subst e
  exact I.call (g' := g') (t' := t') (d' := d') u hok hg hch
end
abbrev XK := Value → Option Addr → Hp → Prop
abbrev St := List (Option V)
abbrev VK := V → Hp → Prop
abbrev TE := St → Hp → VK → Prop
abbrev TT := St → Hp → (Bool → Hp → Prop) → Prop
abbrev TA := St → Hp → (List V → Hp → Prop) → Prop
structure Ends where
  nx : St → Hp → Prop
  rt : VK
  bk : St → Hp → Prop := fun _ _ => False
  ct : St → Hp → Prop := fun _ _ => False
abbrev TS := Ends → St → Hp → Prop
def EP (X : Cx) (pins : List (Addr × Obj)) (σ : St) (Q : VK) (u : Value) (s' : Shared) : Prop := ∃ v H', Inv X pins σ H' s' ∧ RelV v u ∧ Q v H'
def TP (X : Cx) (pins : List (Addr × Obj)) (σ : St) (Q : Bool → Hp → Prop) (b : Bool) (s' : Shared) : Prop := ∃ H', Inv X pins σ H' s' ∧ Q b H'
def AP (X : Cx) (pins : List (Addr × Obj)) (σ : St) (Q : List V → Hp → Prop) (us : List Value) (s' : Shared) : Prop := ∃ vs H', Inv X pins σ H' s' ∧ Vals vs us ∧ Q vs H'
def SP (X : Cx) (pins : List (Addr × Obj)) (D : Ends) (f : Flow) (s' : Shared) : Prop :=
  match f with
  | .next => ∃ σ' H', Inv X pins σ' H' s' ∧ D.nx σ' H'
  | .brk => ∃ σ' H', Inv X pins σ' H' s' ∧ D.bk σ' H'
  | .cont => ∃ σ' H', Inv X pins σ' H' s' ∧ D.ct σ' H'
  | .ret u => ∃ v σ' H', Inv X pins σ' H' s' ∧ RelV v u ∧ D.rt v H'
def PE (X : Cx) (e : Expr) (t : TE) : Prop :=
  ∀ (pins : List (Addr × Obj)) (s : Shared) (σ : St) (H : Hp) (Q : VK), Inv X pins σ H s → t σ H Q → wpAny (model X.prog X.w) X.A (eval e X.env) (EP X pins σ Q) X.xe s
def PT (X : Cx) (e : Expr) (t : TT) : Prop :=
  ∀ (pins : List (Addr × Obj)) (s : Shared) (σ : St) (H : Hp) (Q : Bool → Hp → Prop), Inv X pins σ H s → t σ H Q → wpAny (model X.prog X.w) X.A (isTrue e X.env (eval e X.env)) (TP X pins σ Q) X.xe s
def PW (X : Cx) (e : Expr) (t : TT) : Prop :=
  ∀ (whole : Sem Value) (pins : List (Addr × Obj)) (s : Shared) (σ : St) (H : Hp) (Q : Bool → Hp → Prop), Inv X pins σ H s → t σ H Q → wpAny (model X.prog X.w) X.A (isTrue e X.env whole) (TP X pins σ Q) X.xe s
theorem PW.pt {X : Cx} {e : Expr} {t : TT} (h : PW X e t) : PT X e t := h _
def PA (X : Cx) (es : List Expr) (t : TA) : Prop :=
  ∀ (pos : Pos) (pins : List (Addr × Obj)) (s : Shared) (σ : St) (H : Hp) (Q : List V → Hp → Prop), Inv X pins σ H s → t σ H Q → wpAny (model X.prog X.w) X.A (spliced (backTo pos (starEach es X.env))) (AP X pins σ Q) X.xe s
def PS (X : Cx) (st : Stmt) (t : TS) : Prop :=
  ∀ (pins : List (Addr × Obj)) (s : Shared) (σ : St) (H : Hp) (D : Ends), Inv X pins σ H s → t D σ H → wpAny (model X.prog X.w) X.A (exec st X.env) (SP X pins D) X.xe s
def PSs (X : Cx) (st : List Stmt) (t : TS) : Prop :=
  ∀ (pins : List (Addr × Obj)) (s : Shared) (σ : St) (H : Hp) (D : Ends), Inv X pins σ H s → t D σ H → wpAny (model X.prog X.w) X.A (execs st X.env) (SP X pins D) X.xe s
theorem thn {α : Type} {t : Sem α} {Q Q' : α → Shared → Prop} {M : Model} {A : Around} {E : Value → Shared → Prop} {s : Shared} (h : wpAny M A t Q E s) (hQ : ∀ a s, Q a s → Q' a s) : wpAny M A t Q' E s := wpAny_mono h hQ fun _ _ x => x
end L2
namespace L2
open PySem PySem.Spec PyProof.Rows
section
variable {X : Cx}
def tVar (i : Nat) : TE := fun σ H Q => ∃ v, σ[i]? = some (some v) ∧ Q v H
def tC (v : V) : TE := fun _ H Q => Q v H
theorem pe_var {i : Nat} {x : Str} {pos : Pos} (hN : X.N[i]? = some x) (hv : Vis X.env.scope x) (hd : (x == ("__debug__" : Str)) = false := by decide) (hcd : (x == ("__classdict__" : Str)) = false := by decide) : PE X (.Name x pos) (tVar i) := by
  intro pins s σ H Q I h
  obtain ⟨v, e, h⟩ := h
  obtain ⟨m, hn, hl⟩ := I.loc
  obtain ⟨u, r, l⟩ := hl i x v hN e hv
  have fin : EP X pins σ Q u s := ⟨v, H, I, r, h⟩
  rcases l with ⟨hk, hm⟩ | ⟨hk, c, hc, hcell⟩
  · exact wpAny_Name (wpAny_loadName_local I.ok.kind hk hn hm fin) hd
  · rcases hk with hk | hk
    · exact wpAny_Name (wpAny_loadName_cell I.ok.kind hk hc hcell fin) hd
    · exact wpAny_Name (wpAny_loadName_free I.ok.kind hk hc hcell fin hcd) hd
theorem pe_int {i j pos} : PE X (.Constant (.int i) j pos) (tC (.int i)) := fun _ _ _ H _ I h => wpAny_Constant_int ⟨.int i, H, I.tok _, ⟨_, rfl⟩, h⟩
theorem pe_bl {b j pos} : PE X (.Constant (.bool b) j pos) (tC (.bl b)) := fun _ _ _ H _ I h => Constant_bool ⟨.bl b, H, I, rfl, h⟩
theorem pe_non {j pos} : PE X (.Constant .none j pos) (tC .non) := fun _ _ _ H _ I h => Constant_none ⟨.non, H, I, rfl, h⟩
theorem pe_str {x j pos} : PE X (.Constant (.str x) j pos) (tC (.str x)) := fun _ _ _ H _ I h => Calls.Constant_str ⟨.str x, H, I.tok _, ⟨_, rfl⟩, h⟩
def Gl (X : Cx) (x : Str) : Prop := X.env.kindOf x = some .globalImplicit
theorem ld_glob {E : Value → Shared → Prop} {pins : List (Addr × Obj)} {s : Shared} {σ : St} {H : Hp} {x : Str} {u : Value} {pos : Pos} {Q : Value → Shared → Prop} (I : Inv X pins σ H s) (hg : Gl X x) (hm : X.mg x = some u) (h : Q u s)
    (hd : (x == ("__debug__" : Str)) = false := by decide) : wpAny (model X.prog X.w) X.A (eval (.Name x pos) X.env) Q E s :=
  Calls.Name_function_global I.ok.kind hg (Calls.loadGlobal_global (by rw [I.ok.glob]; exact I.mod.glob.keeps I.bk) hm h) hd
theorem ld_blt {E : Value → Shared → Prop} {pins : List (Addr × Obj)} {s : Shared} {σ : St} {H : Hp} {x : Str} {u : Value} {pos : Pos} {Q : Value → Shared → Prop} (I : Inv X pins σ H s) (hg : Gl X x) (hm : X.mg x = none) (hv : bootBuiltins x = some u) (h : Q u s)
    (hn : x ≠ "__name__" := by decide) (hd : (x == ("__debug__" : Str)) = false := by decide) : wpAny (model X.prog X.w) X.A (eval (.Name x pos) X.env) Q E s := by
  obtain ⟨mb, h1, h2⟩ := I.mod.blt
  exact Calls.Name_function_global I.ok.kind hg (Calls.loadGlobal_builtin (by rw [I.ok.glob]; exact I.mod.glob.keeps I.bk) hm (by rw [I.ok.blt]; exact h1.keeps I.bk) ((h2 x hn).trans hv) h) hd
theorem pe_glob {x : Str} {v : V} {u : Value} {pos : Pos} (hg : Gl X x) (hm : X.mg x = some u) (r : RelV v u) (hd : (x == ("__debug__" : Str)) = false := by decide) : PE X (.Name x pos) (tC v) :=
  fun _ _ _ H _ I h => ld_glob I hg hm ⟨v, H, I, r, h⟩ hd
theorem pe_bltn {x : Str} {v : V} {u : Value} {pos : Pos} (hg : Gl X x) (hm : X.mg x = none) (hv : bootBuiltins x = some u) (r : RelV v u) (hn : x ≠ "__name__" := by decide) (hd : (x == ("__debug__" : Str)) = false := by decide) : PE X (.Name x pos) (tC v) :=
  fun _ _ _ H _ I h => ld_blt I hg hm hv ⟨v, H, I, r, h⟩ hn hd
variable {a b : Expr} {ta tb : TE} {pos : Pos}
def PC (X : Cx) (op : CmpOp) (a b : Expr) (t : TE) : Prop :=
  ∀ (pins : List (Addr × Obj)) (s : Shared) (σ : St) (H : Hp) (Q : VK), Inv X pins σ H s → t σ H Q →
    wpAny (model X.prog X.w) X.A (eval a X.env) (fun v s₁ => wpAny (model X.prog X.w) X.A (eval b X.env) (fun u s₂ => wpAny (model X.prog X.w) X.A (compareOp op v u) (EP X pins σ Q) X.xe s₂) X.xe s₁) X.xe s
theorem nobehind (b : Expr) {op : CmpOp} (h : op ≠ .In) (h2 : op ≠ .NotIn) : behindInMarks op b = false := by
  have e1 : (op == CmpOp.In) = false := by cases op <;> first | rfl | exact absurd rfl h
  have e2 : (op == CmpOp.NotIn) = false := by cases op <;> first | rfl | exact absurd rfl h2
  cases b <;> simp [behindInMarks, e1, e2]
def tIsN (ta : TE) : TE := fun σ H Q => ta σ H fun x H1 => Q (.bl (decide (x = .non))) H1
def tNotN (ta : TE) : TE := fun σ H Q => ta σ H fun x H1 => Q (.bl (!decide (x = .non))) H1
theorem RelV.none_iff {x : V} {v : Value} (r : RelV x v) : (v == Value.none) = decide (x = .non) := by
  cases x with
  | non => cases r; rfl
  | bl _ => cases r; rfl
  | int _ => obtain ⟨t, rfl⟩ := r; rfl
  | str _ => obtain ⟨t, rfl⟩ := r; rfl
  | byt _ => obtain ⟨t, rfl⟩ := r; rfl
  | flt _ => obtain ⟨t, rfl⟩ := r; rfl
  | ref _ => cases r; rfl
  | ty _ => cases r; rfl
theorem pc_isN {j pos'} (ha : PE X a ta) : PC X .Is a (.Constant .none j pos') (tIsN ta) := by
  intro pins s σ H Q I h
  refine thn (ha pins s σ H _ I h) fun v s1 ⟨x, H1, I1, r1, q1⟩ => ?_
  exact Constant_none (is_none_gen ⟨.bl _, H1, I1, by rw [r1.none_iff]; rfl, q1⟩)
theorem pc_notN {j pos'} (ha : PE X a ta) : PC X .IsNot a (.Constant .none j pos') (tNotN ta) := by
  intro pins s σ H Q I h
  refine thn (ha pins s σ H _ I h) fun v s1 ⟨x, H1, I1, r1, q1⟩ => ?_
  exact Constant_none (isnot_none_gen ⟨.bl _, H1, I1, by rw [r1.none_iff]; rfl, q1⟩)
def tB (t : TE) : TT := fun σ H Q => t σ H fun x H1 => ∃ c, x = .bl c ∧ Q c H1
theorem pe_cmp {op : CmpOp} {t : TE} (h : PC X op a b t) (h1 : behindInMarks op b = false := by first | exact nobehind _ (by decide) (by decide) | rfl) : PE X (.Compare a [op] [b] pos) t := fun pins s σ H Q I hw => wpAny_Compare1 (h pins s σ H Q I hw) h1
theorem pt_cmp {op : CmpOp} {t : TE} (h : PC X op a b t) (h1 : behindInMarks op b = false := by first | exact nobehind _ (by decide) (by decide) | rfl) : PT X (.Compare a [op] [b] pos) (tB t) := by
  intro pins s σ H Q I hw
  refine wpAny_isTrue_Compare1 (thn (h pins s σ H _ I hw) fun v s1 h1 => thn h1 fun u s2 h2 => thn h2 fun c s3 ⟨x, H1, I1, r1, q1⟩ => ?_) h1
  obtain ⟨d, rfl, q⟩ := q1
  cases r1
  exact wpAny_truthy_bool ⟨H1, I1, q⟩
theorem pt_val {e : Expr} {t : TE} (h : PE X e t) (he : ∀ whole, isTrue e X.env whole = (do let v ← whole; standAt e.pos; holding [v] (truthy v)) := by intro _; rfl) : PT X e (tB t) := by
  intro pins s σ H Q I hw
  refine isTrue_plain (thn (h pins s σ H _ I hw) fun v s1 ⟨x, H1, I1, r1, q1⟩ => ?_) (he _)
  obtain ⟨d, rfl, q⟩ := q1
  cases r1
  exact wpAny_truthy_bool ⟨H1, I1, q⟩
variable {tA tB' : TT} {rest : List Expr}
def tAnd (t u : TT) : TT := fun σ H Q => t σ H fun c H1 => if c = true then u σ H1 Q else Q false H1
def tOr (t u : TT) : TT := fun σ H Q => t σ H fun c H1 => if c = true then Q true H1 else u σ H1 Q
def tNot (t : TT) : TT := fun σ H Q => t σ H fun c H1 => Q (!c) H1
theorem pw_or1 (ha : PT X a tA) : PW X (.BoolOp .Or [a] pos) tA := by
  intro wh pins s σ H Q I h
  refine isTrue_or (thn (ha pins s σ H Q I h) fun c s1 e => ?_)
  cases c with
  | false => exact isTrue_or_nil e
  | true => exact e
theorem pw_or (ha : PT X a tA) (hb : PW X (.BoolOp .Or (b :: rest) pos) tB') : PW X (.BoolOp .Or (a :: b :: rest) pos) (tOr tA tB') := by
  intro wh pins s σ H Q I h
  refine isTrue_or (thn (ha pins s σ H _ I h) fun c s1 ⟨H1, I1, q1⟩ => ?_)
  cases c with
  | true => exact ⟨H1, I1, q1⟩
  | false => exact hb wh pins s1 σ H1 Q I1 q1
theorem pt_not (ha : PT X a tA) : PT X (.UnaryOp .Not a pos) (tNot tA) := by
  intro pins s σ H Q I h
  exact isTrue_not (ha pins s σ H (fun c H1 => Q (!c) H1) I h)
def tAndV (ta tb : TE) : TE := fun σ H Q => ta σ H fun x H1 => ∃ c, x = .bl c ∧ if c = true then tb σ H1 Q else Q (.bl false) H1
def tOrV (ta tb : TE) : TE := fun σ H Q => ta σ H fun x H1 => ∃ c, x = .bl c ∧ if c = true then Q (.bl true) H1 else tb σ H1 Q
def tNotV (ta : TE) : TE := fun σ H Q => ta σ H fun x H1 => ∃ c, x = .bl c ∧ Q (.bl (!c)) H1
theorem pe_one {op} {t : TE} (h : PE X a t) : PE X (.BoolOp op [a] pos) t := fun pins s σ H Q I hw => BoolOp_one (h pins s σ H Q I hw)
theorem pe_and (ha : PE X a ta) (hb : PE X (.BoolOp .And (b :: rest) pos) tb) : PE X (.BoolOp .And (a :: b :: rest) pos) (tAndV ta tb) := by
  intro pins s σ H Q I h
  refine BoolOp_and (thn (ha pins s σ H _ I h) fun v s1 ⟨x, H1, I1, r1, q1⟩ => ?_)
  obtain ⟨c, rfl, q1⟩ := q1
  cases r1
  refine wpAny_truthy_bool ?_
  cases c with
  | true => exact hb pins s1 σ H1 Q I1 q1
  | false => exact ⟨.bl false, H1, I1, rfl, q1⟩
theorem pe_or (ha : PE X a ta) (hb : PE X (.BoolOp .Or (b :: rest) pos) tb) : PE X (.BoolOp .Or (a :: b :: rest) pos) (tOrV ta tb) := by
  intro pins s σ H Q I h
  refine BoolOp_or (thn (ha pins s σ H _ I h) fun v s1 ⟨x, H1, I1, r1, q1⟩ => ?_)
  obtain ⟨c, rfl, q1⟩ := q1
  cases r1
  refine wpAny_truthy_bool ?_
  cases c with
  | false => exact hb pins s1 σ H1 Q I1 q1
  | true => exact ⟨.bl true, H1, I1, rfl, q1⟩
theorem pe_not (ha : PE X a ta) : PE X (.UnaryOp .Not a pos) (tNotV ta) := by
  intro pins s σ H Q I h
  refine UnaryOp_ (thn (ha pins s σ H _ I h) fun v s1 ⟨x, H1, I1, r1, q1⟩ => ?_)
  obtain ⟨c, rfl, q1⟩ := q1
  cases r1
  exact not_of (wpAny_truthy_bool ⟨.bl (!c), H1, I1, rfl, q1⟩)
def tIf (t : TT) (ta tb : TE) : TE := fun σ H Q => t σ H fun c H1 => if c = true then ta σ H1 Q else tb σ H1 Q
theorem pe_ifExp {c : Expr} (hc : PT X c tA) (ha : PE X a ta) (hb : PE X b tb) : PE X (.IfExp c a b pos) (tIf tA ta tb) := by
  intro pins s σ H Q I h
  refine wpAny_IfExp (thn (hc pins s σ H _ I h) fun d s1 ⟨H1, I1, q1⟩ => ?_)
  cases d with
  | true => exact ha pins s1 σ H1 Q I1 q1
  | false => exact hb pins s1 σ H1 Q I1 q1
end
end L2
namespace L2
open PySem PySem.Spec PyProof.Rows
def SqL (K : PySem.W.Frag) (H : Hp) (a : Addr) (xs : List V) : Prop :=
  Rd H a (.lst xs) ∨
    ∃ (o : Obj) (its : Array Value) (n : Nat), K.lookup a = some o ∧ o.cls = .type "list" ∧ o.dict = none ∧ o.data = .seq its n ∧ its.size ≤ sizeLine ∧ Vals xs its.toList
def SqT (K : PySem.W.Frag) (H : Hp) (a : Addr) (xs : List V) : Prop :=
  Rd H a (.tup xs) ∨
    ∃ (o : Obj) (its : Array Value) (n : Nat), K.lookup a = some o ∧ o.cls = .type "tuple" ∧ o.data = .seq its n ∧ its.size ≤ sizeLine ∧ Vals xs its.toList
def absV : Value → Option V
  | .none => some .non
  | .bool b => some (.bl b)
  | .int i _ => some (.int i)
  | .str x _ => some (.str x)
  | .bytes b _ => some (.byt b)
  | .float b _ => some (.flt b)
  | .ref a => some (.ref a)
  | .type n => some (.ty n)
  | _ => none
theorem RelV.abs {x : V} {u : Value} (r : RelV x u) : absV u = some x := by
  cases x with
  | non => cases r; rfl
  | bl _ => cases r; rfl
  | int _ => obtain ⟨t, rfl⟩ := r; rfl
  | str _ => obtain ⟨t, rfl⟩ := r; rfl
  | byt _ => obtain ⟨t, rfl⟩ := r; rfl
  | flt _ => obtain ⟨t, rfl⟩ := r; rfl
  | ref _ => cases r; rfl
  | ty _ => cases r; rfl
theorem RelV.inj {x y : V} {u : Value} (r : RelV x u) (q : RelV y u) : x = y := Option.some.inj (r.abs.symm.trans q.abs)
theorem Vals.inj : ∀ {xs ys : List V} {us : List Value}, Vals xs us → Vals ys us → xs = ys
  | _, _, _, .nil, .nil => rfl
  | _, _, _, .cons r t, .cons r' t' => by rw [r.inj r', Vals.inj t t']
section
variable {X : Cx} {pins : List (Addr × Obj)} {σ : St} {H : Hp} {s : Shared} {a : Addr} {xs ys : List V}
theorem SqL.of {K : PySem.W.Frag} (h : H a = some (.lst xs)) : SqL K H a xs := .inl (.inl h)
theorem SqT.of {K : PySem.W.Frag} (h : H a = some (.tup xs)) : SqT K H a xs := .inl (.inl h)
theorem Inv.list (I : Inv X pins σ H s) (h : SqL X.K H a xs) : ∃ its : List Value, Vals xs its ∧ PlainL s.heap a its.toArray ∧ xs.length ≤ sizeLine := by
  rcases h with h | ⟨o, its, n, hk, hc, hd, hs, hz, r⟩
  · obtain ⟨z, its, n, r, e⟩ := h.ok I.hok
    exact ⟨its, r, ⟨_, n, e, rfl, rfl, rfl⟩, z⟩
  · refine ⟨its.toList, r, ⟨o, n, I.kIn a o hk, hc, hd, by simpa using hs⟩, ?_⟩
    have e := r.length
    simp only [Array.length_toList] at e
    omega
theorem Inv.tuple (I : Inv X pins σ H s) (h : SqT X.K H a xs) : ∃ its : List Value, Vals xs its ∧ IsTup s.heap a its.toArray ∧ xs.length ≤ sizeLine := by
  rcases h with h | ⟨o, its, n, hk, hc, hs, hz, r⟩
  · obtain ⟨z, its, r, p⟩ := h.ok I.hok
    exact ⟨its, r, p, z⟩
  · refine ⟨its.toList, r, ⟨o, I.kIn a o hk, hc, n, by simpa using hs⟩, ?_⟩
    have e := r.length
    simp only [Array.length_toList] at e
    omega
theorem Inv.list_inj (I : Inv X pins σ H s) (h : SqL X.K H a xs) (h' : SqL X.K H a ys) : xs = ys := by
  obtain ⟨its, r, ⟨o, n, e, _, _, d⟩, _⟩ := I.list h
  obtain ⟨its', r', ⟨o', n', e', _, _, d'⟩, _⟩ := I.list h'
  rw [e] at e'; cases e'
  rw [d] at d'
  injection d' with d1 _
  have : its = its' := by simpa using congrArg Array.toList d1
  subst this
  exact r.inj r'
theorem Inv.tuple_inj (I : Inv X pins σ H s) (h : SqT X.K H a xs) (h' : SqT X.K H a ys) : xs = ys := by
  obtain ⟨its, r, ⟨o, e, _, n, d⟩, _⟩ := I.tuple h
  obtain ⟨its', r', ⟨o', e', _, n', d'⟩, _⟩ := I.tuple h'
  rw [e] at e'; cases e'
  rw [d] at d'
  injection d' with d1 _
  have : its = its' := by simpa using congrArg Array.toList d1
  subst this
  exact r.inj r'
end
abbrev Cx.wish (X : Cx) (E : Value → Shared → Prop) : Cx := { X with xe := E }
abbrev Cx.nox (X : Cx) : Cx := X.wish fun _ _ => False
theorem Cx.Ok.wish {X : Cx} (ok : X.Ok) (E : Value → Shared → Prop) : (X.wish E).Ok :=
  ⟨ok.mod, ok.kind, ok.glob, ok.blt, ok.above, ok.inj, ok.has, ok.cab, ok.hd, ok.frames, ok.stk, ok.exf, ok.bs, ok.bsz, ok.noex, ok.exfs, ok.funs, ok.frf⟩
theorem Cx.Ok.unwish {X : Cx} {E : Value → Shared → Prop} (ok : (X.wish E).Ok) : X.Ok :=
  ⟨ok.mod, ok.kind, ok.glob, ok.blt, ok.above, ok.inj, ok.has, ok.cab, ok.hd, ok.frames, ok.stk, ok.exf, ok.bs, ok.bsz, ok.noex, ok.exfs, ok.funs, ok.frf⟩
section
variable {X : Cx} {pins : List (Addr × Obj)} {σ : St} {H : Hp} {s : Shared} {E : Value → Shared → Prop}
theorem Inv.wish (I : Inv X pins σ H s) (E : Value → Shared → Prop) : Inv (X.wish E) pins σ H s := ⟨I.ok.wish E, I.os, I.bare, I.base, I.loc, I.cell, I.free, I.freeC, I.pin, I.hok, I.len⟩
theorem Inv.unwish (I : Inv (X.wish E) pins σ H s) : Inv X pins σ H s := ⟨I.ok.unwish, I.os, I.bare, I.base, I.loc, I.cell, I.free, I.freeC, I.pin, I.hok, I.len⟩
theorem SP.unwish {D : Ends} {f : Flow} {s' : Shared} (h : SP (X.wish E) pins D f s') : SP X pins D f s' := by
  cases f with
  | next => obtain ⟨σ', H', I, q⟩ := h; exact ⟨σ', H', I.unwish, q⟩
  | brk => obtain ⟨σ', H', I, q⟩ := h; exact ⟨σ', H', I.unwish, q⟩
  | cont => obtain ⟨σ', H', I, q⟩ := h; exact ⟨σ', H', I.unwish, q⟩
  | ret u => obtain ⟨v, σ', H', I, r, q⟩ := h; exact ⟨v, σ', H', I.unwish, r, q⟩
theorem PE.nox {e : Expr} {t : TE} (h : PE X.nox e t) : PE X e t := fun pins s σ H Q I hw =>
  wpAny_mono (h pins s σ H Q (I.wish _) hw) (fun _ _ ⟨v, H', I', r, q⟩ => ⟨v, H', I'.unwish, r, q⟩) fun _ _ z => False.elim z
theorem PT.nox {e : Expr} {t : TT} (h : PT X.nox e t) : PT X e t := fun pins s σ H Q I hw =>
  wpAny_mono (h pins s σ H Q (I.wish _) hw) (fun _ _ ⟨H', I', q⟩ => ⟨H', I'.unwish, q⟩) fun _ _ z => False.elim z
theorem PSs.nox {st : List Stmt} {t : TS} (h : PSs X.nox st t) : PSs X st t := fun pins s σ H D I hw =>
  wpAny_mono (h pins s σ H D (I.wish _) hw) (fun _ _ q => q.unwish) fun _ _ z => False.elim z
end
section
variable {X : Cx} {st : Stmt} {rest : List Stmt} {t u : TS} {e : Expr} {te : TE} {pos : Pos}
def tNext : TS := fun D σ H => D.nx σ H
def tSeq (t u : TS) : TS := fun D σ H => t { D with nx := u D } σ H
theorem pss_nil : PSs X [] tNext := fun _ _ σ H _ I h => wpAny_execs_nil ⟨σ, H, I, h⟩
theorem pss_cons (h1 : PS X st t) (h2 : PSs X rest u) : PSs X (st :: rest) (tSeq t u) := by
  intro pins s σ H D I h
  refine wpAny_execs_cons (thn (h1 pins s σ H { D with nx := u D } I h) fun f s1 q => ?_)
  cases f with
  | next =>
    obtain ⟨σ', H', I', q⟩ := q
    exact h2 pins s1 σ' H' D I' q
  | ret v => exact q
  | brk => exact q
  | cont => exact q
theorem pss_one (h1 : PS X st t) : PSs X [st] t := by
  intro pins s σ H D I h
  refine wpAny_execs_cons (thn (h1 pins s σ H D I h) fun f s1 q => ?_)
  cases f with
  | next => exact wpAny_execs_nil q
  | ret v => exact q
  | brk => exact q
  | cont => exact q
theorem Inv.quiet {pins : List (Addr × Obj)} {σ : St} {H : Hp} {s : Shared} (I : Inv X pins σ H s) : interactive X.env = false := by simp [interactive, I.ok.kind]
def tDrop (te : TE) : TS := fun D σ H => te σ H fun _ H1 => D.nx σ H1
theorem ps_expr (he : PE X e te) (hs : swapsWith e none pos.line X.env = pure false := by rfl) : PS X (.Expr e pos) (tDrop te) := by
  intro pins s σ H D I h
  exact wpAny_Expr_any (thn (he pins s σ H _ I h) fun v s1 ⟨x, H1, I1, r1, q1⟩ => ⟨σ, H1, I1, q1⟩) I.quiet hs
def tRet (te : TE) : TS := fun D σ H => te σ H D.rt
theorem ps_ret (he : PE X e te) : PS X (.Return (some e) pos) (tRet te) := by
  intro pins s σ H D I h
  exact wpAny_Return_some (thn (he pins s σ H _ I h) fun v s1 ⟨x, H1, I1, r1, q1⟩ => ⟨x, σ, H1, I1, r1, q1⟩)
def tIfS (c : TT) (t u : TS) : TS := fun D σ H => c σ H fun b H1 => if b = true then t D σ H1 else u D σ H1
theorem ps_if {c : Expr} {a b : List Stmt} {tc : TT} (hc : PT X c tc) (ha : PSs X a t) (hb : PSs X b u) : PS X (.If c a b pos) (tIfS tc t u) := by
  intro pins s σ H D I h
  refine wpAny_If (thn (hc pins s σ H _ I h) fun d s1 ⟨H1, I1, q1⟩ => ?_)
  cases d with
  | true => exact ha pins s1 σ H1 D I1 q1
  | false => exact hb pins s1 σ H1 D I1 q1
def tNever : TS := fun _ _ _ => False
theorem ps_never : PS X st tNever := fun _ _ _ _ _ _ h => h.elim
end
abbrev TG := V → St → Hp → (St → Hp → Prop) → Prop
abbrev TGs := List V → St → Hp → (St → Hp → Prop) → Prop
def PG (X : Cx) (target : Expr) (t : TG) : Prop :=
  ∀ (pins : List (Addr × Obj)) (s : Shared) (σ : St) (H : Hp) (v : V) (u : Value) (Q : St → Hp → Prop), Inv X pins σ H s → RelV v u → t v σ H Q →
    wpAny (model X.prog X.w) X.A (assign target X.env u) (fun _ s' => ∃ σ' H', Inv X pins σ' H' s' ∧ Q σ' H') X.xe s
def PGs (X : Cx) (ts : List Expr) (t : TGs) : Prop :=
  ∀ (pins : List (Addr × Obj)) (s : Shared) (σ : St) (H : Hp) (vs : List V) (us : List Value) (Q : St → Hp → Prop), Inv X pins σ H s → Vals vs us → t vs σ H Q →
    wpAny (model X.prog X.w) X.A (assignInOrder ((assignEach ts X.env).map (·.2)) us) (fun _ s' => ∃ σ' H', Inv X pins σ' H' s' ∧ Q σ' H') X.xe s
abbrev TSet := V → V → V → Hp → (Hp → Prop) → Prop
section
variable {X : Cx} {pos : Pos}
def gName (i : Nat) : TG := fun v σ H Q => Q (σ.set i (some v)) H
theorem pg_name {i : Nat} {x : Str} (hN : X.N.Nodup) (hi : X.N[i]? = some x) (hx : Loc X.env.scope x) (hf : X.fn x = true ∨ X.env.scope.names.lookup x = some .local := by first | exact .inl rfl | exact .inr rfl | assumption) : PG X (.Name x pos) (gName i) := by
  intro pins s σ H v u Q I r h
  exact wpAny_assign_Name (store_ok I hN hi hx r (fun s' I' => ⟨_, H, I', h⟩) hf)
def gNil : TGs := fun vs σ H Q => vs = [] ∧ Q σ H
def gCons (t : TG) (u : TGs) : TGs := fun vs σ H Q => ∃ v r, vs = v :: r ∧ t v σ H fun σ' H' => u r σ' H' Q
theorem pgs_nil : PGs X [] gNil := by
  intro pins s σ H vs us Q I r h
  obtain ⟨e, h⟩ := h
  subst e
  cases r
  exact assignInOrder_nil ⟨σ, H, I, h⟩
theorem pgs_cons {e : Expr} {es : List Expr} {t : TG} {u : TGs} (h1 : PG X e t) (h2 : PGs X es u)
    (hs : (assignEach (e :: es) X.env).map (·.2) = assign e X.env :: (assignEach es X.env).map (·.2) := by rfl) : PGs X (e :: es) (gCons t u) := by
  intro pins s σ H vs us Q I r h
  obtain ⟨v, vr, e1, h⟩ := h
  subst e1
  cases r with
  | cons r rr =>
    rw [hs]
    refine assignInOrder_cons (thn (h1 pins s σ H _ _ _ I r h) fun _ s1 ⟨σ1, H1, I1, q1⟩ => ?_)
    exact h2 pins s1 σ1 H1 _ _ Q I1 rr q1
def gTup (K : PySem.W.Frag) (n : Nat) (t : TGs) : TG := fun v σ H Q => ∃ a xs, v = .ref a ∧ SqT K H a xs ∧ xs.length = n ∧ t xs σ H Q
theorem pg_tup {es : List Expr} {k : Nat} {t : TGs} {n : Nat} (hc : X.calm = true) (h : PGs X es t)
    (hn : (assignEach es X.env).length = n := by rfl) (hst : (assignEach es X.env).findIdx? (·.1) = none := by rfl) : PG X (.Tuple es k pos) (gTup X.K n t) := by
  intro pins s σ H v u Q I r hw
  obtain ⟨a, xs, e1, hq, hl, hw⟩ := hw
  subst e1
  cases r
  obtain ⟨its, rv, ht, hz⟩ := I.tuple hq
  refine assign_Tuple_tuple (I.ok.hd hc) ht (by simp [hn, ← hl, rv.length]) hst fun h' hx => ?_
  have I1 : Inv X pins σ H { s with heap := h' } := I.kept (t' := s.toks) fun b o e => hx b o (Nat.ne_of_lt (Heap.lt_size e)) e
  exact h pins _ σ H xs _ Q I1 (by simpa using rv) hw
def gSub (to ti : TE) (t : TSet) : TG := fun v σ H Q => to σ H fun o H1 => ti σ H1 fun i H2 => t o i v H2 fun H3 => Q σ H3
def tAsg (te : TE) (g : TG) : TS := fun D σ H => te σ H fun x H1 => g x σ H1 D.nx
theorem ps_set {i : Nat} {x : Str} {e : Expr} {te : TE} {pos' : Pos} (hN : X.N.Nodup) (hi : X.N[i]? = some x) (hx : Loc X.env.scope x) (he : PE X e te) (hs : swapsWith e (some (.Name x pos')) pos.line X.env = pure false := by rfl) (hf : X.fn x = true ∨ X.env.scope.names.lookup x = some .local := by first | exact .inl rfl | exact .inr rfl | assumption) :
    PS X (.Assign [.Name x pos'] e pos) (tAsg te (gName i)) := by
  intro pins s σ H D I h
  refine wpAny_Assign_Name (thn (he pins s σ H _ I h) fun v s1 ⟨y, H1, I1, r1, q1⟩ => ?_) hs
  exact store_ok I1 hN hi hx r1 (fun s2 I2 => ⟨_, H1, I2, q1⟩) hf
end
section
variable {X : Cx} {pos : Pos}
def tWhile (c : TT) (tb : TS) : TS := fun D σ H => ∃ W : Nat → St → Hp → Prop, (∃ m, W m σ H) ∧ ∀ m σ H, W m σ H →
  c σ H fun b H1 => if b = true then ∃ N : St → Hp → Prop, (∀ σ' H', N σ' H' → ∃ m', m' < m ∧ W m' σ' H') ∧ tb { D with nx := N, ct := N, bk := D.nx } σ H1 else D.nx σ H1
theorem ps_while {c : Expr} {body : List Stmt} {tc : TT} {tb : TS} (hp : PassesOwn (model X.prog X.w) X.A X.env X.xe) (hc : PT X c tc) (hb : PSs X body tb) : PS X (.While c body [] pos) (tWhile tc tb) := by
  intro pins s σ H D I h
  obtain ⟨W, ⟨m0, w0⟩, turn⟩ := h
  refine wpAny_While (codeAny_whileLoop (fun n s' => ∃ σ' H', Inv X pins σ' H' s' ∧ W n σ' H') ?_ m0 ⟨σ, H, I, w0⟩)
  rintro n s1 ⟨σ1, H1, I1, w1⟩
  refine wpAny_passesOwn hp (thn (hc pins s1 σ1 H1 _ I1 (turn n σ1 H1 w1)) fun b s2 ⟨H2, I2, q2⟩ => ?_)
  cases b with
  | true =>
    obtain ⟨N, hN, q2⟩ := q2
    rw [if_pos rfl]
    refine wpAny_passesOwn hp (thn (hb pins s2 σ1 H2 _ I2 q2) fun f s3 q3 => ?_)
    cases f with
    | next =>
      obtain ⟨σ3, H3, I3, n3⟩ := q3
      obtain ⟨m', hm, w3⟩ := hN σ3 H3 n3
      exact ⟨m', hm, σ3, H3, I3, w3⟩
    | cont =>
      obtain ⟨σ3, H3, I3, n3⟩ := q3
      obtain ⟨m', hm, w3⟩ := hN σ3 H3 n3
      exact ⟨m', hm, σ3, H3, I3, w3⟩
    | brk => exact q3
    | ret v => exact q3
  | false =>
    rw [if_neg Bool.false_ne_true]
    exact wpAny_execs_nil ⟨σ1, H2, I2, q2⟩
end
structure It where
  go : Nat → Hp → Prop
  yld : Nat → Hp → V → Hp → Prop
  stop : Nat → Hp → Prop
def FpOk (X : Cx) (pins : List (Addr × Obj)) (H : Hp) (b : Addr) : Prop :=
  H b = none ∧ b ≠ X.env.locals ∧ b ∉ X.fs ∧ (b ∈ X.ex ∨ X.s₀.heap.objs.size ≤ b) ∧ (∀ x c, X.env.cells.lookup x = some c → c ≠ b) ∧ ∀ p ∈ X.pn ++ pins, p.1 ≠ b
theorem Inv.fpOk {X : Cx} {pins : List (Addr × Obj)} {σ : St} {H H' : Hp} {s : Shared} {b : Addr} (I : Inv X pins σ H s) (hb : s.heap.objs.size ≤ b) (hn : H' b = none) : FpOk X pins H' b := by
  refine ⟨hn, Nat.ne_of_gt (Nat.lt_of_lt_of_le I.lt hb), I.nofs hb, .inr (Nat.le_trans I.sz hb), fun x c e z => ?_, fun p hp z => ?_⟩
  · obtain ⟨v, q⟩ := I.cell x c e
    exact absurd (Nat.lt_of_lt_of_le q.lt (by rw [z]; exact hb)) (Nat.lt_irrefl _)
  · exact absurd (Nat.lt_of_lt_of_le (Heap.lt_size (I.pin p hp).1) (by rw [z]; exact hb)) (Nat.lt_irrefl _)
structure Turn (P : Program) (w : World) (K : PySem.W.Frag) (tg : Expr) (J : It) (fp : List Addr) (it : Addr) (tn : Nat → Heap → Prop) : Prop where
  mem : it ∈ fp
  obj : ∀ i h, tn i h → ∀ b ∈ fp, ∃ o, h.get? b = some o ∧ ∀ v, o.data ≠ .cell v
  keep : ∀ i h h', tn i h → (∀ b ∈ fp, ∀ o, h.get? b = some o → h'.get? b = some o) → tn i h'
  item : ∀ (X : Cx), X.prog = P → X.w = w → X.K = K → X.calm = true → ∀ (i : Nat) (pins : List (Addr × Obj)) (s : Shared) (σ : St) (H : Hp) (E : Value → Shared → Prop), Inv X pins σ H s → (∀ b ∈ fp, FpOk X pins H b) → tn i s.heap → J.go i H →
    wpAny (model P w) X.A (pyNext (.ref it)) (fun r s1 => ∃ u, r = some u ∧
      wpAny (model P w) X.A (letOwnedTupleGo tg (.ref it) u) (fun _ s2 => ∃ x H', Inv X pins σ H' s2 ∧ RelV x u ∧ J.yld i H x H' ∧ tn (i + 1) s2.heap ∧ ∀ b ∈ fp, H' b = none) E s1) E s
  done : ∀ (X : Cx), X.prog = P → X.w = w → X.K = K → X.calm = true → ∀ (i : Nat) (pins : List (Addr × Obj)) (s : Shared) (σ : St) (H : Hp) (E : Value → Shared → Prop), Inv X pins σ H s → (∀ b ∈ fp, FpOk X pins H b) → tn i s.heap → J.stop i H →
    wpAny (model P w) X.A (pyNext (.ref it)) (fun r s1 => r = none ∧ Inv X pins σ H s1) E s
  self : ∀ (A : Around) (i : Nat) (s : Shared) (Q : Value → Shared → Prop) (E : Value → Shared → Prop), tn i s.heap → Q (.ref it) s → wpAny (model P w) A (pyIter (.ref it)) Q E s
abbrev TI := St → Hp → (It → Hp → Prop) → Prop
def PIE (X : Cx) (pins : List (Addr × Obj)) (σ : St) (tg : Expr) (R : It → Hp → Prop) (itv : Value) (s2 : Shared) : Prop :=
  ∃ (it : Addr) (fp : List Addr) (tn : Nat → Heap → Prop) (J : It) (H' : Hp), itv = .ref it ∧ Inv X pins σ H' s2 ∧ Turn X.prog X.w X.K tg J fp it tn ∧ tn 0 s2.heap ∧ (∀ b ∈ fp, FpOk X pins H' b) ∧ R J H'
def PI (X : Cx) (tg iter : Expr) (wi : TI) : Prop :=
  ∀ (pins : List (Addr × Obj)) (s : Shared) (σ : St) (H : Hp) (R : It → Hp → Prop), Inv X pins σ H s → wi σ H R →
    wpAny (model X.prog X.w) X.A (eval iter X.env) (fun v s1 => wpAny (model X.prog X.w) X.A (pyIter v) (PIE X pins σ tg R) X.xe s1) X.xe s
theorem go_of {M : Model} {A : Around} {E : Value → Shared → Prop} {s : Shared} {tg : Expr} {it : Addr} {u : Value} {o : Obj} {n : String} {vs : Array Value} {Q : Unit → Shared → Prop} (ho : s.heap.get? it = some o) (hc : o.cls = .type n) (hd : o.data = .fields vs)
    (hn : ["enumerate", "zip", "dict_itemiterator", "dict_reverseitemiterator", "odict_iterator", "itertools.zip_longest", "itertools.pairwise"].contains n = false) (hQ : Q () s) : wpAny M A (letOwnedTupleGo tg (.ref it) u) Q E s := by
  unfold letOwnedTupleGo
  cases tg <;> first
    | exact wpAny_pure hQ
    | (cases u <;> first
        | exact wpAny_pure hQ
        | (refine wpAny_bind (wpAny_load ho ?_)
           rw [hc, hd]
           show wpAny M A (if (["enumerate", "zip", "dict_itemiterator", "dict_reverseitemiterator", "odict_iterator", "itertools.zip_longest", "itertools.pairwise"].contains n && vs[0]? == some (rawInt _)) = true then _ else _) Q E s
           rw [if_neg (by intro h; rw [hn, Bool.false_and] at h; cases h)]
           exact wpAny_pure hQ))
def Itl (K : PySem.W.Frag) (a : Addr) : It :=
  ⟨fun i H => ∃ xs x, SqL K H a xs ∧ xs[i]? = some x, fun i H x H' => H' = H ∧ ∀ xs, SqL K H a xs → xs[i]? = some x, fun i H => ∃ xs, SqL K H a xs ∧ xs.length ≤ i⟩
def Itt (K : PySem.W.Frag) (a : Addr) : It :=
  ⟨fun i H => ∃ xs x, SqT K H a xs ∧ xs[i]? = some x, fun i H x H' => H' = H ∧ ∀ xs, SqT K H a xs → xs[i]? = some x, fun i H => ∃ xs, SqT K H a xs ∧ xs.length ≤ i⟩
def Itr (lo : Int) (n : Nat) : It := ⟨fun i _ => i < n, fun i H x H' => H' = H ∧ x = .int (lo + i), fun i _ => n ≤ i⟩
theorem turn_list {P : Program} {w : World} {K : PySem.W.Frag} {tg : Expr} (a it : Addr) : Turn P w K tg (Itl K a) [it] it (fun i h => h.IsListIter it a i) where
  mem := by simp
  obj := fun i h st b hb => by
    have e : b = it := by simpa using hb
    subst e
    obtain ⟨o, e, c, d⟩ := st
    exact ⟨o, e, fun v z => by rw [d] at z; cases z⟩
  keep := fun i h h' st k => st.at fun o e => k it (by simp) o e
  item := by
    intro X hP hw hK hc i pins s σ H E I hf st hg
    subst hP hw hK
    obtain ⟨xs, x, hq, hx⟩ := hg
    obtain ⟨its, rv, p, hz⟩ := I.list hq
    obtain ⟨u, hu, ru⟩ := rv.get hx
    obtain ⟨f0, f1, f2, f3, f4, f5⟩ := hf it (by simp)
    refine wpAny_pyNext_list_item st p.isList (x := u) (by simpa using hu) fun h' st' sb => ?_
    have I1 : Inv X pins σ H { s with heap := h' } := I.turned (t' := s.toks) (fun b o hb e => (sb.2 b hb).trans e) f0 f1 f3 f4 f5
    obtain ⟨o, e, c, d⟩ := id st'
    exact ⟨u, rfl, go_of (s := { s with heap := h' }) e c d (by decide) ⟨x, H, I1, ru, ⟨rfl, fun ys hy => by rw [I.list_inj hy hq]; exact hx⟩, st', fun b hb => (hf b hb).1⟩⟩
  done := by
    intro X hP hw hK hc i pins s σ H E I hf st hg
    subst hP hw hK
    obtain ⟨xs, hq, hx⟩ := hg
    obtain ⟨its, rv, p, hz⟩ := I.list hq
    obtain ⟨f0, f1, f2, f3, f4, f5⟩ := hf it (by simp)
    have hl := rv.length
    exact wpAny_pyNext_list_end (I.ok.hd hc) st p.isList (by simp; omega) fun h' eb => ⟨rfl, I.turned (t' := s.toks) (fun b o hb e => eb b o hb e) f0 f1 f3 f4 f5⟩
  self := fun _ _ _ _ _ st h => wpAny_pyIter_listiter st h
theorem turn_tuple {P : Program} {w : World} {K : PySem.W.Frag} {tg : Expr} (a it : Addr) : Turn P w K tg (Itt K a) [it] it (fun i h => h.IsTupleIter it a i) where
  mem := by simp
  obj := fun i h st b hb => by
    have e : b = it := by simpa using hb
    subst e
    obtain ⟨o, e, c, d⟩ := st
    exact ⟨o, e, fun v z => by rw [d] at z; cases z⟩
  keep := fun i h h' st k => st.at fun o e => k it (by simp) o e
  item := by
    intro X hP hw hK hc i pins s σ H E I hf st hg
    subst hP hw hK
    obtain ⟨xs, x, hq, hx⟩ := hg
    obtain ⟨its, rv, p, hz⟩ := I.tuple hq
    obtain ⟨u, hu, ru⟩ := rv.get hx
    obtain ⟨f0, f1, f2, f3, f4, f5⟩ := hf it (by simp)
    refine wpAny_pyNext_tuple_item st (show s.heap.IsTuple a its.toArray from p) (x := u) (by simpa using hu) fun h' st' sb => ?_
    have I1 : Inv X pins σ H { s with heap := h' } := I.turned (t' := s.toks) (fun b o hb e => (sb.2 b hb).trans e) f0 f1 f3 f4 f5
    obtain ⟨o, e, c, d⟩ := id st'
    exact ⟨u, rfl, go_of (s := { s with heap := h' }) e c d (by decide) ⟨x, H, I1, ru, ⟨rfl, fun ys hy => by rw [I.tuple_inj hy hq]; exact hx⟩, st', fun b hb => (hf b hb).1⟩⟩
  done := by
    intro X hP hw hK hc i pins s σ H E I hf st hg
    subst hP hw hK
    obtain ⟨xs, hq, hx⟩ := hg
    obtain ⟨its, rv, p, hz⟩ := I.tuple hq
    obtain ⟨f0, f1, f2, f3, f4, f5⟩ := hf it (by simp)
    have hl := rv.length
    exact wpAny_pyNext_tuple_end (I.ok.hd hc) st (show s.heap.IsTuple a its.toArray from p) (by simp; omega) fun h' eb => ⟨rfl, I.turned (t' := s.toks) (fun b o hb e => eb b o hb e) f0 f1 f3 f4 f5⟩
  self := fun _ _ _ _ _ st h => wpAny_pyIter_tupleiter st h
theorem turn_range {P : Program} {w : World} {K : PySem.W.Frag} {tg : Expr} (it : Addr) (lo : Int) (n : Nat) : Turn P w K tg (Itr lo n) [it] it (fun i h => IsRangeIter h it (lo + (i : Nat) * 1) ((n : Int) - (i : Nat)) 1) where
  mem := by simp
  obj := fun i h st b hb => by
    have e : b = it := by simpa using hb
    subst e
    exact ⟨_, st, fun v z => by
      have z' : Data.fields _ = Data.cell v := z
      cases z'⟩
  keep := fun i h h' st k => k it (by simp) _ st
  item := by
    intro X hP hw hK hc i pins s σ H E I hf st hg
    subst hP hw hK
    obtain ⟨f0, f1, f2, f3, f4, f5⟩ := hf it (by simp)
    have W := Walks.range (prog := X.prog) (w := X.w) (I.ok.hd hc) it lo 1 n
    refine W.item i s _ _ hg st fun v h' tk hv st' kk => ?_
    obtain ⟨t, rfl⟩ := hv
    have I1 : Inv X pins σ H { s with heap := h', toks := tk } := I.turned (fun b o hb e => kk b o (by simpa using hb) e) f0 f1 f3 f4 f5
    refine ⟨_, rfl, go_of (s := { s with heap := h', toks := tk }) (n := "range_iterator") st' rfl rfl (by decide) ⟨.int (lo + i), H, I1, ⟨t, ?_⟩, ⟨rfl, rfl⟩, st', fun b hb => (hf b hb).1⟩⟩
    rw [Int.mul_one]
  done := by
    intro X hP hw hK hc i pins s σ H E I hf st hg
    subst hP hw hK
    obtain ⟨f0, f1, f2, f3, f4, f5⟩ := hf it (by simp)
    exact wpAny_pyNext_range_end (I.ok.hd hc) st (by have : n ≤ i := hg; omega) fun h' eb => ⟨rfl, I.turned (t' := s.toks) (fun b o hb e => eb b o hb e) f0 f1 f3 f4 f5⟩
  self := fun _ _ _ _ _ st h => wpAny_pyIter_rangeiter st h
end L2
namespace L2
open PySem PySem.Spec PyProof.Rows
section
variable {X : Cx} {tg : Expr}
def iList (K : PySem.W.Frag) (tl : TE) : TI := fun σ H R => tl σ H fun x H1 => ∃ a, x = .ref a ∧ (∃ xs, SqL K H1 a xs) ∧ R (Itl K a) H1
def iTup (K : PySem.W.Frag) (tl : TE) : TI := fun σ H R => tl σ H fun x H1 => ∃ a, x = .ref a ∧ (∃ xs, SqT K H1 a xs) ∧ R (Itt K a) H1
theorem pi_list {l : Expr} {tl : TE} (hl : PE X l tl) : PI X tg l (iList X.K tl) := by
  intro pins s σ H R I h
  refine thn (hl pins s σ H _ I h) fun v s1 ⟨x, H1, I1, r1, q1⟩ => ?_
  obtain ⟨a, e, ⟨xs, hq⟩, q⟩ := q1
  subst e
  cases r1
  obtain ⟨its, rv, p, hz⟩ := I1.list hq
  refine wpAny_pyIter_list p.isList ?_
  refine ⟨s1.heap.objs.size, [s1.heap.objs.size], _, _, H1, rfl, I1.kept (t' := s1.toks) fun b o e => Heap.get?_push_of_some _ e, turn_list a _, ⟨_, Heap.get?_push_size _ rfl, rfl, rfl⟩, fun b hb => ?_, q⟩
  have e : b = s1.heap.objs.size := by simpa using hb
  subst e
  exact I1.fpOk (Nat.le_refl _) (I1.hok.fresh (Nat.le_refl _))
theorem pi_tup {l : Expr} {tl : TE} (hl : PE X l tl) : PI X tg l (iTup X.K tl) := by
  intro pins s σ H R I h
  refine thn (hl pins s σ H _ I h) fun v s1 ⟨x, H1, I1, r1, q1⟩ => ?_
  obtain ⟨a, e, ⟨xs, hq⟩, q⟩ := q1
  subst e
  cases r1
  obtain ⟨its, rv, p, hz⟩ := I1.tuple hq
  refine wpAny_pyIter_tuple (show s1.heap.IsTuple a its.toArray from p) ?_
  refine ⟨s1.heap.objs.size, [s1.heap.objs.size], _, _, H1, rfl, I1.kept (t' := s1.toks) fun b o e => Heap.get?_push_of_some _ e, turn_tuple a _, ⟨_, Heap.get?_push_size _ rfl, rfl, rfl⟩, fun b hb => ?_, q⟩
  have e : b = s1.heap.objs.size := by simpa using hb
  subst e
  exact I1.fpOk (Nat.le_refl _) (I1.hok.fresh (Nat.le_refl _))
theorem range_it {pins : List (Addr × Obj)} {σ : St} {H : Hp} {s : Shared} {R : It → Hp → Prop} {E : Value → Shared → Prop} {lo hi : Int} {t u v : Tok} {tk : Nat} (I : Inv X pins σ H s) (h1 : -(2 ^ 62) ≤ lo) (h2 : lo < 2 ^ 62) (h3 : -(2 ^ 62) ≤ hi) (h4 : hi < 2 ^ 62)
    (q : R (Itr lo (hi - lo).toNat) H) : wpAny (model X.prog X.w) X.A (pyIter (.ref s.heap.objs.size)) (PIE X pins σ tg R) E { s with heap := s.heap.push { cls := .type "range", data := .fields #[.int lo t, .int hi u, .int 1 v] }, toks := tk } := by
  refine wpAny_pyIter_range (IsRange.new ..) (small_one h1 h2 h3 h4) ?_
  have I1 : Inv X pins σ H { s with heap := s.heap.push { cls := .type "range", data := .fields #[.int lo t, .int hi u, .int 1 v] }, toks := tk } := I.kept fun b o e => Heap.get?_push_of_some _ e
  refine ⟨(s.heap.push { cls := .type "range", data := .fields #[.int lo t, .int hi u, .int 1 v] }).objs.size, [(s.heap.push { cls := .type "range", data := .fields #[.int lo t, .int hi u, .int 1 v] }).objs.size], _, _, H, rfl,
    I1.kept (t' := tk) fun b o e => Heap.get?_push_of_some _ e, turn_range _ lo (hi - lo).toNat, ?_, fun b hb => ?_, q⟩
  · have e1 : lo + ((0 : Nat) : Int) * 1 = lo := by simp
    have e2 : (((hi - lo).toNat : Nat) : Int) - ((0 : Nat) : Int) = Builtin.Range.rangeSize lo hi 1 := by rw [rangeSize_one]; split <;> omega
    show IsRangeIter _ _ (lo + ((0 : Nat) : Int) * 1) ((((hi - lo).toNat : Nat) : Int) - ((0 : Nat) : Int)) 1
    rw [e1, e2]
    exact Heap.get?_push_size _ rfl
  · have e : b = (s.heap.push { cls := .type "range", data := .fields #[.int lo t, .int hi u, .int 1 v] }).objs.size := by simpa using hb
    subst e
    exact I1.fpOk (Nat.le_refl _) (I1.hok.fresh (Nat.le_refl _))
def iRng1 (ta : TA) : TI := fun σ H R => ta σ H fun vs H1 => ∃ j : Int, vs = [.int j] ∧ -(2 ^ 62) ≤ j ∧ j < 2 ^ 62 ∧ R (Itr 0 j.toNat) H1
def iRng2 (ta : TA) : TI := fun σ H R => ta σ H fun vs H1 => ∃ i j : Int, vs = [.int i, .int j] ∧ (-(2 ^ 62) ≤ i ∧ i < 2 ^ 62 ∧ -(2 ^ 62) ≤ j ∧ j < 2 ^ 62) ∧ R (Itr i (j - i).toNat) H1
theorem pi_range1 {a : Expr} {ta : TA} {p pos : Pos} (hg : Gl X "range") (hm : X.mg "range" = none) (ha : PA X [a] ta) (hs : starEach [a] X.env = [(false, eval a X.env)] := by rfl) : PI X tg (.Call (.Name "range" p) [a] [] pos) (iRng1 ta) := by
  intro pins s σ H R I h
  refine Call_ (ld_blt I hg hm boot_range (PyProof.Rows.callWith_type1 (thn (ha pos pins s σ H _ I h) fun us s1 ⟨vs, H1, I1, r1, q1⟩ => ?_) hs rfl))
  obtain ⟨j, e, q1, q2, q⟩ := q1
  subst e
  cases r1 with
  | cons r rr =>
    cases rr
    obtain ⟨t, rfl⟩ := r
    exact call_range_1 (range_it I1 (by omega) (by omega) q1 q2 (by simpa using q))
def tFor (wi : TI) (g : TG) (tb : TS) : TS := fun D σ H => wi σ H fun J H1 => ∃ W : Nat → Nat → St → Hp → Prop, (∃ m, W 0 m σ H1) ∧ ∀ i m σ H, W i m σ H →
  (J.stop i H ∧ D.nx σ H) ∨ (J.go i H ∧ ∃ N : St → Hp → Prop, (∀ σ' H', N σ' H' → ∃ m', m' < m ∧ W (i + 1) m' σ' H') ∧ ∀ x H', J.yld i H x H' → g x σ H' fun σ2 H2 => tb { D with nx := N, ct := N, bk := D.nx } σ2 H2)
def pinsAt (fp : List Addr) (h : Heap) : List (Addr × Obj) := fp.filterMap fun b => (h.get? b).map fun o => (b, o)
theorem mem_pinsAt {fp : List Addr} {h : Heap} {b : Addr} {o : Obj} (hb : b ∈ fp) (e : h.get? b = some o) : (b, o) ∈ pinsAt fp h := List.mem_filterMap.mpr ⟨b, hb, by rw [e]; rfl⟩
theorem of_pinsAt {fp : List Addr} {h : Heap} {p : Addr × Obj} (hp : p ∈ pinsAt fp h) : p.1 ∈ fp ∧ h.get? p.1 = some p.2 := by
  obtain ⟨b, hb, e⟩ := List.mem_filterMap.mp hp
  cases q : h.get? b with
  | none => rw [q] at e; cases e
  | some o =>
    rw [q] at e
    have e' : (b, o) = p := Option.some.inj e
    subst e'
    exact ⟨hb, q⟩
theorem Inv.pinned {pins : List (Addr × Obj)} {σ : St} {H : Hp} {s : Shared} {fp : List Addr} (I : Inv X pins σ H s) (hf : ∀ b ∈ fp, FpOk X pins H b) (ho : ∀ b ∈ fp, ∃ o, s.heap.get? b = some o ∧ ∀ v, o.data ≠ .cell v) : Inv X (pins ++ pinsAt fp s.heap) σ H s :=
  I.pins_of fun p hp => (List.mem_append.mp hp).elim (fun z => I.pin p (List.mem_append_right _ z)) fun z => by
    obtain ⟨hb, e⟩ := of_pinsAt z
    obtain ⟨f0, f1, f2, _⟩ := hf p.1 hb
    obtain ⟨o, e', d⟩ := ho p.1 hb
    rw [e] at e'; cases e'
    exact ⟨e, f0, f1, f2, d⟩
theorem Inv.unpinned {pins pl : List (Addr × Obj)} {σ : St} {H : Hp} {s : Shared} (I : Inv X (pins ++ pl) σ H s) : Inv X pins σ H s := I.pins_of fun p hp => I.pin p (List.mem_append_right _ (List.mem_append_left _ hp))
theorem ps_for {iter : Expr} {body : List Stmt} {wi : TI} {g : TG} {tb : TS} {pos : Pos} (hp : PassesOwn (model X.prog X.w) X.A X.env X.xe) (hc : X.calm = true) (hi : PI X tg iter wi) (hg : PG X tg g) (hb : PSs X body tb)
    (hs : ∀ x, foldedSetIterable iter X.env x = pure x := by intro _; rfl) : PS X (.For tg iter body [] pos) (tFor wi g tb) := by
  intro pins s σ H D I h
  refine wpAny_For (thn (hi pins s σ H _ I h) fun v s1 h1 => thn h1 fun itv s2 h2 => ?_) hs
  obtain ⟨it, fp, tn, J, H2, e, I2, T, st2, f2, W, ⟨m0, w0⟩, turn⟩ := h2
  subst e
  have stat : ∀ {H' : Hp}, (∀ b ∈ fp, H' b = none) → ∀ b ∈ fp, FpOk X pins H' b := fun hn b hb => ⟨hn b hb, (f2 b hb).2⟩
  refine codeAny_forLoop_any (fun n s' => ∃ i σ' H', Inv X pins σ' H' s' ∧ tn i s'.heap ∧ (∀ b ∈ fp, H' b = none) ∧ W i n σ' H') ?_ m0 ⟨0, σ, H2, I2, st2, fun b hb => (f2 b hb).1, w0⟩
  rintro n s3 ⟨i, σ3, H3, I3, st3, fr3, w3⟩
  rcases turn i n σ3 H3 w3 with ⟨stop, qn⟩ | ⟨go, N, hN, step⟩
  · refine wpAny_passesOwn hp (thn (T.done X rfl rfl rfl hc i pins s3 σ3 H3 X.xe I3 (stat fr3) st3 stop) fun r s4 ⟨hr, I4⟩ => ?_)
    subst hr
    exact wpAny_execs_nil ⟨σ3, H3, I4, qn⟩
  · refine wpAny_passesOwn hp (thn (T.item X rfl rfl rfl hc i pins s3 σ3 H3 X.xe I3 (stat fr3) st3 go) fun r s4 ⟨u, hr, h4⟩ => ?_)
    subst hr
    refine wpAny_passesOwn hp (thn h4 fun _ s5 ⟨x, H5, I5, r5, y5, st5, fr5⟩ => ?_)
    have I5' := I5.pinned (stat fr5) (T.obj _ _ st5)
    refine wpAny_passesOwn hp (thn (hg _ s5 σ3 H5 x u _ I5' r5 (step x H5 y5)) fun _ s6 ⟨σ6, H6, I6, q6⟩ => ?_)
    refine wpAny_passesOwn hp (thn (hb _ s6 σ6 H6 _ I6 q6) fun f s7 q7 => ?_)
    have again : ∀ {σ7 : St} {H7 : Hp}, Inv X (pins ++ pinsAt fp s5.heap) σ7 H7 s7 → N σ7 H7 → ∃ m, m < n ∧ ∃ i σ' H', Inv X pins σ' H' s7 ∧ tn i s7.heap ∧ (∀ b ∈ fp, H' b = none) ∧ W i m σ' H' := fun {σ7 H7} I7 n7 => by
      obtain ⟨m', hm, w7⟩ := hN σ7 H7 n7
      refine ⟨m', hm, i + 1, σ7, H7, I7.unpinned, T.keep _ _ _ st5 fun b hb o e => (I7.pin (b, o) (List.mem_append_right _ (List.mem_append_right _ (mem_pinsAt hb e)))).1, fun b hb => ?_, w7⟩
      obtain ⟨o, e, d⟩ := T.obj _ _ st5 b hb
      exact (I7.pin (b, o) (List.mem_append_right _ (List.mem_append_right _ (mem_pinsAt hb e)))).2.1
    cases f with
    | next => obtain ⟨σ7, H7, I7, n7⟩ := q7; exact again I7 n7
    | cont => obtain ⟨σ7, H7, I7, n7⟩ := q7; exact again I7 n7
    | brk => obtain ⟨σ7, H7, I7, q7⟩ := q7; exact ⟨σ7, H7, I7.unpinned, q7⟩
    | ret v => obtain ⟨x7, σ7, H7, I7, r7, q7⟩ := q7; exact ⟨x7, σ7, H7, I7.unpinned, r7, q7⟩
end
theorem for_range {lo : Int} {n : Nat} {g : TG} {tb : TS} {D : Ends} {σ : St} {H : Hp} (Pv : Nat → St → Hp → Prop) (h0 : Pv 0 σ H)
    (hs : ∀ i σ H, i < n → Pv i σ H → g (.int (lo + i)) σ H fun σ2 H2 => tb { D with nx := Pv (i + 1), ct := Pv (i + 1), bk := D.nx } σ2 H2) (hd : ∀ σ H, Pv n σ H → D.nx σ H) :
    ∃ W : Nat → Nat → St → Hp → Prop, (∃ m, W 0 m σ H) ∧ ∀ i m σ H, W i m σ H →
      ((Itr lo n).stop i H ∧ D.nx σ H) ∨ ((Itr lo n).go i H ∧ ∃ N : St → Hp → Prop, (∀ σ' H', N σ' H' → ∃ m', m' < m ∧ W (i + 1) m' σ' H') ∧ ∀ x H', (Itr lo n).yld i H x H' → g x σ H' fun σ2 H2 => tb { D with nx := N, ct := N, bk := D.nx } σ2 H2) := by
  refine ⟨fun i m σ H => m = n - i ∧ i ≤ n ∧ Pv i σ H, ⟨n, by simp, Nat.zero_le _, h0⟩, ?_⟩
  rintro i m σ H ⟨rfl, hi, p⟩
  by_cases hlt : i < n
  · refine .inr ⟨hlt, Pv (i + 1), fun σ' H' p' => ⟨n - (i + 1), by omega, rfl, hlt, p'⟩, fun x H' y => ?_⟩
    obtain ⟨e, y⟩ := y
    subst e y
    exact hs i σ _ hlt p
  · have e : i = n := by omega
    subst e
    exact .inl ⟨Nat.le_refl _, hd σ H p⟩
theorem while_by {c : TT} {tb : TS} {D : Ends} {σ : St} {H : Hp} (Pv : St → Hp → Prop) (μ : St → Hp → Nat) (h0 : Pv σ H)
    (hs : ∀ σ H, Pv σ H → c σ H fun b H1 => if b = true then tb { D with nx := fun σ' H' => Pv σ' H' ∧ μ σ' H' < μ σ H, ct := fun σ' H' => Pv σ' H' ∧ μ σ' H' < μ σ H, bk := D.nx } σ H1 else D.nx σ H1)
    (mono : ∀ σ H Q Q', (∀ b H1, Q b H1 → Q' b H1) → c σ H Q → c σ H Q') : tWhile c tb D σ H := by
  refine ⟨fun m σ H => m = μ σ H ∧ Pv σ H, ⟨_, rfl, h0⟩, ?_⟩
  rintro m σ H ⟨rfl, p⟩
  refine mono σ H _ _ (fun b H1 q => ?_) (hs σ H p)
  cases b with
  | true => exact ⟨_, fun σ' H' ⟨p', l⟩ => ⟨_, l, rfl, p'⟩, q⟩
  | false => exact q
end L2
namespace L2
open PySem PySem.Spec PyProof.Rows
abbrev R2 := V → V → Hp → VK → Prop
def OpR (X : Cx) (f : Value → Value → Sem Value) (r : R2) : Prop :=
  ∀ (pins : List (Addr × Obj)) (s : Shared) (σ : St) (H : Hp) (x y : V) (v u : Value) (Q : VK), Inv X pins σ H s → RelV x v → RelV y u → r x y H Q →
    wpAny (model X.prog X.w) X.A (f v u) (EP X pins σ Q) X.xe s
def UnR (X : Cx) (f : Value → Sem Value) (r : V → Hp → VK → Prop) : Prop :=
  ∀ (pins : List (Addr × Obj)) (s : Shared) (σ : St) (H : Hp) (x : V) (v : Value) (Q : VK), Inv X pins σ H s → RelV x v → r x H Q →
    wpAny (model X.prog X.w) X.A (f v) (EP X pins σ Q) X.xe s
def CallR (X : Cx) (f : Value) (r : List V → Hp → VK → Prop) : Prop :=
  ∀ (pins : List (Addr × Obj)) (s : Shared) (σ : St) (H : Hp) (xs : List V) (us : List Value) (Q : VK), Inv X pins σ H s → Vals xs us → r xs H Q →
    wpAny (model X.prog X.w) X.A (call f us) (EP X pins σ Q) X.xe s
def tOp (r : R2) (ta tb : TE) : TE := fun σ H Q => ta σ H fun x H1 => tb σ H1 fun y H2 => r x y H2 Q
def tUn (r : V → Hp → VK → Prop) (ta : TE) : TE := fun σ H Q => ta σ H fun x H1 => r x H1 Q
def rI (C : Int → Int → Prop) (g : Int → Int → V) : R2 := fun x y H Q => ∃ i j, x = .int i ∧ y = .int j ∧ C i j ∧ Q (g i j) H
def rI0 (g : Int → Int → V) : R2 := fun x y H Q => ∃ i j, x = .int i ∧ y = .int j ∧ Q (g i j) H
def rU (g : Int → V) : V → Hp → VK → Prop := fun x H Q => ∃ i, x = .int i ∧ Q (g i) H
section
variable {X : Cx} {a b c : Expr} {ta tb tc : TE} {pos : Pos}
theorem binT (ha : PE X a ta) (hb : PE X b tb) {pins : List (Addr × Obj)} {s : Shared} {σ : St} {H : Hp} {R : V → V → Hp → Prop} (I : Inv X pins σ H s)
    (h : ta σ H fun x H1 => tb σ H1 fun y H2 => R x y H2) {Q : Value → Shared → Prop} {f : Value → Value → Sem Value}
    (hf : ∀ v u s2 x y H2, Inv X pins σ H2 s2 → RelV x v → RelV y u → R x y H2 → wpAny (model X.prog X.w) X.A (f v u) Q X.xe s2) :
    wpAny (model X.prog X.w) X.A (eval a X.env) (fun v s₁ => wpAny (model X.prog X.w) X.A (eval b X.env) (fun u s₂ => wpAny (model X.prog X.w) X.A (f v u) Q X.xe s₂) X.xe s₁) X.xe s := by
  refine thn (ha pins s σ H _ I h) fun v s1 ⟨x, H1, I1, r1, q1⟩ => ?_
  refine thn (hb pins s1 σ H1 _ I1 q1) fun u s2 ⟨y, H2, I2, r2, q2⟩ => ?_
  exact hf v u s2 x y H2 I2 r1 r2 q2
theorem pe_op {op : Operator} {r : R2} (ho : OpR X (binaryOp op) r) (ha : PE X a ta) (hb : PE X b tb) : PE X (.BinOp a op b pos) (tOp r ta tb) := by
  intro pins s σ H Q I h
  exact wpAny_BinOp (binT ha hb I h fun v u s2 x y H2 I2 rx ry q => ho pins s2 σ H2 x y v u Q I2 rx ry q)
theorem pe_un {op : UnaryOp} {r : V → Hp → VK → Prop} (ho : UnR X (unaryOp op) r) (ha : PE X a ta) : PE X (.UnaryOp op a pos) (tUn r ta) := by
  intro pins s σ H Q I h
  exact UnaryOp_ (thn (ha pins s σ H _ I h) fun v s1 ⟨x, H1, I1, r1, q1⟩ => ho pins s1 σ H1 x v Q I1 r1 q1)
theorem opI {f : Value → Value → Sem Value} {C : Int → Int → Prop} {g : Int → Int → Int}
    (rule : ∀ (i j : Int) (t u : Tok) (s : Shared) (Q : Value → Shared → Prop) (E : Value → Shared → Prop), C i j → Q (.int (g i j) s.toks) { s with toks := s.toks + 1 } → wpAny (model X.prog X.w) X.A (f (.int i t) (.int j u)) Q E s) :
    OpR X f (rI C fun i j => .int (g i j)) := by
  intro pins s σ H x y v u Q I rx ry h
  obtain ⟨i, j, rfl, rfl, hc, q⟩ := h
  obtain ⟨t, rfl⟩ := rx
  obtain ⟨t', rfl⟩ := ry
  exact rule i j t t' s _ _ hc ⟨.int (g i j), H, I.tok _, ⟨_, rfl⟩, q⟩
theorem opI0 {f : Value → Value → Sem Value} {g : Int → Int → Int}
    (rule : ∀ (i j : Int) (t u : Tok) (s : Shared) (Q : Value → Shared → Prop) (E : Value → Shared → Prop), Q (.int (g i j) s.toks) { s with toks := s.toks + 1 } → wpAny (model X.prog X.w) X.A (f (.int i t) (.int j u)) Q E s) :
    OpR X f (rI0 fun i j => .int (g i j)) := by
  intro pins s σ H x y v u Q I rx ry h
  obtain ⟨i, j, rfl, rfl, q⟩ := h
  obtain ⟨t, rfl⟩ := rx
  obtain ⟨t', rfl⟩ := ry
  exact rule i j t t' s _ _ ⟨.int (g i j), H, I.tok _, ⟨_, rfl⟩, q⟩
theorem opB0 {f : Value → Value → Sem Value} {g : Int → Int → Bool}
    (rule : ∀ (i j : Int) (t u : Tok) (s : Shared) (Q : Value → Shared → Prop) (E : Value → Shared → Prop), Q (.bool (g i j)) s → wpAny (model X.prog X.w) X.A (f (.int i t) (.int j u)) Q E s) :
    OpR X f (rI0 fun i j => .bl (g i j)) := by
  intro pins s σ H x y v u Q I rx ry h
  obtain ⟨i, j, rfl, rfl, q⟩ := h
  obtain ⟨t, rfl⟩ := rx
  obtain ⟨t', rfl⟩ := ry
  exact rule i j t t' s _ _ ⟨.bl (g i j), H, I, rfl, q⟩
def CPow (i j : Int) : Prop := 0 ≤ j ∧ j ≤ 1000000 ∧ i.natAbs < 2 ^ 64
def CMul (i j : Int) : Prop := (-(2 ^ 64) < i ∧ i < 2 ^ 64) ∨ (-(2 ^ 64) < j ∧ j < 2 ^ 64)
theorem CMul.ok {i j : Int} (h : CMul i j) : IntMulOk i j := by
  rcases h with ⟨h1, h2⟩ | ⟨h1, h2⟩
  · exact .of_left (intBits_le_64 h1 h2)
  · exact .of_right (intBits_le_64 h1 h2)
theorem op_add : OpR X (binaryOp .Add) (rI0 fun i j => .int (i + j)) := opI0 fun _ _ _ _ _ _ _ q => add_int q
theorem op_sub : OpR X (binaryOp .Sub) (rI0 fun i j => .int (i - j)) := opI0 fun _ _ _ _ _ _ _ q => sub_int q
theorem op_mod : OpR X (binaryOp .Mod) (rI (fun _ j => 0 < j) fun i j => .int (i % j)) := opI fun i j _ _ _ _ _ hc q => by
  have h1 : (0 : Int) < j := hc
  exact mod_int' (by omega) (by rw [Int.fmod_eq_emod_of_nonneg i (by omega)]; exact q)
theorem op_pow : OpR X (binaryOp .Pow) (rI CPow fun i j => .int (i ^ j.toNat)) := opI fun _ _ _ _ _ _ _ hc q => pow_int_small hc.1 hc.2.1 hc.2.2 q
theorem unI {f : Value → Sem Value} {g : Int → Int}
    (rule : ∀ (i : Int) (t : Tok) (s : Shared) (Q : Value → Shared → Prop) (E : Value → Shared → Prop), Q (.int (g i) s.toks) { s with toks := s.toks + 1 } → wpAny (model X.prog X.w) X.A (f (.int i t)) Q E s) :
    UnR X f (rU fun i => .int (g i)) := by
  intro pins s σ H x v Q I rx h
  obtain ⟨i, rfl, q⟩ := h
  obtain ⟨t, rfl⟩ := rx
  exact rule i t s _ _ ⟨.int (g i), H, I.tok _, ⟨_, rfl⟩, q⟩
theorem un_neg : UnR X (unaryOp .USub) (rU fun i => .int (-i)) := unI fun _ _ _ _ _ q => neg_int q
end
def scal : V → V → Bool
  | .non, .non => true | .non, .int _ => true | .int _, .non => true | .non, .bl _ => true | .bl _, .non => true | .non, .str _ => true | .str _, .non => true
  | .int _, .int _ => true | .bl _, .bl _ => true | .str _, .str _ => true | .byt _, .byt _ => true
  | .int _, .str _ => true | .str _, .int _ => true | .bl _, .str _ => true | .str _, .bl _ => true
  | _, _ => false
def rEq : R2 := fun x y H Q => scal x y = true ∧ Q (.bl (decide (x = y))) H
def rNe : R2 := fun x y H Q => scal x y = true ∧ Q (.bl (!decide (x = y))) H
theorem dec_int {i j : Int} : decide (V.int i = V.int j) = (i == j) := by
  rw [Bool.eq_iff_iff]
  simp
theorem dec_bl {i j : Bool} : decide (V.bl i = V.bl j) = (i == j) := by
  rw [Bool.eq_iff_iff]
  simp
theorem dec_str {i j : Str} : decide (V.str i = V.str j) = (i == j) := by
  rw [Bool.eq_iff_iff]
  simp
theorem dec_byt {i j : Array UInt8} : decide (V.byt i = V.byt j) = (i.toList == j.toList) := by
  rw [Bool.eq_iff_iff]
  cases i
  cases j
  simp
section
variable {X : Cx} {a b c : Expr} {ta tb tc : TE} {pos : Pos}
theorem fin_bl {pins : List (Addr × Obj)} {σ : St} {H : Hp} {s : Shared} {Q : VK} {k k' : Bool} (I : Inv X pins σ H s) (q : Q (.bl k) H) (e : k = k') : EP X pins σ Q (.bool k') s := by
  subst e
  exact ⟨.bl k, H, I, rfl, q⟩
theorem op_eq : OpR X (compareOp .Eq) rEq := by
  intro pins s σ H x y v u Q I rx ry h
  obtain ⟨hs, q⟩ := h
  cases x with
  | non =>
    cases rx
    cases y with
    | non => cases ry; exact PySem.EqNone.eq_none_none (fin_bl I q (by simp))
    | bl j => cases ry; exact PySem.EqNone.eq_none_bool (fin_bl I q (by simp))
    | int j => obtain ⟨t', rfl⟩ := ry; exact PySem.EqNone.eq_none_int (fin_bl I q (by simp))
    | str j => obtain ⟨t', rfl⟩ := ry; exact PySem.EqNone.eq_none_str (fin_bl I q (by simp))
    | _ => exact absurd (show false = true from hs) Bool.false_ne_true
  | bl i =>
    cases rx
    cases y with
    | non => cases ry; exact PySem.EqNone.eq_bool_none (fin_bl I q (by simp))
    | bl j => cases ry; exact eq_bool (fin_bl I q dec_bl)
    | str j => obtain ⟨t', rfl⟩ := ry; exact PySem.EqMixed.eq_bool_str (fin_bl I q (by simp))
    | _ => exact absurd (show false = true from hs) Bool.false_ne_true
  | int i =>
    obtain ⟨t, rfl⟩ := rx
    cases y with
    | non => cases ry; exact PySem.EqNone.eq_int_none (fin_bl I q (by simp))
    | int j => obtain ⟨t', rfl⟩ := ry; exact eq_int (fin_bl I q dec_int)
    | str j => obtain ⟨t', rfl⟩ := ry; exact PySem.EqMixed.eq_int_str (fin_bl I q (by simp))
    | _ => exact absurd (show false = true from hs) Bool.false_ne_true
  | str i =>
    obtain ⟨t, rfl⟩ := rx
    cases y with
    | non => cases ry; exact PySem.EqNone.eq_str_none (fin_bl I q (by simp))
    | bl j => cases ry; exact PySem.EqMixed.eq_str_bool (fin_bl I q (by simp))
    | int j => obtain ⟨t', rfl⟩ := ry; exact PySem.EqMixed.eq_str_int (fin_bl I q (by simp))
    | str j => obtain ⟨t', rfl⟩ := ry; exact eq_str (fin_bl I q dec_str)
    | _ => exact absurd (show false = true from hs) Bool.false_ne_true
  | byt i =>
    obtain ⟨t, rfl⟩ := rx
    cases y with
    | byt j => obtain ⟨t', rfl⟩ := ry; exact PySem.W.eq_bytes (fin_bl I q dec_byt)
    | _ => exact absurd (show false = true from hs) Bool.false_ne_true
  | _ => cases y <;> exact absurd (show false = true from hs) Bool.false_ne_true
theorem op_ne : OpR X (compareOp .NotEq) rNe := by
  intro pins s σ H x y v u Q I rx ry h
  obtain ⟨hs, q⟩ := h
  cases x with
  | non =>
    cases rx
    cases y with
    | non => cases ry; exact PySem.EqNone.ne_none_none (fin_bl I q (by simp))
    | bl j => cases ry; exact PySem.EqNone.ne_none_bool (fin_bl I q (by simp))
    | int j => obtain ⟨t', rfl⟩ := ry; exact PySem.EqNone.ne_none_int (fin_bl I q (by simp))
    | str j => obtain ⟨t', rfl⟩ := ry; exact PySem.EqNone.ne_none_str (fin_bl I q (by simp))
    | _ => exact absurd (show false = true from hs) Bool.false_ne_true
  | bl i =>
    cases rx
    cases y with
    | non => cases ry; exact PySem.EqNone.ne_bool_none (fin_bl I q (by simp))
    | bl j => cases ry; exact ne_bool (fin_bl I q (congrArg not dec_bl))
    | str j => obtain ⟨t', rfl⟩ := ry; exact PySem.EqMixed.ne_bool_str (fin_bl I q (by simp))
    | _ => exact absurd (show false = true from hs) Bool.false_ne_true
  | int i =>
    obtain ⟨t, rfl⟩ := rx
    cases y with
    | non => cases ry; exact PySem.EqNone.ne_int_none (fin_bl I q (by simp))
    | int j => obtain ⟨t', rfl⟩ := ry; exact ne_int (fin_bl I q (congrArg not dec_int))
    | str j => obtain ⟨t', rfl⟩ := ry; exact PySem.EqMixed.ne_int_str (fin_bl I q (by simp))
    | _ => exact absurd (show false = true from hs) Bool.false_ne_true
  | str i =>
    obtain ⟨t, rfl⟩ := rx
    cases y with
    | non => cases ry; exact PySem.EqNone.ne_str_none (fin_bl I q (by simp))
    | bl j => cases ry; exact PySem.EqMixed.ne_str_bool (fin_bl I q (by simp))
    | int j => obtain ⟨t', rfl⟩ := ry; exact PySem.EqMixed.ne_str_int (fin_bl I q (by simp))
    | str j => obtain ⟨t', rfl⟩ := ry; exact ne_str (fin_bl I q (congrArg not dec_str))
    | _ => exact absurd (show false = true from hs) Bool.false_ne_true
  | byt i =>
    obtain ⟨t, rfl⟩ := rx
    cases y with
    | byt j => obtain ⟨t', rfl⟩ := ry; exact PySem.W.ne_bytes (fin_bl I q (congrArg not dec_byt))
    | _ => exact absurd (show false = true from hs) Bool.false_ne_true
  | _ => cases y <;> exact absurd (show false = true from hs) Bool.false_ne_true
theorem op_lt : OpR X (compareOp .Lt) (rI0 fun i j => .bl (decide (i < j))) := opB0 fun _ _ _ _ _ _ _ q => lt_int q
theorem op_le : OpR X (compareOp .LtE) (rI0 fun i j => .bl (decide (i ≤ j))) := opB0 fun _ _ _ _ _ _ _ q => le_int q
theorem OpR.or {f : Value → Value → Sem Value} {r r' : R2} (h : OpR X f r) (h' : OpR X f r') : OpR X f (fun x y H Q => r x y H Q ∨ r' x y H Q) := by
  intro pins s σ H x y v u Q I rx ry q
  rcases q with q | q
  · exact h pins s σ H x y v u Q I rx ry q
  · exact h' pins s σ H x y v u Q I rx ry q
theorem nomark (b : Expr) {op : CmpOp} (h : op ≠ .In := by decide) (h2 : op ≠ .NotIn := by decide) : behindInMarks op b = false := by
  have e1 : (op == CmpOp.In) = false := by cases op <;> first | rfl | exact absurd rfl h
  have e2 : (op == CmpOp.NotIn) = false := by cases op <;> first | rfl | exact absurd rfl h2
  cases b <;> simp [behindInMarks, e1, e2]
theorem pe_cmpR {op : CmpOp} {r : R2} (ho : OpR X (compareOp op) r) (ha : PE X a ta) (hb : PE X b tb) (hm : behindInMarks op b = false) : PE X (.Compare a [op] [b] pos) (tOp r ta tb) := by
  intro pins s σ H Q I h
  exact wpAny_Compare1 (binT ha hb I h fun v u s2 x y H2 I2 rx ry q => ho pins s2 σ H2 x y v u Q I2 rx ry q) hm
def tTest (t : TE) : TT := fun σ H Q => t σ H fun x H' => ∃ k, x = .bl k ∧ Q k H'
theorem pt_cmpR {op : CmpOp} {r : R2} (ho : OpR X (compareOp op) r) (ha : PE X a ta) (hb : PE X b tb) (hm : behindInMarks op b = false) : PT X (.Compare a [op] [b] pos) (tTest (tOp r ta tb)) := by
  intro pins s σ H Q I h
  refine wpAny_isTrue_Compare1 (thn (ha pins s σ H _ I h) fun v s1 ⟨x, H1, I1, r1, q1⟩ => thn (hb pins s1 σ H1 _ I1 q1) fun u s2 ⟨y, H2, I2, r2, q2⟩ =>
    thn (ho pins s2 σ H2 x y v u _ I2 r1 r2 q2) fun c s3 ⟨z, H3, I3, r3, k, e, q3⟩ => ?_) hm
  subst e
  cases r3
  exact wpAny_truthy_bool ⟨H3, I3, q3⟩
def tChain (r r' : R2) (ta tb tc : TE) : TE := fun σ H Q => ta σ H fun x H1 => tb σ H1 fun y H2 => r x y H2 fun z H3 => ∃ k, z = .bl k ∧
  (if k = true then tc σ H3 fun w' H4 => r' y w' H4 Q else Q (.bl false) H3)
theorem pt_chain {op op' : CmpOp} {r r' : R2} (ho : OpR X (compareOp op) r) (ho' : OpR X (compareOp op') r') (ha : PE X a ta) (hb : PE X b tb) (hc : PE X c tc)
    (hm : lastMarks [op, op'] [b, c] = false := by with_unfolding_all rfl) : PT X (.Compare a [op, op'] [b, c] pos) (tTest (tChain r r' ta tb tc)) := by
  intro pins s σ H Q I h
  refine isTrue_chain (thn (ha pins s σ H _ I h) fun v s1 ⟨x, H1, I1, r1, q1⟩ => test_link (thn (hb pins s1 σ H1 _ I1 q1) fun u s2 ⟨y, H2, I2, r2, q2⟩ =>
    thn (ho pins s2 σ H2 x y v u _ I2 r1 r2 q2) fun d s3 ⟨z, H3, I3, r3, k, e, q3⟩ => ?_)) hm
  subst e
  cases r3
  refine wpAny_truthy_bool ?_
  cases k with
  | false =>
    obtain ⟨k', e', q'⟩ := q3
    cases e'
    exact ite_ff ⟨H3, I3, q'⟩
  | true =>
    refine ite_tt (test_last (thn (hc pins s3 σ H3 _ I3 q3) fun w' s4 ⟨z', H4, I4, r4, q4⟩ => thn (ho' pins s4 σ H4 y z' u w' _ I4 r2 r4 q4) fun d' s5 ⟨z2, H5, I5, r5, k2, e2, q5⟩ => ?_))
    subst e2
    cases r5
    exact wpAny_truthy_bool ⟨H5, I5, q5⟩
theorem line63 : (sizeLine : Nat) < 2 ^ 63 := by rw [sizeLine_eq]; decide
theorem vals1 {x : V} {us : List Value} (r : Vals [x] us) : ∃ u, us = [u] ∧ RelV x u := by
  cases r with
  | cons r1 r2 => cases r2; exact ⟨_, rfl, r1⟩
theorem vals2 {x y : V} {us : List Value} (r : Vals [x, y] us) : ∃ u w', us = [u, w'] ∧ RelV x u ∧ RelV y w' := by
  cases r with
  | cons r1 r2 =>
    cases r2 with
    | cons r3 r4 => cases r4; exact ⟨_, _, rfl, r1, r3⟩
theorem call_abs : CallR X (.builtin "abs") (fun xs H Q => ∃ i, xs = [.int i] ∧ Q (.int (if i < 0 then -i else i)) H) := by
  intro pins s σ H xs us Q I r h
  obtain ⟨i, rfl, q⟩ := h
  obtain ⟨u, rfl, t, rfl⟩ := vals1 r
  exact call_abs_int fun u tk => ⟨.int (if i < 0 then -i else i), H, I.tok _, ⟨_, rfl⟩, q⟩
def LenV (K : PySem.W.Frag) (x : V) (H : Hp) (n : Nat) : Prop :=
  match x with
  | .str y => y.length ≤ sizeLine ∧ n = y.length
  | .byt y => y.size ≤ sizeLine ∧ n = y.size
  | .ref p => (∃ xs, SqL K H p xs ∧ n = xs.length) ∨ ∃ xs, SqT K H p xs ∧ n = xs.length
  | _ => False
theorem call_len : CallR X (.builtin "len") (fun xs H Q => ∃ x n, xs = [x] ∧ LenV X.K x H n ∧ Q (.int n) H) := by
  intro pins s σ H xs us Q I r h
  obtain ⟨x, n, rfl, e, q⟩ := h
  obtain ⟨u, rfl, rx⟩ := vals1 r
  have hl := line63
  have hs : sizeLine = 16777216 := sizeLine_eq
  cases x with
  | str y =>
    obtain ⟨t, rfl⟩ := rx
    obtain ⟨hy, e'⟩ : y.length ≤ sizeLine ∧ n = y.length := e
    subst e'
    exact len_str (by omega) ⟨.int _, H, I.tok _, ⟨_, rfl⟩, q⟩
  | byt y =>
    obtain ⟨t, rfl⟩ := rx
    obtain ⟨hy, e'⟩ : y.size ≤ sizeLine ∧ n = y.size := e
    subst e'
    exact PySem.W.len_bytes (by omega) ⟨.int _, H, I.tok _, ⟨_, rfl⟩, q⟩
  | ref p =>
    cases rx
    have e' : (∃ xs, SqL X.K H p xs ∧ n = xs.length) ∨ ∃ xs, SqT X.K H p xs ∧ n = xs.length := e
    rcases e' with ⟨xs, hx, e'⟩ | ⟨xs, hx, e'⟩
    · subst e'
      obtain ⟨its, r', pl, hz⟩ := I.list hx
      have hlen := r'.length
      exact Calls.call_len_list pl.isList (by simp only [List.size_toArray]; omega) ⟨.int xs.length, H, I.tok _, ⟨_, by simp only [List.size_toArray]; rw [hlen]⟩, q⟩
    · subst e'
      obtain ⟨its, r', pl, hz⟩ := I.tuple hx
      have hlen := r'.length
      exact len_tuple pl (by simp only [List.size_toArray]; omega) ⟨.int xs.length, H, I.tok _, ⟨_, by simp only [List.size_toArray]; rw [hlen]⟩, q⟩
  | _ => exact (show False from e).elim
end
end L2
namespace L2
open PySem PySem.Spec PyProof.Rows
structure ObjM (h : Heap) (x dx C : Addr) (mA : Str → Option Value) : Prop where
  obj : h.get? x = some (PySem.W.instObj C dx)
  ns : h.Ns1 dx mA
  ne : dx ≠ x
theorem lookIn_ns {h : Heap} {dx : Addr} {mA : Str → Option Value} (n : h.Ns1 dx mA) : ∃ od, h.get? dx = some od ∧ ∀ name, PySem.W.lookIn name od = some (mA name) := by
  obtain ⟨o, es, ep, ho, hd, hk, _, hm⟩ := n
  refine ⟨o, ho, fun name => ?_⟩
  have e := hm name
  unfold nsFind findBy at e
  rw [← Array.find?_toList] at e
  unfold PySem.W.lookIn
  rw [hd]
  dsimp only
  split
  · rename_i y q
    rw [q] at e
    exact congrArg some e
  · rename_i q
    rw [q] at e
    have a : es.toList.any (·.refKey) = false := by
      rw [List.any_eq_false]
      intro y hy
      obtain ⟨z, t, hkey⟩ := hk y (Array.mem_toList_iff.mp hy)
      simp [DictEntry.refKey, hkey]
    have a' : ¬ es.toList.any (·.refKey) = true := by rw [a]; exact Bool.false_ne_true
    rw [if_neg a']
    exact congrArg some e
theorem ObjM.look {h : Heap} {x dx C : Addr} {mA : Str → Option Value} (I : ObjM h x dx C mA) : ∃ od, PySem.W.InstAt h x (PySem.W.instObj C dx) C (some od) ∧ ∀ name, PySem.W.lookIn name od = some (mA name) :=
  let ⟨od, ho, hl⟩ := lookIn_ns I.ns
  ⟨od, ⟨I.obj, rfl, rfl, ho⟩, hl⟩
section
variable {prog : Program} {w : World} {A : Around} {E : Value → Shared → Prop} {s : Shared} {K : PySem.W.Frag} {x dx C f : Addr} {mA : Str → Option Value} {name : Str} {v : Value}
theorem get_map {expr : Bool} {Q : Value → Shared → Prop} (X : K.In s.heap) (I : ObjM s.heap x dx C mA) (hg : PySem.W.plainGet K C name = true) (hh : PySem.W.hasDictIn K C = true)
    (ha : PySem.W.findIn K (.ref C) name = some none) (hv : mA name = some v) (hv' : PySem.W.handedIn v = true) (h : Q v { s with toks := s.toks + 1 }) :
    wpAny (model prog w) A (getAttr (.ref x) name expr) Q E s := by
  obtain ⟨od, J, hl⟩ := I.look
  exact PySem.W.get_value X J (PySem.W.plainGet_of hg).1 (PySem.W.findObj_own hh ha rfl (by rw [hl, hv])) hv' h
theorem get_meth {pl : Sem Bool} {Q : Value × List Value → Shared → Prop} (X : K.In s.heap) (I : ObjM s.heap x dx C mA) (hg : PySem.W.plainGet K C name = true)
    (hf : PySem.W.findIn K (.ref C) name = some (some (.ref f))) (ht : PySem.W.isFn K (.ref f) = true) (hv : mA name = none) (h : Q (.ref f, [.ref x]) s) :
    wpAny (model prog w) A (getMethod (.ref x) name pl) Q E s := by
  obtain ⟨od, J, hl⟩ := I.look
  exact PySem.W.method_fn X J (PySem.W.plainGet_of hg).1 (PySem.W.plainGet_of hg).2 hf (beq_iff_eq.mp ht) (by show (PySem.W.lookIn name od).map (·.isSome) = some false; rw [hl, hv]; rfl) h
theorem set_map {ns : List Str} {Q : Unit → Shared → Prop} (X : K.In s.heap) (I : ObjM s.heap x dx C mA)
    (hs : PySem.W.findIn K (.ref C) "__setattr__" = some (some (.builtin "object.__setattr__"))) (hp : PySem.W.plainOver K C = true) (ht : PySem.W.takerIn K C name = some none) (hh : PySem.W.hasDictIn K C = true)
    (hw : PySem.Within mA ns) (hsz : ns.length ≤ sizeLine)
    (h : ∀ h', ObjM h' x dx C (fun y => if y = name then some v else mA y) → Heap.SameBut dx s.heap h' → Q () { s with heap := h', toks := s.toks + 2 }) :
    wpAny (model prog w) A (setAttr (.ref x) name v) Q E s := by
  obtain ⟨od, J, hl⟩ := I.look
  refine PySem.W.set_plain X J hs (PySem.W.osa_open (s := { s with toks := s.toks + 1 }) (r := none) X J hp ht fun b => ?_)
  obtain ⟨cd, hc, hd'⟩ := PySem.W.any_some hh
  have hx : s.heap.get? x = some ⟨.ref C, some dx, .plain, #[]⟩ := I.obj
  refine wpAny_bind (wpAny_pure (wpAny_bind (wpAny_bind (wpAny_loadPart hx (wpAny_bind (PySem.W.Looks.here (s := { s with toks := s.toks + 1 }) (PySem.W.looks_clsIn X hc) ?_))))))
  rw [hd']
  refine wpAny_pure (a := some dx) (wpAny_bind (wpAny_pure (wpAny_bind ?_)))
  refine wpAny_nsSet1 (s := { s with toks := s.toks + 1 }) I.ns fun h' hn2 hs2 => ?_
  obtain ⟨oD, esD, epD, hoD, hdD, hcD⟩ := hn2.count (PySem.Within.cons name v hw)
  refine wpAny_bind (wpAny_lookBehind hoD (by rw [hdD]; exact pastItsLine_dict (Nat.le_trans hcD (by rw [List.length_cons]; omega))) ?_)
  exact wpAny_pure (h _ ⟨(hs2.2 _ (Ne.symm I.ne)).trans I.obj, hn2, I.ne⟩ hs2)
theorem make_map {R : Result → Shared → Prop} {vs : List Value} {kw : List (Str × Value)} (X : K.In s.heap) (hm : PySem.W.makesIn K C = true)
    (hi : PySem.W.findIn K (.ref C) "__init__" = some (some (.ref f))) (hf : PySem.W.typeIn K (.ref f) = some (.type "function"))
    (h : codeAny (model prog w) (A.under (.builtin "type.__call__" ⟨.ref C :: vs, kw⟩)) (.call (.ref f) ⟨.ref (s.heap.objs.size + 1) :: vs, kw⟩) (PySem.W.InitBack (s.heap.objs.size + 1) R)
      { s with heap := (s.heap.push PySem.W.emptyDict).push (PySem.W.instObj C s.heap.objs.size) }) :
    codeAny (model prog w) A (.call (.ref C) ⟨vs, kw⟩) R s := by
  obtain ⟨hh, g, d, t, os⟩ := s
  exact PySem.W.make_core (PySem.W.makes_of X hm) (PySem.W.looks_findIn X hi) (fun self => PySem.W.bind_fn X self hf) (.inl rfl) h
end
def putF (f : Str) (v : V) : List (Str × V) → List (Str × V)
  | [] => [(f, v)]
  | (g, x) :: r => if g = f then (g, v) :: r else (g, x) :: putF f v r
theorem lookup_putF (f g : Str) (v : V) : ∀ fs : List (Str × V), (putF f v fs).lookup g = if g = f then some v else fs.lookup g
  | [] => by
    show List.lookup g [(f, v)] = _
    by_cases h : g = f
    · have hb : (g == f) = true := beq_iff_eq.mpr h
      simp only [List.lookup, hb, if_pos h]
    · have hb : (g == f) = false := beq_eq_false_iff_ne.mpr h
      simp only [List.lookup, hb, if_neg h]
  | (k, x) :: r => by
    have ih := lookup_putF f g v r
    rw [show putF f v ((k, x) :: r) = (if k = f then (k, v) :: r else (k, x) :: putF f v r) from rfl]
    by_cases hk : k = f
    · rw [if_pos hk]
      by_cases h : g = k
      · have hb : (g == k) = true := beq_iff_eq.mpr h
        simp only [List.lookup, hb, if_pos (h.trans hk)]
      · have hb : (g == k) = false := beq_eq_false_iff_ne.mpr h
        simp only [List.lookup, hb, if_neg (fun e : g = f => h (e.trans hk.symm))]
    · rw [if_neg hk]
      by_cases h : g = k
      · have hb : (g == k) = true := beq_iff_eq.mpr h
        simp only [List.lookup, hb, if_neg (fun e : g = f => hk (h.symm.trans e))]
      · have hb : (g == k) = false := beq_eq_false_iff_ne.mpr h
        simp only [List.lookup, hb]
        exact ih
theorem keys_putF (f : Str) (v : V) : ∀ fs : List (Str × V), f ∈ (putF f v fs).map (·.1) ∧ ∀ g, g ∈ fs.map (·.1) → g ∈ (putF f v fs).map (·.1)
  | [] => ⟨by simp [putF], fun g h => by simp at h⟩
  | (k, x) :: r => by
    obtain ⟨i1, i2⟩ := keys_putF f v r
    rw [show putF f v ((k, x) :: r) = (if k = f then (k, v) :: r else (k, x) :: putF f v r) from rfl]
    by_cases hk : k = f
    · rw [if_pos hk]
      subst hk
      exact ⟨by simp, fun g h => by simpa using h⟩
    · rw [if_neg hk]
      refine ⟨?_, fun g h => ?_⟩
      · rw [List.map_cons]
        exact List.mem_cons_of_mem _ i1
      · rw [List.map_cons] at h ⊢
        rcases List.mem_cons.mp h with e | e
        · exact List.mem_cons.mpr (.inl e)
        · exact List.mem_cons_of_mem _ (i2 g e)
theorem length_putF (f : Str) (v : V) : ∀ fs : List (Str × V), (putF f v fs).length ≤ fs.length + 1
  | [] => by simp [putF]
  | (k, x) :: r => by
    have ih := length_putF f v r
    rw [show putF f v ((k, x) :: r) = (if k = f then (k, v) :: r else (k, x) :: putF f v r) from rfl]
    by_cases hk : k = f
    · rw [if_pos hk, List.length_cons, List.length_cons]; omega
    · rw [if_neg hk, List.length_cons, List.length_cons]; omega
theorem RelO.some_of {v : V} {o : Option Value} (r : RelO (some v) o) : ∃ u, o = some u ∧ RelV v u := by
  cases o with
  | none => exact (show False from r).elim
  | some u => exact ⟨u, rfl, r⟩
theorem RelO.none_of {o : Option Value} (r : RelO none o) : o = none := by
  cases o with
  | none => rfl
  | some u => exact (show False from r).elim
theorem handed_of {v : V} {u : Value} (r : RelV v u) : PySem.W.handedIn u = true := by
  cases v with
  | non => cases (show u = Value.none from r); rfl
  | bl b => cases (show u = Value.bool b from r); rfl
  | int i => obtain ⟨t, e⟩ := (show ∃ t, u = Value.int i t from r); cases e; rfl
  | str x => obtain ⟨t, e⟩ := (show ∃ t, u = Value.str x t from r); cases e; rfl
  | byt b => obtain ⟨t, e⟩ := (show ∃ t, u = Value.bytes b t from r); cases e; rfl
  | flt b => obtain ⟨t, e⟩ := (show ∃ t, u = Value.float b t from r); cases e; rfl
  | ref a => cases (show u = Value.ref a from r); rfl
  | ty n => cases (show u = Value.type n from r); rfl
section
variable {P : Program} {w : World} {H H' : Hp} {h h' : Heap} {a C dx : Addr} {fs fs' : List (Str × V)}
theorem ins_get (hok : HOk P w H h) (e : H a = some (.ins C dx fs)) : ∃ mA, ObjM h a dx C mA ∧ (∀ f, RelO (fs.lookup f) (mA f)) ∧ PySem.Within mA (fs.map (·.1)) ∧ fs.length ≤ 1000 ∧ H dx = some (.own a) := by
  obtain ⟨d, z, ne, ob, mA, n, r, q⟩ := (show ObjOk P w H h a (.ins C dx fs) from hok a _ e)
  exact ⟨mA, ⟨ob, n, ne⟩, r, q, z, d⟩
end
structure Cls (K : PySem.W.Frag) (C : Addr) : Prop where
  pg : PySem.W.plainGet K C Str.empty = true
  hd : PySem.W.hasDictIn K C = true
  po : PySem.W.plainOver K C = true
  sa : PySem.W.findIn K (.ref C) "__setattr__" = some (some (.builtin "object.__setattr__"))
theorem Cls.get {K : PySem.W.Frag} {C : Addr} (c : Cls K C) (f : Str) : PySem.W.plainGet K C f = true := c.pg
def NoAttr (K : PySem.W.Frag) (C : Addr) (f : Str) : Prop := PySem.W.findIn K (.ref C) f = some none
theorem NoAttr.taker {K : PySem.W.Frag} {C : Addr} {f : Str} (n : NoAttr K C f) : PySem.W.takerIn K C f = some none := by
  unfold PySem.W.takerIn
  rw [show PySem.W.findIn K (.ref C) f = some none from n]
  rfl
structure Meth (K : PySem.W.Frag) (C : Addr) (m : Str) (f : Addr) : Prop where
  at_ : PySem.W.findIn K (.ref C) m = some (some (.ref f))
  fn : PySem.W.isFn K (.ref f) = true
  kp : PySem.W.keepIn K (.ref f) = true
section
variable {X : Cx} {pins : List (Addr × Obj)} {σ : St} {H : Hp} {s : Shared} {a C dx : Addr} {fs : List (Str × V)} {f : Str} {v : V} {A : Around} {E : Value → Shared → Prop}
theorem getattr_ok {b : Bool} {Q : Value → Shared → Prop} (I : Inv X pins σ H s) (e : H a = some (.ins C dx fs)) (c : Cls X.K C) (n : NoAttr X.K C f) (l : fs.lookup f = some v)
    (h : ∀ u s', Inv X pins σ H s' → RelV v u → Q u s') : wpAny (model X.prog X.w) A (getAttr (.ref a) f b) Q E s := by
  obtain ⟨mA, O, r, _, _, _⟩ := ins_get I.hok e
  obtain ⟨u, hu, ru⟩ := RelO.some_of (v := v) (o := mA f) (by rw [← l]; exact r f)
  exact get_map I.kIn O (c.get f) c.hd n hu (handed_of ru) (h u _ (I.tok _) ru)
theorem getmeth_ok {m : Str} {g : Addr} {pl : Sem Bool} {Q : Value × List Value → Shared → Prop} (I : Inv X pins σ H s) (e : H a = some (.ins C dx fs)) (c : Cls X.K C) (k : Meth X.K C m g) (l : fs.lookup m = none)
    (h : Q (.ref g, [.ref a]) s) : wpAny (model X.prog X.w) A (getMethod (.ref a) m pl) Q E s := by
  obtain ⟨mA, O, r, _, _, _⟩ := ins_get I.hok e
  have hn : mA m = none := RelO.none_of (by rw [← l]; exact r m)
  exact get_meth I.kIn O (c.get m) k.at_ k.fn hn h
theorem setattr_ok {y : V} {u : Value} {Q : Unit → Shared → Prop} (I : Inv X pins σ H s) (e : H a = some (.ins C dx fs)) (c : Cls X.K C) (n : NoAttr X.K C f) (hl : fs.length < 1000) (ry : RelV y u)
    (h : ∀ s', Inv X pins σ (upd H a (.ins C dx (putF f y fs))) s' → Q () s') : wpAny (model X.prog X.w) A (setAttr (.ref a) f u) Q E s := by
  obtain ⟨mA, O, r, wi, _, ho⟩ := ins_get I.hok e
  have hz : (fs.map (·.1)).length ≤ sizeLine := by rw [List.length_map, sizeLine_eq]; omega
  refine set_map I.kIn O c.sa c.po n.taker c.hd wi hz fun h' O' sb => h _ ?_
  have hd : ∃ o, h'.get? dx = some o := let ⟨o, _, _, e', _⟩ := O'.ns; ⟨o, e'⟩
  refine I.write (x := a) (e := dx) (by rw [e]; exact True.intro) (.inr ho) (fun b q hb z => (sb.2 b hb).trans z) hd ?_
  refine ⟨by rw [upd_ne O.ne]; exact ho, ?_, O.ne, O'.obj, _, O'.ns, fun g => ?_, fun g hg => ?_⟩
  · have := length_putF f y fs; omega
  · show RelO ((putF f y fs).lookup g) (if g = f then some u else mA g)
    rw [lookup_putF]
    by_cases q : g = f
    · rw [if_pos q, if_pos q]; exact ry
    · rw [if_neg q, if_neg q]; exact r g
  · by_cases q : g = f
    · rw [q]; exact (keys_putF f y fs).1
    · refine (keys_putF f y fs).2 g (wi g fun z => hg ?_)
      show (if g = f then some u else mA g) = none
      rw [if_neg q]; exact z
theorem Inv.made (I : Inv X pins σ H s) : Inv X pins σ (upd (upd H s.heap.objs.size (.own (s.heap.objs.size + 1))) (s.heap.objs.size + 1) (.ins C s.heap.objs.size []))
    { s with heap := (s.heap.push PySem.W.emptyDict).push (PySem.W.instObj C s.heap.objs.size) } := by
  have e1 : (s.heap.push PySem.W.emptyDict).get? s.heap.objs.size = some PySem.W.emptyDict := Heap.get?_push_size s.heap rfl
  have e2 : ((s.heap.push PySem.W.emptyDict).push (PySem.W.instObj C s.heap.objs.size)).get? (s.heap.objs.size + 1) = some (PySem.W.instObj C s.heap.objs.size) := by
    have := Heap.get?_push_size (s.heap.push PySem.W.emptyDict) (o := PySem.W.instObj C s.heap.objs.size) rfl
    rwa [Heap.size_push] at this
  have e3 : (s.heap.push PySem.W.emptyDict).Ns s.heap.objs.size (fun _ => none) := ⟨PySem.W.emptyDict, #[], _, e1, rfl, (fun e he => absurd he (by simp)), fun _ => rfl⟩
  have I1 := I.laid (a := s.heap.objs.size) (o := .own (s.heap.objs.size + 1)) (h' := s.heap.push PySem.W.emptyDict) (t' := s.toks) (fun b u q => Heap.get?_push_of_some _ q) (Nat.le_refl _) ⟨_, e1⟩
  refine I1.laid (a := s.heap.objs.size + 1) (o := .ins C s.heap.objs.size []) (t' := s.toks) (fun b u q => Heap.get?_push_of_some _ q) (Nat.le_of_eq (Heap.size_push _ _)) ?_
  have ne : s.heap.objs.size ≠ s.heap.objs.size + 1 := Nat.ne_of_lt (Nat.lt_succ_self _)
  refine ⟨by rw [upd_ne ne, upd_same], Nat.zero_le _, ne, e2, fun _ => none, (Heap.Ns1.of_empty e3).at fun o q => Heap.get?_push_of_some _ q, fun _ => True.intro, fun y hy => absurd rfl hy⟩
theorem attr_of {prog : Program} {w : World} {env : Env} {e : Expr} {f : Str} {pos : Pos} {s : Shared} {Q : Value → Shared → Prop} (hb : attributeBase e f env (eval e env) = eval e env)
    (h : wpAny (model prog w) A (eval e env) (fun o s₁ => wpAny (model prog w) A (getAttr o f true) Q E s₁) E s) : wpAny (model prog w) A (eval (.Attribute e f pos) env) Q E s :=
  Attribute_any_ h (by rw [arm_eval_Attribute, hb])
end
def tFld (K : PySem.W.Frag) (ta : TE) (f : Str) : TE := fun σ H Q => ta σ H fun x H1 => ∃ a C dx fs v, x = .ref a ∧ H1 a = some (.ins C dx fs) ∧ Cls K C ∧ NoAttr K C f ∧ fs.lookup f = some v ∧ Q v H1
def sFld (K : PySem.W.Frag) (ta tv : TE) (f : Str) : TS := fun D σ H => tv σ H fun y H1 => ta σ H1 fun x H2 => ∃ a C dx fs, x = .ref a ∧ H2 a = some (.ins C dx fs) ∧ Cls K C ∧ NoAttr K C f ∧ fs.length < 1000 ∧
  D.nx σ (upd H2 a (.ins C dx (putF f y fs)))
section
variable {X : Cx} {o e value : Expr} {f : Str} {pos pos' tpos : Pos} {ta tv : TE}
theorem pe_fld (he : PE X e ta) (hb : attributeBase e f X.env (eval e X.env) = eval e X.env) : PE X (.Attribute e f pos) (tFld X.K ta f) := by
  intro pins s σ H Q I h
  refine attr_of hb (thn (he pins s σ H _ I h) fun u s1 ⟨x, H1, I1, rx, a, C, dx, fs, v, ex, ea, c, n, l, q⟩ => ?_)
  subst ex
  obtain rfl : u = Value.ref a := rx
  exact getattr_ok I1 ea c n l fun u' s2 I2 ru => ⟨v, H1, I2, ru, q⟩
theorem ps_fld (ha : PE X o ta) (hv : PE X value tv) (hs : swapsWith value (some (.Attribute o f pos')) pos.line X.env = pure false) : PS X (.Assign [.Attribute o f pos'] value pos) (sFld X.K ta tv f) := by
  intro pins s σ H D I h
  refine plainObj_wpAny_Assign_Attribute (thn (hv pins s σ H _ I h) fun u s1 ⟨y, H1, I1, ry, q⟩ => thn (ha pins s1 σ H1 _ I1 q) fun ov s2 ⟨x, H2, I2, rx, a, C, dx, fs, ex, ea, c, n, l, q2⟩ => ?_) hs
  subst ex
  obtain rfl : ov = Value.ref a := rx
  exact setattr_ok I2 ea c n l ry fun s3 I3 => ⟨σ, _, I3, q2⟩
end
section
variable {X : Cx} {pins : List (Addr × Obj)} {σ : St} {H : Hp} {s : Shared} {A : Around} {E : Value → Shared → Prop} {Q : Value → Shared → Prop} {c : Value} {b : Bool}
inductive TyOf (K : PySem.W.Frag) (H : Hp) : V → Value → Prop where
  | non : TyOf K H .non (.type "NoneType")
  | bl (x : Bool) : TyOf K H (.bl x) (.type "bool")
  | int (i : Int) : TyOf K H (.int i) (.type "int")
  | str (x : Str) : TyOf K H (.str x) (.type "str")
  | flt (x : UInt64) : TyOf K H (.flt x) (.type "float")
  | lst {a : Addr} {xs : List V} (e : H a = some (.lst xs)) : TyOf K H (.ref a) (.type "list")
  | frz {a : Addr} {o : Obj} {xs : List V} (e : H a = some (.frz o (.lst xs))) : TyOf K H (.ref a) (.type "list")
  | tup {a : Addr} {xs : List V} (e : H a = some (.tup xs)) : TyOf K H (.ref a) (.type "tuple")
  | dK {a : Addr} {kvs : List (Key × V)} (e : H a = some (.dK kvs)) : TyOf K H (.ref a) (.type "dict")
  | dT {a : Addr} {kvs : List (List Key × V)} (e : H a = some (.dT kvs)) : TyOf K H (.ref a) (.type "dict")
  | ins {a C dx : Addr} {fs : List (Str × V)} (e : H a = some (.ins C dx fs)) (cl : Cls K C) (ha : PySem.W.findIn K (.ref C) "__class__" = some (some (.builtin "object.__class__")))
      (hn : PySem.W.specialIn K (.builtin "object.__class__") "__get__" = some (some (.builtin "getset_descriptor.__get__"))) (htk : PySem.W.takesIn K (.builtin "object.__class__") = some true)
      (hm : PySem.W.mroIn K C (.type "object") = some true) : TyOf K H (.ref a) (.ref C)
theorem isinst_ok {x : V} {u t : Value} (I : Inv X pins σ H s) (rx : RelV x u) (ty : TyOf X.K H x t) (e : PySem.W.kitOne X.K t c = some b) (h : ∀ tk, Q (.bool b) { s with toks := tk }) :
    wpAny (model X.prog X.w) A (call (.builtin "isinstance") [u, c]) Q E s := by
  cases ty with
  | non => cases (show u = Value.none from rx); exact PySem.W.kia_one PySem.W.kitx_none I.kIn True.intro e (fun z => nomatch z) h
  | bl y => cases (show u = Value.bool y from rx); exact PySem.W.kia_one PySem.W.kitx_bool I.kIn True.intro e (fun z => nomatch z) h
  | int i => obtain ⟨t, q⟩ := (show ∃ t, u = Value.int i t from rx); cases q; exact PySem.W.kia_one PySem.W.kitx_int I.kIn True.intro e (fun z => nomatch z) h
  | str y => obtain ⟨t, q⟩ := (show ∃ t, u = Value.str y t from rx); cases q; exact PySem.W.kia_one PySem.W.kitx_str I.kIn True.intro e (fun z => nomatch z) h
  | flt y => obtain ⟨t, q⟩ := (show ∃ t, u = Value.float y t from rx); cases q; exact PySem.W.kia_one PySem.W.kitx_float I.kIn True.intro e (fun z => nomatch z) h
  | @lst a xs ea =>
    cases (show u = Value.ref a from rx)
    obtain ⟨_, _, n, _, h1⟩ := (show ObjOk X.prog X.w H s.heap a (.lst xs) from I.hok a _ ea)
    exact PySem.W.kia_one PySem.W.kitx_list I.kIn ⟨_, h1, rfl⟩ e (fun z => nomatch z) h
  | @frz a ob xs ea =>
    cases (show u = Value.ref a from rx)
    obtain ⟨_, _, _, n, _, h1⟩ := (show ObjOk X.prog X.w H s.heap a (.frz ob (.lst xs)) from I.hok a _ ea)
    exact PySem.W.kia_one PySem.W.kitx_list I.kIn ⟨_, h1, rfl⟩ e (fun z => nomatch z) h
  | @tup a xs ea =>
    cases (show u = Value.ref a from rx)
    obtain ⟨_, _, _, p⟩ := (show ObjOk X.prog X.w H s.heap a (.tup xs) from I.hok a _ ea)
    obtain ⟨o, h1, h2, _⟩ := p
    exact PySem.W.kia_one PySem.W.kitx_tuple I.kIn ⟨o, h1, h2⟩ e (fun z => nomatch z) h
  | @dK a kvs ea =>
    cases (show u = Value.ref a from rx)
    obtain ⟨_, _, vs, _, p⟩ := (show ObjOk X.prog X.w H s.heap a (.dK kvs) from I.hok a _ ea)
    obtain ⟨o, es, ep, h1, h2, _⟩ := p
    exact PySem.W.kia_one PySem.W.kitx_dict I.kIn ⟨o, h1, h2.1⟩ e (fun z => nomatch z) h
  | @dT a kvs ea =>
    cases (show u = Value.ref a from rx)
    obtain ⟨_, _, xs, _, o, es, ep, h1, h2, _⟩ := (show ObjOk X.prog X.w H s.heap a (.dT kvs) from I.hok a _ ea)
    exact PySem.W.kia_one PySem.W.kitx_dict I.kIn ⟨o, h1, h2.1⟩ e (fun z => nomatch z) h
  | @ins a C dx fs ea cl ha hn htk hm =>
    cases (show u = Value.ref a from rx)
    obtain ⟨mA, O, _⟩ := ins_get I.hok ea
    obtain ⟨od, J, _⟩ := O.look
    exact PySem.W.kia_one (PySem.W.kitx_own (cl.get _) cl.hd ha hn htk hm) I.kIn J e (fun z => nomatch z) h
end
end L2
namespace L2
open PySem PySem.Spec PyProof.Rows
structure Room (k : Nat) (A : Around) : Prop where
  hd : A.handled = none
  dp : A.depth + 3 * k + 5 < recursionLimit
  un : A.units + 16 * k + 200 < cLine
theorem Room.mono {j k : Nat} {A : Around} (r : Room k A) (h : j ≤ k) : Room j A := ⟨r.hd, by have := r.dp; omega, by have := r.un; omega⟩
theorem Room.deeper {k : Nat} {A : Around} (r : Room (k + 1) A) (env : Env) : Room k (A.deeper env) :=
  ⟨r.hd, by have := r.dp; show A.depth + 1 + 3 * k + 5 < _; omega, by have := r.un; show A.units + 3 + 16 * k + 200 < _; omega⟩
theorem Room.in1 {k : Nat} {A : Around} (r : Room (k + 1) A) : Room k A.in1 :=
  ⟨r.hd, by have := r.dp; show A.depth + 3 * k + 5 < _; omega, by have := r.un; show A.units + 1 + 16 * k + 200 < _; omega⟩
theorem make_depth {A : Around} {C : Addr} {us : List Value} {kw : List (Str × Value)} : (A.under (.builtin "type.__call__" ⟨.ref C :: us, kw⟩)).depth = A.depth + 1 := by
  first | rfl | simp [Around.under, Code.weight, Code.isCreation, Code.isGuard, Code.isCaller, Code.frames, Code.isFrame, guardIds]
theorem make_units {A : Around} {C : Addr} {us : List Value} {kw : List (Str × Value)} : (A.under (.builtin "type.__call__" ⟨.ref C :: us, kw⟩)).units = A.units + 1 := by
  first | rfl | simp [Around.under, Code.cUnits, Code.frames, Code.isFrame]
theorem Room.make {k : Nat} {A : Around} (r : Room (k + 1) A) (C : Addr) (us : List Value) (kw : List (Str × Value)) : Room k (A.under (.builtin "type.__call__" ⟨.ref C :: us, kw⟩)) :=
  ⟨r.hd, by have := r.dp; rw [make_depth]; omega, by have := r.un; rw [make_units]; omega⟩
theorem Room.depth {k : Nat} {A : Around} (r : Room k A) : A.depth < recursionLimit := by have := r.dp; omega
theorem Room.units {k : Nat} {A : Around} (r : Room k A) : A.units + 64 < cLine := by have := r.un; omega
def tNil : TA := fun _ H Q => Q [] H
def tCons (ta : TE) (tr : TA) : TA := fun σ H Q => ta σ H fun x H1 => tr σ H1 fun xs H2 => Q (x :: xs) H2
section
variable {X : Cx} {e : Expr} {es : List Expr} {te : TE} {t : TA} {pos : Pos}
theorem pa_nil : PA X [] tNil := fun _ _ _ _ H Q I h => Calls.spliced_nil ⟨[], H, I, .nil, h⟩
theorem pa_cons (ha : PE X e te) (hr : PA X es t) (hs : starEach (e :: es) X.env = (false, eval e X.env) :: starEach es X.env := by rfl) : PA X (e :: es) (tCons te t) := by
  intro pos pins s σ H Q I h
  rw [hs]
  show wpAny _ _ (spliced ((false, eval e X.env) :: backTo pos (starEach es X.env))) _ _ s
  refine Calls.spliced_cons (thn (ha pins s σ H _ I h) fun u s1 ⟨x, H1, I1, r1, q1⟩ => ?_)
  exact thn (hr pos pins s1 σ H1 _ I1 q1) fun us s2 ⟨xs, H2, I2, r2, q2⟩ => ⟨x :: xs, H2, I2, .cons r1 r2, q2⟩
def tTup (t : TA) : TE := fun σ H Q => t σ H fun xs H1 => xs.length ≤ sizeLine ∧ ∀ p, H1 p = none → Q (.ref p) (upd H1 p (.tup xs))
def tLst (t : TA) : TE := fun σ H Q => t σ H fun xs H1 => xs.length ≤ sizeLine ∧ ∀ p, H1 p = none → Q (.ref p) (upd H1 p (.lst xs))
theorem pe_tup {x1} (h : PA X es t) : PE X (.Tuple es x1 pos) (tTup t) := by
  intro pins s σ H Q I hq
  refine wpAny_Tuple_spliced (thn (h pos pins s σ H _ I hq) fun us s1 ⟨xs, H1, I1, r, z, q⟩ => ⟨by rw [← r.length]; exact z, ?_⟩)
  have hf : H1 s1.heap.objs.size = none := I1.hok.fresh (Nat.le_refl _)
  refine ⟨.ref s1.heap.objs.size, upd H1 s1.heap.objs.size (.tup xs), I1.laid (t' := s1.toks) (fun b u e => Heap.get?_push_of_some _ e) (Nat.le_refl _) ?_, rfl, q _ hf⟩
  exact ⟨z, us, r, ⟨_, Heap.get?_push_size _ rfl, rfl, _, rfl⟩⟩
theorem pe_lst (h : PA X es t) : PE X (.List es pos) (tLst t) := by
  intro pins s σ H Q I hq
  refine wpAny_List_spliced (thn (h pos pins s σ H _ I hq) fun us s1 ⟨xs, H1, I1, r, z, q⟩ => ⟨by rw [← r.length]; exact z, ?_⟩)
  have hf : H1 s1.heap.objs.size = none := I1.hok.fresh (Nat.le_refl _)
  refine ⟨.ref s1.heap.objs.size, upd H1 s1.heap.objs.size (.lst xs), I1.laid (t' := s1.toks) (fun b u e => Heap.get?_push_of_some _ e) (Nat.le_refl _) ?_, rfl, q _ hf⟩
  exact ⟨z, us, 0, r, Heap.get?_push_size _ rfl⟩
end
abbrev Sp := List V → Hp → VK → XK → Prop
abbrev CXT := List Env → Hp → Shared → XK → Value → Shared → Prop
structure Env0 (P : Program) (w : World) (K : PySem.W.Frag) (mg : Str → Option Value) (base : Heap) (A : Around) (outer : List Env) (s : Shared) (H : Hp) : Prop where
  frames : A.frames = some outer
  mod : Mod K mg base
  bs : ∀ b o, base.get? b = some o → s.heap.get? b = some o ∧ H b = none
  bsz : base.objs.size ≤ s.heap.objs.size
  funs : s.heap.FunFrames base outer
  frf : ∀ b ∈ frs outer, H b = none
  hok : HOk P w H s.heap
  bare : AllBare s.gens
def CE (outer : List Env) (P : Program) (w : World) (H : Hp) (s : Shared) (Q : VK) (u : Value) (s' : Shared) : Prop :=
  ∃ v H', s'.os = s.os ∧ AllBare s'.gens ∧ Un (frs outer) [] H H' s.heap s'.heap ∧ HOk P w H' s'.heap ∧ RelV v u ∧ Q v H'
def CR (CX : CXT) (outer : List Env) (P : Program) (w : World) (H : Hp) (s : Shared) (Q : VK) (E : XK) (r : Result) (s' : Shared) : Prop :=
  match r with
  | .ok (.ret u) => CE outer P w H s Q u s'
  | .ok _ => False
  | .error e => CX outer H s E e s'
structure FnOk (P : Program) (w : World) (K : PySem.W.Frag) (mg : Str → Option Value) (base : Heap) (CX : CXT) (k : Nat) (f : Addr) (fd : FuncData) (ps : List Str) (sp : Sp) : Prop where
  len : ∀ vs H Q E, sp vs H Q E → vs.length = ps.length
  run : ∀ (A : Around) (outer : List Env) (s : Shared) (H : Hp) (args : Args) (us : List Value) (vs : List V) (Q : VK) (E : XK), Room k A → Env0 P w K mg base A outer s H → BindsTo s fd args (ps.zip us) → Vals vs us → sp vs H Q E →
    codeAny (model P w) A (.call (.ref f) args) (CR CX outer P w H s Q E) s
theorem FnOk.mono {P : Program} {w : World} {K : PySem.W.Frag} {mg : Str → Option Value} {base : Heap} {CX : CXT} {j k : Nat} {f : Addr} {fd : FuncData} {ps : List Str} {sp : Sp} (F : FnOk P w K mg base CX j f fd ps sp) (h : j ≤ k) :
    FnOk P w K mg base CX k f fd ps sp := ⟨F.len, fun A outer s H args us vs Q E hr => F.run A outer s H args us vs Q E (hr.mono h)⟩
theorem FnOk.imp {P : Program} {w : World} {K : PySem.W.Frag} {mg : Str → Option Value} {base : Heap} {CX : CXT} {k : Nat} {f : Addr} {fd : FuncData} {ps : List Str} {sp sp' : Sp} (F : FnOk P w K mg base CX k f fd ps sp)
    (h : ∀ vs H Q E, sp' vs H Q E → sp vs H Q E) : FnOk P w K mg base CX k f fd ps sp' :=
  ⟨fun vs H Q E q => F.len vs H Q E (h _ _ _ _ q), fun A outer s H args us vs Q E hr he hb hv hs => F.run A outer s H args us vs Q E hr he hb hv (h _ _ _ _ hs)⟩
theorem Env0.make {P : Program} {w : World} {K : PySem.W.Frag} {mg : Str → Option Value} {base : Heap} {A : Around} {outer : List Env} {s : Shared} {H : Hp} (e : Env0 P w K mg base A outer s H) (C : Addr) (us : List Value) (kw : List (Str × Value)) :
    Env0 P w K mg base (A.under (.builtin "type.__call__" ⟨.ref C :: us, kw⟩)) outer s H := ⟨by first | exact e.frames | (simpa [Around.under, Code.envs, Code.isFrame, pushEnvs] using e.frames), e.mod, e.bs, e.bsz, e.funs, e.frf, e.hok, e.bare⟩
theorem Env0.in1 {P : Program} {w : World} {K : PySem.W.Frag} {mg : Str → Option Value} {base : Heap} {A : Around} {outer : List Env} {s : Shared} {H : Hp} (e : Env0 P w K mg base A outer s H) :
    Env0 P w K mg base A.in1 outer s H := ⟨e.frames, e.mod, e.bs, e.bsz, e.funs, e.frf, e.hok, e.bare⟩
section
variable {X : Cx} {pins : List (Addr × Obj)} {σ : St} {H : Hp} {s s' : Shared}
theorem Inv.env0 (I : Inv X pins σ H s) : Env0 X.prog X.w X.K X.mg X.base X.A X.stack s H :=
  ⟨I.ok.frames, I.ok.mod, I.bs, Nat.le_trans I.ok.bsz I.sz, I.stack, I.stkFree, I.hok, I.bare⟩
theorem Inv.after {Q : VK} {u : Value} (I : Inv X pins σ H s) (h : CE X.stack X.prog X.w H s Q u s') : EP X pins σ Q u s' := by
  obtain ⟨v, H', os, bare, un, hok, r, q⟩ := h
  obtain ⟨hh, g, d, t, os'⟩ := s'
  obtain rfl : os' = s.os := os
  exact ⟨v, H', I.call (h' := hh) (g' := g) (d' := d) (t' := t) (ch := []) un hok bare (fun b z => absurd z (by simp)), r, q⟩
end
def tCall (sp : Sp) (dvs : List V) (E : XK) (t : TA) : TE := fun σ H Q => t σ H fun vs H1 => sp (vs ++ dvs) H1 Q E
def tMeth (C : Addr) (m : Str) (sp : Sp) (dvs : List V) (E : XK) (ta : TE) (t : TA) : TE := fun σ H Q => ta σ H fun x H1 => ∃ a dx fs, x = .ref a ∧ H1 a = some (.ins C dx fs) ∧ fs.lookup m = none ∧
  t σ H1 fun vs H2 => sp (x :: (vs ++ dvs)) H2 Q E
def tMake (C : Addr) (sp : Sp) (dvs : List V) (E : XK) (t : TA) : TE := fun σ H Q => t σ H fun vs H1 => ∀ x dx, H1 x = none → H1 dx = none → dx ≠ x →
  sp (.ref x :: (vs ++ dvs)) (upd (upd H1 dx (.own x)) x (.ins C dx [])) (fun v H2 => v = .non ∧ Q (.ref x) H2) E
def Binds (K : PySem.W.Frag) (fd : FuncData) (ps : List Str) (ds : List Value) : Prop :=
  ∀ (s : Shared) (us : List Value), K.In s.heap → (us ++ ds).length = ps.length → BindsTo s fd ⟨us, []⟩ (ps.zip (us ++ ds))
theorem Binds.all {K : PySem.W.Frag} {fd : FuncData} {ps : List Str} (h : ∀ us : List Value, us.length = ps.length → bindArgs fd ⟨us, []⟩ = pure (ps.zip us)) : Binds K fd ps [] := fun s us _ hl => by
  rw [List.append_nil] at hl ⊢
  exact .of_eq (h us hl)
def Passes (CX : CXT) (X : Cx) (E : XK) : Prop := ∀ (pins : List (Addr × Obj)) (σ : St) (H : Hp) (s : Shared) (e : Value) (s' : Shared), Inv X pins σ H s → CX X.stack H s E e s' → X.xe e s'
section
variable {X : Cx} {CX : CXT} {k : Nat} {f C : Addr} {fd : FuncData} {ps : List Str} {sp : Sp} {dvs : List V} {ds : List Value} {E : XK} {x m : Str} {p pos apos : Pos} {e o : Expr} {es : List Expr} {ta : TE} {t : TA}
theorem run_fn {pins : List (Addr × Obj)} {σ : St} {H : Hp} {s : Shared} {Q : VK} {us : List Value} {vs : List V} (F : FnOk X.prog X.w X.K X.mg X.base CX k f fd ps sp) (hr : Room k X.A) (hb : Binds X.K fd ps ds) (hd : Vals dvs ds) (hx : Passes CX X E)
    (I : Inv X pins σ H s) (r : Vals vs us) (h : sp (vs ++ dvs) H Q E) : wpAny (model X.prog X.w) X.A (call (.ref f) us) (EP X pins σ Q) X.xe s := by
  have r2 : Vals (vs ++ dvs) (us ++ ds) := r.append hd
  have hl : (us ++ ds).length = ps.length := by rw [← r2.length]; exact F.len _ _ _ _ h
  refine wpAny_call (codeAny_mono (F.run X.A X.stack s H ⟨us, []⟩ (us ++ ds) (vs ++ dvs) Q E hr I.env0 (hb s us I.kIn hl) r2 h) fun r s' hq => ?_)
  cases r with
  | error e => exact hx pins σ H s e s' I hq
  | ok fl =>
    cases fl with
    | ret u => exact I.after hq
    | next => exact False.elim hq
    | brk => exact False.elim hq
    | cont => exact False.elim hq
theorem pe_call (F : FnOk X.prog X.w X.K X.mg X.base CX k f fd ps sp) (hr : Room k X.A) (hg : Gl X x) (hm : X.mg x = some (.ref f)) (hk : PySem.W.keepIn X.K (.ref f) = true) (hb : Binds X.K fd ps ds) (hd : Vals dvs ds) (hx : Passes CX X E)
    (ha : PA X (e :: es) t) (hdb : (x == ("__debug__" : Str)) = false := by decide) (he : starEach (e :: es) X.env = (false, eval e X.env) :: starEach es X.env := by rfl) (hpl : (backTo pos (starEach es X.env)).any (·.1) = false := by rfl) :
    PE X (.Call (.Name x p) (e :: es) [] pos) (tCall sp dvs E t) := by
  intro pins s σ H Q I h
  refine wpAny_Call_Name_kw (ld_glob I hg hm ?_ hdb)
  refine PySem.W.callWith_K (h₀ := X.base) I.ok.mod.kin hk (thn (ha pos pins s σ H _ I h) fun us s1 ⟨vs, H1, I1, r, q⟩ => ⟨I1.kIn, ?_⟩) he hpl
  exact run_fn F hr hb hd hx I1 r q
theorem pe_meth {pl : Sem Bool} (he : PE X o ta) (c : Cls X.K C) (hm : Meth X.K C m f) (F : FnOk X.prog X.w X.K X.mg X.base CX k f fd ps sp) (hr : Room k X.A) (hb : Binds X.K fd ps ds) (hd : Vals dvs ds) (hx : Passes CX X E) (ha : PA X (e :: es) t)
    (hst : starEach (e :: es) X.env = (false, eval e X.env) :: starEach es X.env := by rfl) (hpl : (backTo pos (starEach es X.env)).any (·.1) = false := by rfl)
    (ht : eval (.Call (.Attribute o m apos) (e :: es) [] pos) X.env = (do
      let ov ← eval o X.env
      standAt apos.atName
      let (f, first) ← holding [ov] (getMethod ov m pl)
      callWith pos f first (backTo pos (starEach (e :: es) X.env)) (backToKw pos (keywordEach [] X.env))) := by rfl) :
    PE X (.Call (.Attribute o m apos) (e :: es) [] pos) (tMeth C m sp dvs E ta t) := by
  intro pins s σ H Q I h
  refine PySem.W.methodCall_KW (pl := pl) (thn (he pins s σ H _ I h) fun u s1 ⟨x, H1, I1, rx, a, dx, fs, ex, ea, l, q⟩ => ?_) ht
  subst ex
  obtain rfl : u = Value.ref a := rx
  refine getmeth_ok I1 ea c hm l ?_
  refine PySem.W.callWith_K (first := [.ref a]) (h₀ := X.base) I.ok.mod.kin hm.kp (thn (ha pos pins s1 σ H1 _ I1 q) fun us s2 ⟨vs, H2, I2, r, q2⟩ => ⟨I2.kIn, ?_⟩) hst hpl
  exact run_fn (us := .ref a :: us) (vs := .ref a :: vs) F hr hb hd hx I2 (.cons rfl r) q2
structure Mk (K : PySem.W.Frag) (C f : Addr) : Prop where
  makes : PySem.W.makesIn K C = true
  init : PySem.W.findIn K (.ref C) "__init__" = some (some (.ref f))
  fn : PySem.W.isFn K (.ref f) = true
  kp : PySem.W.keepIn K (.ref C) = true
theorem run_make {pins : List (Addr × Obj)} {σ : St} {H : Hp} {s : Shared} {Q : VK} {us : List Value} {vs : List V} (M : Mk X.K C f) (F : FnOk X.prog X.w X.K X.mg X.base CX k f fd ps sp) (hr : Room (k + 1) X.A) (hb : Binds X.K fd ps ds) (hd : Vals dvs ds)
    (hx : Passes CX X E) (I : Inv X pins σ H s) (r : Vals vs us)
    (h : ∀ x dx, H x = none → H dx = none → dx ≠ x → sp (.ref x :: (vs ++ dvs)) (upd (upd H dx (.own x)) x (.ins C dx [])) (fun v H2 => v = .non ∧ Q (.ref x) H2) E) :
    wpAny (model X.prog X.w) X.A (call (.ref C) us) (EP X pins σ Q) X.xe s := by
  have hq := h (s.heap.objs.size + 1) s.heap.objs.size (I.hok.fresh (Nat.le_succ _)) (I.hok.fresh (Nat.le_refl _)) (Nat.ne_of_lt (Nat.lt_succ_self _))
  have I2 := Inv.made (C := C) I
  have r2 : Vals (V.ref (s.heap.objs.size + 1) :: (vs ++ dvs)) (Value.ref (s.heap.objs.size + 1) :: (us ++ ds)) := .cons rfl (r.append hd)
  have hl : (Value.ref (s.heap.objs.size + 1) :: us ++ ds).length = ps.length := by
    have e := r2.length
    rw [F.len _ _ _ _ hq] at e
    exact e.symm
  refine wpAny_call (make_map (f := f) I.kIn M.makes M.init (beq_iff_eq.mp M.fn) (codeAny_mono (F.run _ X.stack _ _ ⟨Value.ref (s.heap.objs.size + 1) :: us, []⟩ (Value.ref (s.heap.objs.size + 1) :: (us ++ ds)) _ _ E (hr.make C us [])
    (I2.env0.make C us []) (hb _ (Value.ref (s.heap.objs.size + 1) :: us) I2.kIn hl) r2 hq) fun r s' hq' => ?_))
  cases r with
  | error e => exact hx pins σ _ _ e s' I2 hq'
  | ok fl =>
    cases fl with
    | ret u =>
      obtain ⟨v, H', I3, rv, ev, q3⟩ := I2.after hq'
      subst ev
      exact ⟨rv, ⟨V.ref (s.heap.objs.size + 1), H', I3, rfl, q3⟩⟩
    | next => exact False.elim hq'
    | brk => exact False.elim hq'
    | cont => exact False.elim hq'
theorem pe_make (M : Mk X.K C f) (F : FnOk X.prog X.w X.K X.mg X.base CX k f fd ps sp) (hr : Room (k + 1) X.A) (hg : Gl X x) (hm : X.mg x = some (.ref C)) (hb : Binds X.K fd ps ds) (hd : Vals dvs ds) (hx : Passes CX X E)
    (ha : PA X (e :: es) t) (hdb : (x == ("__debug__" : Str)) = false := by decide) (he : starEach (e :: es) X.env = (false, eval e X.env) :: starEach es X.env := by rfl) (hpl : (backTo pos (starEach es X.env)).any (·.1) = false := by rfl) :
    PE X (.Call (.Name x p) (e :: es) [] pos) (tMake C sp dvs E t) := by
  intro pins s σ H Q I h
  refine wpAny_Call_Name_kw (ld_glob I hg hm ?_ hdb)
  refine PySem.W.callWith_K (h₀ := X.base) I.ok.mod.kin M.kp (thn (ha pos pins s σ H _ I h) fun us s1 ⟨vs, H1, I1, r, q⟩ => ⟨I1.kIn, ?_⟩) he hpl
  exact run_make M F hr hb hd hx I1 r q
end
section
variable {X : Cx} {CX : CXT} {k : Nat} {f C : Addr} {fd : FuncData} {ps ks : List Str} {sp : Sp} {E : XK} {x m : Str} {p pos apos kpos : Pos} {e o : Expr} {es : List Expr} {kws : List Keyword} {te ta : TE} {t tk : TA} {nm : Option Str}
variable {g : List Value → List Value → List Value} {gV : List V → List V → List V}
end
structure FnScope (N P : List Str) (sc : Scope) : Prop where
  kind : sc.kind = .function
  co : sc.isCoroutine = false
  gen : sc.isGenerator = false
  nd : N.Nodup
  pre : N.take P.length = P
  par : ∀ x ∈ P, sc.names.lookup x = some .local ∨ sc.names.lookup x = some .cell
  nofree : ∀ y ∈ sc.names, y.2 ≠ .free
theorem bindL_out {kindOf : Str → Option NameKind} {x : Str} : ∀ {binds : List (Str × Value)} {m : Str → Option Value}, (∀ v, (x, v) ∉ binds) → bindL kindOf binds m x = m x
  | [], _, _ => rfl
  | (n, v) :: r, m, h => by
    unfold bindL
    rw [bindL_out fun w hw => h w (List.mem_cons_of_mem _ hw)]
    split
    · have : x ≠ n := by rintro rfl; exact h v List.mem_cons_self
      simp [this]
    · rfl
theorem bindC_out {kindOf : Str → Option NameKind} {x : Str} : ∀ {binds : List (Str × Value)} {m : Str → Option Value}, (∀ v, (x, v) ∉ binds) → bindC kindOf binds m x = m x
  | [], _, _ => rfl
  | (n, v) :: r, m, h => by
    unfold bindC
    rw [bindC_out fun w hw => h w (List.mem_cons_of_mem _ hw)]
    split
    · rfl
    · have : x ≠ n := by rintro rfl; exact h v List.mem_cons_self
      simp [this]
theorem bindL_get {kindOf : Str → Option NameKind} {x : Str} {v : Value} : ∀ {P : List Str} {vs : List Value} {i : Nat} {m : Str → Option Value}, P.Nodup → P[i]? = some x → vs[i]? = some v → kindOf x = some .local →
    bindL kindOf (P.zip vs) m x = some v
  | [], _, _, _, _, h, _, _ => by simp at h
  | _ :: _, [], _, _, _, _, h, _ => by simp at h
  | p :: P, w :: vs, 0, m, nd, h1, h2, hk => by
    simp at h1 h2; subst h1; subst h2
    show bindL kindOf ((p, w) :: P.zip vs) m p = _
    unfold bindL
    rw [bindL_out fun v hv => (List.nodup_cons.mp nd).1 (List.of_mem_zip hv).1, if_pos hk]
    simp
  | p :: P, w :: vs, i + 1, m, nd, h1, h2, hk => by
    show bindL kindOf ((p, w) :: P.zip vs) m x = _
    unfold bindL
    exact bindL_get (i := i) (List.nodup_cons.mp nd).2 (by simpa using h1) (by simpa using h2) hk
theorem bindC_get {kindOf : Str → Option NameKind} {x : Str} {v : Value} : ∀ {P : List Str} {vs : List Value} {i : Nat} {m : Str → Option Value}, P.Nodup → P[i]? = some x → vs[i]? = some v → kindOf x ≠ some .local →
    bindC kindOf (P.zip vs) m x = some v
  | [], _, _, _, _, h, _, _ => by simp at h
  | _ :: _, [], _, _, _, _, h, _ => by simp at h
  | p :: P, w :: vs, 0, m, nd, h1, h2, hk => by
    simp at h1 h2; subst h1; subst h2
    show bindC kindOf ((p, w) :: P.zip vs) m p = _
    unfold bindC
    rw [bindC_out fun v hv => (List.nodup_cons.mp nd).1 (List.of_mem_zip hv).1, if_neg hk]
    simp
  | p :: P, w :: vs, i + 1, m, nd, h1, h2, hk => by
    show bindC kindOf ((p, w) :: P.zip vs) m x = _
    unfold bindC
    exact bindC_get (i := i) (List.nodup_cons.mp nd).2 (by simpa using h1) (by simpa using h2) hk
def start (N : List Str) (vs : List V) : St := vs.map some ++ List.replicate (N.length - vs.length) none
def cxOf (CX : CXT) (P : Program) (w : World) (K : PySem.W.Frag) (mg : Str → Option Value) (base : Heap) (N : List Str) (qual : Str) (scope : Scope) (f : Addr) (cd : Value) (A : Around) (outer : List Env) (s : Shared) (H : Hp) (E : XK) : Cx where
  prog := P
  w := w
  K := K
  mg := mg
  base := base
  A := A.deeper (envOfC qual scope s.heap.objs.size f cd)
  N := N
  s₀ := s
  H₀ := H
  env := envOfC qual scope s.heap.objs.size f cd
  outer := outer
  stack := envOfC qual scope s.heap.objs.size f cd :: outer
  ex := []
  calm := true
  fn := fun _ => true
  pn := []
  xe := fun e s' => wpAny (model P w) (A.deeper (envOfC qual scope s.heap.objs.size f cd)) (leaving (envOfC qual scope s.heap.objs.size f cd) e) (fun _ s'' => CX outer H s E e s'') (fun e' s'' => CX outer H s E e' s'') s'
theorem cell_has {sc : Scope} {n : Nat} {x : Str} (h : sc.names.lookup x = some .cell) : ∃ c, (cellsFrom n sc.names []).lookup x = some c := by
  have q := PySem.W.cellsFrom_some sc.names n [] (.inl h)
  exact Option.isSome_iff_exists.mp q
theorem inv_start {CX : CXT} {P : Program} {w : World} {K : PySem.W.Frag} {mg : Str → Option Value} {base : Heap} {N ps : List Str} {qual : Str} {scope : Scope} {f : Addr} {cd : Value} {A : Around} {outer : List Env} {s s1 : Shared} {H : Hp} {E : XK} {us : List Value} {vs : List V}
    (S : FnScope N ps scope) (hd : A.handled = none) (e0 : Env0 P w K mg base A outer s H) (hl : vs.length = ps.length) (r : Vals vs us)
    (x : InCallC s s.heap.objs.size (bindL (envOfC qual scope s.heap.objs.size f cd).kindOf (ps.zip us) fun _ => none) (cellsFrom (s.heap.objs.size + 1) scope.names []) (bindC (envOfC qual scope s.heap.objs.size f cd).kindOf (ps.zip us) fun _ => none) s1) :
    Inv (cxOf CX P w K mg base N qual scope f cd A outer s H E) [] (start N vs) H s1 := by
  have hpl : ps.length ≤ N.length := by have := congrArg List.length S.pre; rw [List.length_take] at this; omega
  obtain ⟨h1, tk, rfl, hk⟩ := x.done
  have noA : ∀ b : Addr, b ∉ (cxOf CX P w K mg base N qual scope f cd A outer s H E).ex := fun b z => absurd (show b ∈ ([] : List Addr) from z) (by simp)
  refine ⟨⟨e0.mod, S.kind, rfl, rfl, Nat.le_refl _, fun y z c h1 h2 => ?_, fun y hy => ?_, fun y c _ h => ?_, fun _ => hd, Around.frames_deeper e0.frames, .inr ⟨rfl, rfl⟩, fun b z => absurd z (noA b), e0.bs, e0.bsz, fun b _ _ => noA b, fun b z => absurd z (noA b), e0.funs, e0.frf⟩,
    rfl, e0.bare, Un.kept hk, ⟨_, x.toInCall.ns, fun i y v h1 h2 h3 => ?_⟩, fun y c h => ⟨_, x.cell y c h⟩, e0.hok.fresh (Nat.le_refl _), fun y c h => ?_, fun p hp => absurd (show p ∈ ([] : List (Addr × Obj)) from hp) (by simp), e0.hok.kept hk, ?_⟩
  · exact name_of_addr x.apart (PySem.mem_of_lookup h1) (PySem.mem_of_lookup h2)
  · have hy : scope.names.lookup y = some .cell ∨ scope.names.lookup y = some .free := hy
    rcases hy with hy | hy
    · exact cell_has hy
    · exact absurd rfl (S.nofree _ (PySem.mem_of_lookup hy))
  · exact Nat.le_of_lt (x.above y c (PySem.mem_of_lookup h))
  · have hi : i < vs.length := by
      unfold start at h2
      by_cases hi : i < vs.length
      · exact hi
      · rw [List.getElem?_append_right (by simpa using hi)] at h2
        rw [List.getElem?_replicate] at h2
        split at h2 <;> cases h2
    have ha : vs[i]? = some v := by
      unfold start at h2
      rw [List.getElem?_append_left (by simpa using hi), List.getElem?_map] at h2
      cases e : vs[i]? with
      | none => rw [e] at h2; cases h2
      | some a => rw [e] at h2; cases h2; rfl
    obtain ⟨u, hu, rv⟩ := r.get ha
    have hp : ps[i]? = some y := by
      rw [← S.pre, List.getElem?_take_of_lt (by omega)]; exact h1
    have ndP : ps.Nodup := by rw [← S.pre]; exact S.nd.sublist (List.take_sublist _ _)
    refine ⟨u, rv, ?_⟩
    rcases S.par y (List.mem_of_getElem? hp) with k | k
    · exact .inl ⟨k, bindL_get ndP hp hu k⟩
    · obtain ⟨c, e⟩ := cell_has (n := s.heap.objs.size + 1) k
      refine .inr ⟨.inl k, c, e, ?_⟩
      have q := x.cell y c e
      rw [bindC_get ndP hp hu (by show scope.names.lookup y ≠ _; rw [k]; decide)] at q
      exact q
  · exact e0.hok.fresh (Nat.le_of_lt (x.above y c (PySem.mem_of_lookup h)))
  · unfold start
    show _ = N.length
    rw [List.length_append, List.length_map, List.length_replicate]
    omega
theorem fn_of {CX : CXT} {P : Program} {w : World} {K : PySem.W.Frag} {mg : Str → Option Value} {base : Heap} {k : Nat} {f : Addr} {name qual : Str} {params : Arguments} {body : List Stmt} {scope : Scope} {dV kV doc pm cdv ct oc : Value} {an od : Option Addr}
    {osl : Array (Option Value)} {N ps : List Str} {sp : Sp} (lk : K.lookup f = some ⟨oc, od, .func (PySem.W.fnOf name qual params body scope dV kV doc pm an cdv ct), osl⟩) (hcd : PySem.W.codeIn K cdv qual = true) (S : FnScope N ps scope)
    (len : ∀ vs H Q E, sp vs H Q E → vs.length = ps.length)
    (hbody : ∀ (A : Around) (outer : List Env) (s : Shared) (H : Hp) (vs : List V) (Q : VK) (E : XK), Room k (A.deeper (envOfC qual scope s.heap.objs.size f cdv)) → sp vs H Q E →
      ∃ t, PSs (cxOf CX P w K mg base N qual scope f cdv A outer s H E) body t ∧ t { nx := fun _ H' => Q .non H', rt := Q } (start N vs) H) :
    FnOk P w K mg base CX (k + 1) f (PySem.W.fnOf name qual params body scope dV kV doc pm an cdv ct) ps sp := by
  refine ⟨len, fun A outer s H args us vs Q E hr e0 hb r hsp => ?_⟩
  have hl := len _ _ _ _ hsp
  have KX : K.In s.heap := e0.mod.kin.keeps fun b o e => (e0.bs b o e).1
  have lim : s.heap.NoLimit := e0.mod.nolimit.keeps fun b o e => (e0.bs b o e).1
  have hkind : ∀ y ∈ ps.zip us, scope.names.lookup y.1 = some .local ∨ (scope.names.lookup y.1 = some .cell ∧ ((cellsFrom (s.heap.objs.size + 1) scope.names []).lookup y.1).isSome = true) := fun ⟨n, v⟩ hy => by
    rcases S.par n (List.of_mem_zip hy).1 with q | q
    · exact .inl q
    · exact .inr ⟨q, PySem.W.cellsFrom_some _ _ _ (.inl q)⟩
  refine codeAny_call_function hr.depth (KX _ _ lk) rfl S.co S.gen rfl (PySem.W.codeRec_of KX hcd) (hb _ _ _ _ ?_)
  refine wpAny_newFunctionEnv_cells S.kind hkind fun env he s1 x => ?_
  subst he
  refine ⟨lim.keeps x.toInCall.keep, codeAny_func ?_⟩
  obtain ⟨t, ht, hq⟩ := hbody A outer s H vs Q E (hr.deeper _) hsp
  have I : Inv (cxOf CX P w K mg base N qual scope f cdv A outer s H E) [] (start N vs) H s1 := inv_start S hr.hd e0 hl r x
  refine wpAny_mono (ht [] s1 (start N vs) H _ I hq) (fun fl s' hs => ?_) fun e s' hs => hs
  have fin : ∀ {σ' : St} {H' : Hp} {v : V} {u : Value}, Inv (cxOf CX P w K mg base N qual scope f cdv A outer s H E) [] σ' H' s' → RelV v u → Q v H' → CE outer P w H s Q u s' :=
    fun {σ' H' v u} J rv q => ⟨v, H', J.os, J.bare, J.base, J.hok, rv, q⟩
  cases fl with
  | ret u =>
    obtain ⟨v, σ', H', J, rv, q⟩ := hs
    exact fin J rv q
  | next =>
    obtain ⟨σ', H', J, q⟩ := hs
    exact fin (v := V.non) (u := Value.none) J rfl q
  | brk =>
    obtain ⟨_, _, _, q⟩ := hs
    exact False.elim q
  | cont =>
    obtain ⟨_, _, _, q⟩ := hs
    exact False.elim q
end L2
namespace L2
open PySem PySem.Spec PyProof.Rows
section
variable {X : Cx} {x : Str} {p pos : Pos} {e : Expr} {es : List Expr} {t : TA} {id T : String} {r : List V → Hp → VK → Prop}
def tCB (r : List V → Hp → VK → Prop) (t : TA) : TE := fun σ H Q => t σ H fun vs H1 => r vs H1 Q
theorem pe_callB (hc : CallR X (.builtin id) r) (hg : Gl X x) (hm : X.mg x = none) (hv : bootBuiltins x = some (.builtin id)) (ha : PA X (e :: es) t) (hn : x ≠ "__name__" := by decide) (hdb : (x == ("__debug__" : Str)) = false := by decide)
    (he : starEach (e :: es) X.env = (false, eval e X.env) :: starEach es X.env := by rfl) (hpl : (backTo pos (starEach es X.env)).any (·.1) = false := by rfl) : PE X (.Call (.Name x p) (e :: es) [] pos) (tCB r t) := by
  intro pins s σ H Q I h
  refine wpAny_Call_Name_kw (ld_blt I hg hm hv ?_ hn hdb)
  exact PyProof.Rows.callWith_builtin1 (thn (ha pos pins s σ H _ I h) fun us s1 ⟨vs, H1, I1, r1, q1⟩ => hc pins s1 σ H1 vs us Q I1 r1 q1) he hpl
theorem pe_callTy (hc : CallR X (.type T) r) (hg : Gl X x) (hm : X.mg x = none) (hv : bootBuiltins x = some (.type T)) (ha : PA X (e :: es) t) (hn : x ≠ "__name__" := by decide) (hdb : (x == ("__debug__" : Str)) = false := by decide)
    (he : starEach (e :: es) X.env = (false, eval e X.env) :: starEach es X.env := by rfl) (hpl : (backTo pos (starEach es X.env)).any (·.1) = false := by rfl) : PE X (.Call (.Name x p) (e :: es) [] pos) (tCB r t) := by
  intro pins s σ H Q I h
  refine wpAny_Call_Name_kw (ld_blt I hg hm hv ?_ hn hdb)
  exact PyProof.Rows.callWith_type1 (thn (ha pos pins s σ H _ I h) fun us s1 ⟨vs, H1, I1, r1, q1⟩ => hc pins s1 σ H1 vs us Q I1 r1 q1) he hpl
end
end L2
namespace HT
open PySem PyProof.Rows
def lexLt : List Int → List Int → Bool
  | [], [] => false
  | [], _ :: _ => true
  | _ :: _, [] => false
  | x :: xs, y :: ys => if x = y then lexLt xs ys else decide (x < y)
section
open PySem.SeqAt
open PySem.AutoSeq1 (wpAny_loadPart')
open PySem.MeetsSeq PySem.MeetsSeq2 PySem.MeetsSeq3
end
section
variable {prog : Program} {w : World} {A : Around} {E : Value → Shared → Prop} {s : Shared}
def sIx (n d : Nat) : Option Int → Nat
  | none => d
  | some v => if v < 0 then (v + (n : Int)).toNat else min v.toNat n
theorem sIx_none (n d : Nat) : sIx n d none = d := rfl
theorem sIx_nat (n d k : Nat) : sIx n d (some (k : Int)) = min k n := by
  show (if (k : Int) < 0 then ((k : Int) + (n : Int)).toNat else min (k : Int).toNat n) = min k n
  rw [if_neg (by omega), Int.toNat_natCast]
end
end HT
namespace L2
open PySem PySem.Spec PyProof.Rows
abbrev TO := St → Hp → (Option Int → Hp → Prop) → Prop
def PO (X : Cx) (e : Option Expr) (t : TO) : Prop :=
  ∀ (pins : List (Addr × Obj)) (s : Shared) (σ : St) (H : Hp) (Q : Option Int → Hp → Prop), Inv X pins σ H s → t σ H Q →
    wpAny (model X.prog X.w) X.A (evalPart e X.env) (fun u s' => ∃ o H', Inv X pins σ H' s' ∧ IsPart u o ∧ Q o H') X.xe s
def tNoPart : TO := fun _ H Q => Q none H
def tPart (t : TE) : TO := fun σ H Q => t σ H fun x H1 => ∃ i, x = .int i ∧ Q (some i) H1
section
variable {X : Cx} {e : Expr} {te : TE} {lo hi : Option Expr} {tl th : TO} {pos p2 : Pos}
theorem po_none : PO X none tNoPart := by
  intro pins s σ H Q I h
  rw [evalPart_none]
  exact wpAny_pure ⟨none, H, I, .none, h⟩
theorem po_some (h : PE X e te) : PO X (some e) (tPart te) := by
  intro pins s σ H Q I hw
  rw [evalPart_some]
  refine thn (h pins s σ H _ I hw) fun u s1 ⟨x, H1, I1, r1, q1⟩ => ?_
  obtain ⟨i, rfl, q⟩ := q1
  obtain ⟨t, rfl⟩ := r1
  exact ⟨some i, H1, I1, .int i t, q⟩
def SlR (X : Cx) (r : V → Option Int → Option Int → Hp → VK → Prop) : Prop :=
  ∀ (pins : List (Addr × Obj)) (s : Shared) (σ : St) (H : Hp) (x : V) (v vl vu : Value) (lo hi : Option Int) (sl : Addr) (Q : VK), Inv X pins σ H s → RelV x v → s.heap.IsSliceOf sl vl vu .none → IsPart vl lo → IsPart vu hi → r x lo hi H Q →
    ∃ T id, typeLookup (.type T) "__getitem__" = pure (some (.builtin id)) ∧ s.TypeIs v T ∧ wpAny (model X.prog X.w) X.A (getItem v (.ref sl)) (EP X pins σ Q) X.xe s
theorem SlR.or {r r' : V → Option Int → Option Int → Hp → VK → Prop} (h : SlR X r) (h' : SlR X r') : SlR X (fun x lo hi H Q => r x lo hi H Q ∨ r' x lo hi H Q) := by
  intro pins s σ H x v vl vu lo hi sl Q I rx hs pl pu q
  rcases q with q | q
  · exact h pins s σ H x v vl vu lo hi sl Q I rx hs pl pu q
  · exact h' pins s σ H x v vl vu lo hi sl Q I rx hs pl pu q
def tSl (r : V → Option Int → Option Int → Hp → VK → Prop) (te : TE) (tl th : TO) : TE := fun σ H Q => te σ H fun x H1 => tl σ H1 fun l H2 => th σ H2 fun u H3 => r x l u H3 Q
theorem pe_slice {r : V → Option Int → Option Int → Hp → VK → Prop} (hr : SlR X r) (he : PE X e te) (hl : PO X lo tl) (hu : PO X hi th) : PE X (.Subscript e (.Slice lo hi none p2) pos) (tSl r te tl th) := by
  intro pins s σ H Q I h
  refine Subscript_ (thn (he pins s σ H _ I h) fun v s1 ⟨x, H1, I1, r1, q1⟩ => ?_)
  refine wpAny_Slice (thn (hl pins s1 σ H1 _ I1 q1) fun vl s2 ⟨l, H2, I2, pl, q2⟩ => thn (hu pins s2 σ H2 _ I2 q2) fun vu s3 ⟨u, H3, I3, pu, q3⟩ => ?_)
  rw [evalPart_none]
  refine wpAny_pure ?_
  have I4 : Inv X pins σ H3 { s3 with heap := s3.heap.push { cls := .type "slice", data := .fields #[vl, vu, .none] } } := I3.kept (t' := s3.toks) fun b ob q => Heap.get?_push_of_some _ q
  obtain ⟨T, id, hT, ht, hg⟩ := hr pins { s3 with heap := s3.heap.push { cls := .type "slice", data := .fields #[vl, vu, .none] } } σ H3 x v vl vu l u s3.heap.objs.size Q I4 r1 (Heap.IsSliceOf.new ..) pl pu q3
  show wpAny (model X.prog X.w) X.A (subscriptTail e (.Slice lo hi none p2) v (.ref s3.heap.objs.size)) (EP X pins σ Q) X.xe { s3 with heap := s3.heap.push { cls := .type "slice", data := .fields #[vl, vu, .none] } }
  exact tail_any (ops := [.ref s3.heap.objs.size, v]) ht hT hg (by with_unfolding_all rfl)
def cutV (xs : List V) (lo hi : Option Int) : List V := (xs.drop (HT.sIx xs.length 0 lo)).take (HT.sIx xs.length xs.length hi - HT.sIx xs.length 0 lo)
theorem cutV_length (xs : List V) (lo hi : Option Int) : (cutV xs lo hi).length ≤ xs.length := by
  unfold cutV
  rw [List.length_take, List.length_drop]
  omega
end
end L2
namespace L2
open PySem PySem.Spec PyProof.Rows
def ixN (n : Nat) (i : Int) : Option Nat := if 0 ≤ i then (if i < n then some i.toNat else none) else if -(n : Int) ≤ i then some (i + n).toNat else none
def atI {α : Type} (xs : List α) (i : Int) : Option α := (ixN xs.length i).bind fun j => xs[j]?
theorem ixN_seq {n : Nat} {i : Int} {j : Nat} (h : ixN n i = some j) : seqIndex? i n = some j ∧ j < n ∧ -(n : Int) ≤ i ∧ i < n := by
  unfold ixN at h
  by_cases h0 : 0 ≤ i
  · rw [if_pos h0] at h
    by_cases h1 : i < n
    · rw [if_pos h1] at h
      have e : i.toNat = j := Option.some.inj h
      exact ⟨by rw [seqIndex_of h0 h1, e], by omega, by omega, h1⟩
    · rw [if_neg h1] at h; cases h
  · rw [if_neg h0] at h
    by_cases h1 : -(n : Int) ≤ i
    · rw [if_pos h1] at h
      have e : (i + n).toNat = j := Option.some.inj h
      exact ⟨by rw [seqIndex_neg (by omega) h1, e], by omega, h1, by omega⟩
    · rw [if_neg h1] at h; cases h
theorem atI_get {α : Type} {xs : List α} {i : Int} {v : α} (h : atI xs i = some v) : ∃ j, seqIndex? i xs.length = some j ∧ xs[j]? = some v ∧ j < xs.length ∧ -(xs.length : Int) ≤ i ∧ i < xs.length := by
  unfold atI at h
  cases e : ixN xs.length i with
  | none => rw [e] at h; cases h
  | some j =>
    rw [e] at h
    obtain ⟨h1, h2, h3, h4⟩ := ixN_seq e
    exact ⟨j, h1, h, h2, h3, h4⟩
theorem atI_nat {α : Type} {xs : List α} {j : Nat} {v : α} (h : xs[j]? = some v) : atI xs (j : Int) = some v := by
  have hj : j < xs.length := (List.getElem?_eq_some_iff.mp h).1
  have e : ixN xs.length (j : Int) = some j := by
    unfold ixN
    rw [if_pos (by omega), if_pos (by omega)]; simp
  unfold atI; rw [e]; exact h
def PlainIx (b : Expr) : Prop := ∀ o i, subscripted b false o i = operate [o, i] (getItem o i)
def IxR (X : Cx) (r : R2) : Prop :=
  ∀ (value slice : Expr) (pins : List (Addr × Obj)) (s : Shared) (σ : St) (H : Hp) (x y : V) (v u : Value) (Q : VK), Inv X pins σ H s → RelV x v → RelV y u → r x y H Q →
    subscripted slice false v u = operate [v, u] (getItem v u) → wpAny (model X.prog X.w) X.A (subscriptTail value slice v u) (EP X pins σ Q) X.xe s
def MtR (X : Cx) (id : String) (r : V → List V → Hp → VK → Prop) : Prop :=
  ∀ (pins : List (Addr × Obj)) (s : Shared) (σ : St) (H : Hp) (x : V) (xs : List V) (v : Value) (us : List Value) (Q : VK), Inv X pins σ H s → RelV x v → Vals xs us → r x xs H Q →
    wpAny (model X.prog X.w) X.A (call (.builtin id) (v :: us)) (EP X pins σ Q) X.xe s
section
variable {X : Cx} {a b : Expr} {ta tb : TE} {pos : Pos}
theorem IxR.or {r r' : R2} (h : IxR X r) (h' : IxR X r') : IxR X (fun x y H Q => r x y H Q ∨ r' x y H Q) := by
  intro value slice pins s σ H x y v u Q I rx ry q hs
  rcases q with q | q
  · exact h value slice pins s σ H x y v u Q I rx ry q hs
  · exact h' value slice pins s σ H x y v u Q I rx ry q hs
theorem MtR.or {id : String} {r r' : V → List V → Hp → VK → Prop} (h : MtR X id r) (h' : MtR X id r') : MtR X id (fun x xs H Q => r x xs H Q ∨ r' x xs H Q) := by
  intro pins s σ H x xs v us Q I rx rs q
  rcases q with q | q
  · exact h pins s σ H x xs v us Q I rx rs q
  · exact h' pins s σ H x xs v us Q I rx rs q
theorem pe_ix {r : R2} (hr : IxR X r) (ha : PE X a ta) (hb : PE X b tb) (hs : PlainIx b) : PE X (.Subscript a b pos) (tOp r ta tb) := by
  intro pins s σ H Q I h
  exact Subscript_ (binT ha hb I h fun v u s2 x y H2 I2 rx ry q => hr a b pins s2 σ H2 x y v u Q I2 rx ry q (hs _ _))
def rIxL (K : PySem.W.Frag) : R2 := fun x y H Q => ∃ p xs i v, x = .ref p ∧ y = .int i ∧ SqL K H p xs ∧ atI xs i = some v ∧ Q v H
def rIxT (K : PySem.W.Frag) : R2 := fun x y H Q => ∃ p xs i v, x = .ref p ∧ y = .int i ∧ SqT K H p xs ∧ atI xs i = some v ∧ Q v H
def rIxS : R2 := fun x y H Q => ∃ z i c, x = .str z ∧ y = .int i ∧ z.length ≤ sizeLine ∧ atI z.cps.toList i = some c ∧ Q (.str ⟨#[c]⟩) H
theorem ix_list : IxR X (rIxL X.K) := by
  intro value slice pins s σ H x y v u Q I rx ry h hs
  obtain ⟨p, xs, i, z, rfl, rfl, hq, he, q⟩ := h
  cases rx
  obtain ⟨t, rfl⟩ := ry
  obtain ⟨its, r, pl, hz⟩ := I.list hq
  obtain ⟨j, h1, h2, h3, h4, h5⟩ := atI_get he
  obtain ⟨w, ew, rw'⟩ := r.get h2
  have hl := r.length
  have hn := line63
  have fin : EP X pins σ Q w s := ⟨z, H, I, rw', q⟩
  by_cases h0 : 0 ≤ i
  · have hj : i.toNat = j := by
      rw [seqIndex_of h0 h5] at h1
      exact Option.some.inj h1
    exact item_listR pl.isList h0 (by omega) (by rw [hj]; simpa using ew) fin hs
  · have hj : (i + (its.toArray.size : Int)).toNat = j := by
      rw [seqIndex_neg (by omega) h4] at h1
      rw [List.size_toArray, ← hl]
      exact Option.some.inj h1
    exact subscriptTail_builtinR (x := w) pl.isList.typeIs slot_list_getitem.lookup
      (wpAny_getItem_list_neg (Q := fun r s' => r = w ∧ EP X pins σ Q r s') pl.isList (by omega) (by rw [List.size_toArray] <;> omega) (by omega) (by rw [hj]; simpa using ew) ⟨rfl, fin⟩) hs
theorem ix_tup : IxR X (rIxT X.K) := by
  intro value slice pins s σ H x y v u Q I rx ry h hs
  obtain ⟨p, xs, i, z, rfl, rfl, hq, he, q⟩ := h
  cases rx
  obtain ⟨t, rfl⟩ := ry
  obtain ⟨its, r, pl, hz⟩ := I.tuple hq
  obtain ⟨j, h1, h2, h3, h4, h5⟩ := atI_get he
  obtain ⟨w, ew, rw'⟩ := r.get h2
  have hl := r.length
  have hn := line63
  have fin : EP X pins σ Q w s := ⟨z, H, I, rw', q⟩
  exact subscriptTail_builtinR (x := w) pl.typeIs slot_tuple_getitem.lookup
    (getItem_tuple (j := j) (Q := fun r s' => r = w ∧ EP X pins σ Q r s') pl (by omega) (by omega) (by rw [List.size_toArray, ← hl]; exact h1) (by simpa using ew) ⟨rfl, fin⟩) hs
theorem ix_str : IxR X rIxS := by
  intro value slice pins s σ H x y v u Q I rx ry h hs
  obtain ⟨z, i, c, rfl, rfl, hz, he, q⟩ := h
  obtain ⟨t, rfl⟩ := rx
  obtain ⟨t', rfl⟩ := ry
  obtain ⟨j, h1, h2, h3, h4, h5⟩ := atI_get he
  have hl : z.cps.toList.length = z.length := by simp [Str.length]
  rw [hl] at h1 h4 h5
  have hn := line63
  exact tail_any (typeIs_str s z t) slot_str_getitem.lookup (getItem_str (c := c) (by
    have e1 : decide (i < -(2 ^ 63 : Int)) = false := decide_eq_false (by omega)
    have e2 : decide (i ≥ 2 ^ 63) = false := decide_eq_false (by omega)
    rw [e1, e2, Bool.or_false]) (by rw [h1]; simpa using h2) ⟨.str ⟨#[c]⟩, H, I.tok _, ⟨_, rfl⟩, q⟩) hs
def rIx (K : PySem.W.Frag) : R2 := fun x y H Q => rIxL K x y H Q ∨ rIxT K x y H Q ∨ rIxS x y H Q
theorem ix_seq : IxR X (rIx X.K) := ix_list.or (ix_tup.or ix_str)
theorem Inv.lst {pins : List (Addr × Obj)} {σ : St} {H : Hp} {s : Shared} {p : Addr} {xs : List V} (I : Inv X pins σ H s) (h : H p = some (.lst xs)) :
    ∃ (its : List Value) (n : Nat), Vals xs its ∧ s.heap.get? p = some { cls := .type "list", data := .seq its.toArray n } ∧ xs.length ≤ sizeLine := by
  obtain ⟨z, its, n, r, e⟩ := I.hok p _ h
  exact ⟨its, n, r, e, z⟩
def rSetL : V → V → V → Hp → (Hp → Prop) → Prop := fun o i v H Q => ∃ p xs k j, o = .ref p ∧ i = .int k ∧ H p = some (.lst xs) ∧ ixN xs.length k = some j ∧ Q (upd H p (.lst (xs.set j v)))
theorem slice_bounds (lo hi : Option Int) (n : Nat) : (sliceBounds lo hi none n).1 = ((HT.sIx n 0 lo : Nat) : Int) ∧ (sliceBounds lo hi none n).2.1 = ((HT.sIx n n hi : Nat) : Int) ∧ (sliceBounds lo hi none n).2.2 = 1 := by
  refine ⟨?_, ?_, rfl⟩
  · cases lo with
    | none => simp [sliceBounds, HT.sIx]
    | some i =>
      simp only [sliceBounds, HT.sIx, Option.getD_none, show (1 : Int) > 0 by decide, if_true]
      by_cases h : i < 0
      · simp only [h, if_true] <;> omega
      · simp only [h, if_false] <;> omega
  · cases hi with
    | none => simp [sliceBounds, HT.sIx]
    | some i =>
      simp only [sliceBounds, HT.sIx, Option.getD_none, show (1 : Int) > 0 by decide, if_true]
      by_cases h : i < 0
      · simp only [h, if_true] <;> omega
      · simp only [h, if_false] <;> omega
theorem slicePick_cut (its : List Value) (lo hi : Option Int) : slicePick its.toArray lo hi none = ((its.drop (HT.sIx its.length 0 lo)).take (HT.sIx its.length its.length hi - HT.sIx its.length 0 lo)).toArray := by
  obtain ⟨h1, h2, h3⟩ := slice_bounds lo hi its.toArray.size
  unfold slicePick
  rw [h1, h2, h3]
  simp only [sliceRange_one, pick_run, List.size_toArray] <;> rfl
def rSlL (K : PySem.W.Frag) : V → Option Int → Option Int → Hp → VK → Prop := fun x lo hi H Q => ∃ a xs, x = .ref a ∧ SqL K H a xs ∧ ∀ p, H p = none → Q (.ref p) (upd H p (.lst (cutV xs lo hi)))
theorem sl_list : SlR X (rSlL X.K) := by
  intro pins s σ H x v vl vu lo hi sl Q I rx hs pl pu h
  obtain ⟨a, xs, rfl, hx, q⟩ := h
  cases rx
  obtain ⟨its, r, ht, hz⟩ := I.list hx
  have hlen := r.length
  refine ⟨"list", _, slot_list_getitem.lookup, ht.isList.typeIs, ?_⟩
  refine wpAny_getItem_list_slice ht.isList hs pl pu .none (by simp) ?_ (by rw [List.size_toArray] <;> omega)
  rw [slicePick_cut, ← hlen]
  refine ⟨.ref s.heap.objs.size, _, I.laid (t' := s.toks) (o := .lst (cutV xs lo hi)) (fun b ob q => Heap.get?_push_of_some _ q) (Nat.le_refl _) ?_, rfl, q _ (I.hok.fresh (Nat.le_refl _))⟩
  exact ⟨Nat.le_trans (cutV_length xs lo hi) hz, _, 0, (r.drop (HT.sIx xs.length 0 lo)).take (HT.sIx xs.length xs.length hi - HT.sIx xs.length 0 lo), Heap.get?_push_size _ rfl⟩
theorem CallR.or {f : Value} {r r' : List V → Hp → VK → Prop} (h : CallR X f r) (h' : CallR X f r') : CallR X f (fun xs H Q => r xs H Q ∨ r' xs H Q) := by
  intro pins s σ H xs us Q I rs q
  rcases q with q | q
  · exact h pins s σ H xs us Q I rs q
  · exact h' pins s σ H xs us Q I rs q
theorem call_list_of : CallR X (.type "list") (fun xs H Q => ∃ p ys, xs = [.ref p] ∧ (SqL X.K H p ys ∨ SqT X.K H p ys) ∧ ∀ l, H l = none → Q (.ref l) (upd H l (.lst ys))) := by
  intro pins s σ H xs us Q I r h
  obtain ⟨p, ys, rfl, hq, q⟩ := h
  obtain ⟨u, rfl, rx⟩ := vals1 r
  cases rx
  have fin : ∀ (its : List Value), Vals ys its → ys.length ≤ sizeLine → ∀ (h' : Heap) (c' : Nat), (∀ b o', s.heap.get? b = some o' → h'.get? b = some o') →
      h'.get? s.heap.objs.size = some { cls := .type "list", dict := none, data := .seq its.toArray c', slots := #[] } → EP X pins σ Q (.ref s.heap.objs.size) { s with heap := h' } := fun its r' hz h' c' kp e =>
    ⟨.ref s.heap.objs.size, _, I.laid (t' := s.toks) kp (Nat.le_refl _) (show ObjOk X.prog X.w _ h' _ (.lst ys) from ⟨hz, its, c', r', e⟩), rfl, q _ (I.hok.fresh (Nat.le_refl _))⟩
  rcases hq with hq | hq
  · obtain ⟨its, r', pl, hz⟩ := I.list hq
    have hlen := r'.length
    obtain ⟨o, ho, hc, n, hd⟩ := pl.isList
    exact call_list_seq p (.inl rfl) ho hc hd (fun h' c' kp e => fin its r' hz h' c' kp e) (by simp only [List.size_toArray] <;> omega)
  · obtain ⟨its, r', pl, hz⟩ := I.tuple hq
    have hlen := r'.length
    obtain ⟨o, ho, hc, n, hd⟩ := pl
    exact call_list_seq p (.inr rfl) ho hc hd (fun h' c' kp e => fin its r' hz h' c' kp e) (by simp only [List.size_toArray] <;> omega)
def tyV (K : PySem.W.Frag) (T : String) (x : V) (H : Hp) : Prop := match x with
  | .str _ => T = "str"
  | .int _ => T = "int"
  | .ref p => (T = "list" ∧ ∃ xs, SqL K H p xs) ∨ (T = "tuple" ∧ ∃ o, K.lookup p = some o ∧ o.cls = .type "tuple" ∧ o.dict = none) ∨
      (T = "dict" ∧ ((∃ kvs, H p = some (.dK kvs)) ∨ ∃ kvs, H p = some (.dT kvs))) ∨ (T = "set" ∧ ∃ S n, H p = some (.set S n))
  | _ => False
theorem tyV_is {pins : List (Addr × Obj)} {σ : St} {H : Hp} {s : Shared} {T : String} {x : V} {v : Value} (I : Inv X pins σ H s) (r : RelV x v) (ty : tyV X.K T x H) :
    s.TypeIs v T ∧ ∀ a, v = .ref a → ∃ ob, s.heap.get? a = some ob ∧ ob.dict = none := by
  cases x with
  | str z =>
    obtain ⟨t, rfl⟩ := r
    cases (show T = "str" from ty)
    exact ⟨typeIs_str s z t, fun _ e => nomatch e⟩
  | int i =>
    obtain ⟨t, rfl⟩ := r
    cases (show T = "int" from ty)
    exact ⟨typeIs_int s i t, fun _ e => nomatch e⟩
  | ref p =>
    cases r
    rcases ty with ⟨rfl, xs, hq⟩ | ⟨rfl, o, hk, hc, hd⟩ | ⟨rfl, hk⟩ | ⟨rfl, S, n, hk⟩
    · obtain ⟨its, _, pl, _⟩ := I.list hq
      refine ⟨pl.isList.typeIs, fun a e => ?_⟩
      cases e
      obtain ⟨o, n, e, c, hd, _⟩ := pl
      exact ⟨o, e, hd⟩
    · refine ⟨⟨o, I.kIn p o hk, hc⟩, fun a e => ?_⟩
      cases e
      exact ⟨o, I.kIn _ o hk, hd⟩
    · have z : ∃ o, s.heap.get? p = some o ∧ o.ExactDict := by
        rcases hk with ⟨kvs, hk⟩ | ⟨kvs, hk⟩
        · obtain ⟨_, _, _, _, o, _, _, e, ex, _⟩ := I.hok p _ hk
          exact ⟨o, e, ex⟩
        · obtain ⟨_, _, _, _, o, _, _, e, ex, _⟩ := I.hok p _ hk
          exact ⟨o, e, ex⟩
      obtain ⟨o, e, ex⟩ := z
      refine ⟨⟨o, e, ex.1⟩, fun a e2 => ?_⟩
      cases e2
      exact ⟨o, e, ex.2.1⟩
    · obtain ⟨o, _, _, _, e, ex, _⟩ := I.hok p _ hk
      refine ⟨⟨o, e, ex.1⟩, fun a e2 => ?_⟩
      cases e2
      exact ⟨o, e, ex.2.1⟩
  | _ => exact False.elim ty
def tBM0 (K : PySem.W.Frag) (T : String) (r : V → List V → Hp → VK → Prop) (to : TE) : TE := fun σ H Q => to σ H fun x H1 => tyV K T x H1 ∧ r x [] H1 Q
def tBM (K : PySem.W.Frag) (T : String) (r : V → List V → Hp → VK → Prop) (to : TE) (t : TA) : TE := fun σ H Q => to σ H fun x H1 => tyV K T x H1 ∧ t σ H1 fun xs H2 => r x xs H2 Q
variable {o e : Expr} {es : List Expr} {to : TE} {t : TA} {name : Str} {apos cpos : Pos} {T id : String} {r : V → List V → Hp → VK → Prop}
theorem pe_bm (pa : PlainAttrs T) (slot : Slot T name id) (hty : typeOf (.builtin id) = pure (.type "method_descriptor")) (hm : MtR X id r) (ho : PE X o to) (ha : PA X (e :: es) t)
    (hbase : attributeBase o name X.env (eval o X.env) = eval o X.env := by rfl)
    (hfew : ((backTo cpos (starEach (e :: es) X.env)).all (fun x => !x.1) && (backToKw cpos (keywordEach [] X.env)).all (fun x => x.1.isSome)
      && decide ((e :: es).length + ([] : List Keyword).length + (if ([] : List Keyword).isEmpty then 0 else 1) < 30)) = true := by rfl)
    (hline : (apos.endLine == cpos.line) = true := by rfl) (hs : starEach (e :: es) X.env = (false, eval e X.env) :: starEach es X.env := by rfl) (hplain : (backTo cpos (starEach es X.env)).any (·.1) = false := by rfl) :
    PE X (.Call (.Attribute o name apos) (e :: es) [] cpos) (tBM X.K T r to t) := by
  intro pins s σ H Q I h
  refine wpAny_Call_method_late hbase hfew hline rfl (thn (ho pins s σ H _ I h) fun v s1 ⟨x, H1, I1, r1, ty, q1⟩ => ?_)
  obtain ⟨h1, h2⟩ := tyV_is I1 r1 ty
  refine ⟨T, id, pa, slot, hty, h1, h2, ?_⟩
  have hA := ha cpos pins s1 σ H1 _ I1 q1
  rw [hs] at hA ⊢
  refine Calls.callWith_builtin (by show (false || (backTo cpos (starEach es X.env)).any (·.1)) = false; rw [hplain] <;> rfl) (Calls.evalArgs_plain ?_)
  exact thn hA fun us s2 ⟨vs, H2, I2, r2, q2⟩ => hm pins s2 σ H2 x vs v us Q I2 r1 r2 q2
/- xs.append(e), list.index on a module's tuple .. are MtR facts of 06m -/
end
end L2
namespace L2
open PySem PySem.Spec PyProof.Rows
def MtM (X : Cx) (id : String) (r : V → List V → Hp → VK → Prop) : Prop :=
  ∀ (pins : List (Addr × Obj)) (s : Shared) (σ : St) (H : Hp) (x : V) (xs : List V) (v : Value) (us : List Value) (Q : VK), Inv X pins σ H s → RelV x v → Vals xs us → r x xs H Q →
    wpAny (model X.prog X.w) X.A (call (.builtin id) (v :: us)) (EP X pins σ Q) X.xe s
theorem Vals.one : ∀ {x : V} {us : List Value}, Vals [x] us → ∃ u, us = [u] ∧ RelV x u
  | _, _, .cons r .nil => ⟨_, rfl, r⟩
theorem Vals.zero : ∀ {us : List Value}, Vals [] us → us = []
  | _, .nil => rfl
theorem Vals.reverse {xs : List V} {us : List Value} (h : Vals xs us) : Vals xs.reverse us.reverse := by
  induction h with
  | nil => exact .nil
  | cons r t ih => rw [List.reverse_cons, List.reverse_cons]; exact Vals.append ih (.cons r .nil)
section
variable {X : Cx} {pins : List (Addr × Obj)} {σ : St} {H : Hp} {s : Shared} {l b : Addr} {xs ys zs : List V}
theorem Inv.lset {its its' : List Value} {n : Nat} {f : Array Value → Array Value} {t' : Nat} (I : Inv X pins σ H s) (hH : H l = some (.lst xs))
    (e : s.heap.get? l = some { cls := .type "list", data := .seq its.toArray n }) (hf : f its.toArray = its'.toArray) (hv : Vals ys its') (hz : ys.length ≤ sizeLine) :
    Inv X pins σ (upd H l (.lst ys)) { s with heap := s.heap.update l (Obj.mapSeq f), toks := t' } := by
  have q := PySem.IsL.update e f
  rw [hf] at q
  refine I.write (x := l) (e := l) (by rw [hH]; exact trivial) (.inl rfl) (fun b' u hb hu => (Heap.get?_update_other s.heap (Obj.mapSeq f) (Ne.symm hb)).trans hu) ⟨_, q⟩ ?_
  exact ⟨hz, its', _, hv, q⟩
theorem Inv.lnew {its : List Value} {t' : Nat} (I : Inv X pins σ H s) (hv : Vals ys its) (hz : ys.length ≤ sizeLine) :
    Inv X pins σ (upd H s.heap.objs.size (.lst ys)) { s with heap := s.heap.push { cls := .type "list", data := .seq its.toArray }, toks := t' } :=
  I.laid (fun _ _ q => Heap.get?_push_of_some _ q) (Nat.le_refl _) ⟨hz, its, 0, hv, Heap.get?_push_size _ rfl⟩
theorem Inv.fresh (I : Inv X pins σ H s) : H s.heap.objs.size = none := I.hok.fresh (Nat.le_refl _)
theorem Inv.lstM (I : Inv X pins σ H s) (hH : H l = some (.lst xs)) : xs.length ≤ sizeLine ∧ ∃ (its : List Value) (n : Nat), Vals xs its ∧ xs.length = its.length ∧ s.heap.get? l = some { cls := .type "list", data := .seq its.toArray n } := by
  obtain ⟨z, its, n, r, e⟩ := I.hok l _ hH
  exact ⟨z, its, n, r, r.length, e⟩
end
section
variable {X : Cx}
def rAppend : V → List V → Hp → VK → Prop := fun x vs H Q => ∃ l xs y, x = .ref l ∧ vs = [y] ∧ H l = some (.lst xs) ∧ xs.length < sizeLine ∧ Q .non (upd H l (.lst (xs ++ [y])))
theorem mt_append : MtM X "list.append" rAppend := by
  intro pins s σ H x vs v us Q I rx rv h
  obtain ⟨l, xs, y, rfl, rfl, hH, hz, q⟩ := h
  cases rx
  obtain ⟨u, rfl, ru⟩ := rv.one
  obtain ⟨z, its, n, r, hl, e⟩ := I.lstM hH
  refine call_meets F.slot_list_append ⟨_, e, rfl⟩ F.entry_list_append (F.args_list_append_2 _ _) (PySem.list_append l its.toArray n u (by rw [List.size_toArray]; omega)) ⟨e, ?_⟩
  refine ⟨.non, _, I.lset (its' := its ++ [u]) hH e (by simp) (r.append (.cons ru .nil)) ?_, rfl, q⟩
  rw [List.length_append, List.length_singleton]
  omega
def rExtend : V → List V → Hp → VK → Prop := fun x vs H Q => ∃ l b xs zs, x = .ref l ∧ vs = [.ref b] ∧ H l = some (.lst xs) ∧ H b = some (.lst zs) ∧ xs.length + zs.length ≤ sizeLine ∧ Q .non (upd H l (.lst (xs ++ zs)))
def rCat : R2 := fun x y H Q => ∃ l b xs zs, x = .ref l ∧ y = .ref b ∧ H l = some (.lst xs) ∧ H b = some (.lst zs) ∧ xs.length + zs.length ≤ sizeLine ∧ ∀ p, H p = none → Q (.ref p) (upd H p (.lst (xs ++ zs)))
theorem op_cat : OpR X (binaryOp .Add) rCat := by
  intro pins s σ H x y v u Q I rx ry h
  obtain ⟨l, b, xs, zs, rfl, rfl, hH, hB, hz, q⟩ := h
  cases rx
  cases ry
  obtain ⟨z, its, n, r, hl, e⟩ := I.lstM hH
  obtain ⟨z2, its2, n2, r2, hl2, e2⟩ := I.lstM hB
  refine PySem.P.add_list e e2 ?_ (by rw [List.size_toArray, List.size_toArray]; omega)
  have ea : its.toArray ++ its2.toArray = (its ++ its2).toArray := by simp
  rw [ea]
  exact ⟨.ref _, _, I.lnew (t' := s.toks) (r.append r2) (by rw [List.length_append]; omega), rfl, q _ I.fresh⟩
def rRep : R2 := fun x y H Q => ∃ l k xs, x = .ref l ∧ y = .int k ∧ H l = some (.lst xs) ∧ -(2 ^ 63) ≤ k ∧ k < 2 ^ 63 ∧ xs.length * k.toNat ≤ sizeLine ∧
  ∀ p, H p = none → Q (.ref p) (upd H p (.lst (List.replicate k.toNat xs).flatten))
end
section
variable {prog : Program} {w : World} {A : Around} {E : Value → Shared → Prop} {s : Shared}
set_option maxRecDepth 100000 in
end
section
variable {X : Cx}
end
end L2
namespace Att
open PySem PySem.W PySem.Calls PyProof.Rows
theorem ints_of_wellAll {P : Params} {h : Heap} : ∀ (ns : List Int) (vs : List Value), WellAll P h vs (ns.map WData.int) → IntsAre vs ns := by
  intro ns
  induction ns with
  | nil =>
    intro vs w
    rw [List.map_nil] at w
    cases w
    exact .nil
  | cons n ns ih =>
    intro vs w
    rw [List.map_cons] at w
    cases w with
    | cons a b =>
      cases a
      exact .cons _ _ (ih _ b)
theorem script_of {l : OpenLaw} {n : Nat} (hn : l.most = some n) {P : Params} {h : Heap} {args : List WData} {vals : List Value}
    (hpre : l.row.toRowW.claim.pre args = true) (hwl : WellAll P h vals args) :
    ∃ a vs ns, vals = [Value.ref a] ∧ args = [WData.list (ns.map WData.int)] ∧ h.get? a = some { cls := .type "list", data := .seq vs.toArray } ∧ IntsAre vs ns ∧ ns.length ≤ n := by
  have hsh : WShape.hasAll [] args [.list .int] = true := (pre_splitW hpre).1
  have hc : l.pre.holds [] { args := args } = true := (pre_splitW hpre).2
  obtain ⟨d, r, rfl, h1, h2⟩ := hasAllW_cons hsh
  obtain rfl := hasAllW_nil h2
  obtain ⟨xs, rfl, h3⟩ := hasW_list h1
  obtain ⟨ns, rfl⟩ := items_int h3
  have hlen : ns.length ≤ n := by
    unfold OpenLaw.pre at hc
    have h4 : (WTm.not (.lt (.lit (.int (n : Int))) (.len (.arg 0)))).holds [] { args := [.list (ns.map .int)] } = true := by
      have h4 := (holds_andW hc).1
      rw [hn] at h4
      exact h4
    have h5 := condW_of h4 (w_not (w_lt w_lit (w_len_list (w_arg rfl))))
    rw [List.length_map] at h5
    refine Nat.le_of_not_lt fun q => ?_
    have q' : (n : Int) < ((ns.length : Nat) : Int) := by omega
    first
      | (rw [decide_eq_true q'] at h5; exact absurd h5 (by decide))
      | (simp at h5; omega)
  cases hwl with
  | cons w1 w2 =>
    cases w2
    cases w1 with
    | list ho hall => exact ⟨_, _, ns, rfl, rfl, ho, ints_of_wellAll ns _ hall, hlen⟩
theorem post_true (l : OpenLaw) (args : List WData) : l.row.toRowW.claim.post args (.bool true) args = true :=
  postW_of (r := l.row.toRowW) (X := (true == true))
    (show WShape.has [] (.bool true) .bool = true by first | rfl | decide | simp [WShape.has, WShape.arms, WShape.armsAll])
    (show (WTm.eq .res (.lit (.bool true))).value [] { args := args, res := some (.bool true), after := args } = some (.bool (true == true)) from w_eq_bool (w_res rfl) w_lit) rfl
theorem attach_call {l : OpenLaw} {n : Nat} {q : Program} {loose : List Str} {XP : (Str → Option Value) → Heap → Prop} {YP : World → Heap → Prop} {d : DefRec}
    (hn : l.most = some n) (hdf : d.params.defaults = [])
    (call : ∀ (w : World) (s₀ s₁ : Shared) (mg mb : Str → Option Value) (fa : Addr) (o : Obj) (pm cd doc : Value) (a : Addr) (vs : List Value) (ns : List Int),
      Ground q loose [] XP w s₀ mg mb s₁.heap → YP w s₁.heap →
      s₁.heap.get? fa = some o → o.data = .func (docDef d.name d.params d.body d.scope pm cd doc) → s₁.heap.CodeRec cd d.name → mg d.name = some (.ref fa) →
      s₁.heap.get? a = some { cls := .type "list", data := .seq vs.toArray } → IntsAre vs ns → ns.length ≤ n → s₁.gens = #[] →
      codeAny (model l.prog w) callerA (.call (.ref fa) ⟨[.ref a], []⟩) (fun r s' => r = .ok (.ret (.bool true)) ∧ OldK s₁.heap s'.heap ∧ s'.os = s₁.os ∧ AllBare s'.gens) s₁) :
    WalkO q loose XP YP l.row.toRowW d [] (fun f vs => PySem.call f vs) := by
  intro w s₀ s₁ mg mb G Y fa o pm cd doc dV kV ho hd hcd hD hmg hg args vals as hpre hlay hrd hwl hlo
  obtain rfl : dV = .none := Dflts.none hD hdf
  obtain rfl : kV = .none := Dflts.noKw hD
  obtain ⟨a, vs, ns, rfl, rfl, hobj, hints, hlen⟩ := script_of hn hpre hwl
  refine enter_call (codeAny_mono (call w s₀ s₁ mg mb fa o pm cd doc a vs ns G Y ho (fd_plain hd) hcd hmg hobj hints hlen hg) fun r s' hq => ?_)
  obtain ⟨rfl, h2, h3, h4⟩ := hq
  exact ⟨.inl ⟨.bool true, .bool true, [], rfl, fun _ => rfl, .bool true, post_true l _, fun _ => ⟨List.Pairwise.nil, fun _ hm => (nomatch hm)⟩⟩, h2, h3, h4⟩
section
variable {prog : Program} {w : World} {A : Around} {E : Value → Shared → Prop} {s : Shared} {K : Frag}
end
end Att
namespace L2
open PySem PySem.Spec PyProof.Rows
theorem vals_ints : ∀ {vs : List Value} {ns : List Int}, IntsAre vs ns → Vals (ns.map V.int) vs
  | _, _, .nil => .nil
  | _, _, .cons n t h => .cons ⟨t, rfl⟩ (vals_ints h)
def Only (H : Hp) : Prop := ∀ b, H b = none ∨ ∃ o xs, H b = some (.frz o (.lst xs))
theorem law_call {P : Program} {w : World} {K : PySem.W.Frag} {mg mb : Str → Option Value} {CX : CXT} {k : Nat} {fa a : Addr} {fd : FuncData} {x : Str} {sp : Sp} {s₁ : Shared} {vs : List Value} {ns : List Int}
    (KX : K.In s₁.heap) (hns : s₁.heap.Ns mainGlobals mg) (hb : s₁.heap.Ns builtinsNs mb) (hbb : ∀ x : Str, x ≠ "__name__" → mb x = bootBuiltins x) (hlim : s₁.heap.NoLimit) (hg : s₁.gens = #[])
    (ha : s₁.heap.get? a = some { cls := .type "list", data := .seq vs.toArray }) (hi : IntsAre vs ns) (hl : ns.length ≤ sizeLine) (hr : Room k callerA)
    (F : ∀ base : Heap, K.In base → base.Ns mainGlobals mg → FnOk P w K mg base CX k fa fd [x] sp) (hbind : ∀ (s : Shared) (u : Value), BindsTo s fd ⟨[u], []⟩ [(x, u)])
    (hsp : ∀ H : Hp, Only H → SqL K H a (ns.map V.int) → sp [.ref a] H (fun v _ => v = .bl true) fun _ _ _ => False)
    (hCX : ∀ H e s', CX [] H s₁ (fun _ _ _ => False) e s' → False) :
    codeAny (model P w) callerA (.call (.ref fa) ⟨[.ref a], []⟩) (fun r s' => r = .ok (.ret (.bool true)) ∧ OldK s₁.heap s'.heap ∧ s'.os = s₁.os ∧ AllBare s'.gens) s₁ := by
  have rv := vals_ints hi
  have lenV := hi.length
  have core : ∀ H : Hp, Only H → SqL K H a (ns.map V.int) → HOk P w H s₁.heap → (∀ b, H b ≠ none → b = a) → (H a ≠ none → K.lookup a = none) →
      codeAny (model P w) callerA (.call (.ref fa) ⟨[.ref a], []⟩) (fun r s' => r = .ok (.ret (.bool true)) ∧ OldK s₁.heap s'.heap ∧ s'.os = s₁.os ∧ AllBare s'.gens) s₁ := by
    intro H hO hS hok hA hK
    have base_of : ∀ {b : Addr} {o : Obj}, s₁.heap.get? b = some o → H b = none → (hidT s₁.heap H).get? b = some o := fun e n => hidT_get e n
    have noA : ∀ {b : Addr} {o : Obj} {es : Array DictEntry} {ep : Nat}, s₁.heap.get? b = some o → o.data = .dict es ep → H b = none := fun {b o es ep} e d => by
      cases q : H b with
      | none => rfl
      | some u =>
        have e' : b = a := hA b (by rw [q]; simp)
        subst e'
        rw [ha] at e; cases e
        have d' : Data.seq vs.toArray _ = Data.dict es ep := d
        cases d'
    have nsK : ∀ {b : Addr} {m : Str → Option Value}, s₁.heap.Ns b m → (hidT s₁.heap H).Ns b m := fun {b m} ⟨o, es, ep, e, d, r⟩ => ⟨o, es, ep, base_of e (noA e d), d, r⟩
    have hKb : K.In (hidT s₁.heap H) := fun b o e => base_of (KX b o e) (by
      cases q : H b with
      | none => rfl
      | some u =>
        have e' : b = a := hA b (by rw [q]; simp)
        subst e'
        rw [hK (by rw [q]; simp)] at e; cases e)
    have hM : Mod K mg (hidT s₁.heap H) := ⟨hKb, nsK hns, ⟨mb, nsK hb, hbb⟩, let ⟨mc, h1, h2⟩ := hlim; ⟨mc, nsK h1, h2⟩⟩
    have e0 : Env0 P w K mg (hidT s₁.heap H) callerA [] s₁ H := ⟨rfl, hM, fun b o e => of_hidT e, Nat.le_of_eq (hidT_size _ _), trivial, fun b hb => absurd (show b ∈ ([] : List Addr) from hb) (by simp), hok, .of_eq hg⟩
    refine codeAny_mono ((F _ hKb (nsK hns)).run callerA [] s₁ H ⟨[.ref a], []⟩ [.ref a] [.ref a] _ _ hr e0 (hbind s₁ (.ref a)) (.cons rfl .nil) (hsp H hO hS)) fun r s' h => ?_
    cases r with
    | error e => exact (hCX H e s' h).elim
    | ok fl =>
      cases fl with
      | next => exact False.elim h
      | brk => exact False.elim h
      | cont => exact False.elim h
      | ret u =>
        obtain ⟨v, H', os, bare, un, hok', r', q⟩ := h
        have q' : v = .bl true := q
        subst q'
        obtain rfl : u = Value.bool true := r'
        refine ⟨rfl, OldK.of_keep fun b o e => ?_, os, bare⟩
        cases q : H b with
        | none => exact un.keep b o e q (by intro z; exact absurd (show b ∈ ([] : List Addr) from z) (by simp)) (by simp)
        | some u =>
          rcases hO b with z | ⟨ob, xs, z⟩
          · rw [q] at z; cases z
          · have z2 := un.frzs b ob _ z
            obtain ⟨e1, _⟩ := hok b _ z
            obtain ⟨e2, _⟩ := hok' b _ z2
            rw [e] at e1; cases e1
            exact e2
  cases hk : K.lookup a with
  | some o =>
    have e := KX a o hk
    rw [ha] at e
    cases e
    refine core (fun _ => none) (fun _ => .inl rfl) (.inr ⟨_, vs.toArray, _, hk, rfl, rfl, rfl, by rw [List.size_toArray, lenV]; exact hl, by simpa using rv⟩) (fun b u z => by have z' : (none : Option HO) = some u := z; cases z') (fun b z => absurd rfl z) fun z => absurd rfl z
  | none =>
    refine core (fun b => if b = a then some (.frz { cls := .type "list", data := .seq vs.toArray } (.lst (ns.map V.int))) else none) (fun b => ?_) (.inl (.inr ⟨{ cls := .type "list", data := .seq vs.toArray }, if_pos rfl⟩)) (fun b u z => ?_) (fun b z => ?_) fun _ => hk
    · by_cases hb : b = a
      · exact .inr ⟨_, _, if_pos hb⟩
      · exact .inl (if_neg hb)
    · by_cases hb : b = a
      · have z' := (if_pos hb).symm.trans z
        cases z'
        subst hb
        exact ⟨ha, by rw [List.length_map]; exact hl, vs, _, rv, ha⟩
      · have z' := (if_neg hb).symm.trans z
        cases z'
    · by_cases hb : b = a
      · exact hb
      · exact absurd (if_neg hb) z
end L2
namespace L2
open PySem PySem.Spec PyProof.Rows
abbrev KOf {K : PySem.W.Frag} {h : Heap} (_ : K.In h) : PySem.W.Frag := K
theorem walk_of {l : PySem.W.OpenLaw} {n k : Nat} {q : Program} {loose : List Str} {XP : (Str → Option Value) → Heap → Prop} {YP : World → Heap → Prop} {d : DefRec} {K : Params → PySem.W.Frag} {CX : World → CXT} {sp : World → Sp} {x : Str}
    (hn : l.most = some n) (hn2 : n ≤ sizeLine) (hdf : d.params.defaults = []) (hr : Room k callerA)
    (hY : ∀ (w : World) (h : Heap), YP w h → (K w.params).In h)
    (F : ∀ (w : World) (mg : Str → Option Value) (fa : Addr) (h : Heap), (K w.params).In h → h.Ns mainGlobals mg → mg d.name = some (.ref fa) →
      ∃ fd : FuncData, (∀ (s : Shared) (u : Value), BindsTo s fd ⟨[u], []⟩ [(x, u)]) ∧
        ∀ base : Heap, (K w.params).In base → base.Ns mainGlobals mg → FnOk l.prog w (K w.params) mg base (CX w) k fa fd [x] (sp w))
    (hsp : ∀ (w : World) (H : Hp) (a : Addr) (ns : List Int), ns.length ≤ n → Only H → SqL (K w.params) H a (ns.map V.int) → sp w [.ref a] H (fun v _ => v = .bl true) fun _ _ _ => False)
    (hCX : ∀ (w : World) (H : Hp) (s : Shared) (e : Value) (s' : Shared), CX w [] H s (fun _ _ _ => False) e s' → False) :
    PySem.W.WalkO q loose XP YP l.row.toRowW d [] (fun f vs => PySem.call f vs) := by
  refine Att.attach_call hn hdf fun w s₀ s₁ mg mb fa o pm cd doc a vs ns G Y ho hd hcd hmg hobj hints hlen hg => ?_
  have KX := hY w _ Y
  obtain ⟨fd, hb, hF⟩ := F w mg fa _ KX G.T.g hmg
  exact law_call KX G.T.g G.T.b G.T.builtins G.T.nolimit hg hobj hints (Nat.le_trans hlen hn2) hr hF hb (fun H hO hS => hsp w H a ns hlen hO hS) fun H e s' => hCX w H s₁ e s'
end L2
/- THE LAST THEOREM (shape; LID, My.* are yours):
   My.Adr: a structure of the addresses that your layer names (classes, functions); My.Txt K t: a structure (Prop) of the equations over K;
   My.txt_mk : {K} {implicit addresses ..} (e1 : nsIn K mainGlobals "law" = some (some (.ref f))) (e2 : K.lookup f = some ⟨oc, od, .func (fnOf "law" "law" params body scope dV kV doc pm an cdv ct), sl⟩) (e3 : codeIn K cdv "law" = true) .. : ∃ t, My.Txt K t
set_option maxRecDepth 100000 in
set_option maxHeartbeats 0 in
theorem PySem.Challenge.cw_LID_holds : PySem.Challenge.rw_LID.Holds := by
  w_on; o_law; k_head; (case hw => w_witness2)
  k_fill
  refine L2.walk_of (l := PySem.Challenge.rw_LID) (n := 63) (k := 40) (x := "script") (CX := fun w => ..) (sp := fun _ => My.sp_law) rfl (by decide) rfl ⟨rfl, by decide, by decide⟩ (fun w h Y => PySem.W.kIn_of Y) ?F ?S ?C
  case F =>
    intro w mg fa h KX G hmg
    have T : ∃ t, My.Txt (L2.KOf KX) t := by
      dsimp only [L2.KOf]                          -- K must stand as «<heap const> w.params» for k_is
      refine' My.txt_mk ?e1 ?e2 ?e3 ..
      (case e1 => PySem.W.k_is)                    -- in the order: a name -> its address -> its object -> its parts
      (case e2 => PySem.W.k_is)
      ..
    obtain ⟨t, T⟩ := T
    have e0 := hmg.symm.trans (PySem.W.mg_of KX G T.law)
    cases e0                                       -- fa is the law's own address
    exact ⟨_, fun s u => .of_eq rfl, fun base kb nb => My.law_fn T kb nb⟩     -- if «.of_eq rfl» comes too early: refine' ⟨_, ?b, fun base kb nb => My.law_fn T kb nb⟩; exact fun s u => .of_eq rfl
  case S => exact fun w H a ns hl hO hS => ..
  case C => exact ..
(the tactic k_is has no namespace: write k_is) -/
namespace L2
open PySem PySem.Spec PyProof.Rows
def inClass (s : Stmt) (j : Nat) : Stmt := match s with
  | .ClassDef _ _ _ body _ _ _ _ _ _ _ => body.getD j (.Pass ⟨0, 0, 0, 0⟩)
  | _ => .Pass ⟨0, 0, 0, 0⟩
def defArgs (s : Stmt) : Arguments := match s with
  | .FunctionDef _ a _ _ _ _ _ _ _ _ => a
  | _ => { posonlyargs := [], args := [], vararg := none, kwonlyargs := [], kw_defaults := [], kwarg := none, defaults := [] }
def defBody (s : Stmt) : List Stmt := match s with
  | .FunctionDef _ _ b _ _ _ _ _ _ _ => b
  | _ => []
def defScope (s : Stmt) : Scope := match s with
  | .FunctionDef _ _ _ _ _ _ sc _ _ _ => sc
  | _ => { kind := .function, names := [], isGenerator := false, isCoroutine := false }
abbrev CX0 : CXT := fun _ _ _ _ _ _ => False
abbrev E0 : XK := fun _ _ _ => False
structure Fun (K : PySem.W.Frag) (x qual : Str) (st : Stmt) (f : Addr) (fd : FuncData) : Prop where
  ex : ∃ (oc : Value) (od : Option Addr) (kV doc pm : Value) (an : Option Addr) (cdv ct : Value) (osl : Array (Option Value)),
    fd = PySem.W.fnOf x qual (defArgs st) (defBody st) (defScope st) .none kV doc pm an cdv ct ∧ K.lookup f = some ⟨oc, od, .func fd, osl⟩ ∧ PySem.W.codeIn K cdv qual = true
  kp : PySem.W.keepIn K (.ref f) = true
section
variable {P : Program} {w : World} {K : PySem.W.Frag} {mg : Str → Option Value} {base : Heap}
theorem Fun.ok {x qual : Str} {st : Stmt} {f : Addr} {fd : FuncData} {N ps : List Str} {k : Nat} {sp : Sp} (F : Fun K x qual st f fd) (S : FnScope N ps (defScope st)) (len : ∀ vs H Q E, sp vs H Q E → vs.length = ps.length)
    (hbody : ∀ (cdv : Value) (A : Around) (outer : List Env) (s : Shared) (H : Hp) (vs : List V) (Q : VK) (E : XK), Room k (A.deeper (envOfC qual (defScope st) s.heap.objs.size f cdv)) → sp vs H Q E →
      ∃ t, PSs (cxOf CX0 P w K mg base N qual (defScope st) f cdv A outer s H E).nox (defBody st) t ∧ t { nx := fun _ H' => Q .non H', rt := Q } (start N vs) H) : FnOk P w K mg base CX0 (k + 1) f fd ps sp := by
  obtain ⟨oc, od, kV, doc, pm, an, cdv, ct, osl, rfl, lk, hcd⟩ := F.ex
  refine fn_of lk hcd S len fun A outer s H vs Q E hr hsp => ?_
  obtain ⟨t, h, q⟩ := hbody cdv A outer s H vs Q E hr hsp
  exact ⟨t, h.nox, q⟩
theorem Fun.binds {x qual : Str} {st : Stmt} {f : Addr} {fd : FuncData} {ps : List Str} (F : Fun K x qual st f fd)
    (h : ∀ (kV doc pm : Value) (an : Option Addr) (cdv ct : Value) (us : List Value), us.length = ps.length → bindArgs (PySem.W.fnOf x qual (defArgs st) (defBody st) (defScope st) .none kV doc pm an cdv ct) ⟨us, []⟩ = pure (ps.zip us)) : Binds K fd ps [] := by
  obtain ⟨oc, od, kV, doc, pm, an, cdv, ct, osl, rfl, lk, hcd⟩ := F.ex
  exact .all (h kV doc pm an cdv ct)
theorem fun_mk {x qual : Str} {st : Stmt} {f : Addr} {oc : Value} {od an : Option Addr} {osl : Array (Option Value)} {kV doc pm cdv ct : Value} (l : K.lookup f = some ⟨oc, od, .func (PySem.W.fnOf x qual (defArgs st) (defBody st) (defScope st) .none kV doc pm an cdv ct), osl⟩)
    (c : PySem.W.codeIn K cdv qual = true) (k : PySem.W.keepIn K (.ref f) = true) : Fun K x qual st f (PySem.W.fnOf x qual (defArgs st) (defBody st) (defScope st) .none kV doc pm an cdv ct) := ⟨⟨oc, od, kV, doc, pm, an, cdv, ct, osl, rfl, l, c⟩, k⟩
end
section
variable {X : Cx}
theorem pv (i : Nat) {x : Str} {pos : Pos} (hN : X.N[i]? = some x := by rfl) (hv : Vis X.env.scope x := by first | exact Or.inl rfl | exact Or.inr (Or.inl rfl) | exact Or.inr (Or.inr rfl)) (hd : (x == ("__debug__" : Str)) = false := by decide)
    (hcd : (x == ("__classdict__" : Str)) = false := by decide) : PE X (.Name x pos) (tVar i) := pe_var hN hv hd hcd
end
def Same (H H' : Hp) : Prop := ∀ b o, H b = some o → H' b = some o
theorem Same.refl (H : Hp) : Same H H := fun _ _ h => h
theorem Same.trans {H H1 H2 : Hp} (a : Same H H1) (b : Same H1 H2) : Same H H2 := fun c o h => b c o (a c o h)
theorem Same.free {H H' : Hp} (e : Same H H') {l : Addr} (h : H' l = Option.none) : H l = Option.none := by
  cases q : H l with
  | none => rfl
  | some o =>
    rw [e l o q] at h
    cases h
theorem Same.seq {K : PySem.W.Frag} {H H' : Hp} {a : Addr} {xs : List V} (e : Same H H') (h : SqL K H a xs) : SqL K H' a xs := by
  rcases h with (h | ⟨o, h⟩) | h
  · exact .inl (.inl (e _ _ h))
  · exact .inl (.inr ⟨o, e _ _ h⟩)
  · exact .inr h
end L2
set_option Elab.async false
set_option linter.all false
set_option maxRecDepth 100000
set_option maxHeartbeats 4000000
namespace Gz
open PySem PySem.Spec PyProof.Rows L2
def Bd (n : Nat) (x : Int) : Prop := x.natAbs < 2 ^ n
theorem Bd.of {n : Nat} {x : Int} (h1 : -((2 ^ n : Nat) : Int) < x) (h2 : x < ((2 ^ n : Nat) : Int)) : Bd n x := by
  unfold Bd; omega
theorem Bd.up {n m : Nat} {x : Int} (h : Bd n x) (hm : n ≤ m) : Bd m x := Nat.lt_of_lt_of_le h (Nat.pow_le_pow_right (by decide) hm)
theorem Bd.bits {n : Nat} {x : Int} (h : Bd n x) : Builtin.Int.intBits x ≤ n := by
  unfold Builtin.Int.intBits
  by_cases e : x = 0
  · subst e; simp
  · have e0 : ¬ ((x == 0) = true) := by simpa using e
    rw [if_neg e0]
    have hn : x.natAbs ≠ 0 := by omega
    have := (Nat.log2_lt hn).mpr h
    omega
theorem Bd.mul {n m : Nat} {x y : Int} (h : Bd n x) (h' : Bd m y) : Bd (n + m) (x * y) := by
  unfold Bd at *
  rw [Int.natAbs_mul, Nat.pow_add]
  by_cases e : y.natAbs = 0
  · rw [e, Nat.mul_zero]
    exact Nat.mul_pos (Nat.two_pow_pos _) (Nat.two_pow_pos _)
  · exact Nat.lt_of_lt_of_le ((Nat.mul_lt_mul_right (by omega)).mpr h) (Nat.mul_le_mul_left _ (Nat.le_of_lt h'))
theorem Bd.add {n m k : Nat} {x y : Int} (h : Bd n x) (h' : Bd m y) (h1 : n < k) (h2 : m < k) : Bd k (x + y) := by
  have a := Bd.up h (m := k - 1) (by omega)
  have b := Bd.up h' (m := k - 1) (by omega)
  unfold Bd at *
  have e : 2 ^ k = 2 ^ (k - 1) + 2 ^ (k - 1) := by
    obtain ⟨j, rfl⟩ : ∃ j, k = j + 1 := ⟨k - 1, by omega⟩
    rw [Nat.pow_succ]; simp; omega
  omega
theorem Bd.neg {n : Nat} {x : Int} (h : Bd n x) : Bd n (-x) := by unfold Bd at *; omega
theorem Bd.sub {n m k : Nat} {x y : Int} (h : Bd n x) (h' : Bd m y) (h1 : n < k) (h2 : m < k) : Bd k (x - y) := by
  rw [Int.sub_eq_add_neg]; exact h.add h'.neg h1 h2
theorem Bd.log {n : Nat} {x : Int} (h : Bd n x) (hn : n ≤ 9000) (h0 : 0 < n) : x.natAbs.log2 < 9000 := by
  by_cases e : x.natAbs = 0
  · rw [e]; decide
  · have := (Nat.log2_lt e).mpr h
    omega
def MulB (i j : Int) : Prop := Bd 4000 i ∧ Bd 4000 j
theorem MulB.ok {i j : Int} (h : MulB i j) : IntMulOk i j :=
  IntMulOk.of_bits (Nat.le_trans h.1.bits (by decide)) (Nat.le_trans h.2.bits (by decide))
section
variable {X : Cx}
theorem op_mulB : OpR X (binaryOp .Mult) (rI MulB fun i j => .int (i * j)) := opI fun _ _ _ _ _ _ _ hc q => mul_int q hc.ok
theorem op_fdivB : OpR X (binaryOp .FloorDiv) (rI (fun _ j => 0 < j ∧ Bd 4000 j) fun i j => .int (i / j)) := opI fun i j _ _ _ _ _ hc q => by
  have h1 : (0 : Int) < j := hc.1
  exact floordiv_int (by omega) (by rw [Int.fdiv_eq_ediv_of_nonneg i (by omega)]; exact q) (.inl (PyProof.noPylong_of_log2 (hc.2.log (by decide) (by decide))))
theorem op_fdivS : OpR X (binaryOp .FloorDiv) (rI (fun _ j => j ≠ 0 ∧ Bd 4000 j) fun i j => .int (i.fdiv j)) := opI fun i j _ _ _ _ _ hc q => by
  exact floordiv_int hc.1 q (.inl (PyProof.noPylong_of_log2 (hc.2.log (by decide) (by decide))))
def clsVal : V → Value
  | .ref a => .ref a
  | .ty n => .type n
  | _ => .none
theorem call_isi : CallR X (.builtin "isinstance") (fun xs H Q => ∃ x c t b, xs = [x, c] ∧ TyOf X.K H x t ∧ clsVal c ≠ .none ∧ PySem.W.kitOne X.K t (clsVal c) = some b ∧ Q (.bl b) H) := by
  intro pins s σ H xs us Q I r h
  obtain ⟨x, c, t, b, rfl, ty, hc, e, q⟩ := h
  obtain ⟨u, v, rfl, rx, rc⟩ := vals2 r
  have ev : v = clsVal c := by
    cases c with
    | ref a => exact rc
    | ty n => exact rc
    | non => exact absurd rfl hc
    | bl _ => exact absurd rfl hc
    | int _ => exact absurd rfl hc
    | str _ => exact absurd rfl hc
    | byt _ => exact absurd rfl hc
    | flt _ => exact absurd rfl hc
  subst ev
  exact isinst_ok I rx ty e fun tk => ⟨.bl b, H, I.tok tk, rfl, q⟩
end
theorem kit_same {K : PySem.W.Frag} {t : Value} : PySem.W.kitOne K t t = some true := by
  unfold PySem.W.kitOne
  rw [if_pos (by simp)]
theorem kit_ty {K : PySem.W.Frag} {a c : String} {b : Bool} (h : PySem.W.kitMeta c = true) (h2 : (PySem.fastBuiltinMro a).map (·.contains (.type c)) = some b) (h3 : (a == c) = false) : PySem.W.kitOne K (.type a) (.type c) = some b := by
  unfold PySem.W.kitOne
  have e : ¬ ((Value.type a == Value.type c) = true) := by
    simp only [beq_iff_eq, Value.type.injEq]
    simpa using h3
  rw [if_neg e]
  show (if PySem.W.kitMeta c = true then PySem.W.subIn K (.type a) (.type c) else none) = some b
  rw [if_pos h]
  exact h2
theorem kit_int_bool {K : PySem.W.Frag} : PySem.W.kitOne K (.type "int") (.type "bool") = some false := kit_ty (by decide +kernel) (by decide +kernel) (by decide)
theorem kit_bool_int {K : PySem.W.Frag} : PySem.W.kitOne K (.type "bool") (.type "int") = some true := kit_ty (by decide +kernel) (by decide +kernel) (by decide)
theorem kit_none_int {K : PySem.W.Frag} : PySem.W.kitOne K (.type "NoneType") (.type "int") = some false := kit_ty (by decide +kernel) (by decide +kernel) (by decide)
theorem kit_none_tuple {K : PySem.W.Frag} : PySem.W.kitOne K (.type "NoneType") (.type "tuple") = some false := kit_ty (by decide +kernel) (by decide +kernel) (by decide)
theorem b_len : bootBuiltins "len" = some (.builtin "len") := by decide +kernel
theorem b_abs : bootBuiltins "abs" = some (.builtin "abs") := by decide +kernel
theorem b_isinstance : bootBuiltins "isinstance" = some (.builtin "isinstance") := by decide +kernel
theorem b_all : bootBuiltins "all" = some (.builtin "all") := by decide +kernel
theorem b_int : bootBuiltins "int" = some (.type "int") := by decide +kernel
theorem b_bool : bootBuiltins "bool" = some (.type "bool") := by decide +kernel
theorem b_list : bootBuiltins "list" = some (.type "list") := by decide +kernel
theorem b_tuple : bootBuiltins "tuple" = some (.type "tuple") := by decide +kernel
theorem b_enumerate : bootBuiltins "enumerate" = some (.type "enumerate") := by decide +kernel
theorem b_zip : bootBuiltins "zip" = some (.type "zip") := by decide +kernel
def isiS : V → V → Option Bool
  | .int _, .ty n => if n = "int" then some true else if n = "bool" then some false else none
  | .bl _, .ty n => if n = "int" then some true else if n = "bool" then some true else none
  | .non, .ty n => if n = "int" then some false else if n = "tuple" then some false else none
  | _, _ => none
def rIsi (K : PySem.W.Frag) (x c : V) (H : Hp) (Q : VK) : Prop := match isiS x c with
  | some b => Q (.bl b) H
  | none => ∃ t b, TyOf K H x t ∧ clsVal c ≠ .none ∧ PySem.W.kitOne K t (clsVal c) = some b ∧ Q (.bl b) H
section
variable {X : Cx}
theorem call_isiA : CallR X (.builtin "isinstance") (fun xs H Q => ∃ x c, xs = [x, c] ∧ rIsi X.K x c H Q) := by
  intro pins s σ H xs us Q I r h
  obtain ⟨x, c, rfl, h⟩ := h
  refine call_isi pins s σ H _ us Q I r ?_
  cases e : isiS x c with
  | none =>
    unfold rIsi at h
    rw [e] at h
    obtain ⟨t, b, h1, h2, h3, h4⟩ := h
    exact ⟨x, c, t, b, rfl, h1, h2, h3, h4⟩
  | some b =>
    unfold rIsi at h
    rw [e] at h
    unfold isiS at e
    split at e
    · rename_i i n
      split at e
      · rename_i z; subst z; cases e
        exact ⟨_, _, _, _, rfl, TyOf.int i, (fun z => nomatch z), kit_same, h⟩
      · split at e
        · rename_i z; subst z; cases e
          exact ⟨_, _, _, _, rfl, TyOf.int i, (fun z => nomatch z), kit_int_bool, h⟩
        · cases e
    · rename_i i n
      split at e
      · rename_i z; subst z; cases e
        exact ⟨_, _, _, _, rfl, TyOf.bl i, (fun z => nomatch z), kit_bool_int, h⟩
      · split at e
        · rename_i z; subst z; cases e
          exact ⟨_, _, _, _, rfl, TyOf.bl i, (fun z => nomatch z), kit_same, h⟩
        · cases e
    · rename_i n
      split at e
      · rename_i z; subst z; cases e
        exact ⟨_, _, _, _, rfl, TyOf.non, (fun z => nomatch z), kit_none_int, h⟩
      · split at e
        · rename_i z; subst z; cases e
          exact ⟨_, _, _, _, rfl, TyOf.non, (fun z => nomatch z), kit_none_tuple, h⟩
        · cases e
    · cases e
end
section
variable {K : PySem.W.Frag} {H : Hp} {Q : VK} {i : Int} {b : Bool} {p : Addr} {xs : List V}
theorem isi_ii : rIsi K (.int i) (.ty "int") H Q = Q (.bl true) H := rfl
theorem isi_ib : rIsi K (.int i) (.ty "bool") H Q = Q (.bl false) H := rfl
theorem isi_bi : rIsi K (.bl b) (.ty "int") H Q = Q (.bl true) H := rfl
theorem isi_bb : rIsi K (.bl b) (.ty "bool") H Q = Q (.bl true) H := rfl
theorem isi_ni : rIsi K .non (.ty "int") H Q = Q (.bl false) H := rfl
theorem isi_nt : rIsi K .non (.ty "tuple") H Q = Q (.bl false) H := rfl
theorem isi_tup (h : H p = some (.tup xs)) (q : Q (.bl true) H) : rIsi K (.ref p) (.ty "tuple") H Q := ⟨_, _, TyOf.tup h, (fun z => nomatch z), kit_same, q⟩
theorem isi_lst (h : H p = some (.lst xs)) (q : Q (.bl true) H) : rIsi K (.ref p) (.ty "list") H Q := ⟨_, _, TyOf.lst h, (fun z => nomatch z), kit_same, q⟩
end
end Gz
set_option Elab.async false
set_option linter.all false
set_option maxRecDepth 100000
set_option maxHeartbeats 4000000
namespace Gz
open PySem PySem.Spec PyProof.Rows L2
def CXX (P : Program) (w : World) : CXT := fun outer H s E e s' =>
  ∃ (x : Addr) (cls a0 : Value) (H' : Hp) (B : Heap), e = .ref x ∧ s'.os = s.os ∧ AllBare s'.gens ∧ Un (frs outer) [] H H' s.heap s'.heap ∧
    (∀ b o, s.heap.get? b = some o → H b = none → b ∉ frs outer → B.get? b = some o) ∧ (∀ b o, s.heap.get? b = some o → b ∉ frs outer → ∃ o', B.get? b = some o') ∧ HOk P w H' B ∧ H' x = none ∧ s.heap.get? x = none ∧
    Heap.FlyingW B outer x cls a0 s'.heap ∧ E cls none H'
theorem passE0 {P : Program} {w : World} {X : Cx} : Passes (CXX P w) X E0 := fun _ _ _ _ _ _ _ ⟨_, _, _, _, _, _, _, _, _, _, _, _, _, _, _, h⟩ => h.elim
theorem noCXX {P : Program} {w : World} {outer : List Env} {H : Hp} {s s' : Shared} {e : Value} (h : CXX P w outer H s (fun _ _ _ => False) e s') : False := by
  obtain ⟨_, _, _, _, _, _, _, _, _, _, _, _, _, _, _, h⟩ := h
  exact h
section
variable {P : Program} {w : World} {K : PySem.W.Frag} {mg : Str → Option Value} {base : Heap}
theorem okN {x qual : Str} {st : Stmt} {f : Addr} {fd : FuncData} {N ps : List Str} {k : Nat} {sp : Sp} (F : Fun K x qual st f fd) (S : FnScope N ps (defScope st)) (len : ∀ vs H Q E, sp vs H Q E → vs.length = ps.length)
    (hbody : ∀ (cdv : Value) (A : Around) (outer : List Env) (s : Shared) (H : Hp) (vs : List V) (Q : VK) (E : XK), Room k (A.deeper (envOfC qual (defScope st) s.heap.objs.size f cdv)) → sp vs H Q E →
      ∃ t, PSs (cxOf (CXX P w) P w K mg base N qual (defScope st) f cdv A outer s H E).nox (defBody st) t ∧ t { nx := fun _ H' => Q .non H', rt := Q } (start N vs) H) : FnOk P w K mg base (CXX P w) (k + 1) f fd ps sp := by
  obtain ⟨oc, od, kV, doc, pm, an, cdv, ct, osl, rfl, lk, hcd⟩ := F.ex
  refine fn_of lk hcd S len fun A outer s H vs Q E hr hsp => ?_
  obtain ⟨t, h, q⟩ := hbody cdv A outer s H vs Q E hr hsp
  exact ⟨t, h.nox, q⟩
end
theorem scal_ii (a b : Int) : scal (.int a) (.int b) = true := rfl
theorem scal_bb (a b : Bool) : scal (.bl a) (.bl b) = true := rfl
theorem scal_in (a : Int) : scal (.int a) .non = true := rfl
theorem scal_ni (a : Int) : scal .non (.int a) = true := rfl
theorem scal_nn : scal .non .non = true := rfl
theorem ite_tt {A B : Prop} : (if true = true then A else B) = A := if_pos rfl
theorem ite_ff {A B : Prop} : (if false = true then A else B) = B := if_neg Bool.false_ne_true
end Gz
namespace Gz
open PySem PySem.Spec PyProof.Rows L2
theorem cxK {CX : CXT} {P : Program} {w : World} {K : PySem.W.Frag} {mg : Str → Option Value} {base : Heap} {N : List Str} {qual : Str} {scope : Scope} {f : Addr} {cd : Value} {A : Around} {outer : List Env} {s : Shared} {H : Hp} {E : XK} :
    (cxOf CX P w K mg base N qual scope f cd A outer s H E).K = K := rfl
theorem cxN {CX : CXT} {P : Program} {w : World} {K : PySem.W.Frag} {mg : Str → Option Value} {base : Heap} {N : List Str} {qual : Str} {scope : Scope} {f : Addr} {cd : Value} {A : Around} {outer : List Env} {s : Shared} {H : Hp} {E : XK} :
    (cxOf CX P w K mg base N qual scope f cd A outer s H E).N = N := rfl
section
variable {K : PySem.W.Frag} {H H' : Hp} {a p : Addr} {xs ys : List V} {i : Int} {v : V} {Q : VK}
theorem same_tup (e : Same H H') (h : SqT K H a xs) : SqT K H' a xs := by
  rcases h with (h | ⟨o, h⟩) | h
  · exact .inl (.inl (e _ _ h))
  · exact .inl (.inr ⟨o, e _ _ h⟩)
  · exact .inr h
theorem same_upd {o : HO} (h : H p = none) : Same H (upd H p o) := fun b u e => by rw [upd_ne (ne_of_none e h)]; exact e
theorem ixT (h : SqT K H p xs) (e : atI xs i = some v) (q : Q v H) : rIx K (.ref p) (.int i) H Q := .inr (.inl ⟨p, xs, i, v, rfl, rfl, h, e, q⟩)
theorem ixL (h : SqL K H p xs) (e : atI xs i = some v) (q : Q v H) : rIx K (.ref p) (.int i) H Q := .inl ⟨p, xs, i, v, rfl, rfl, h, e, q⟩
theorem lenL (h : SqL K H p xs) : LenV K (.ref p) H xs.length := .inl ⟨xs, h, rfl⟩
end
def isWhole : V → Bool
  | .int _ => true
  | _ => false
end Gz
namespace Gz
open PySem PySem.Spec PyProof.Rows L2
def FJ (J : It) (g : TG) (tb : TS) (D : Ends) (σ : L2.St) (H : Hp) : Prop := ∃ W : Nat → Nat → L2.St → Hp → Prop, (∃ m, W 0 m σ H) ∧ ∀ i m σ H, W i m σ H →
      (J.stop i H ∧ D.nx σ H) ∨ (J.go i H ∧ ∃ N : L2.St → Hp → Prop, (∀ σ' H', N σ' H' → ∃ m', m' < m ∧ W (i + 1) m' σ' H') ∧ ∀ x H', J.yld i H x H' → g x σ H' fun σ2 H2 => tb { D with nx := N, ct := N, bk := D.nx } σ2 H2)
section
variable {K : PySem.W.Frag} {g : TG} {tb : TS} {D : Ends} {σ : L2.St} {H : Hp} {a : Addr} {xs : List V} {lo : Int} {n : Nat}
theorem for_rng1 {ta : TA} : tFor (iRng1 ta) g tb D σ H = ta σ H (fun vs H1 => ∃ j : Int, vs = [.int j] ∧ -(2 ^ 62) ≤ j ∧ j < 2 ^ 62 ∧ FJ (Itr 0 j.toNat) g tb D σ H1) := rfl
theorem for_lst {tl : TE} : tFor (iList K tl) g tb D σ H = tl σ H (fun x H1 => ∃ a, x = .ref a ∧ (∃ xs, SqL K H1 a xs) ∧ FJ (Itl K a) g tb D σ H1) := rfl
theorem for_tpl {tl : TE} : tFor (iTup K tl) g tb D σ H = tl σ H (fun x H1 => ∃ a, x = .ref a ∧ (∃ xs, SqT K H1 a xs) ∧ FJ (Itt K a) g tb D σ H1) := rfl
theorem by_range (Pv : Nat → L2.St → Hp → Prop) (h0 : Pv 0 σ H)
    (hs : ∀ i σ H, i < n → Pv i σ H → g (.int (lo + i)) σ H fun σ2 H2 => tb { D with nx := Pv (i + 1), ct := Pv (i + 1), bk := D.nx } σ2 H2) (hd : ∀ σ H, Pv n σ H → D.nx σ H) : FJ (Itr lo n) g tb D σ H := for_range Pv h0 hs hd
end
theorem line2 : (2 : Nat) ≤ sizeLine := by decide
theorem bd200 {x : Int} (h : x.natAbs < 2 ^ 200) : Bd 4000 x := Bd.up (n := 200) h (by decide)
theorem mul200 {x y : Int} (h : x.natAbs < 2 ^ 200) (h' : y.natAbs < 2 ^ 200) : MulB x y := ⟨bd200 h, bd200 h'⟩
end Gz
namespace Gz
open PySem PySem.Spec PyProof.Rows L2
section
variable {X : Cx}
end
section
variable {K : PySem.W.Frag} {H H1 : Hp} {l p : Addr} {xs ys : List V} {o : HO}
theorem same_put (hl : H l = none) (s : Same H H1) : Same H (upd H1 l o) := fun b u e => by
  rw [upd_ne (ne_of_none e hl)]; exact s b u e
theorem tup_put (h : SqT K H1 p xs) (hl : H1 l = some (.lst ys)) : SqT K (upd H1 l o) p xs := by
  rcases h with (h | ⟨z, h⟩) | h
  · exact .inl (.inl (by rw [upd_ne (ne_of h hl (fun e => nomatch e))]; exact h))
  · exact .inl (.inr ⟨z, by rw [upd_ne (ne_of h hl (fun e => nomatch e))]; exact h⟩)
  · exact .inr h
def IsP (K : PySem.W.Frag) (H : Hp) (v : V) (a b : Int) : Prop := ∃ p, v = .ref p ∧ SqT K H p [.int a, .int b]
theorem IsP.same {v : V} {a b : Int} (h : IsP K H v a b) (s : Same H H1) : IsP K H1 v a b := by
  obtain ⟨p, e, h⟩ := h
  exact ⟨p, e, same_tup s h⟩
theorem IsP.put {v : V} {a b : Int} (h : IsP K H1 v a b) (hl : H1 l = some (.lst ys)) : IsP K (upd H1 l o) v a b := by
  obtain ⟨p, e, h⟩ := h
  exact ⟨p, e, tup_put h hl⟩
end
end Gz
set_option Elab.async false
set_option linter.all false
set_option maxRecDepth 100000
set_option maxHeartbeats 4000000
namespace Gz
open PySem PySem.W PySem.Spec PySem.Calls PyProof.Rows Builtin Builtin.ObjectAttr Builtin.Getset_descriptor
section
variable {prog : Program} {w : World} {A : Around} {E : Value → Shared → Prop} {s : Shared} {K : Frag} {x C : Addr} {oe : Obj} {R : Result → Shared → Prop}
theorem class_getX {tp : Value} (X : K.In s.heap) (he : s.heap.get? x = some oe) (hc : oe.cls = .ref C) (hm : mroIn K C (.type "object") = some true)
    (h : R (.ok (.ret (.ref C))) s) : codeAny (model prog w) A (.call (.builtin "getset_descriptor.__get__") ⟨[.builtin "object.__class__", .ref x, tp], []⟩) R s := by
  obtain ⟨hh, g, dr, t, os⟩ := s
  have L0 : Looks (model prog w) hh (typeOf (.ref x)) (.ref C) := hc ▸ (Looks.ld he).andThen .now
  have L1 := looks_mroIn (M := model prog w) X hm
  refine codeAny_call_builtin KF.slot_gs.plain KF.entry_gs (KF.slot_gs.check _ _ _ _ _ _ _ _ KF.type_class (KF.args_gs _ _ _) ?_)
  unfold Builtin.«getset_descriptor.__get__» descrGet
  rw [dga_obj]
  refine wpAny_bind (wpAny_pure ?_)
  unfold descrGetter descrCheckInstance descrNameAndClass isInstance
  simp only [KF.owner_class]
  repeat lk
  refine ⟨Code.quiet_builtin _ (by decide +kernel), codeAny_builtin KF.entry_class ?_⟩
  unfold Builtin.«object.__class__» shownTypeOf
  repeat lk
  exact h
theorem entryX {tk : Tok} {Q : Fin → Shared → Prop} (X : K.In s.heap) (he : s.heap.get? x = some oe) (hc : oe.cls = .ref C) (hm : mroIn K C (.type "object") = some true)
    (g3 : findIn K (.ref C) "__class__" = some (some (.builtin "object.__class__"))) (h : Q (.done (.ret (.ref C))) s) :
    wpAny (model prog w) A (Builtin.«object.__getattribute__» ⟨[.ref x, .str "__class__" tk], []⟩) Q E s := by
  obtain ⟨hh, g, dr, t, os⟩ := s
  have L0 : Looks (model prog w) hh (typeOf (.ref x)) (.ref C) := hc ▸ (Looks.ld he).andThen .now
  have L1 := looks_findIn (M := model prog w) X g3
  have f5 := KF.type_class
  have f6 := F.slot_gs_get.lookup
  have f7 := F.slot_gs_set.lookup
  repeat (any_goals (first | assumption | (with_reducible refine L0.at ?_) | (with_reducible refine L1.at ?_) | wp_step))
  refine class_getX X he hc hm ?_
  repeat (any_goals (first | assumption | wp_step))
theorem checkX {nameV : Value} {Q : Unit → Shared → Prop} (X : K.In s.heap) (he : s.heap.get? x = some oe) (hc : oe.cls = .ref C) (hb : mroIn K C (.type "BaseException") = some true) (h : Q () s) :
    wpAny (model prog w) A (checkBuiltinCall "BaseException.__getattribute__" ⟨[.ref x, nameV], []⟩) Q E s := by
  obtain ⟨hh, g, dr, t, os⟩ := s
  have hk : builtinKind "BaseException.__getattribute__" = some .slot := by decide +kernel
  have hsplit : splitId "BaseException.__getattribute__" = some ("BaseException", "__getattribute__") := by decide +kernel
  have ha := F.args_bexc_ga (.ref x) nameV
  have L0 : Looks (model prog w) hh (typeOf (.ref x)) (.ref C) := hc ▸ (Looks.ld he).andThen .now
  have L1 := looks_mroIn (M := model prog w) X hb
  simp only [checkBuiltinCall, hk, hsplit]
  refine wpAny_bind ?_
  unfold isInstance
  repeat (first | (with_reducible refine L0.at ?_) | (with_reducible refine L1.at ?_) | wp_step)
  exact h
theorem exc_class {Q : Option Value → Shared → Prop} (X : K.In s.heap) (he : s.heap.get? x = some oe) (hc : oe.cls = .ref C) (hm : mroIn K C (.type "object") = some true) (hb : mroIn K C (.type "BaseException") = some true)
    (g1 : findIn K (.ref C) "__getattribute__" = some (some (.builtin "BaseException.__getattribute__"))) (g2 : findIn K (.ref C) "__getattr__" = some none)
    (g3 : findIn K (.ref C) "__class__" = some (some (.builtin "object.__class__"))) (h : Q (some (.ref C)) { s with toks := s.toks + 1 }) :
    wpAny (model prog w) A (getAttr? (.ref x) "__class__") Q E s := by
  obtain ⟨hh, g, dr, t, os⟩ := s
  have L0 : Looks (model prog w) hh (typeOf (.ref x)) (.ref C) := hc ▸ (Looks.ld he).andThen .now
  have L1 := looks_findIn (M := model prog w) X g1
  have L2 := looks_findIn (M := model prog w) X g2
  have f3 := F.excAttr_ValueError.ga.bind (.ref x)
  have hx2 : (Value.builtin "BaseException.__getattribute__" == Value.builtin "object.__getattribute__") = false := by decide +kernel
  have hx1 : (onTheHeap (Value.ref C) && Value.builtin "BaseException.__getattribute__" == Value.builtin "object.__getattribute__") = false := by rw [hx2]; rfl
  unfold getAttr? getAttrBy?
  repeat (any_goals (first | assumption | (with_reducible refine L0.at ?_) | (with_reducible refine L1.at ?_) | (with_reducible refine L2.at ?_) | wp_step))
  refine codeAny_call_builtin F.excAttr_ValueError.ga.plain F.entry_bexc_ga (checkX X he hc hb (entryX X he hc hm g3 ?_))
  repeat (any_goals (first | assumption | wp_step))
end
structure XC (K : Frag) (C : Addr) : Prop where
  ex : excIn K C [.type "ValueError", .type "Exception", .type "BaseException", .type "object"] "ValueError.__new__" = true
  mo : mroIn K C (.type "object") = some true
  mb : mroIn K C (.type "BaseException") = some true
  ga : findIn K (.ref C) "__getattribute__" = some (some (.builtin "BaseException.__getattribute__"))
  gr : findIn K (.ref C) "__getattr__" = some none
  gc : findIn K (.ref C) "__class__" = some (some (.builtin "object.__class__"))
theorem XC.cls {K : Frag} {C : Addr} (x : XC K C) : ∃ c d cd sl, K.lookup C = some ⟨c, d, .cls cd, sl⟩ := by
  have q := x.ex
  unfold excIn at q
  split at q
  · rename_i dd cd sl ho
    exact ⟨_, _, _, _, ho⟩
  · cases q
theorem kitx_exc {K : Frag} {x C : Addr} (c : XC K C) : KitX K (.ref x) (.ref C) (fun h => ∃ oe : Obj, h.get? x = some oe ∧ oe.cls = .ref C) where
  ty := fun _ _ _ ⟨oe, he, hc⟩ => hc ▸ (Looks.ld he).andThen .now
  it := fun _ _ X _ => by
    obtain ⟨a, b, cd, sl, ho⟩ := c.cls
    intro A' Q' E' s' k q
    unfold isType loadHead
    exact wpAny_bind (wpAny_loadPart (k _ _ (X _ _ ho)) (wpAny_pure q))
  ne := fun h tp dd its n sl X htp => by
    obtain ⟨a, b, cd, sl, ho⟩ := c.cls
    refine Bool.eq_false_iff.mpr fun q => ?_
    have e : C = tp := Value.ref.inj (beq_iff_eq.mp q)
    subst e
    have z := (X _ _ ho).symm.trans htp
    cases z
  ca := fun X ⟨oe, he, hc⟩ k => exc_class X he hc c.mo c.mb c.ga c.gr c.gc k
theorem exc_obj {K : Frag} {h : Heap} {C : Addr} (X : K.In h) (c : XC K C) :
    ∃ bm N nm q bs hdct sn sub ab col dd k0 k1 k2 k3 k5 mN, h.get? C = some (excClassObj nm q C N bs bm hdct sn sub ab col dd k0 k1 k2 k3 k5 "ValueError.__new__") ∧ h.Ns N mN ∧ mN "__init__" = none ∧
      OwnTail h [.type "ValueError", .type "Exception", .type "BaseException", .type "object"] bm := by
  have q := c.ex
  unfold excIn at q
  split at q
  · rename_i dd cd sl ho
    split at q
    · rename_i C' bm k0 k1 k2 k3 n k5 hm hs
      simp only [Bool.and_eq_true, beq_iff_eq, Bool.not_eq_true'] at q
      obtain ⟨⟨⟨⟨⟨rfl, rfl⟩, hdel⟩, ht⟩, hok⟩, hni⟩ := q
      obtain ⟨nm, bs, mro, ns, qn, hd, sn, sub, ab, col, del⟩ := cd
      dsimp only at hm hdel hok hni
      subst hm hdel
      have hsl : sl = #[k0, k1, k2, k3, some (.builtin "ValueError.__new__"), k5] := by
        obtain ⟨l⟩ := sl
        simp only at hs
        rw [hs]
      subst hsl
      exact ⟨bm, ns, nm, qn, bs, hd, sn, sub, ab, col, dd, k0, k1, k2, k3, k5, _, X _ _ ho, .of_isNs (isNs_of_in X hok), nsMap_none_of_in X hok hni, tail_of_in X ht⟩
    · cases q
  · cases q
end Gz
namespace Gz
open PySem PySem.Spec PyProof.Rows L2
def excO (a C : Addr) : HO := .ext fun h => ∃ oe : Obj, h.get? a = some oe ∧ oe.cls = .ref C
theorem excO_ok {P : Program} {w : World} {H : Hp} {h : Heap} {a C : Addr} {oe : Obj} (he : h.get? a = some oe) (hc : oe.cls = .ref C) : ObjOk P w H h a (excO a C) :=
  ⟨⟨oe, he, hc⟩, ⟨oe, he⟩, fun h1 h2 ⟨o, e, c⟩ k => ⟨o, k o e, c⟩⟩
section
variable {X : Cx}
def rIsiX (K : PySem.W.Frag) (a : Addr) (c : V) (H : Hp) (Q : VK) : Prop := ∃ C b, H a = some (excO a C) ∧ XC K C ∧ clsVal c ≠ .none ∧ PySem.W.kitOne K (.ref C) (clsVal c) = some b ∧ Q (.bl b) H
theorem call_isiX {K : PySem.W.Frag} (hK : X.K = K) : CallR X (.builtin "isinstance") (fun xs H Q => ∃ a c, xs = [.ref a, c] ∧ rIsiX K a c H Q) := by
  subst hK
  intro pins s σ H xs us Q I r h
  obtain ⟨a, c, rfl, C, b, ha, xc, hc, e, q⟩ := h
  obtain ⟨u, v, rfl, rx, rc⟩ := vals2 r
  have ev : v = clsVal c := by
    cases c with
    | ref a => exact rc
    | ty n => exact rc
    | non => exact absurd rfl hc
    | bl _ => exact absurd rfl hc
    | int _ => exact absurd rfl hc
    | str _ => exact absurd rfl hc
    | byt _ => exact absurd rfl hc
    | flt _ => exact absurd rfl hc
  subst ev
  cases (show u = Value.ref a from rx)
  obtain ⟨hp, _, _⟩ := (show ObjOk X.prog X.w H s.heap a (excO a C) from I.hok a _ ha)
  exact PySem.W.kia_one (kitx_exc xc) I.kIn hp e (fun z => nomatch z) fun tk => ⟨.bl b, H, I.tok tk, rfl, q⟩
end
theorem isiX {K : PySem.W.Frag} {a C : Addr} {c : V} {H : Hp} {Q : VK} {b : Bool} (h : H a = some (excO a C)) (xc : XC K C) (hc : clsVal c ≠ .none) (e : PySem.W.kitOne K (.ref C) (clsVal c) = some b) (q : Q (.bl b) H) : rIsiX K a c H Q := ⟨C, b, h, xc, hc, e, q⟩
end Gz
set_option Elab.async false
set_option linter.all false
set_option maxRecDepth 100000
set_option maxHeartbeats 4000000
namespace Gz
open PySem PySem.Spec PyProof.Rows L2
theorem ObjOk.some {P : Program} {w : World} {H : Hp} {h : Heap} {a : Addr} {o : HO} (x : ObjOk P w H h a o) : ∃ ob, h.get? a = some ob := by
  cases o with
  | lst xs => obtain ⟨_, _, _, _, e⟩ := x; exact ⟨_, e⟩
  | tup xs => obtain ⟨_, _, _, o, e, _⟩ := x; exact ⟨_, e⟩
  | dK kvs => obtain ⟨_, _, _, _, o, _, _, e, _⟩ := x; exact ⟨_, e⟩
  | dT kvs => obtain ⟨_, _, _, _, o, _, _, e, _⟩ := x; exact ⟨_, e⟩
  | set S n => obtain ⟨o, _, _, _, e, _⟩ := x; exact ⟨_, e⟩
  | ins C dx fs => obtain ⟨_, _, _, e, _⟩ := x; exact ⟨_, e⟩
  | own y => exact x
  | xd fs => obtain ⟨_, ⟨_, _, _, e, _⟩, _⟩ := x; exact ⟨_, e⟩
  | rng lo hi => obtain ⟨_, _, _, e⟩ := x; exact ⟨_, e⟩
  | frz ob u => obtain ⟨e, _⟩ := x; exact ⟨_, e⟩
  | tbl ps => exact ⟨_, x⟩
  | met f y => exact ⟨_, x⟩
  | ext φ => exact x.2.1
def RaiseTo (X : Cx) (E : XK) : Prop := ∀ (pins : List (Addr × Obj)) (σ : L2.St) (H : Hp) (s : Shared) (e C : Addr) (vs : List Value) (h' : Heap), Inv X pins σ H s → Heap.MadeExcOf s.heap h' e (.ref C) vs → E (.ref C) none H → X.xe (.ref e) { s with heap := h' }
def tRaise (C : Addr) (E : XK) (ta : TA) : TS := fun D σ H => ta σ H fun vs H1 => vs.length ≤ sizeLine ∧ E (.ref C) none H1
section
variable {X : Cx}
theorem ps_raise {x : Str} {np cpos pos : Pos} {e₀ : Expr} {rest : List Expr} {ta : TA} {C : Addr} {E : XK} (hx : RaiseTo X E) (hg : Gl X x) (hm : X.mg x = some (.ref C)) (xc : XC X.K C) (hc : X.calm = true) (ha : PA X (e₀ :: rest) ta)
    (hd : (x == ("__debug__" : Str)) = false := by decide) (he : starEach (e₀ :: rest) X.env = (false, eval e₀ X.env) :: starEach rest X.env := by rfl)
    (hpl : (backTo cpos (starEach rest X.env)).any (·.1) = false := by rfl) :
    PS X (.Raise (some (.Call (.Name x np) (e₀ :: rest) [] cpos)) none pos) (tRaise C E ta) := by
  intro pins s σ H D I h
  obtain ⟨tl, N, nm, q, bs, hdct, sn, sub, ab, col, dd, k0, k1, k2, k3, k5, mN, hC, hN, hni, T⟩ := exc_obj I.ok.mod.kin xc
  refine wpAny_Raise_call_subU (C := C) (nm := nm) (q := q) (N := N) (bs := bs) (bm := tl) (hdct := hdct) (sn := sn) (sub := sub) (ab := ab) (col := col) (dd := dd) (k0 := k0) (k1 := k1) (k2 := k2) (k3 := k3) (k5 := k5)
    PySem.F.excBase_ValueError (by decide +kernel) PySem.F.excBase_ValueError (mN := mN) (T.hasType PySem.F.excBase_ValueError.hasBase) (I.ok.hd hc) (by rw [he]; show (false || (backTo cpos (starEach rest X.env)).any (·.1)) = false; rw [hpl]; rfl) hni (ld_glob I hg hm ⟨rfl, ?_⟩ hd)
  have ha' := ha cpos pins s σ H _ I h
  rw [he] at ha' ⊢
  refine Calls.evalArgs_plain (wpAny_mono ha' (fun us s₂ h₂ => ?_) fun _ _ y => y)
  obtain ⟨vs, H1, I1, r, hl, hE⟩ := h₂
  exact ⟨rfl, by rw [← r.length]; exact hl, I1.bk _ _ hC, hN.keeps I1.bk, T.keeps I1.bk, fun h' e hm => hx pins σ H1 s₂ e C us h' I1 hm hE⟩
end
section
variable {P : Program} {w : World} {K : PySem.W.Frag} {mg : Str → Option Value} {base : Heap} {N : List Str} {qual : Str} {scope : Scope} {f : Addr} {cd : Value} {A : Around} {outer : List Env} {s : Shared} {H : Hp} {E : XK}
theorem frs_mem {env : Env} {b L : Addr} (hf : env.frame = some L) (h : b ∈ frs (env :: outer)) : b = L ∨ b ∈ frs outer := by
  unfold frs at h
  rw [List.filterMap_cons, hf] at h
  exact List.mem_cons.mp h
theorem raise_up : RaiseTo (cxOf (CXX P w) P w K mg base N qual scope f cd A outer s H E) E := by
  intro pins σ H1 s1 e C vs h1 I hx hE
  have hfr : (cxOf (CXX P w) P w K mg base N qual scope f cd A outer s H E).A.frames = some (envOfC qual scope s.heap.objs.size f cd :: outer) := I.ok.frames
  have hF : s1.heap.FunFrames base (envOfC qual scope s.heap.objs.size f cd :: outer) := I.stack
  have hin : ∀ env ∈ (envOfC qual scope s.heap.objs.size f cd :: outer), ∀ b, env.frame = some b → b ∈ frs (envOfC qual scope s.heap.objs.size f cd :: outer) := fun env he b hb => List.mem_filterMap.mpr ⟨env, he, hb⟩
  have fr0 : ∀ b ∈ frs (envOfC qual scope s.heap.objs.size f cd :: outer), H1 b = none := I.stkFree
  have neL : ∀ b o, s.heap.get? b = some o → b ≠ s.heap.objs.size := fun b o e => Nat.ne_of_lt (Heap.lt_size e)
  have nofr : ∀ b o, s.heap.get? b = some o → b ∉ frs outer → b ∉ frs (envOfC qual scope s.heap.objs.size f cd :: outer) := fun b o e hb z => by
    rcases frs_mem rfl z with z | z
    · exact neL b o e z
    · exact hb z
  have ub : Un (frs outer) [] H H1 s.heap s1.heap := I.base
  refine wpAny_leaves_madeW (base := PySem.W.hideAll s1.heap (frs (envOfC qual scope s.heap.objs.size f cd :: outer))) hfr rfl (fun b o q => PySem.W.of_hideAll _ q) (PySem.W.funFrames_hide hF hin) hx fun h' t fl tup bt up => ?_
  have stays := fl.1
  have inB : ∀ b o, s1.heap.get? b = some o → b ∉ frs (envOfC qual scope s.heap.objs.size f cd :: outer) → (PySem.W.hideAll s1.heap (frs (envOfC qual scope s.heap.objs.size f cd :: outer))).get? b = some o := fun b o q hb => PySem.W.hideAll_get _ q hb
  have frUp : ∀ b ∈ frs (envOfC qual scope s.heap.objs.size f cd :: outer), ∀ o, s1.heap.get? b = some o → ∃ sl, h'.get? b = some { o with slots := sl } := fun b hb o q => by
    obtain ⟨_, o', ho', hnf⟩ := hF.mem hb
    rw [q] at ho'; cases ho'
    exact up b o (hx.keeps b o q) hnf
  refine ⟨e, .ref C, .ref t, H1, _, rfl, I.os, I.bare, ⟨fun b o q n hb hx' => ?_, fun b o q n hb hx' => ?_, ub.free, fun b o q hx' => ?_, ub.tups, ub.frzs, ub.tbls⟩, fun b o q n hb => ?_, fun b o q hb => ?_, fun a o q => ?_, ?_, ?_, fl, hE⟩
  · exact stays b o (inB b o (ub.keep b o q n hb hx') (nofr b o q hb))
  · obtain ⟨sl, e1⟩ := ub.slot b o q n hb hx'
    obtain ⟨sl', e2⟩ := frUp b (by unfold frs; rw [List.filterMap_cons]; exact List.mem_cons_of_mem _ hb) _ e1
    exact ⟨sl', e2⟩
  · obtain ⟨o', e1⟩ := ub.there b o q hx'
    by_cases hb : b ∈ frs (envOfC qual scope s.heap.objs.size f cd :: outer)
    · obtain ⟨sl, e2⟩ := frUp b hb o' e1
      exact ⟨_, e2⟩
    · exact ⟨o', stays b o' (inB b o' e1 hb)⟩
  · exact inB b o (ub.keep b o q n hb (by simp)) (nofr b o q hb)
  · obtain ⟨o', e1⟩ := ub.there b o q (by simp)
    exact ⟨o', inB b o' e1 (nofr b o q hb)⟩
  · refine (I.hok a o q).stay (fun b u hb z => inB b u z fun hm => ?_) (fun _ z => z) fun _ _ z => z
    have := fr0 b hm
    rcases hb with hb | hb
    · rw [hb, q] at this; cases this
    · rw [hb] at this; cases this
  · cases q : H1 e with
    | none => rfl
    | some u =>
      obtain ⟨ob, z⟩ := ObjOk.some (I.hok e u q)
      rw [hx.new] at z; cases z
  · cases q : s.heap.get? e with
    | none => rfl
    | some u =>
      obtain ⟨o', z⟩ := ub.there e u q (by simp)
      rw [hx.new] at z; cases z
theorem pass_up : Passes (CXX P w) (cxOf (CXX P w) P w K mg base N qual scope f cd A outer s H E) E := by
  intro pins σ H1 s1 ev s2 I cx
  obtain ⟨x, cls, a0, H', B, rfl, os, bare, un, kb, tb, hok, hx, hn, fl, hE⟩ := cx
  have hfr : (cxOf (CXX P w) P w K mg base N qual scope f cd A outer s H E).A.frames = some (envOfC qual scope s.heap.objs.size f cd :: outer) := I.ok.frames
  have hF : s1.heap.FunFrames base (envOfC qual scope s.heap.objs.size f cd :: outer) := I.stack
  have neL : ∀ b o, s.heap.get? b = some o → b ≠ s.heap.objs.size := fun b o e => Nat.ne_of_lt (Heap.lt_size e)
  have nofr : ∀ b o, s.heap.get? b = some o → b ∉ frs outer → b ∉ frs (envOfC qual scope s.heap.objs.size f cd :: outer) := fun b o e hb z => by
    rcases frs_mem rfl z with z | z
    · exact neL b o e z
    · exact hb z
  have infr : ∀ b, b ∈ frs outer → b ∈ frs (envOfC qual scope s.heap.objs.size f cd :: outer) := fun b hb => by
    unfold frs; rw [List.filterMap_cons]; exact List.mem_cons_of_mem _ hb
  have ub : Un (frs outer) [] H H1 s.heap s1.heap := I.base
  have un' : Un (frs (envOfC qual scope s.heap.objs.size f cd :: outer)) [] H1 H' s1.heap s2.heap := un
  have kb' : ∀ b o, s1.heap.get? b = some o → H1 b = none → b ∉ frs (envOfC qual scope s.heap.objs.size f cd :: outer) → B.get? b = some o := kb
  have tb' : ∀ b o, s1.heap.get? b = some o → b ∉ frs (envOfC qual scope s.heap.objs.size f cd :: outer) → ∃ o', B.get? b = some o' := tb
  have frfree : ∀ b ∈ frs (envOfC qual scope s.heap.objs.size f cd :: outer), H1 b = none := I.stkFree
  refine wpAny_leaves_onW hfr rfl fl fun h' fl' up => ?_
  have stays := fl'.1
  have frUp : ∀ b ∈ frs (envOfC qual scope s.heap.objs.size f cd :: outer), ∀ o, s1.heap.get? b = some o → ∃ sl, h'.get? b = some { o with slots := sl } := fun b hb o q => by
    obtain ⟨_, o', ho', hnf⟩ := hF.mem hb
    rw [q] at ho'; cases ho'
    obtain ⟨sl, e1⟩ := un'.slot b o q (frfree b hb) hb (by simp)
    obtain ⟨sl', e2⟩ := up b _ e1 hnf
    exact ⟨sl', e2⟩
  refine ⟨x, cls, a0, H', B, rfl, os.trans I.os, bare, ⟨fun b o q n hb hx' => ?_, fun b o q n hb hx' => ?_, fun b o q n hx' => ?_, fun b o q hx' => ?_, fun b xs q => un.tups _ _ (ub.tups _ _ q), fun b o u q => un.frzs _ _ _ (ub.frzs _ _ _ q), fun b ps q => ?_⟩, fun b o q n hb => ?_, fun b o q hb => ?_, hok, hx, ?_, fl', hE⟩
  · exact stays b o (kb' b o (ub.keep b o q n hb hx') (ub.free b o q n hx') (nofr b o q hb))
  · obtain ⟨sl, e1⟩ := ub.slot b o q n hb hx'
    obtain ⟨sl', e2⟩ := frUp b (infr b hb) _ e1
    exact ⟨sl', e2⟩
  · obtain ⟨o', e1⟩ := ub.there b o q hx'
    exact un'.free b o' e1 (ub.free b o q n hx') (by simp)
  · obtain ⟨o', e1⟩ := ub.there b o q hx'
    by_cases hb : b ∈ frs (envOfC qual scope s.heap.objs.size f cd :: outer)
    · obtain ⟨sl, e2⟩ := frUp b hb o' e1
      exact ⟨_, e2⟩
    · obtain ⟨o2, e2⟩ := tb' b o' e1 hb
      exact ⟨o2, stays b o2 e2⟩
  · obtain ⟨m1, e1⟩ := ub.tbls b ps q
    obtain ⟨m2, e2⟩ := un.tbls b _ e1
    exact ⟨m1 ++ m2, by rw [e2, Array.append_assoc]⟩
  · exact kb' b o (ub.keep b o q n hb (by simp)) (ub.free b o q n (by simp)) (nofr b o q hb)
  · obtain ⟨o', e1⟩ := ub.there b o q (by simp)
    exact tb' b o' e1 (nofr b o q hb)
  · cases q : s.heap.get? x with
    | none => rfl
    | some u =>
      obtain ⟨o', z⟩ := ub.there x u q (by simp)
      rw [hn] at z; cases z
theorem okX {x qual : Str} {st : Stmt} {f : Addr} {fd : FuncData} {N ps : List Str} {k : Nat} {sp : Sp} (F : Fun K x qual st f fd) (S : FnScope N ps (defScope st)) (len : ∀ vs H Q E, sp vs H Q E → vs.length = ps.length)
    (hbody : ∀ (cdv : Value) (A : Around) (outer : List Env) (s : Shared) (H : Hp) (vs : List V) (Q : VK) (E : XK), Room k (A.deeper (envOfC qual (defScope st) s.heap.objs.size f cdv)) → sp vs H Q E →
      ∃ t, PSs (cxOf (CXX P w) P w K mg base N qual (defScope st) f cdv A outer s H E) (defBody st) t ∧ t { nx := fun _ H' => Q .non H', rt := Q } (start N vs) H) : FnOk P w K mg base (CXX P w) (k + 1) f fd ps sp := by
  obtain ⟨oc, od, kV, doc, pm, an, cdv, ct, osl, rfl, lk, hcd⟩ := F.ex
  refine fn_of lk hcd S len fun A outer s H vs Q E hr hsp => ?_
  exact hbody cdv A outer s H vs Q E hr hsp
end
end Gz
namespace Gz
open PySem PySem.Spec PyProof.Rows L2
abbrev Xp (X : Cx) (F : Value → Shared → Prop) (pn : List (Addr × Obj)) : Cx := { X with xe := F, pn := pn }
abbrev Xh (X : Cx) (A' : Around) (pn : List (Addr × Obj)) : Cx := { X with A := A', calm := false, xe := fun _ _ => False, pn := pn }
def tTry (K : PySem.W.Frag) (m i : Nat) (G : Addr) (tb th : TS) (E' : XK) : TS := fun D σ H => tb D σ H ∧ ∀ cls H', E' cls none H' → ∃ C, cls = .ref C ∧ PySem.W.exmOne K (.ref C) (.ref G) = some true ∧
  ∀ a, H' a = none → th { nx := fun σ' H2 => D.nx (σ'.set i none) H2, rt := D.rt, bk := fun σ' H2 => D.bk (σ'.set i none) H2, ct := fun σ' H2 => D.ct (σ'.set i none) H2 } ((List.replicate m none).set i (some (.ref a))) (upd H' a (excO a C))
section
variable {X : Cx} {F : Value → Shared → Prop} {pins pn : List (Addr × Obj)} {σ : L2.St} {H : Hp} {s : Shared} {A' : Around}
theorem okP (ok : X.Ok) : (Xp X F pn).Ok := ⟨ok.mod, ok.kind, ok.glob, ok.blt, ok.above, ok.inj, ok.has, ok.cab, ok.hd, ok.frames, ok.stk, ok.exf, ok.bs, ok.bsz, ok.noex, ok.exfs, ok.funs, ok.frf⟩
theorem okP' (ok : (Xp X F pn).Ok) : X.Ok := ⟨ok.mod, ok.kind, ok.glob, ok.blt, ok.above, ok.inj, ok.has, ok.cab, ok.hd, ok.frames, ok.stk, ok.exf, ok.bs, ok.bsz, ok.noex, ok.exfs, ok.funs, ok.frf⟩
theorem okH (ok : X.Ok) (hA : A'.frames = X.A.frames) : (Xh X A' pn).Ok := ⟨ok.mod, ok.kind, ok.glob, ok.blt, ok.above, ok.inj, ok.has, ok.cab, (fun z => nomatch z), hA.trans ok.frames, ok.stk, ok.exf, ok.bs, ok.bsz, ok.noex, ok.exfs, ok.funs, ok.frf⟩
theorem invP (I : Inv X pins σ H s) : Inv (Xp X F (X.pn ++ pins)) [] σ H s := ⟨okP I.ok, I.os, I.bare, I.base, I.loc, I.cell, I.free, I.freeC, fun p hp => I.pin p (by simpa using hp), I.hok, I.len⟩
theorem invP' (I : Inv (Xp X F (X.pn ++ pins)) [] σ H s) : Inv X pins σ H s := ⟨okP' I.ok, I.os, I.bare, I.base, I.loc, I.cell, I.free, I.freeC, fun p hp => I.pin p (by simpa using hp), I.hok, I.len⟩
theorem invH {pins' : List (Addr × Obj)} (I : Inv (Xp X F pn) pins' σ H s) (hA : A'.frames = X.A.frames) : Inv (Xh X A' pn) [] σ H s :=
  ⟨okH (okP' I.ok) hA, I.os, I.bare, I.base, I.loc, I.cell, I.free, I.freeC, fun p hp => I.pin p (by simp at hp; exact List.mem_append_left _ hp), I.hok, I.len⟩
theorem SP.unP {D : Ends} {f : Flow} {s' : Shared} (h : SP (Xp X F (X.pn ++ pins)) [] D f s') : SP X pins D f s' := by
  cases f with
  | next => obtain ⟨σ', H', I, q⟩ := h; exact ⟨σ', H', invP' I, q⟩
  | brk => obtain ⟨σ', H', I, q⟩ := h; exact ⟨σ', H', invP' I, q⟩
  | cont => obtain ⟨σ', H', I, q⟩ := h; exact ⟨σ', H', invP' I, q⟩
  | ret u => obtain ⟨v, σ', H', I, r, q⟩ := h; exact ⟨v, σ', H', invP' I, r, q⟩
theorem nameGoes {M : Model} {A : Around} {E : Value → Shared → Prop} {n : Str} {i : Nat} {hpos : Pos} {Q : Unit → Shared → Prop} (okX : X.Ok) (I : Inv (Xh X A' (X.pn ++ pins)) [] σ H s) (hN : X.N.Nodup) (hi : X.N[i]? = some n) (hl : X.env.scope.names.lookup n = some .local)
    (h : ∀ s', Inv X pins (σ.set i none) H s' → Q () s') : wpAny M A (do bindName X.env n .none; unbindBehindTheSuite X.env n hpos) Q E s := by
  obtain ⟨m, hn, hlk⟩ := id I.loc
  have hcls : (X.env.scope.kind == .class || (X.env.scope.kind == .module && X.env.locals != X.env.globals)) = false := by rw [I.ok.kind]; rfl
  have cne : ∀ x c, X.env.cells.lookup x = some c → c ≠ X.env.locals := I.cne
  have fre : H X.env.locals = none := I.free
  obtain ⟨oL, _, _, hoL, _⟩ := id hn
  refine wpAny_nameGoes_keeps hl hn hcls fun h' v hn' hs => ?_
  have tracked : HOk X.prog X.w H h' := fun b ob e => by
    refine (I.hok b ob e).stay (fun c w' hc q => (hs.2 c ?_).trans q) (fun _ q => q) fun _ _ q => q
    rintro rfl
    rcases hc with hc | hc
    · rw [← hc, fre] at e; cases e
    · rw [fre] at hc; cases hc
  have hab : X.s₀.heap.objs.size ≤ X.env.locals := okX.above
  refine h _ ⟨okX, I.os, I.bare, ⟨fun b o e nn hb hx => ?_, fun b o e nn hb hx => ?_, I.base.free, fun b o e hx => ?_, I.base.tups, I.base.frzs, I.base.tbls⟩, ⟨_, hn', fun j y v' e1 e2 e3 => ?_⟩, fun y c e => ?_, I.free, I.freeC, fun p hp => ?_, tracked, by simpa using I.len⟩
  · exact (hs.2 b (Nat.ne_of_lt (Nat.lt_of_lt_of_le (Heap.lt_size e) hab))).trans (I.base.keep b o e nn hb hx)
  · obtain ⟨sl, e1⟩ := I.base.slot b o e nn hb hx
    exact ⟨sl, (hs.2 b (Nat.ne_of_lt (Nat.lt_of_lt_of_le (Heap.lt_size e) hab))).trans e1⟩
  · obtain ⟨o', e1⟩ := I.base.there b o e hx
    exact ⟨o', (hs.2 b (Nat.ne_of_lt (Nat.lt_of_lt_of_le (Heap.lt_size e) hab))).trans e1⟩
  · have hji : j ≠ i := by
      rintro rfl
      by_cases hlt : j < σ.length
      · rw [List.getElem?_set_self hlt] at e2; cases e2
      · rw [List.getElem?_eq_none (by rw [List.length_set]; omega)] at e2; cases e2
    rw [List.getElem?_set_ne (Ne.symm hji)] at e2
    obtain ⟨u', r', q⟩ := hlk j y v' e1 e2 e3
    refine ⟨u', r', ?_⟩
    rcases q with ⟨k, e⟩ | ⟨k, c, e, z⟩
    · refine .inl ⟨k, ?_⟩
      have : y ≠ n := fun e => hji (nodup_ix hN e1 (e ▸ hi))
      simp [this, e]
    · exact .inr ⟨k, c, e, z.sameBut hs (cne y c e)⟩
  · obtain ⟨w', z⟩ := I.cell y c e
    exact ⟨w', z.sameBut hs (cne y c e)⟩
  · obtain ⟨e, nn, ne, nf, d⟩ := I.pin p (by simpa using hp)
    exact ⟨(hs.2 p.1 ne).trans e, nn, ne, nf, d⟩
theorem ps_try {body suite : List Stmt} {b₀ : Stmt} {x n : Str} {np hpos pos : Pos} {tb th : TS} {G : Addr} (E' : XK) (i : Nat) (hst : X.stack = X.env :: X.outer) (hfm : X.env.frame = some X.env.locals) (hg : Gl X x) (hm : X.mg x = some (.ref G))
    (hN : X.N.Nodup) (hi : X.N[i]? = some n) (hl : X.env.scope.names.lookup n = some .local)
    (hb : ∀ F pn, Passes (CXX X.prog X.w) (Xp X F pn) E' → PSs (Xp X F pn) body tb) (hh : ∀ A' pn, PSs (Xh X A' pn) (b₀ :: suite) th) (hd : (x == ("__debug__" : Str)) = false := by decide)
    (hf : X.fn n = true ∨ X.env.scope.names.lookup n = some .local := by first | exact .inl rfl | exact .inr rfl | assumption) :
    PS X (.Try body [.ExceptHandler (some (.Name x np)) (some n) (b₀ :: suite) hpos] [] [] pos) (tTry X.K X.N.length i G tb th E') := by
  intro pins s σ H D I h
  obtain ⟨h1, h2⟩ := h
  refine wpAny_Try_except ?_
  refine wpAny_mono (hb (fun e s₁ => wpAny (model X.prog X.w) X.A (noteFrame e X.env) (fun _ s₂ => wpAny (model X.prog X.w) X.A (setFlight e none) (fun _ s₃ => wpAny (model X.prog X.w) X.A (handleBy e X.env [.ExceptHandler (some (.Name x np)) (some n) (b₀ :: suite) hpos]) (SP X pins D) X.xe s₃) X.xe s₂) X.xe s₁) (X.pn ++ pins) ?_ [] s σ H D (invP I) h1) (fun f s1 q => ?_) fun e s1 q => q
  · intro pins' σ' H1 s1 ev s2 I1 cx
    obtain ⟨xx, cls, a0, H', B, rfl, os, bare, un, kb, tb', hok, hx, hn, fl, hE⟩ := cx
    obtain ⟨C, rfl, hmt, hth⟩ := h2 cls H' hE
    have okX := I.ok
    have hfr : X.A.frames = some (X.env :: X.outer) := by rw [← hst]; exact okX.frames
    have fl' : Heap.FlyingW B (X.env :: X.outer) xx (.ref C) a0 s2.heap := by
      have z : Heap.FlyingW B X.stack xx (.ref C) a0 s2.heap := fl
      rw [hst] at z
      exact z
    have hF : s1.heap.FunFrames X.base X.stack := I1.stack
    have frfree : ∀ b ∈ frs X.stack, H1 b = none := I1.stkFree
    have un5 : ∀ h : Heap, B.StaysIn h → s2.heap.UpToSlots h → Un (frs X.stack) [] H1 H' s1.heap h := fun h stays up => by
      have frUp : ∀ b ∈ frs X.stack, ∀ o, s1.heap.get? b = some o → ∃ sl, h.get? b = some { o with slots := sl } := fun b hb o q => by
        obtain ⟨_, o', ho', hnf⟩ := hF.mem hb
        rw [q] at ho'; cases ho'
        obtain ⟨sl, e1⟩ := un.slot b o q (frfree b hb) hb (by simp)
        obtain ⟨sl', e2⟩ := up b _ e1 hnf
        exact ⟨sl', e2⟩
      refine ⟨fun b o q nn hb hx' => stays b o (kb b o q nn hb), fun b o q nn hb hx' => frUp b hb o q, un.free, fun b o q hx' => ?_, un.tups, un.frzs, un.tbls⟩
      by_cases hb : b ∈ frs X.stack
      · obtain ⟨sl, e2⟩ := frUp b hb o q
        exact ⟨_, e2⟩
      · obtain ⟨o2, e2⟩ := tb' b o q hb
        exact ⟨o2, stays b o2 e2⟩
    refine wpAny_looks_onW hfr hfm fl' fun h₄ hheld₄ hsm₄ => ?_
    refine wpAny_landsW hheld₄ fun h₅ hfl₅ hsm₅ => ?_
    have up5 : s2.heap.UpToSlots h₅ := hsm₄.trans hsm₅
    have I5 : Inv (Xh X (X.A.mark (some (.ref xx))) (X.pn ++ pins)) [] σ' H' { s2 with heap := h₅ } := by
      refine invH (I1.call' (s' := { s2 with heap := h₅ }) (ch := []) os (un5 h₅ hfl₅.1 up5) (hok.kept fun b u q => hfl₅.1 b u q) bare (fun b z => absurd z (by simp))) ?_
      first | rfl | simp
    refine wpAny_handleBy_cons (codeAny_handlers_test ?_) (by intro q; cases q)
    refine ld_glob (X := Xh X (X.A.mark (some (.ref xx))) (X.pn ++ pins)) I5 hg hm ?_ hd
    obtain ⟨ob, hob, hobc⟩ := hfl₅.there
    have LT : PySem.W.Looks (model X.prog X.w) h₅ (typeOf (.ref xx)) (.ref C) := hobc ▸ (PySem.W.Looks.ld hob).andThen .now
    refine (PySem.W.exm_one (M := model X.prog X.w) (h := h₅) I5.kIn LT hmt).here ?_
    refine codeAny_handlers_suite_as ?_
    refine lands_againW hfl₅ fun h₆ fl₆ up₆ => ?_
    have up6 : s2.heap.UpToSlots h₆ := up5.trans up₆
    obtain ⟨oe, hoe, hoec⟩ := fl₆.there
    have u6 := un5 h₆ fl₆.1 up6
    have nex : ∀ b o, s1.heap.get? b = some o → b ≠ xx := fun b o q z => by rw [z, hn] at q; cases q
    have net : ∀ b o, H' b = some o → b ≠ xx := fun b o q z => by rw [z, hx] at q; cases q
    have un6 : Un (frs X.stack) [] H1 (upd H' xx (excO xx C)) s1.heap h₆ := by
      refine ⟨u6.keep, u6.slot, fun b o q nn hx' => ?_, u6.there, fun b xs q => ?_, fun b o u q => ?_, fun b ps q => ?_⟩
      · rw [upd_ne (nex b o q)]; exact u6.free b o q nn hx'
      · have := u6.tups b xs q
        rw [upd_ne (net b _ this)]; exact this
      · have := u6.frzs b o u q
        rw [upd_ne (net b _ this)]; exact this
      · obtain ⟨more, z⟩ := u6.tbls b ps q
        exact ⟨more, by rw [upd_ne (net b _ z)]; exact z⟩
    have hok6 : HOk X.prog X.w (upd H' xx (excO xx C)) h₆ := fun b u q => by
      by_cases hb' : b = xx
      · subst hb'; rw [upd_same] at q; cases q
        exact excO_ok hoe hoec
      · rw [upd_ne hb'] at q
        exact (hok b u q).stay (fun c v _ z => fl₆.1 c v z) (fun c z => by rw [upd_ne (net c _ z)]; exact z) fun c xs z => by rw [upd_ne (net c _ z)]; exact z
    have I6 : Inv (Xh X (X.A.mark (some (.ref xx))) (X.pn ++ pins)) [] σ' (upd H' xx (excO xx C)) { s2 with heap := h₆ } := by
      refine invH (I1.call' (s' := { s2 with heap := h₆ }) (ch := []) os un6 hok6 bare (fun b z => absurd z (by simp))) ?_
      first | rfl | simp
    have I7 : Inv (Xh X (X.A.mark (some (.ref xx))) (X.pn ++ pins)) [] (List.replicate X.N.length none) (upd H' xx (excO xx C)) { s2 with heap := h₆ } :=
      I6.weak (by rw [List.length_replicate, I6.len]) fun j v z => by
        rw [List.getElem?_replicate] at z
        split at z <;> cases z
    refine store_ok (X := Xh X (X.A.mark (some (.ref xx))) (X.pn ++ pins)) (v := .ref xx) I7 hN hi (.inl hl) rfl (fun s8 I8 => ?_) hf
    refine wpAny_mono (hh (X.A.mark (some (.ref xx))) (X.pn ++ pins) [] s8 _ _ _ I8 (hth xx hx)) (fun fl s9 q => ?_) fun _ _ z => z.elim
    cases fl with
    | next =>
      obtain ⟨σ9, H9, I9, q⟩ := q
      exact nameGoes okX I9 hN hi hl fun s' J => ⟨_, _, J, q⟩
    | brk =>
      obtain ⟨σ9, H9, I9, q⟩ := q
      exact nameGoes okX I9 hN hi hl fun s' J => ⟨_, _, J, q⟩
    | cont =>
      obtain ⟨σ9, H9, I9, q⟩ := q
      exact nameGoes okX I9 hN hi hl fun s' J => ⟨_, _, J, q⟩
    | ret u =>
      obtain ⟨v, σ9, H9, I9, r, q⟩ := q
      exact nameGoes okX I9 hN hi hl fun s' J => ⟨v, _, _, J, r, q⟩
  · have q' := SP.unP q
    cases f with
    | next =>
      obtain ⟨σ', H', I', q'⟩ := q'
      exact wpAny_execs_nil ⟨σ', H', I', q'⟩
    | brk => exact q'
    | cont => exact q'
    | ret u => exact q'
end
theorem exm_of {K : PySem.W.Frag} {C G : Addr} {cd : ClassData} {b : Bool} (h1 : PySem.W.clsIn K G = some cd) (h2 : PySem.W.typeIn K (.ref G) = some (.type "type")) (h3 : PySem.W.subIn K (.ref C) (.ref G) = some b) (h4 : PySem.W.subIn K (.ref G) (.type "BaseException") = some true) :
    PySem.W.exmOne K (.ref C) (.ref G) = some b := by
  unfold PySem.W.exmOne
  rw [if_pos (by rw [h4]; rfl)]
  show (if ((PySem.W.clsIn K G).isSome && PySem.W.typeIn K (.ref G) == some (.type "type")) = true then PySem.W.subIn K (.ref C) (.ref G) else none) = some b
  rw [if_pos (by rw [h1, h2]; rfl)]
  exact h3
end Gz
set_option linter.all false
namespace Gz
def cellD (ns : List Int) (k : Int) : Int := ns.getD k.toNat 0
def num (c : Int) : Int := if c % 3 = 0 then c / 3 % 13 - 6 else c / 3 % 1000000000000000000000000000000 * 3315501701285949699224633478459810372516696558535471 % 200000000000000000000000000000000000000000000000001 - 100000000000000000000000000000000000000000000000000
theorem num_in (c : Int) : -100000000000000000000000000000000000000000000000000 ≤ num c ∧ num c ≤ 100000000000000000000000000000000000000000000000000 := by
  unfold num
  split
  · omega
  · generalize c / 3 % 1000000000000000000000000000000 * 3315501701285949699224633478459810372516696558535471 = x
    omega
def iabs (x : Int) : Int := if x < 0 then -x else x
theorem iabs_nn (x : Int) : 0 ≤ iabs x := by unfold iabs; split <;> omega
theorem iabs_eq (x : Int) : iabs x = (x.natAbs : Int) := by unfold iabs; split <;> omega
def gcdI (a b : Int) : Int := ((Nat.gcd a.natAbs b.natAbs : Nat) : Int)
theorem gcd_step {a b : Int} (ha : 0 ≤ a) (hb : 0 < b) : gcdI b (a % b) = gcdI a b := by
  unfold gcdI
  have e : (a % b).natAbs = a.natAbs % b.natAbs := by
    rw [Int.natAbs_emod_of_nonneg ha]
  rw [e, Nat.gcd_comm b.natAbs, ← Nat.gcd_rec, Nat.gcd_comm]
theorem gcd_zero {a : Int} (ha : 0 ≤ a) : gcdI a 0 = a := by
  unfold gcdI
  rw [Int.natAbs_zero, Nat.gcd_zero_right]
  omega
theorem gcd_abs (a b : Int) : gcdI (iabs a) (iabs b) = gcdI a b := by
  unfold gcdI
  rw [iabs_eq, iabs_eq, Int.natAbs_natCast, Int.natAbs_natCast]
theorem gcd_pos {a b : Int} (h : a ≠ 0 ∨ b ≠ 0) : 0 < gcdI a b := by
  unfold gcdI
  have : 0 < Nat.gcd a.natAbs b.natAbs := by
    rcases h with h | h
    · exact Nat.gcd_pos_of_pos_left _ (by omega)
    · exact Nat.gcd_pos_of_pos_right _ (by omega)
  omega
theorem gcd_dvd_left (a b : Int) : gcdI a b ∣ a := by
  unfold gcdI
  exact Int.ofNat_dvd_left.mpr (Nat.gcd_dvd_left _ _)
theorem gcd_dvd_right (a b : Int) : gcdI a b ∣ b := by
  unfold gcdI
  exact Int.ofNat_dvd_left.mpr (Nat.gcd_dvd_right _ _)
theorem raise_in (t : Int) {b : Int} (hb : 0 < b) : t ≤ -(-t / b) * b ∧ (-(-t / b) - 1) * b < t := by
  have h1 := Int.emod_add_mul_ediv (-t) b
  have h2 := Int.emod_nonneg (-t) (show b ≠ 0 by omega)
  have h3 := Int.emod_lt_of_pos (-t) hb
  rw [Int.sub_mul, Int.neg_mul, Int.mul_comm (-t / b) b]
  omega
def sg (t b : Int) : Int := if b < 0 then -gcdI t b else gcdI t b
def rt (t b : Int) : Int := t.fdiv (sg t b)
def rb (t b : Int) : Int := b.fdiv (sg t b)
theorem rat_parts {t b : Int} (hb : b ≠ 0) : ∃ g x y : Int, 0 < g ∧ g = gcdI t b ∧ t = g * x ∧ b = g * y ∧ gcdI x y = 1 := by
  have hg := gcd_pos (a := t) (b := b) (.inr hb)
  obtain ⟨x, hx⟩ := gcd_dvd_left t b
  obtain ⟨y, hy⟩ := gcd_dvd_right t b
  refine ⟨gcdI t b, x, y, hg, rfl, hx, hy, ?_⟩
  have e : Nat.gcd t.natAbs b.natAbs = (gcdI t b).natAbs * Nat.gcd x.natAbs y.natAbs := by
    have h1 : t.natAbs = (gcdI t b).natAbs * x.natAbs := by rw [← Int.natAbs_mul, ← hx]
    have h2 : b.natAbs = (gcdI t b).natAbs * y.natAbs := by rw [← Int.natAbs_mul, ← hy]
    rw [← Nat.gcd_mul_left, ← h1, ← h2]
  have e2 : (gcdI t b).natAbs = Nat.gcd t.natAbs b.natAbs := by unfold gcdI; omega
  rw [e2] at e
  have hp : 0 < Nat.gcd t.natAbs b.natAbs := Nat.gcd_pos_of_pos_right _ (by omega)
  have e3 : Nat.gcd x.natAbs y.natAbs = 1 := by
    have : Nat.gcd t.natAbs b.natAbs * 1 = Nat.gcd t.natAbs b.natAbs * Nat.gcd x.natAbs y.natAbs := by rw [Nat.mul_one]; exact e
    exact (Nat.eq_of_mul_eq_mul_left hp this).symm
  unfold gcdI
  rw [e3]
  rfl
theorem rat_val {t b : Int} (hb : b ≠ 0) : ∃ g x y : Int, 0 < g ∧ t = g * x ∧ b = g * y ∧ gcdI x y = 1 ∧ sg t b ≠ 0 ∧ (sg t b).natAbs = g.natAbs ∧ ((0 < y ∧ rt t b = x ∧ rb t b = y) ∨ (y < 0 ∧ rt t b = -x ∧ rb t b = -y)) := by
  obtain ⟨g, x, y, hg, e, ht, hb', h1⟩ := rat_parts (t := t) hb
  refine ⟨g, x, y, hg, ht, hb', h1, ?_, ?_, ?_⟩
  · unfold sg; rw [← e]; split <;> omega
  · unfold sg; rw [← e]; split <;> omega
  · by_cases hy : y < 0
    · right
      have hlt : b < 0 := by rw [hb']; exact Int.mul_neg_of_pos_of_neg hg hy
      have es : sg t b = -g := by unfold sg; rw [if_pos hlt, ← e]
      refine ⟨hy, ?_, ?_⟩
      · unfold rt
        rw [es, ht, show g * x = (-g) * (-x) by rw [Int.neg_mul_neg]]
        exact Int.mul_fdiv_cancel_left _ (by omega)
      · unfold rb
        rw [es, hb', show g * y = (-g) * (-y) by rw [Int.neg_mul_neg]]
        exact Int.mul_fdiv_cancel_left _ (by omega)
    · left
      have hy0 : y ≠ 0 := by rintro rfl; rw [Int.mul_zero] at hb'; exact hb hb'
      have hgt : ¬ b < 0 := by
        have : 0 < g * y := Int.mul_pos hg (by omega)
        omega
      have es : sg t b = g := by unfold sg; rw [if_neg hgt, ← e]
      refine ⟨by omega, ?_, ?_⟩
      · unfold rt
        rw [es, ht]
        exact Int.mul_fdiv_cancel_left _ (by omega)
      · unfold rb
        rw [es, hb']
        exact Int.mul_fdiv_cancel_left _ (by omega)
theorem natAbs_le_mul {g x : Int} (hg : 0 < g) : x.natAbs ≤ (g * x).natAbs := by
  rw [Int.natAbs_mul]
  exact Nat.le_mul_of_pos_left _ (by omega)
theorem gcdI_neg (x y : Int) : gcdI (-x) (-y) = gcdI x y := by unfold gcdI; rw [Int.natAbs_neg, Int.natAbs_neg]
theorem rat_ok {t b : Int} (hb : b ≠ 0) : 1 ≤ rb t b ∧ rt t b * b = t * rb t b ∧ gcdI (rt t b) (rb t b) = 1 ∧ (rt t b).natAbs ≤ t.natAbs ∧ (rb t b).natAbs ≤ b.natAbs ∧ sg t b ≠ 0 ∧ (sg t b).natAbs ≤ b.natAbs := by
  obtain ⟨g, x, y, hg, ht, hb', h1, s0, s1, h | h⟩ := rat_val (t := t) hb
  · obtain ⟨hy, e1, e2⟩ := h
    rw [e1, e2, s1]
    have n1 := natAbs_le_mul (x := x) hg
    have n2 := natAbs_le_mul (x := y) hg
    have n3 := natAbs_le_mul (x := g) hy
    rw [Int.mul_comm] at n3
    rw [← ht] at n1
    rw [← hb'] at n2 n3
    refine ⟨by omega, ?_, h1, n1, n2, s0, n3⟩
    rw [hb', ht, Int.mul_assoc, Int.mul_left_comm]
  · obtain ⟨hy, e1, e2⟩ := h
    rw [e1, e2, s1]
    have n1 := natAbs_le_mul (x := x) hg
    have n2 := natAbs_le_mul (x := y) hg
    have n3 : g.natAbs ≤ (g * y).natAbs := by
      rw [Int.natAbs_mul]; exact Nat.le_mul_of_pos_right _ (by omega)
    rw [← ht] at n1
    rw [← hb'] at n2 n3
    refine ⟨by omega, ?_, by rw [gcdI_neg]; exact h1, by omega, by omega, s0, n3⟩
    rw [hb', ht, Int.neg_mul, Int.mul_neg, Int.mul_assoc, Int.mul_left_comm]
theorem em30 (x : Int) : (x % 1000000000000000000000000000000).natAbs < 2 ^ 200 := by
  have h1 := Int.emod_nonneg x (show (1000000000000000000000000000000 : Int) ≠ 0 by decide)
  have h2 := Int.emod_lt_of_pos x (show (0 : Int) < 1000000000000000000000000000000 by decide)
  omega
end Gz
set_option Elab.async false
set_option linter.all false
set_option maxRecDepth 100000
set_option maxHeartbeats 4000000
namespace Gz
open PySem PySem.W PyProof.Rows
section
variable {lt : Nat → Nat → Bool} {n : Nat}
structure Ord (lt : Nat → Nat → Bool) : Prop where
  asym : ∀ {a b}, lt a b = true → lt b a = false
  tr : ∀ {a b c}, lt b a = false → lt c b = false → lt c a = false
theorem Ord.rfl' (O : Ord lt) (a : Nat) : lt a a = false := by
  cases h : lt a a with
  | false => rfl
  | true => rw [O.asym h] at h; cases h
def Srt (lt : Nat → Nat → Bool) (p : Array Nat) (k : Nat) : Prop := ∀ i j, i ≤ j → j < k → lt (p.getD j 0) (p.getD i 0) = false
def Dsc (lt : Nat → Nat → Bool) (p : Array Nat) (k : Nat) : Prop := ∀ i j, i ≤ j → j < k → lt (p.getD i 0) (p.getD j 0) = false
def Prm (n : Nat) (p : Array Nat) : Prop := p.toList.Perm (List.range n)
theorem Prm.size {p : Array Nat} (h : Prm n p) : p.size = n := by
  have := h.length_eq
  simpa using this
theorem Prm.of {p q : Array Nat} (h : Prm n p) (hq : q.Perm p) : Prm n q := (Array.perm_iff_toList_perm.mp hq).trans h
theorem Srt.one (O : Ord lt) {p : Array Nat} : Srt lt p 1 := fun i j hij hj => by
  have : i = j := by omega
  subst this; exact O.rfl' _
theorem Dsc.one (O : Ord lt) {p : Array Nat} : Dsc lt p 1 := fun i j hij hj => by
  have : i = j := by omega
  subst this; exact O.rfl' _
theorem Srt.succ (O : Ord lt) {p : Array Nat} {k : Nat} (h : Srt lt p k) (hk : 1 ≤ k) (hn : lt (p.getD k 0) (p.getD (k - 1) 0) = false) : Srt lt p (k + 1) := fun i j hij hj => by
  by_cases e : j = k
  · subst e
    by_cases ei : i = j
    · subst ei; exact O.rfl' _
    · exact O.tr (h i (j - 1) (by omega) (by omega)) hn
  · exact h i j hij (by omega)
theorem Dsc.succ (O : Ord lt) {p : Array Nat} {k : Nat} (h : Dsc lt p k) (hk : 1 ≤ k) (hn : lt (p.getD (k - 1) 0) (p.getD k 0) = false) : Dsc lt p (k + 1) := fun i j hij hj => by
  by_cases e : j = k
  · subst e
    by_cases ei : i = j
    · subst ei; exact O.rfl' _
    · exact O.tr hn (h i (j - 1) (by omega) (by omega))
  · exact h i j hij (by omega)
theorem rev_get {p : Array Nat} {i j : Nat} (hj : j ≤ p.size) (k : Nat) : (kas_rev p i j).getD k 0 = if i ≤ k ∧ k < j then p.getD (i + j - 1 - k) 0 else p.getD k 0 := by
  simp only [Array.getD_eq_getD_getElem?]
  unfold kas_rev
  rw [getElem?_mirror_all hj]
  split <;> rfl
theorem Dsc.whole {p : Array Nat} {k : Nat} (h : Dsc lt p k) (hk : k ≤ p.size) : Srt lt (kas_rev p 0 k) k := fun a b hab hb => by
  rw [rev_get hk, rev_get hk, if_pos (by omega), if_pos (by omega)]
  exact h _ _ (by omega) (by omega)
def kasV {α : Type} (lt : Nat → Nat → Bool) : KasT α → α
  | .ret a => a
  | .ask i j k => kasV lt (k (lt i j))
def sortIx (lt : Nat → Nat → Bool) (n : Nat) : Array Nat := if n < 2 then List.toArray (List.range n) else kasV lt (kas_sort n)
end
end Gz
set_option Elab.async false
set_option linter.all false
set_option maxRecDepth 100000
set_option maxHeartbeats 4000000
namespace Gz
open PySem PySem.Spec PyProof.Rows L2
local macro_rules | `(tactic| walk_at "om") => `(tactic| ((try simp only [PySem.Addr] at *); omega))
def minL : List Int → Int
  | [] => 0
  | x :: r => r.foldl (fun b y => if y < b then y else b) x
theorem minF_le : ∀ (r : List Int) (b : Int), r.foldl (fun b y => if y < b then y else b) b ≤ b ∧ (∀ y ∈ r, r.foldl (fun b y => if y < b then y else b) b ≤ y) ∧ (r.foldl (fun b y => if y < b then y else b) b = b ∨ r.foldl (fun b y => if y < b then y else b) b ∈ r)
  | [], b => ⟨Int.le_refl _, fun _ z => (nomatch z), .inl rfl⟩
  | x :: r, b => by
    simp only [List.foldl_cons]
    obtain ⟨h1, h2, h3⟩ := minF_le r (if x < b then x else b)
    refine ⟨?_, fun y hy => ?_, ?_⟩
    · refine Int.le_trans h1 ?_; split <;> omega
    · rcases List.mem_cons.mp hy with rfl | hy
      · refine Int.le_trans h1 ?_; split <;> omega
      · exact h2 y hy
    · rcases h3 with h3 | h3
      · rw [h3]; split
        · right; simp
        · left; rfl
      · right; exact List.mem_cons_of_mem _ h3
theorem minL_mem {ns : List Int} (h : ns ≠ []) : minL ns ∈ ns ∧ ∀ y ∈ ns, minL ns ≤ y := by
  cases ns with
  | nil => exact absurd rfl h
  | cons x r =>
    obtain ⟨h1, h2, h3⟩ := minF_le r x
    refine ⟨?_, fun y hy => ?_⟩
    · rcases h3 with h3 | h3
      · show r.foldl _ x ∈ _
        rw [h3]; exact .head _
      · exact .tail _ h3
    · rcases List.mem_cons.mp hy with rfl | hy
      · exact h1
      · exact h2 y hy
section
variable {X : Cx} {e d : Expr} {te td : TE} {p pos kp : Pos}
def mmV (f : List Int → Int) : List Int → V → V
  | [], y => y
  | n :: ns, _ => .int (f (n :: ns))
def tMM (K : PySem.W.Frag) (f : List Int → Int) (te td : TE) : TE := fun σ H Q => te σ H fun x H1 => td σ H1 fun y H2 => ∃ a ns, x = .ref a ∧ SqL K H2 a (ns.map V.int) ∧ Q (mmV f ns y) H2
end
end Gz
set_option Elab.async false
set_option linter.all false
set_option maxRecDepth 100000
set_option maxHeartbeats 4000000
namespace Gz
open PySem PySem.Spec PyProof.Rows L2
local macro_rules | `(tactic| walk_at "om") => `(tactic| ((try simp only [PySem.Addr] at *); omega))
section
variable {prog : Program} {w : World} {A : Around} {E : Value → Shared → Prop} {s : Shared}
end
def keyGo (sp : Sp) : List V → List V → Hp → (List V → Hp → Prop) → Prop
  | [], ks, H, Q => Q ks H
  | x :: r, ks, H, Q => sp [x] H (fun k H1 => keyGo sp r (ks ++ [k]) H1 Q) E0
def KeyT (K : PySem.W.Frag) (H : Hp) : List V → List (List Int) → Prop
  | [], [] => True
  | k :: ks, n :: ns => (∃ p, k = .ref p ∧ SqT K H p (n.map V.int) ∧ n ≠ []) ∧ KeyT K H ks ns
  | _, _ => False
theorem KeyT.len {K : PySem.W.Frag} {H : Hp} : ∀ {ks : List V} {ns : List (List Int)}, KeyT K H ks ns → ks.length = ns.length
  | [], [], _ => rfl
  | _ :: _, _ :: _, h => by simp [KeyT.len h.2]
  | [], _ :: _, h => h.elim
  | _ :: _, [], h => h.elim
theorem KeyT.same {K : PySem.W.Frag} {H H1 : Hp} (e : Same H H1) : ∀ {ks : List V} {ns : List (List Int)}, KeyT K H ks ns → KeyT K H1 ks ns
  | [], [], _ => trivial
  | _ :: _, _ :: _, h => by
    obtain ⟨⟨p, a, b, c⟩, d⟩ := h
    exact ⟨⟨p, a, same_tup e b, c⟩, KeyT.same e d⟩
  | [], _ :: _, h => h.elim
  | _ :: _, [], h => h.elim
theorem KeyT.snoc {K : PySem.W.Frag} {H : Hp} {p : Addr} {n : List Int} (hp : SqT K H p (n.map V.int)) (hn : n ≠ []) : ∀ {ks : List V} {ns : List (List Int)}, KeyT K H ks ns → KeyT K H (ks ++ [.ref p]) (ns ++ [n])
  | [], [], _ => ⟨⟨p, rfl, hp, hn⟩, trivial⟩
  | _ :: _, _ :: _, h => ⟨h.1, KeyT.snoc hp hn h.2⟩
  | [], _ :: _, h => h.elim
  | _ :: _, [], h => h.elim
theorem KeyT.get {K : PySem.W.Frag} {H : Hp} : ∀ {ks : List V} {ns : List (List Int)} {i : Nat} {k : V}, KeyT K H ks ns → ks[i]? = some k → ∃ p, k = .ref p ∧ SqT K H p ((ns.getD i []).map V.int)
  | [], [], _, _, _, e => by simp at e
  | k :: _, n :: _, 0, _, h, e => by
    simp at e; subst e
    obtain ⟨⟨p, a, b, _⟩, _⟩ := h
    exact ⟨p, a, b⟩
  | _ :: _, _ :: _, i + 1, _, h, e => by
    have := KeyT.get (i := i) h.2 (by simpa using e)
    simpa using this
  | [], _ :: _, _, _, h, _ => h.elim
  | _ :: _, [], _, _, h, _ => h.elim
section
variable {X : Cx} {pins : List (Addr × Obj)} {σ : L2.St} {H : Hp} {s : Shared}
theorem KeyT.tups (I : Inv X pins σ H s) : ∀ {ks : List V} {ns : List (List Int)} {us : List Value}, KeyT X.K H ks ns → Vals ks us → ∃ fs, PySem.W.KatTups s.heap us fs ∧ fs.length = us.length ∧ ∀ v ∈ fs, ∃ i t, v = .int i t
  | [], [], _, _, .nil => ⟨[], trivial, rfl, fun _ z => (nomatch z)⟩
  | k :: ks, n :: ns, _, h, .cons r rs => by
    obtain ⟨⟨p, rfl, hp, hn⟩, h⟩ := h
    cases r
    obtain ⟨fs, a, b, c⟩ := KeyT.tups I h rs
    obtain ⟨its, rv, ⟨o, ho, hc, m, hd⟩, _⟩ := I.tuple hp
    cases n with
    | nil => exact absurd rfl hn
    | cons z zs =>
      cases rv with
      | cons r1 r2 =>
        obtain ⟨t, rfl⟩ := r1
        refine ⟨.int z t :: fs, PySem.W.KatTups.cons ho hc hd (by simp) a, by simp [b], fun v hv => ?_⟩
        rcases List.mem_cons.mp hv with rfl | hv
        · exact ⟨_, _, rfl⟩
        · exact c v hv
  | [], _ :: _, _, h, _ => h.elim
  | _ :: _, [], _, h, _ => h.elim
def ltK (kis : List (List Int)) (i j : Nat) : Bool := HT.lexLt (kis.getD i []) (kis.getD j [])
def sortL {α : Type} (kis : List (List Int)) (d : α) (as : List α) : List α := (sortIx (ltK kis) as.length).toList.map fun i => as.getD i d
end
section
variable {X : Cx} {pins : List (Addr × Obj)} {σ : L2.St} {H : Hp} {s : Shared} {CX : CXT} {k : Nat} {fa a : Addr} {fd : FuncData} {y : Str} {sp : Sp} {xs : List V} {Q : VK}
def rSortK (K : PySem.W.Frag) (sp : Sp) (x : V) (H1 : Hp) (Q : VK) : Prop := ∃ (a : Addr) (xs : List V), x = .ref a ∧ SqL K H1 a xs ∧ xs.length < 64 ∧ keyGo sp xs [] H1 fun ks H2 => ∃ kis, KeyT K H2 ks kis ∧ ∀ l, H2 l = none → Q (.ref l) (upd H2 l (.lst (sortL kis .non xs)))
def tSortK (K : PySem.W.Frag) (sp : Sp) (te : TE) : TE := fun σ H Q => te σ H fun x H1 => rSortK K sp x H1 Q
end
end Gz
set_option Elab.async false
set_option linter.all false
set_option maxRecDepth 100000
set_option maxHeartbeats 4000000
namespace Gz
open PySem PySem.Spec PyProof.Rows L2
local macro_rules | `(tactic| walk_at "om") => `(tactic| ((try simp only [PySem.Addr] at *); omega))
inductive FrOk (X : Cx) (scope : Scope) (cl : List (Str × Addr)) : List Nat → List Str → Prop where
  | nil : FrOk X scope cl [] []
  | cons {j : Nat} {y : Str} {c : Addr} {js : List Nat} {ys : List Str} (hN : X.N[j]? = some y) (hk : X.env.kindOf y = some .cell) (h1 : cl.lookup y = some c) (h2 : X.env.cells.lookup y = some c) (h : FrOk X scope cl js ys) : FrOk X scope cl (j :: js) (y :: ys)
inductive ClOk (X : Cx) : List (Str × Addr) → Prop where
  | nil : ClOk X []
  | cons {n : Str} {a : Addr} {r : List (Str × Addr)} (h : X.env.cells.lookup n = some a) (t : ClOk X r) : ClOk X ((n, a) :: r)
theorem ClOk.get {X : Cx} : ∀ {cl : List (Str × Addr)}, ClOk X cl → ∀ y c, cl.lookup y = some c → X.env.cells.lookup y = some c
  | _, .nil, y, c, e => by simp at e
  | _, .cons (n := n) h t, y, c, e => by
    rw [List.lookup_cons] at e
    by_cases hy : (y == n) = true
    · rw [hy] at e
      have e1 : y = n := by simpa using hy
      cases e
      rw [e1]; exact h
    · rw [Bool.eq_false_iff.mpr hy] at e
      exact t.get y c e
theorem FrOk.get {X : Cx} {scope : Scope} {cl : List (Str × Addr)} {σ : L2.St} : ∀ {js : List Nat} {ys : List Str}, FrOk X scope cl js ys → ∀ (i : Nat) (y : Str) (v : V), ys[i]? = some y → (js.map fun j => (σ[j]?).join)[i]? = some (some v) →
    ∃ (j : Nat) (c : Addr), X.N[j]? = some y ∧ σ[j]? = some (some v) ∧ X.env.kindOf y = some .cell ∧ cl.lookup y = some c ∧ X.env.cells.lookup y = some c
  | _, _, .nil, i, y, v, e, _ => by simp at e
  | _, _, .cons (j := j) hN hk h1 h2 h, 0, y, v, e, q => by
    simp at e q
    subst e
    refine ⟨j, _, hN, ?_, hk, h1, h2⟩
    cases z : σ[j]? with
    | none => rw [z] at q; simp at q
    | some o => rw [z] at q; simp at q; rw [q]
  | _, _, .cons hN hk h1 h2 h, i + 1, y, v, e, q => by
    simp only [List.getElem?_cons_succ, List.map_cons] at e q
    exact h.get i y v e q
theorem FrOk.len {X : Cx} {scope : Scope} {cl : List (Str × Addr)} : ∀ {js : List Nat} {ys : List Str}, FrOk X scope cl js ys → js.length = ys.length
  | _, _, .nil => rfl
  | _, _, .cons _ _ _ _ h => by simp [h.len]
def cxB (X : Cx) (N' : List Str) (scope : Scope) (cl : List (Str × Addr)) (C : Addr) (s2 : Shared) (H2 : Hp) (ex : List Addr) (pn : List (Addr × Obj)) : Cx :=
  { X with N := N', s₀ := s2, H₀ := H2, env := compEnvC scope cl C X.env, outer := X.stack, ex := ex, fn := fun _ => false, pn := pn, xe := fun _ _ => False }
structure CompOk (X : Cx) (x : Str) (scope : Scope) (cl : List (Str × Addr)) (fr : List Nat) (ys : List Str) : Prop where
  clos : closureFor scope X.env = pure cl
  nocell : (scope.names.all fun p => p.2 != .cell) = true
  kind : scope.kind = .function
  names : (scope.names.all fun p => p.2 != .local || scope.names.lookup p.1 == some .local) = true
  own : scope.names.lookup x = some .local
  kinds : ((relabel scope X.env).names.all fun p => (p.2 != .cell && p.2 != .free) || (cl.lookup p.1).isSome) = true
  cls : ClOk X cl
  frs : FrOk X scope cl fr ys
  nd : (x :: ys).Nodup
  kfr : (ys.all fun y => (relabel scope X.env).names.lookup y == some .cell) = true
def PTs (X : Cx) (ifs : List Expr) (t : TT) : Prop :=
  ∀ (pins : List (Addr × Obj)) (s : Shared) (σ : L2.St) (H : Hp) (Q : Bool → Hp → Prop), Inv X pins σ H s → t σ H Q →
    wpAny (model X.prog X.w) X.A (forIn ifs true fun c r => if r = true then do let ok ← isTrue c X.env (eval c X.env); pure (ForInStep.yield ok) else pure (ForInStep.yield r)) (TP X pins σ Q) X.xe s
def tAll : TT := fun _ H Q => Q true H
theorem pts_nil {X : Cx} : PTs X [] tAll := fun _ _ _ H _ I h => wpAny_tests_nil ⟨H, I, h⟩
def tBlk (J : It) (ρ : L2.St) (tt : TT) (te : TE) (H : Hp) (Q : VK) : Prop := ∃ W : Nat → Nat → List V → Hp → Prop, (∃ m, W 0 m [] H) ∧ ∀ i m ys H, W i m ys H →
  (J.stop i H ∧ ys.length ≤ sizeLine ∧ ∀ l, H l = none → Q (.ref l) (upd H l (.lst ys))) ∨ (J.go i H ∧ ys.length < sizeLine ∧ ∃ N : List V → Hp → Prop, (∀ zs H', N zs H' → ∃ m', m' < m ∧ W (i + 1) m' zs H') ∧
    ∀ x H', J.yld i H x H' → tt (some x :: ρ) H' fun b H1 => if b = true then te (some x :: ρ) H1 fun y H2 => N (ys ++ [y]) H2 else N ys H1)
def tComp (wi : TI) (fr : List Nat) (tt : TT) (te : TE) : TE := fun σ H Q => wi σ H fun J H1 => tBlk J (fr.map fun j => (σ[j]?).join) tt te H1 Q
section
variable {X : Cx} {pins : List (Addr × Obj)} {σ : L2.St} {H2 : Hp} {s2 : Shared} {x : Str} {px pos : Pos} {elt iter : Expr} {ifs : List Expr} {scope : Scope} {cl : List (Str × Addr)} {fr : List Nat} {ys : List Str} {tt : TT} {te : TE}
theorem look_in {l : List (Str × NameKind)} {p : Str × NameKind → Bool} (h : l.all p = true) {y : Str} {k : NameKind} (e : l.lookup y = some k) : p (y, k) = true := by
  exact List.all_eq_true.mp h _ (PySem.mem_of_lookup e)
theorem cxB_ok {C : Addr} {ex : List Addr} {pn : List (Addr × Obj)} (S : CompOk X x scope cl fr ys) (I2 : Inv X pins σ H2 s2) (f2 : ∀ b ∈ ex, FpOk X pins H2 b) (hC : s2.heap.objs.size ≤ C) (hex : ∀ b ∈ ex, b < s2.heap.objs.size) : (cxB X (x :: ys) scope cl C s2 H2 ex pn).Ok := by
  refine ⟨I2.ok.mod, S.kind, I2.ok.glob, I2.ok.blt, hC, fun a b c h1 h2 => ?_, fun y hy => ?_, fun _ _ z => (nomatch z), I2.ok.hd, I2.ok.frames, .inl rfl, fun b hb => ⟨?_, fun y c e z => ?_⟩, I2.bs, Nat.le_trans I2.ok.bsz I2.sz, fun b o e hb => ?_, fun b hb z => ?_, I2.stack, I2.stkFree⟩
  · exact I2.ok.inj a b c (S.cls.get a c h1) (S.cls.get b c h2)
  · have hy' : (relabel scope X.env).names.lookup y = some .cell ∨ (relabel scope X.env).names.lookup y = some .free := hy
    have q : (cl.lookup y).isSome = true := by
      rcases hy' with e | e
      · simpa using look_in S.kinds e
      · simpa using look_in S.kinds e
    exact Option.isSome_iff_exists.mp q
  · exact Nat.ne_of_lt (Nat.lt_of_lt_of_le (hex b hb) hC)
  · exact (f2 b hb).2.2.2.2.1 y c (S.cls.get y c e) z
  · obtain ⟨_, _, _, d, _, _⟩ := f2 b hb
    rcases d with d | d
    · exact I2.ok.noex b o e d
    · exact absurd (Nat.lt_of_lt_of_le (Heap.lt_size e) (Nat.le_trans I2.ok.bsz d)) (Nat.lt_irrefl _)
  · obtain ⟨_, d1, d2, _⟩ := f2 b hb
    rcases List.mem_cons.mp (I2.stkSub b z) with q | q
    · exact d1 q
    · exact d2 q
theorem comp_block {J : It} {fp : List Addr} {it : Addr} {tn : Nat → Heap → Prop} {E : Value → Shared → Prop} {Q : VK} {RR : Value → Addr → Result → Shared → Prop}
    (S : CompOk X x scope cl fr ys) (hc : X.calm = true)
    (hb : ∀ (C : Addr) (s : Shared) (H : Hp) (ex : List Addr) (pn : List (Addr × Obj)), PTs (cxB X (x :: ys) scope cl C s H ex pn) ifs tt ∧ PE (cxB X (x :: ys) scope cl C s H ex pn) elt te)
    (I2 : Inv X pins σ H2 s2) (T : Turn X.prog X.w X.K (.Name x px) J fp it tn) (st2 : tn 0 s2.heap) (f2 : ∀ b ∈ fp, FpOk X pins H2 b)
    (h : tBlk J (fr.map fun j => (σ[j]?).join) tt te H2 Q)
    (hRR : ∀ D C s' H', Inv X pins σ H' s' → (∃ m, s'.heap.Ns C m) → FpOk X pins H' C → Q (.ref D) H' → RR (.ref D) C (.ok .next) s') :
    wpAny (model X.prog X.w) X.A (newList []) (fun acc s3 => wpAny (model X.prog X.w) X.A (newFunctionEnv scope X.env.globals cl [] X.env.qual none .none (some X.env)) (fun cenv s4 =>
      codeAny (model X.prog X.w) X.A (.compStart (.ListComp elt [⟨.Name x px, iter, ifs, 0⟩] scope pos) 0 (.ref it) acc { cenv with scope := relabel scope X.env }) (RR acc cenv.locals) s4) E s3) E s2 := by
  obtain ⟨W, ⟨m0, w0⟩, turn⟩ := h
  refine wpAny_newObj_type (wpAny_newFunctionEnv (fun y hy => by simpa using List.all_eq_true.mp S.nocell y hy) (fun y hy => absurd hy (by simp)) (fun h1 hns hsb => ?_) S.kind)
  dsimp only at hns hsb ⊢
  generalize eP : s2.heap.push { cls := .type "list", dict := none, data := .seq ([] : List Value).toArray } = P2 at hns hsb ⊢
  have sz : P2.objs.size = s2.heap.objs.size + 1 := by rw [← eP, Heap.size_push]
  have hDC : s2.heap.objs.size ≠ P2.objs.size := by walk_at "om"
  have keep : ∀ b o, s2.heap.get? b = some o → h1.get? b = some o := fun b o e => by
    have lt := Heap.lt_size e
    exact hsb.extBut b o (by walk_at "om") (Heap.get?_push_of_some _ (eP ▸ Heap.get?_push_of_some _ e))
  have hD : h1.get? s2.heap.objs.size = some { cls := .type "list", data := .seq ([] : List Value).toArray 0 } :=
    hsb.extBut _ _ hDC (Heap.get?_push_of_some _ (eP ▸ Heap.get?_push_size _ rfl))
  have hfp : ∀ b ∈ fp, b < s2.heap.objs.size := fun b hb => by
    obtain ⟨o, e, _⟩ := T.obj 0 _ st2 b hb
    exact Heap.lt_size e
  have noStk : ∀ b, s2.heap.objs.size ≤ b → b ∉ frs X.stack := fun b hle z => by
    rcases List.mem_cons.mp (I2.stkSub b z) with q | q
    · have := I2.lt; walk_at "om"
    · exact I2.nofs hle q
  generalize eC : P2.objs.size = C at hns hsb hDC ⊢
  generalize eD : s2.heap.objs.size = D at hDC hD hfp noStk
  have hCle : s2.heap.objs.size ≤ C := by walk_at "om"
  have hDle : s2.heap.objs.size ≤ D := by walk_at "om"
  have ok' : (cxB X (x :: ys) scope cl C s2 H2 fp (X.pn ++ pins)).Ok := cxB_ok S I2 f2 hCle (fun b hb => by have := hfp b hb; walk_at "om")
  have pinsOk : ∀ p ∈ X.pn ++ pins, p.1 ≠ C ∧ p.1 ≠ D ∧ p.1 ∉ frs X.stack ∧ ∀ b ∈ fp, p.1 ≠ b := fun p hp => by
    obtain ⟨e, n, nL, nf, _⟩ := I2.pin p hp
    have lt := Heap.lt_size e
    refine ⟨by walk_at "om", by walk_at "om", fun z => ?_, fun b hb => (f2 b hb).2.2.2.2.2 p hp⟩
    rcases List.mem_cons.mp (I2.stkSub _ z) with q | q
    · exact nL q
    · exact nf q
  have I4 : Inv (cxB X (x :: ys) scope cl C s2 H2 fp (X.pn ++ pins)) [] (none :: fr.map fun j => (σ[j]?).join) H2 { s2 with heap := h1, toks := s2.toks + ([] : List (Str × Value)).length } := by
    refine ⟨ok', rfl, I2.bare, Un.kept keep, ⟨_, hns, fun i y v e1 e2 e3 => ?_⟩, fun y c e => ?_, I2.hok.fresh hCle, fun y c e => I2.freeC y c (S.cls.get y c e), fun p hp => ?_, I2.hok.kept keep, ?_⟩
    · cases i with
      | zero => simp at e2
      | succ i =>
        simp only [List.getElem?_cons_succ] at e1 e2
        have e1' : ys[i]? = some y := e1
        obtain ⟨j, c, hN, hσ, hk, hc1, hc2⟩ := S.frs.get i y v e1' e2
        obtain ⟨m, hm, hl⟩ := I2.loc
        obtain ⟨u, ru, lu⟩ := hl j y v hN hσ (.inr (.inl hk))
        refine ⟨u, ru, .inr ⟨.inl ?_, c, hc1, ?_⟩⟩
        · have z := List.all_eq_true.mp S.kfr y (List.mem_of_getElem? e1')
          exact (by simpa using z : (relabel scope X.env).names.lookup y = some .cell)
        · rcases lu with ⟨z, _⟩ | ⟨_, c', e', q'⟩
          · rw [hk] at z; cases z
          · rw [hc2] at e'; cases e'
            obtain ⟨o, ho, hd⟩ := q'
            exact ⟨o, keep _ _ ho, hd⟩
    · obtain ⟨v, o, ho, hd⟩ := I2.cell y c (S.cls.get y c e)
      exact ⟨v, o, keep _ _ ho, hd⟩
    · have hp' : p ∈ X.pn ++ pins := by
        have : p ∈ (X.pn ++ pins) ++ [] := hp
        simpa using this
      obtain ⟨e, n, _, _, d⟩ := I2.pin p hp'
      obtain ⟨p1, _, p3, _⟩ := pinsOk p hp'
      exact ⟨keep _ _ e, n, p1, p3, d⟩
    · show (none :: fr.map fun j => (σ[j]?).join).length = (x :: ys).length
      simp [S.frs.len]
  have st4 : tn 0 h1 := T.keep 0 _ _ st2 fun b _ o e => keep b o e
  have fpB : ∀ (H' : Hp) (o : Obj), (∀ b ∈ fp, H' b = none) → ∀ b ∈ fp, FpOk (cxB X (x :: ys) scope cl C s2 H2 fp (X.pn ++ pins)) [(D, o)] H' b := fun H' o hn b hb => by
    obtain ⟨_, d1, d2, d3, d4, d5⟩ := f2 b hb
    have lt := hfp b hb
    refine ⟨hn b hb, ?_, fun z => ?_, .inl hb, fun y c e => d4 y c (S.cls.get y c e), fun p hp => ?_⟩
    · show b ≠ C
      walk_at "om"
    · rcases List.mem_cons.mp (I2.stkSub b z) with q | q
      · exact d1 q
      · exact d2 q
    · have hp' : p ∈ (X.pn ++ pins) ++ [(D, o)] := hp
      rcases List.mem_append.mp hp' with z | z
      · exact d5 p z
      · have : p = (D, o) := by simpa using z
        subst this
        show D ≠ b
        walk_at "om"
  have loop : ∀ s' : Shared, s' = { s2 with heap := h1, toks := s2.toks + ([] : List (Str × Value)).length } →
      codeAny (model X.prog X.w) X.A (.compLoop (.ListComp elt [⟨.Name x px, iter, ifs, 0⟩] scope pos) 0 (.ref it) (.ref D) (compEnvC scope cl C X.env)) (RR (.ref D) C) s' := by
    rintro s' rfl
    refine codeAny_compLoop_tests (fun n s' => ∃ i zs H' o its nn, Inv (cxB X (x :: ys) scope cl C s2 H2 fp (X.pn ++ pins)) [] (o :: fr.map fun j => (σ[j]?).join) H' s' ∧ tn i s'.heap ∧ (∀ b ∈ fp, H' b = none) ∧ H' D = none ∧
      s'.heap.get? D = some { cls := .type "list", data := .seq (its : List Value).toArray nn } ∧ Vals zs its ∧ W i n zs H') ?_ m0 ⟨0, [], H2, none, [], 0, I4, st4, fun b hb => (f2 b hb).1, I2.hok.fresh hDle, hD, .nil, w0⟩
    rintro n s3 ⟨i, zs, H3, o3, its, nn, I3, st3, fr3, hD3, oD3, r3, w3⟩
    have I3' : Inv (cxB X (x :: ys) scope cl C s2 H2 fp (X.pn ++ pins)) [(D, { cls := .type "list", data := .seq its.toArray nn })] (o3 :: fr.map fun j => (σ[j]?).join) H3 s3 := I3.pins_of fun p hp => by
      have : p = (D, { cls := .type "list", data := .seq its.toArray nn }) := by simpa using hp
      subst this
      exact ⟨oD3, hD3, hDC, noStk D (Nat.le_refl _), fun v z => nomatch z⟩
    rcases turn i n zs H3 w3 with ⟨stop, hlen, q⟩ | ⟨go, hlen, N, hNN, step⟩
    · refine wpAny_mono (T.done (cxB X (x :: ys) scope cl C s2 H2 fp (X.pn ++ pins)) rfl rfl rfl hc i _ s3 _ H3 (fun _ _ => False) I3' (fpB H3 _ fr3) st3 stop) (fun r s4 ⟨hr, J4⟩ => ?_) fun _ _ z => z.elim
      subst hr
      have un := J4.base
      have neD : ∀ b o, s2.heap.get? b = some o → b ≠ D := fun b o e => by have := Heap.lt_size e; walk_at "om"
      have neH : ∀ b u, H3 b = some u → b ≠ D := fun b u e z => by rw [z, hD3] at e; cases e
      refine hRR D C s4 (upd H3 D (.lst zs)) ?_ ?_ ?_ (q D hD3)
      · refine I2.call' (ch := fp) J4.os ⟨un.keep, un.slot, fun b o e nn hx => ?_, un.there, fun b xs e => ?_, fun b o u e => ?_, fun b ps e => ?_⟩ (fun a o e => ?_) J4.bare fun b hb => ?_
        · rw [upd_ne (neD b o e)]; exact un.free b o e nn hx
        · have := un.tups b xs e; rw [upd_ne (neH b _ this)]; exact this
        · have := un.frzs b o u e; rw [upd_ne (neH b _ this)]; exact this
        · obtain ⟨more, this⟩ := un.tbls b ps e
          exact ⟨more, by rw [upd_ne (neH b _ this)]; exact this⟩
        · by_cases ha : a = D
          · subst ha
            rw [upd_same] at e; cases e
            exact ⟨hlen, its, nn, r3, (J4.pin (a, _) (List.mem_append_right _ (List.mem_singleton.mpr rfl))).1⟩
          · rw [upd_ne ha] at e
            exact (J4.hok a o e).stay (fun _ _ _ z => z) (fun b z => by rw [upd_ne (neH b _ z)]; exact z) fun b xs z => by rw [upd_ne (neH b _ z)]; exact z
        · obtain ⟨_, d1, d2, d3, d4, d5⟩ := f2 b hb
          exact ⟨d3, d1, d4, d5⟩
      · obtain ⟨m, hm, _⟩ := J4.loc
        exact ⟨m, hm⟩
      · exact I2.fpOk hCle (by rw [upd_ne (Ne.symm hDC)]; exact J4.free)
    · refine wpAny_mono (T.item (cxB X (x :: ys) scope cl C s2 H2 fp (X.pn ++ pins)) rfl rfl rfl hc i _ s3 _ H3 (fun _ _ => False) I3' (fpB H3 _ fr3) st3 go) (fun r s4 ⟨u, hr, h4⟩ => ?_) fun _ _ z => z.elim
      subst hr
      have go' : wpAny (model X.prog X.w) X.A (letOwnedTupleGo (.Name x px) (.ref it) u >>= fun _ => assign (.Name x px) (compEnvC scope cl C X.env) u) (fun _ s5 =>
          wpAny (model X.prog X.w) X.A (forIn ifs true fun c r => if r = true then do let ok ← isTrue c (compEnvC scope cl C X.env) (eval c (compEnvC scope cl C X.env)); pure (ForInStep.yield ok) else pure (ForInStep.yield r)) (fun ok s6 =>
            if ok = true then wpAny (model X.prog X.w) X.A (eval elt (compEnvC scope cl C X.env)) (fun y s7 =>
              wpAny (model X.prog X.w) X.A (call (.builtin "list.append") [.ref D, y]) (fun _ s8 => ∃ m, m < n ∧ ∃ i zs H' o its nn, Inv (cxB X (x :: ys) scope cl C s2 H2 fp (X.pn ++ pins)) [] (o :: fr.map fun j => (σ[j]?).join) H' s8 ∧ tn i s8.heap ∧ (∀ b ∈ fp, H' b = none) ∧ H' D = none ∧
                s8.heap.get? D = some { cls := .type "list", data := .seq (its : List Value).toArray nn } ∧ Vals zs its ∧ W i m zs H') (fun _ _ => False) s7) (fun _ _ => False) s6
            else ∃ m, m < n ∧ ∃ i zs H' o its nn, Inv (cxB X (x :: ys) scope cl C s2 H2 fp (X.pn ++ pins)) [] (o :: fr.map fun j => (σ[j]?).join) H' s6 ∧ tn i s6.heap ∧ (∀ b ∈ fp, H' b = none) ∧ H' D = none ∧
                s6.heap.get? D = some { cls := .type "list", data := .seq (its : List Value).toArray nn } ∧ Vals zs its ∧ W i m zs H') (fun _ _ => False) s5) (fun _ _ => False) s4 := by
        refine wpAny_bind (thn h4 fun _ s5 ⟨y5, H5, I5, r5, yl, st5, fr5⟩ => ?_)
        have I5' := I5.pinned (fpB H5 _ fr5) (T.obj _ _ st5)
        refine thn (pg_name (X := cxB X (x :: ys) scope cl C s2 H2 fp (X.pn ++ pins)) (i := 0) S.nd rfl (.inl (lookup_relabel_local S.own)) (.inr (lookup_relabel_local S.own)) _ s5 _ H5 y5 u (fun σ' H' => σ' = (some y5 :: fr.map fun j => (σ[j]?).join) ∧ H' = H5) I5' r5 ⟨rfl, rfl⟩) fun _ s6 ⟨σ6, H6, I6, e6, e6'⟩ => ?_
        subst e6 e6'
        have after : ∀ (s7 : Shared) (H7 : Hp), Inv (cxB X (x :: ys) scope cl C s2 H2 fp (X.pn ++ pins)) ([(D, { cls := .type "list", data := .seq its.toArray nn })] ++ pinsAt fp s5.heap) (some y5 :: fr.map fun j => (σ[j]?).join) H7 s7 →
            Inv (cxB X (x :: ys) scope cl C s2 H2 fp (X.pn ++ pins)) [] (some y5 :: fr.map fun j => (σ[j]?).join) H7 s7 ∧ tn (i + 1) s7.heap ∧ (∀ b ∈ fp, H7 b = none) ∧ H7 D = none ∧ s7.heap.get? D = some { cls := .type "list", data := .seq its.toArray nn } := fun s7 H7 I7 => by
          have pD := I7.pin (D, { cls := .type "list", data := .seq its.toArray nn }) (List.mem_append_right _ (List.mem_append_left _ (List.mem_singleton.mpr rfl)))
          refine ⟨I7.pins_of fun p hp => absurd hp (by simp), T.keep _ _ _ st5 fun b hb o e => (I7.pin (b, o) (List.mem_append_right _ (List.mem_append_right _ (mem_pinsAt hb e)))).1, fun b hb => ?_, pD.2.1, pD.1⟩
          obtain ⟨o, e, _⟩ := T.obj _ _ st5 b hb
          exact (I7.pin (b, o) (List.mem_append_right _ (List.mem_append_right _ (mem_pinsAt hb e)))).2.1
        refine thn ((hb C s2 H2 fp (X.pn ++ pins)).1 _ s6 _ H6 _ I6 (step y5 H6 yl)) fun ok s7 ⟨H7, I7, q7⟩ => ?_
        dsimp only at q7
        by_cases hok : ok = true
        · rw [if_pos hok] at q7 ⊢
          refine thn ((hb C s2 H2 fp (X.pn ++ pins)).2 _ s7 _ H7 _ I7 q7) fun yv s8 ⟨y8, H8, I8, r8, n8⟩ => ?_
          obtain ⟨m', hm', w8⟩ := hNN _ _ n8
          obtain ⟨J8, st8, fr8, hD8, oD8⟩ := after s8 H8 I8
          have hl := r3.length
          refine call_meets F.slot_list_append ⟨_, oD8, rfl⟩ F.entry_list_append (F.args_list_append_2 _ _) (PySem.list_append D its.toArray nn yv (by rw [List.size_toArray]; walk_at "om")) ⟨oD8, ?_⟩
          have oD9 := PySem.IsL.update oD8 (fun a => a.push yv)
          rw [List.push_toArray] at oD9
          refine ⟨m', hm', i + 1, zs ++ [y8], H8, some y5, its ++ [yv], _, J8.turned (it := D) (fun b o hb' e => (Heap.get?_update_other _ _ (Ne.symm hb')).trans e) hD8 hDC (.inr hDle) (fun y c e z => ?_) (fun p hp => ?_), T.keep _ _ _ st8 fun b hb' o e => ?_, fr8, hD8, oD9, r3.append (.cons r8 .nil), w8⟩
          · obtain ⟨v, o, ho, _⟩ := I2.cell y c (S.cls.get y c e)
            have := Heap.lt_size ho
            walk_at "om"
          · have hp' : p ∈ X.pn ++ pins := by
              have : p ∈ (X.pn ++ pins) ++ [] := hp
              simpa using this
            exact (pinsOk p hp').2.1
          · have := hfp b hb'
            exact (Heap.get?_update_other _ _ (by walk_at "om")).trans e
        · rw [if_neg hok] at q7 ⊢
          obtain ⟨m', hm', w7⟩ := hNN _ _ q7
          obtain ⟨J7, st7, fr7, hD7, oD7⟩ := after s7 H7 I7
          exact ⟨m', hm', i + 1, zs, H7, some y5, its, nn, J7, st7, fr7, hD7, oD7, r3, w7⟩
      have e0 : (letOwnedTupleGo (.Name x px) (.ref it) u >>= fun _ => assign (.Name x px) (compEnvC scope cl C X.env) u) = assign (.Name x px) (compEnvC scope cl C X.env) u := rfl
      rw [e0] at go'
      refine wpAny_mono go' (fun _ s5 h5 => wpAny_mono h5 (fun ok s6 h6 => ?_) fun _ _ z => z.elim) fun _ _ z => z.elim
      by_cases hok : ok = true
      · rw [if_pos hok] at h6 ⊢
        exact wpAny_mono h6 (fun y s7 h7 => wpAny_mono h7 (fun _ _ z => z) fun _ _ z => z.elim) fun _ _ z => z.elim
      · rw [if_neg hok] at h6 ⊢
        exact h6
  exact codeAny_compStart_list (loop _ rfl) (T.self X.A 0 _ _ _ st4 (loop _ rfl))
theorem pe_comp {wi : TI} (S : CompOk X x scope cl fr ys) (hc : X.calm = true) (hi : PI X (.Name x px) iter wi)
    (hb : ∀ (C : Addr) (s : Shared) (H : Hp) (ex : List Addr) (pn : List (Addr × Obj)), PTs (cxB X (x :: ys) scope cl C s H ex pn) ifs tt ∧ PE (cxB X (x :: ys) scope cl C s H ex pn) elt te)
    (hs : ∀ z, foldedSetIterable iter X.env z = pure z := by intro _; rfl) : PE X (.ListComp elt [⟨.Name x px, iter, ifs, 0⟩] scope pos) (tComp wi fr tt te) := by
  intro pins s σ H Q I h
  rw [eval_ListComp]
  refine wpAny_comprehension_free (use := none) rfl hs S.clos S.kind (fun y hy hl => ?_) (thn (hi pins s σ H _ I h) fun xv s1 h1 => thn h1 fun itv s2 h2 => ?_)
  · have z := List.all_eq_true.mp S.names y hy
    rw [hl] at z
    simpa using z
  · obtain ⟨it, fp, tn, J, H2, rfl, I2, T, st2, f2, hB⟩ := h2
    refine comp_block (RR := fun acc C => compPost (model X.prog X.w) X.A X.xe none (EP X pins σ Q) acc C) S hc hb I2 T st2 f2 hB fun D C s' H' J' hn fC q => ?_
    obtain ⟨m, hm⟩ := hn
    obtain ⟨c0, c1, c2, c3, c4, c5⟩ := fC
    exact ⟨m, hm, fun h' sb => ⟨.ref D, H', J'.turned (it := C) (fun b o hb e => sb.extBut b o hb e) c0 c1 c3 c4 c5, rfl, q⟩⟩
def tSetC (i : Nat) (te : TE) : TS := fun D σ H => te σ H fun v H1 => D.nx (σ.set i (some v)) H1
theorem ps_setComp {wi : TI} {y : Str} {py spos : Pos} {i : Nat} (S : CompOk X x scope cl fr ys) (hc : X.calm = true) (hN : X.N.Nodup) (hy : X.N[i]? = some y) (hl : X.env.scope.names.lookup y = some .local) (hi : PI X (.Name x px) iter wi)
    (hb : ∀ (C : Addr) (s : Shared) (H : Hp) (ex : List Addr) (pn : List (Addr × Obj)), PTs (cxB X (x :: ys) scope cl C s H ex pn) ifs tt ∧ PE (cxB X (x :: ys) scope cl C s H ex pn) elt te)
    (hsw : swapsWith (.ListComp elt [⟨.Name x px, iter, ifs, 0⟩] scope pos) (some (.Name y py)) spos.line X.env = pure true := by rfl)
    (hs : ∀ z, foldedSetIterable iter X.env z = pure z := by intro _; rfl) : PS X (.Assign [.Name y py] (.ListComp elt [⟨.Name x px, iter, ifs, 0⟩] scope pos) spos) (tSetC i (tComp wi fr tt te)) := by
  intro pins s σ H Dn I h
  rw [exec_Assign_Name_used _ _ _ _ hsw]
  refine wpAny_bind (wpAny_standAt (wpAny_bind ?_))
  show wpAny _ X.A (do let _ ← comprehension (.ListComp elt [⟨.Name x px, iter, ifs, 0⟩] scope pos) scope X.env _ (newList []) false (eval iter X.env) (some (assign (.Name y py) X.env))) _ _ s
  refine wpAny_bind (thn (wpAny_comprehension_free (use := some (assign (.Name y py) X.env)) (Q := fun _ s' => SP X pins Dn .next s') rfl hs S.clos S.kind (fun z hz hl => ?_) (thn (hi pins s σ H _ I h) fun xv s1 h1 => thn h1 fun itv s2 h2 => ?_)) fun _ s' hq => wpAny_pure (wpAny_pure hq))
  · have z' := List.all_eq_true.mp S.names z hz
    rw [hl] at z'
    simpa using z'
  · obtain ⟨it, fp, tn, J, H2, rfl, I2, T, st2, f2, hB⟩ := h2
    refine comp_block (RR := fun acc C => compPost (model X.prog X.w) X.A X.xe (some (assign (.Name y py) X.env)) (fun _ s' => SP X pins Dn .next s') acc C) S hc hb I2 T st2 f2 hB fun D C s' H' J' hn fC q => ?_
    obtain ⟨m, oC, es, ep, ho, hd, hr⟩ := hn
    obtain ⟨c0, c1, c2, c3, c4, c5⟩ := fC
    have J2 : Inv X (pins ++ [(C, oC)]) σ H' s' := J'.pins_of fun p hp => by
      rcases List.mem_append.mp hp with z | z
      · exact J'.pin p (List.mem_append_right _ z)
      · have : p = (C, oC) := by simpa using z
        subst this
        exact ⟨ho, c0, c1, c2, fun v z => by rw [hd] at z; cases z⟩
    show wpAny _ X.A (assign (.Name y py) X.env (.ref D)) _ _ _
    refine thn (pg_name (X := X) hN hy (.inl hl) (.inr hl) _ s' σ H' (.ref D) (.ref D) (fun σ' H'' => σ' = σ.set i (some (.ref D)) ∧ H'' = H') J2 rfl ⟨rfl, rfl⟩) fun _ s3 ⟨σ3, H3, J3, e1, e2⟩ => ?_
    subst e1 e2
    obtain ⟨pc, pn0, _⟩ := J3.pin (C, oC) (List.mem_append_right _ (List.mem_append_right _ (List.mem_singleton.mpr rfl)))
    refine ⟨m, ⟨oC, es, ep, pc, hd, hr⟩, fun h' sb => ⟨_, H3, J3.unpinned.turned (it := C) (fun b o hb e => sb.extBut b o hb e) c0 c1 c3 c4 c5, q⟩⟩
end
def compGo (Ok : Hp → Prop) (ρ : L2.St) (tt : TT) (te : TE) : List V → List V → Hp → (List V → Hp → Prop) → Prop
  | [], ys, H, Q => Ok H ∧ Q ys H
  | x :: r, ys, H, Q => Ok H ∧ tt (some x :: ρ) H fun b H1 => if b = true then te (some x :: ρ) H1 fun y H2 => compGo Ok ρ tt te r (ys ++ [y]) H2 Q else compGo Ok ρ tt te r ys H1 Q
structure ItOf (J : It) (Ok : Hp → Prop) (xs : List V) : Prop where
  go : ∀ i H x, Ok H → xs[i]? = some x → J.go i H
  yld : ∀ i H x H', Ok H → J.yld i H x H' → H' = H ∧ (i < xs.length → xs[i]? = some x)
  stop : ∀ i H, Ok H → xs.length ≤ i → J.stop i H
section
variable {J : It} {Ok : Hp → Prop} {xs : List V} {ρ : L2.St} {tt : TT} {te : TE} {H : Hp} {Q : VK} {K : PySem.W.Frag} {a : Addr}
theorem blk_of (O : ItOf J Ok xs) (hn : xs.length ≤ sizeLine) (h : compGo Ok ρ tt te xs [] H fun ys H' => ∀ l, H' l = none → Q (.ref l) (upd H' l (.lst ys))) : tBlk J ρ tt te H Q := by
  refine ⟨fun i m ys H => m = xs.length - i ∧ i ≤ xs.length ∧ ys.length ≤ i ∧ compGo Ok ρ tt te (xs.drop i) ys H fun ys H' => ∀ l, H' l = none → Q (.ref l) (upd H' l (.lst ys)), ⟨_, rfl, Nat.zero_le _, Nat.le_refl _, h⟩, ?_⟩
  rintro i m ys H ⟨rfl, hi, hy, g⟩
  by_cases hlt : i < xs.length
  · have e := List.drop_eq_getElem_cons hlt
    rw [e] at g
    obtain ⟨g0, g1⟩ := g
    refine .inr ⟨O.go i H _ g0 (List.getElem?_eq_getElem hlt), by walk_at "om", fun zs H' => zs.length ≤ i + 1 ∧ compGo Ok ρ tt te (xs.drop (i + 1)) zs H' fun ys H' => ∀ l, H' l = none → Q (.ref l) (upd H' l (.lst ys)), fun zs H' q => ⟨_, by walk_at "om", rfl, hlt, q.1, q.2⟩, fun x H' y => ?_⟩
    obtain ⟨rfl, ex⟩ := O.yld i H x H' g0 y
    have ex := ex hlt
    rw [List.getElem?_eq_getElem hlt] at ex
    cases ex
    have l1 : ∀ y : V, (ys ++ [y]).length ≤ i + 1 := fun y => by rw [List.length_append, List.length_singleton]; walk_at "om"
    have l2 : ys.length ≤ i + 1 := by walk_at "om"
    simp only [l1, l2, true_and]
    exact g1
  · have e : i = xs.length := by walk_at "om"
    subst e
    rw [List.drop_length] at g
    exact .inl ⟨O.stop _ H g.1 (Nat.le_refl _), by walk_at "om", g.2⟩
theorem it_list : ItOf (Itl K a) (fun H => SqL K H a xs) xs :=
  ⟨fun _ _ _ h e => ⟨xs, _, h, e⟩, fun _ _ _ _ h y => ⟨y.1, fun _ => y.2 xs h⟩, fun _ _ h hi => ⟨xs, h, hi⟩⟩
theorem it_tup : ItOf (Itt K a) (fun H => SqT K H a xs) xs :=
  ⟨fun _ _ _ h e => ⟨xs, _, h, e⟩, fun _ _ _ _ h y => ⟨y.1, fun _ => y.2 xs h⟩, fun _ _ h hi => ⟨xs, h, hi⟩⟩
theorem it_rng {lo : Int} {n : Nat} : ItOf (Itr lo n) (fun _ => True) ((List.range n).map fun k => V.int (lo + (k : Nat))) :=
  ⟨fun i _ _ _ e => by
    have := (List.getElem?_eq_some_iff.mp e).1
    show i < n
    simpa using this, fun i _ _ _ _ y => ⟨y.1, fun hi => by
      have hi' : i < n := by simpa using hi
      rw [y.2, List.getElem?_map, List.getElem?_range hi']; rfl⟩, fun i _ _ hi => by
      show n ≤ i
      simpa using hi⟩
theorem compGo_map {p : V → Bool} {f : V → V} {Q' : List V → Hp → Prop} (hOk : Ok H) : ∀ {xs ys : List V}, (∀ x ∈ xs, ∀ Q, Q (p x) H → tt (some x :: ρ) H Q) → (∀ x ∈ xs, p x = true → ∀ Q, Q (f x) H → te (some x :: ρ) H Q) → Q' (ys ++ (xs.filter p).map f) H → compGo Ok ρ tt te xs ys H Q'
  | [], ys, _, _, q => ⟨hOk, by simpa using q⟩
  | x :: r, ys, ht, he, q => by
    refine ⟨hOk, ht x (.head _) _ ?_⟩
    by_cases hb : p x = true
    · rw [if_pos hb]
      refine he x (.head _) hb _ (compGo_map hOk (fun y hy => ht y (.tail _ hy)) (fun y hy => he y (.tail _ hy)) ?_)
      rw [List.filter_cons, if_pos hb] at q
      simpa using q
    · rw [if_neg hb]
      refine compGo_map hOk (fun y hy => ht y (.tail _ hy)) (fun y hy => he y (.tail _ hy)) ?_
      rw [List.filter_cons, if_neg hb] at q
      exact q
end
section
variable {X : Cx} {K : PySem.W.Frag}
theorem ix_seqK (h : X.K = K) : IxR X (rIx K) := h ▸ ix_seq
end
end Gz
set_option Elab.async false
set_option linter.all false
set_option maxRecDepth 100000
set_option maxHeartbeats 4000000
namespace Gz
open PySem PySem.Spec PyProof.Rows L2
mutual
inductive Dat (K : PySem.W.Frag) (H : Hp) : V → PyData → Prop where
  | non : Dat K H .non .none
  | bl (b : Bool) : Dat K H (.bl b) (.bool b)
  | int (i : Int) : Dat K H (.int i) (.int i)
  | str (x : Str) : Dat K H (.str x) (.str x)
  | tup {a : Addr} {xs : List V} {ds : List PyData} (h : SqT K H a xs) (r : Dats K H xs ds) : Dat K H (.ref a) (.tuple ds)
  | lst {a : Addr} {xs : List V} {ds : List PyData} (h : SqL K H a xs) (r : Dats K H xs ds) : Dat K H (.ref a) (.list ds)
inductive Dats (K : PySem.W.Frag) (H : Hp) : List V → List PyData → Prop where
  | nil : Dats K H [] []
  | cons {x : V} {d : PyData} {xs : List V} {ds : List PyData} (h : Dat K H x d) (r : Dats K H xs ds) : Dats K H (x :: xs) (d :: ds)
end
section
variable {X : Cx} {pins : List (Addr × Obj)} {σ : L2.St} {H : Hp} {s : Shared}
mutual
theorem Dat.reads (I : Inv X pins σ H s) : ∀ (d : PyData) {v : V} {u : Value}, Dat X.K H v d → RelV v u → ∃ as, Reads s.heap u d as
  | .none, _, _, .non, r => by cases r; exact ⟨_, .none⟩
  | .bool b, _, _, .bl _, r => by cases r; exact ⟨_, .bool b⟩
  | .int i, _, _, .int _, r => by obtain ⟨t, rfl⟩ := r; exact ⟨_, .int i t⟩
  | .str x, _, _, .str _, r => by obtain ⟨t, rfl⟩ := r; exact ⟨_, .str x t⟩
  | .tuple ds, _, _, .tup h q, r => by
    cases r
    obtain ⟨its, rv, ⟨o, ho, hc, n, hd⟩, _⟩ := I.tuple h
    obtain ⟨as, ra⟩ := Dats.reads I ds q rv
    exact ⟨_, .tuple ho hc hd (by simpa using ra)⟩
  | .list ds, _, _, .lst h q, r => by
    cases r
    obtain ⟨its, rv, ⟨o, n, ho, hc, _, hd⟩, _⟩ := I.list h
    obtain ⟨as, ra⟩ := Dats.reads I ds q rv
    exact ⟨_, .list ho hc hd (by simpa using ra)⟩
theorem Dats.reads (I : Inv X pins σ H s) : ∀ (ds : List PyData) {vs : List V} {us : List Value}, Dats X.K H vs ds → Vals vs us → ∃ as, ReadsAll s.heap us ds as
  | [], _, _, .nil, r => by cases r; exact ⟨_, .nil⟩
  | d :: ds, _, _, .cons h q, r => by
    cases r with
    | cons r1 r2 =>
      obtain ⟨as, ra⟩ := Dat.reads I d h r1
      obtain ⟨bs, rb⟩ := Dats.reads I ds q r2
      exact ⟨_, .cons ra rb⟩
end
def rEqD (K : PySem.W.Frag) (neg : Bool) : R2 := fun x y H Q => ∃ d e, Dat K H x d ∧ Dat K H y e ∧ d.canLay0 = true ∧ e.canLay0 = true ∧ d.depth ≤ 60 ∧ Q (.bl (if neg = true then !PyData.eqv d e else PyData.eqv d e)) H
theorem op_eqD (hu : X.A.units + 64 < cLine) : OpR X (compareOp .Eq) (rEqD X.K false) := by
  intro pins s σ H x y v u Q I rx ry h
  obtain ⟨d, e, dx, dy, c1, c2, dd, q⟩ := h
  obtain ⟨as, ra⟩ := Dat.reads I d dx rx
  obtain ⟨bs, rb⟩ := Dat.reads I e dy ry
  exact SeqAt.compareEq_reads ra rb c1 c2 (by omega) ⟨.bl _, H, I, rfl, q⟩
theorem op_neD (hu : X.A.units + 64 < cLine) : OpR X (compareOp .NotEq) (rEqD X.K true) := by
  intro pins s σ H x y v u Q I rx ry h
  obtain ⟨d, e, dx, dy, c1, c2, dd, q⟩ := h
  obtain ⟨as, ra⟩ := Dat.reads I d dx rx
  obtain ⟨bs, rb⟩ := Dat.reads I e dy ry
  exact SeqAt.compareNe_reads ra rb c1 c2 (by omega) ⟨.bl _, H, I, rfl, q⟩
end
end Gz
set_option Elab.async false
set_option linter.all false
set_option maxRecDepth 100000
set_option maxHeartbeats 4000000
namespace Gz
open PySem PySem.Spec PyProof.Rows L2
abbrev En := Option Int
def ev : En → V
  | none => .non
  | some i => .int i
theorem ev_none : ev none = .non := rfl
theorem ev_some (i : Int) : ev (some i) = .int i := rfl
def crossed : En → En → Bool
  | some x, some y => decide (y < x)
  | _, _ => false
def IsS (H : Hp) (v : V) (a b : En) : Prop := ∃ p, v = .ref p ∧ H p = some (.tup [ev a, ev b])
theorem IsS.same {H H1 : Hp} {v : V} {a b : En} (h : IsS H v a b) (s : Same H H1) : IsS H1 v a b := by
  obtain ⟨p, e, h⟩ := h
  exact ⟨p, e, s _ _ h⟩
theorem IsS.new {H : Hp} {p : Addr} {a b : En} : IsS (upd H p (.tup [ev a, ev b])) (.ref p) a b := ⟨p, rfl, upd_same⟩
def hold (a b : En) (n : Int) : Bool := !crossed a (some n) && !crossed (some n) b
theorem hold_iff {a b : En} {n : Int} : hold a b n = true ↔ (∀ x, a = some x → x ≤ n) ∧ (∀ y, b = some y → n ≤ y) := by
  unfold hold
  rcases a with _ | x <;> rcases b with _ | y <;> simp [crossed]
def subE : En → Int → En
  | some x, k => some (x - k)
  | none, _ => none
def addE : En → Int → En
  | some x, k => some (x + k)
  | none, _ => none
theorem crossed_n (b : En) : crossed none b = false := by cases b <;> rfl
theorem crossed_m (a : En) : crossed a none = false := by cases a <;> rfl
def MeetIs (H : Hp) (v : V) (lo hi : En) : Prop := (crossed lo hi = true → v = .non) ∧ (crossed lo hi = false → IsS H v lo hi)
theorem MeetIs.same {H H1 : Hp} {v : V} {lo hi : En} (h : MeetIs H v lo hi) (s : Same H H1) : MeetIs H1 v lo hi := ⟨h.1, fun z => (h.2 z).same s⟩
end Gz
set_option Elab.async false
set_option linter.all false
set_option maxHeartbeats 4000000
namespace Gz
open L2
abbrev S2 := En × En
def hs (s : S2) (n : Int) : Bool := hold s.1 s.2 n
def okS (s : S2) : Prop := crossed s.1 s.2 = false
def leLo (a b : En) : Prop := a = none ∨ ∃ x y, a = some x ∧ b = some y ∧ x ≤ y
theorem leLo.refl (a : En) : leLo a a := by
  rcases a with _ | x
  · exact .inl rfl
  · exact .inr ⟨x, x, rfl, rfl, Int.le_refl _⟩
theorem leLo.trans {a b c : En} (h : leLo a b) (h' : leLo b c) : leLo a c := by
  rcases h with rfl | ⟨x, y, rfl, rfl, h1⟩
  · exact .inl rfl
  · rcases h' with h' | ⟨x', y', e, rfl, h2⟩
    · cases h'
    · cases e; exact .inr ⟨_, _, rfl, rfl, by omega⟩
def gap (p q : S2) : Bool := match p.2, q.1 with
  | some h, some l => decide (l > h + 1)
  | _, _ => false
def minN : En → En → En
  | some x, some y => some (if y < x then y else x)
  | _, _ => none
def maxN : En → En → En
  | some x, some y => some (if y > x then y else x)
  | _, _ => none
def hull2 (p q : S2) : S2 := (minN p.1 q.1, maxN p.2 q.2)
theorem minN_le {a b : En} (h : leLo a b) : minN a b = a := by
  rcases h with rfl | ⟨x, y, rfl, rfl, h⟩
  · cases b <;> rfl
  · simp only [minN]; rw [if_neg (by omega)]
theorem hs_iff {s : S2} {n : Int} : hs s n = true ↔ (∀ x, s.1 = some x → x ≤ n) ∧ (∀ y, s.2 = some y → n ≤ y) := hold_iff
theorem hull2_holds {p q : S2} {n : Int} (hp : okS p) (hq : okS q) (hl : leLo p.1 q.1) (hg : gap p q = false) : (hs p n || hs q n) = hs (hull2 p q) n := by
  obtain ⟨a, b⟩ := p
  obtain ⟨c, d⟩ := q
  rw [Bool.eq_iff_iff, Bool.or_eq_true, hs_iff, hs_iff, hs_iff]
  simp only [okS, gap, hull2, leLo] at *
  rcases a with _ | x <;> rcases b with _ | y <;> rcases c with _ | z <;> rcases d with _ | w <;> simp [crossed, minN, maxN] at * <;> (try (constructor <;> intro h)) <;> (try split at *) <;> (try split) <;> omega
def gap2 (p q : S2) : Prop := ∃ h l, p.2 = some h ∧ q.1 = some l ∧ h + 2 ≤ l
def Apart : List S2 → Prop
  | x :: y :: r => gap2 x y ∧ Apart (y :: r)
  | _ => True
theorem Apart.snoc : ∀ {i : List S2} {p q : S2}, Apart (i ++ [p]) → gap2 p q → Apart (i ++ [p, q])
  | [], p, q, _, h => ⟨h, trivial⟩
  | [x], p, q, h, h' => ⟨h.1, h', trivial⟩
  | x :: y :: r, p, q, h, h' => ⟨h.1, Apart.snoc (i := y :: r) h.2 h'⟩
theorem Apart.last : ∀ {i : List S2} {p q : S2}, Apart (i ++ [p]) → p.1 = q.1 → Apart (i ++ [q])
  | [], p, q, _, h => trivial
  | [x], p, q, h, h' => by
    obtain ⟨⟨a, b, e1, e2, e3⟩, _⟩ := h
    exact ⟨⟨a, b, e1, h' ▸ e2, e3⟩, trivial⟩
  | x :: y :: r, p, q, h, h' => ⟨h.1, Apart.last (i := y :: r) h.2 h'⟩
theorem Apart.get : ∀ {l : List S2} {k : Nat} {p q : S2}, Apart l → l[k]? = some p → l[k + 1]? = some q → gap2 p q
  | [], _, _, _, _, e, _ => by simp at e
  | [_], _, _, _, _, _, e => by simp at e
  | x :: y :: r, 0, p, q, h, e, e' => by simp at e e'; subst e e'; exact h.1
  | x :: y :: r, k + 1, p, q, h, e, e' => Apart.get (l := y :: r) (k := k) h.2 (by simpa using e) (by simpa using e')
def IsLo (l : List En) (e : En) : Prop := e ∈ l ∧ ∀ x ∈ l, leLo e x
def leHi (a b : En) : Prop := b = none ∨ ∃ x y, a = some x ∧ b = some y ∧ x ≤ y
def IsHi (l : List En) (e : En) : Prop := e ∈ l ∧ ∀ x ∈ l, leHi x e
theorem leHi.refl (a : En) : leHi a a := by
  rcases a with _ | x
  · exact .inl rfl
  · exact .inr ⟨x, x, rfl, rfl, Int.le_refl _⟩
theorem leHi.trans {a b c : En} (h : leHi a b) (h' : leHi b c) : leHi a c := by
  rcases h' with rfl | ⟨x', y', rfl, rfl, h2⟩
  · exact .inl rfl
  · rcases h with h | ⟨x, y, rfl, e, h1⟩
    · cases h
    · cases e; exact .inr ⟨_, _, rfl, rfl, by omega⟩
theorem maxN_hi (a b : En) : leHi a (maxN a b) ∧ leHi b (maxN a b) ∧ (maxN a b = a ∨ maxN a b = b) := by
  rcases a with _ | x <;> rcases b with _ | y <;> simp [maxN, leHi]
  split <;> omega
abbrev Ris := Option (List S2 × S2)
def gStep : Ris → S2 → Ris
  | none, q => some ([], q)
  | some (i, p), q => if gap p q then some (i ++ [p], q) else some (i, hull2 p q)
structure GInv (ps : List S2) (i : List S2) (p : S2) : Prop where
  ap : Apart (i ++ [p])
  ok : ∀ s ∈ i ++ [p], okS s
  held : ∀ n, ((i ++ [p]).any fun s => hs s n) = ps.any fun s => hs s n
  lo : IsLo (ps.map (·.1)) ((i ++ [p]).headD p).1
  hi : IsHi (ps.map (·.2)) p.2
  at_ : p.1 ∈ ps.map (·.1)
theorem GInv.step {ps i : List S2} {p q : S2} (h : GInv ps i p) (hq : okS q) (hl : ∀ s ∈ ps, leLo s.1 q.1) : ∃ i' p', gStep (some (i, p)) q = some (i', p') ∧ GInv (ps ++ [q]) i' p' := by
  have hp : okS p := h.ok p (by simp)
  have hpl : leLo p.1 q.1 := by
    obtain ⟨s, hs, e⟩ := List.mem_map.mp h.at_
    rw [← e]; exact hl s hs
  have lo' : IsLo ((ps ++ [q]).map (·.1)) ((i ++ [p]).headD p).1 := by
    refine ⟨by rw [List.map_append]; exact List.mem_append_left _ h.lo.1, fun x hx => ?_⟩
    rw [List.map_append] at hx
    rcases List.mem_append.mp hx with hx | hx
    · exact h.lo.2 x hx
    · have : x = q.1 := by simpa using hx
      subst this
      obtain ⟨s, hs, e⟩ := List.mem_map.mp h.lo.1
      rw [← e]; exact hl s hs
  simp only [gStep]
  by_cases hg : gap p q = true
  · rw [if_pos hg]
    refine ⟨_, _, rfl, ?_⟩
    obtain ⟨a, b, e1, e2, e3⟩ : gap2 p q := by
      unfold gap at hg
      split at hg
      · rename_i x y e1 e2
        refine ⟨x, y, e1, e2, ?_⟩
        have : y > x + 1 := by simpa using hg
        omega
      · cases hg
    have hd : ((i ++ [p] ++ [q]).headD q).1 = ((i ++ [p]).headD p).1 := by cases i <;> rfl
    refine ⟨by rw [List.append_assoc]; exact h.ap.snoc ⟨a, b, e1, e2, e3⟩, fun s hs => ?_, fun n => ?_, by rw [hd]; exact lo', ?_, ?_⟩
    · rcases List.mem_append.mp hs with hs | hs
      · exact h.ok s hs
      · have : s = q := by simpa using hs
        subst this; exact hq
    · have hh := h.held n
      rw [List.any_append] at hh
      rw [List.any_append, List.any_append, List.any_append, hh]
    · refine ⟨by simp, fun x hx => ?_⟩
      rw [List.map_append] at hx
      rcases List.mem_append.mp hx with hx | hx
      · have z := h.hi.2 x hx
        rw [e1] at z
        rcases hq2 : q.2 with _ | y
        · exact .inl rfl
        · have hq' := hq
          unfold okS at hq'
          rw [e2, hq2] at hq'
          have : ¬ y < b := by simpa [crossed] using hq'
          rcases z with z | ⟨u, v, rfl, ev, h1⟩
          · cases z
          · cases ev; exact .inr ⟨_, _, rfl, rfl, by omega⟩
      · have : x = q.2 := by simpa using hx
        subst this; exact leHi.refl _
    · simp
  · have hg' : gap p q = false := by simpa using hg
    rw [if_neg hg]
    refine ⟨_, _, rfl, ?_⟩
    have e1 : (hull2 p q).1 = p.1 := minN_le hpl
    have hd : ((i ++ [hull2 p q]).headD (hull2 p q)).1 = ((i ++ [p]).headD p).1 := by
      cases i with
      | nil => exact e1
      | cons x r => rfl
    obtain ⟨m1, m2, m3⟩ := maxN_hi p.2 q.2
    refine ⟨h.ap.last e1.symm, fun s hs => ?_, fun n => ?_, by rw [hd]; exact lo', ⟨?_, fun x hx => ?_⟩, ?_⟩
    · rcases List.mem_append.mp hs with hs | hs
      · exact h.ok s (List.mem_append_left _ hs)
      · have : s = hull2 p q := by simpa using hs
        subst this
        unfold okS at *
        rw [e1]
        show crossed p.1 (maxN p.2 q.2) = false
        rcases m3 with m3 | m3
        · rw [m3]; exact hp
        · rw [m3]
          rcases hpl with z | ⟨x, y, z1, z2, z3⟩
          · rw [z]; exact crossed_n _
          · rw [z1]
            rw [z2] at hq
            rcases hq2 : q.2 with _ | w
            · exact crossed_m _
            · rw [hq2] at hq
              simp [crossed] at hq ⊢
              omega
    · have hh := h.held n
      rw [List.any_append] at hh ⊢
      rw [List.any_append, ← hh]
      have k := hull2_holds (n := n) hp hq hpl hg'
      simp only [List.any_cons, List.any_nil, Bool.or_false]
      rw [← k, Bool.or_assoc]
    · rw [List.map_append]
      show maxN p.2 q.2 ∈ _
      rcases m3 with m3 | m3
      · rw [m3]; exact List.mem_append_left _ h.hi.1
      · rw [m3]; simp
    · rw [List.map_append] at hx
      rcases List.mem_append.mp hx with hx | hx
      · exact (h.hi.2 x hx).trans m1
      · have : x = q.2 := by simpa using hx
        subst this; exact m2
    · rw [e1, List.map_append]; exact List.mem_append_left _ h.at_
open PySem in
def Sts (H : Hp) : List V → List S2 → Prop
  | [], [] => True
  | v :: vs, s :: ss => IsS H v s.1 s.2 ∧ Sts H vs ss
  | _, _ => False
section
variable {H H1 : Hp} {K : PySem.W.Frag}
theorem Sts.same (e : Same H H1) : ∀ {vs : List V} {ss : List S2}, Sts H vs ss → Sts H1 vs ss
  | [], [], _ => trivial
  | _ :: _, _ :: _, h => ⟨h.1.same e, Sts.same e h.2⟩
  | [], _ :: _, h => h.elim
  | _ :: _, [], h => h.elim
theorem IsS.put {v : V} {a b : En} {l : PySem.Addr} {ys : List V} {o : HO} (h : IsS H v a b) (hl : H l = some (.lst ys)) : IsS (upd H l o) v a b := by
  obtain ⟨p, e, h⟩ := h
  exact ⟨p, e, by rw [upd_ne (ne_of h hl fun z => nomatch z)]; exact h⟩
theorem Sts.put {l : PySem.Addr} {ys : List V} {o : HO} (hl : H l = some (.lst ys)) : ∀ {vs : List V} {ss : List S2}, Sts H vs ss → Sts (upd H l o) vs ss
  | [], [], _ => trivial
  | _ :: _, _ :: _, h => ⟨h.1.put hl, Sts.put hl h.2⟩
  | [], _ :: _, h => h.elim
  | _ :: _, [], h => h.elim
theorem Sts.len : ∀ {vs : List V} {ss : List S2}, Sts H vs ss → vs.length = ss.length
  | [], [], _ => rfl
  | _ :: _, _ :: _, h => by simp [Sts.len h.2]
  | [], _ :: _, h => h.elim
  | _ :: _, [], h => h.elim
theorem Sts.get : ∀ {vs : List V} {ss : List S2} {i : Nat} {v : V}, Sts H vs ss → vs[i]? = some v → ∃ s, ss[i]? = some s ∧ IsS H v s.1 s.2
  | [], [], _, _, _, e => by simp at e
  | _ :: _, s :: _, 0, _, h, e => by simp at e; subst e; exact ⟨s, rfl, h.1⟩
  | _ :: _, _ :: _, i + 1, _, h, e => by
    obtain ⟨s, a, b⟩ := Sts.get (i := i) h.2 (by simpa using e)
    exact ⟨s, by simpa using a, b⟩
  | [], _ :: _, _, _, h, _ => h.elim
  | _ :: _, [], _, _, h, _ => h.elim
theorem Sts.app : ∀ {vs ws : List V} {ss ts : List S2}, Sts H vs ss → Sts H ws ts → Sts H (vs ++ ws) (ss ++ ts)
  | [], _, [], _, _, h => h
  | _ :: _, _, _ :: _, _, h, h' => ⟨h.1, Sts.app h.2 h'⟩
  | [], _, _ :: _, _, h, _ => h.elim
  | _ :: _, _, [], _, h, _ => h.elim
theorem Sts.mem : ∀ {vs : List V} {ss : List S2} {v : V}, Sts H vs ss → v ∈ vs → ∃ s ∈ ss, IsS H v s.1 s.2 := fun h hv => by
  obtain ⟨i, hi, e⟩ := List.mem_iff_getElem.mp hv
  obtain ⟨s, es, q⟩ := Sts.get h (by rw [List.getElem?_eq_getElem hi, e])
  exact ⟨s, List.mem_of_getElem? es, q⟩
open PySem
def datE : En → PyData
  | none => .none
  | some i => .int i
def datS (s : S2) : PyData := .tuple [datE s.1, datE s.2]
theorem dat_ev (e : En) : Dat K H (ev e) (datE e) := by
  rcases e with _ | x
  · exact .non
  · exact .int x
theorem IsS.dat {v : V} {a b : En} (h : IsS H v a b) : Dat K H v (datS (a, b)) := by
  obtain ⟨p, rfl, h⟩ := h
  exact .tup (SqT.of h) (.cons (dat_ev a) (.cons (dat_ev b) .nil))
theorem Sts.dat : ∀ {vs : List V} {ss : List S2}, Sts H vs ss → Dats K H vs (ss.map datS)
  | [], [], _ => .nil
  | _ :: _, (a, b) :: _, h => .cons h.1.dat (Sts.dat h.2)
  | [], _ :: _, h => h.elim
  | _ :: _, [], h => h.elim
theorem eqv_E (e : En) : PyData.eqv (datE e) (datE e) = true := by
  rcases e with _ | x <;> simp [datE, PyData.eqv]
theorem eqv_S (s : S2) : PyData.eqv (datS s) (datS s) = true := by
  simp only [datS, PyData.eqv, PyData.eqvAll, eqv_E, Bool.and_self]
theorem lay_E (e : En) : (datE e).canLay0 = true := by rcases e with _ | x <;> rfl
theorem lay_S (s : S2) : (datS s).canLay0 = true := by
  simp only [datS, PyData.canLay0, PyData.canLayAll0, lay_E, Bool.and_self]
theorem dep_E (e : En) : (datE e).depth = 0 := by rcases e with _ | x <;> rfl
theorem dep_S (s : S2) : (datS s).depth = 1 := by
  simp only [datS, PyData.depth, PyData.depthAll, dep_E]; rfl
theorem eq_IsS {u v : V} {a b : En} {neg : Bool} {Q : VK} (h : IsS H u a b) (h' : IsS H v a b) (q : Q (.bl (!neg)) H) : rEqD K neg u v H Q := by
  refine ⟨_, _, h.dat, h'.dat, lay_S _, lay_S _, ?_, ?_⟩
  · rw [dep_S]; decide
  · rw [eqv_S]
    cases neg <;> exact q
end
end Gz
set_option Elab.async false
set_option linter.all false
set_option maxRecDepth 100000
set_option maxHeartbeats 4000000
namespace Gz
open PySem PySem.Spec PyProof.Rows L2
def Its (lo st : Int) (n : Nat) : It := ⟨fun i _ => i < n, fun i H x H' => H' = H ∧ x = .int (lo + (i : Int) * st), fun i _ => n ≤ i⟩
def stepN (lo hi st : Int) : Nat := (Builtin.Range.rangeSize lo hi st).toNat
def iRng3 (ta : TA) : TI := fun σ H R => ta σ H fun vs H1 => ∃ i j c : Int, vs = [.int i, .int j, .int c] ∧ (-1000000 ≤ i ∧ i ≤ 1000000 ∧ -1000000 ≤ j ∧ j ≤ 1000000 ∧ -1000000 ≤ c ∧ c ≤ 1000000 ∧ c ≠ 0) ∧ R (Its i c (stepN i j c)) H1
section
variable {g : TG} {tb : TS} {D : Ends} {σ : L2.St} {H : Hp} {lo st : Int} {n : Nat}
theorem for_rng2 {ta : TA} : tFor (iRng2 ta) g tb D σ H = ta σ H (fun vs H1 => ∃ i j : Int, vs = [.int i, .int j] ∧ (-(2 ^ 62) ≤ i ∧ i < 2 ^ 62 ∧ -(2 ^ 62) ≤ j ∧ j < 2 ^ 62) ∧ FJ (Itr i (j - i).toNat) g tb D σ H1) := rfl
theorem for_rng3 {ta : TA} : tFor (iRng3 ta) g tb D σ H = ta σ H (fun vs H1 => ∃ i j c : Int, vs = [.int i, .int j, .int c] ∧ (-1000000 ≤ i ∧ i ≤ 1000000 ∧ -1000000 ≤ j ∧ j ≤ 1000000 ∧ -1000000 ≤ c ∧ c ≤ 1000000 ∧ c ≠ 0) ∧ FJ (Its i c (stepN i j c)) g tb D σ H1) := rfl
end
end Gz
set_option Elab.async false
set_option linter.all false
set_option maxRecDepth 100000
set_option maxHeartbeats 4000000
namespace Gz
open PySem PySem.Spec PyProof.Rows L2
local macro_rules | `(tactic| walk_at "om") => `(tactic| ((try simp only [PySem.Addr] at *); omega))
section
variable {X : Cx} {pins : List (Addr × Obj)} {σ : L2.St} {H : Hp} {s : Shared} {h' : Heap}
theorem turnsHok {ch : List Addr} (I : Inv X pins σ H s) (k : ∀ b o, b ∉ ch → s.heap.get? b = some o → h'.get? b = some o) (hf : ∀ b ∈ ch, FpOk X pins H b) {H' : Hp} (up : ∀ b u, H b = some u → H' b = some u) : ∀ b u, H b = some u → ObjOk X.prog X.w H' h' b u := by
  have nch : ∀ b u, H b = some u → b ∉ ch := fun b u e z => by rw [(hf b z).1] at e; cases e
  intro b u e
  refine (I.hok b u e).stay (fun c v hc q => k c v ?_ q) (fun c q => up c _ q) fun c xs q => up c _ q
  rcases hc with z | z
  · rw [z]; exact nch b u e
  · exact nch c _ z
theorem Inv_turns {t' : Nat} {ch : List Addr} (I : Inv X pins σ H s) (k : ∀ b o, b ∉ ch → s.heap.get? b = some o → h'.get? b = some o) (hf : ∀ b ∈ ch, FpOk X pins H b) : Inv X pins σ H { s with heap := h', toks := t' } := by
  refine I.step (g' := s.gens) (d' := s.drawn) (ch := ch) (fun b hb => ?_) (fun b o _ _ hc e _ => k b o hc e) (fun b o _ _ hc e _ => ⟨o.slots, k b o hc e⟩) (fun _ _ _ _ n => n)
    (fun b o hc e => ⟨o, k b o hc e⟩) (fun _ _ e => e) (fun _ _ _ e => e) (fun b ps e => ⟨#[], by rw [e]; simp⟩) (fun m hm => ?_) (fun b u e => turnsHok I k hf (fun _ _ q => q) b u e) I.bare
  · obtain ⟨_, d1, d2, d3, d4, d5⟩ := hf b hb
    exact ⟨d3, d1, d4, d5⟩
  · obtain ⟨o, es, ep, ho, r⟩ := hm
    exact ⟨o, es, ep, k _ o (fun z => (hf _ z).2.1 rfl) ho, r⟩
theorem Inv_turnsLaid {t' : Nat} {ch : List Addr} {T : Addr} {o : HO} (I : Inv X pins σ H s) (k : ∀ b o, b ∉ ch → s.heap.get? b = some o → h'.get? b = some o) (hf : ∀ b ∈ ch, FpOk X pins H b) (hT : s.heap.objs.size ≤ T)
    (new : ObjOk X.prog X.w (upd H T o) h' T o) : Inv X pins σ (upd H T o) { s with heap := h', toks := t' } := by
  have hn := I.hok.fresh hT
  have neT : ∀ b u, s.heap.get? b = some u → b ≠ T := fun b u e => Nat.ne_of_lt (Nat.lt_of_lt_of_le (Heap.lt_size e) hT)
  have neH : ∀ b u, H b = some u → b ≠ T := fun b u e => ne_of_none e hn
  have up : ∀ b u, H b = some u → upd H T o b = some u := fun b u e => by rw [upd_ne (neH b u e)]; exact e
  refine I.step (g' := s.gens) (d' := s.drawn) (ch := ch) (fun b hb => ?_) (fun b o _ _ hc e _ => k b o hc e) (fun b o _ _ hc e _ => ⟨o.slots, k b o hc e⟩) (fun b u _ e n => by rw [upd_ne (neT b u e)]; exact n)
    (fun b o hc e => ⟨o, k b o hc e⟩) (fun b xs e => up b _ e) (fun b _ _ e => up b _ e) (fun b ps e => ⟨#[], by rw [up b _ e]; simp⟩) (fun m hm => ?_) (fun b u e => ?_) I.bare
  · obtain ⟨_, d1, d2, d3, d4, d5⟩ := hf b hb
    exact ⟨d3, d1, d4, d5⟩
  · obtain ⟨o, es, ep, ho, r⟩ := hm
    exact ⟨o, es, ep, k _ o (fun z => (hf _ z).2.1 rfl) ho, r⟩
  · by_cases hb : b = T
    · subst hb; rw [upd_same] at e; cases e; exact new
    · rw [upd_ne hb] at e
      exact turnsHok I k hf up b u e
end
def Itv (K : PySem.W.Frag) (a : Addr) (n : Nat) : It :=
  ⟨fun i H => ∃ xs x, SqL K H a xs ∧ xs.length = n ∧ xs.reverse[i]? = some x, fun i H x H' => H' = H ∧ ∀ xs, SqL K H a xs → xs.length = n → xs.reverse[i]? = some x, fun i _ => i = n⟩
def iRev (K : PySem.W.Frag) (ta : TA) : TI := fun σ H R => ta σ H fun vs H1 => ∃ a xs, vs = [.ref a] ∧ SqL K H1 a xs ∧ R (Itv K a xs.length) H1
def Ite (K : PySem.W.Frag) (a : Addr) : It :=
  ⟨fun i H => ∃ xs x, SqL K H a xs ∧ xs[i]? = some x, fun i H v H' => ∃ (p : Addr) (x : V), v = .ref p ∧ H p = none ∧ H' = upd H p (.tup [.int i, x]) ∧ ∀ xs, SqL K H a xs → xs[i]? = some x, fun i H => ∃ xs, SqL K H a xs ∧ xs.length ≤ i⟩
theorem line2' : 2 ≤ sizeLine := by decide
theorem turn_enum {P : Program} {w : World} {K : PySem.W.Frag} {es : List Expr} {k : Nat} {tp : Pos} (a e it : Addr) (hei : e ≠ it) : Turn P w K (.Tuple es k tp) (Ite K a) [e, it] e (fun i h => (∃ old, IsEnum h e it (i : Nat) old) ∧ h.IsListIter it a i) where
  mem := by simp
  obj := fun i h st b hb => by
    obtain ⟨⟨old, he⟩, o, ho, c, d⟩ := st
    have hb' : b = e ∨ b = it := by simpa using hb
    rcases hb' with rfl | rfl
    · exact ⟨_, he, fun v z => by
        have z' : Data.fields _ = Data.cell v := z
        cases z'⟩
    · exact ⟨o, ho, fun v z => by rw [d] at z; cases z⟩
  keep := fun i h h' st kk => by
    obtain ⟨⟨old, he⟩, hi⟩ := st
    exact ⟨⟨old, kk e (by simp) _ he⟩, hi.at fun o e => kk it (by simp) o e⟩
  item := by
    intro X hP hw hK hc i pins s σ H E I hf st hg
    subst hP hw hK
    obtain ⟨xs, x, hq, hx⟩ := hg
    obtain ⟨⟨old, he⟩, hit⟩ := st
    obtain ⟨its, rv, p, hz⟩ := I.list hq
    obtain ⟨u, hu, ru⟩ := rv.get hx
    refine wpAny_pyNext_enum_item he hit p.isList (x := u) (by simpa using hu) hei fun h1 ho hit1 hT hsz hk => ?_
    refine ⟨_, rfl, wpAny_letOwnedTupleGo_enum ho fun h2 he2 hs2 => ?_⟩
    have hs2' : Heap.SameBut e h1 h2 := hs2
    have neT : s.heap.objs.size ≠ e := Nat.ne_of_gt (Heap.lt_size he)
    have up : ∀ b o, b ∉ [e, it] → s.heap.get? b = some o → h2.get? b = some o := fun b o hb q => by
      have hb' : b ≠ e ∧ b ≠ it := by simpa using hb
      exact hs2'.extBut b o hb'.1 (hk b o hb'.1 hb'.2 q)
    have hn : H s.heap.objs.size = none := I.hok.fresh (Nat.le_refl _)
    refine ⟨.ref s.heap.objs.size, upd H s.heap.objs.size (.tup [.int i, x]), Inv_turnsLaid (s := s) (h' := h2) (t' := s.toks + 1) I up hf (Nat.le_refl _) ⟨line2', [.int i s.toks, u], .cons ⟨_, rfl⟩ (.cons ru .nil), ?_⟩, rfl, ⟨_, x, rfl, hn, rfl, fun ys hy => by rw [I.list_inj hy hq]; exact hx⟩, ⟨⟨u, ?_⟩, ?_⟩, fun b hb => ?_⟩
    · have := hs2'.extBut _ _ neT hT
      exact ⟨_, this, rfl, _, rfl⟩
    · have : ((i : Int) + 1) = ((i + 1 : Nat) : Int) := by omega
      rw [← this]; exact he2
    · exact hit1.at fun o q => hs2'.extBut _ _ (Ne.symm hei) q
    · rw [upd_ne]
      · exact (hf b hb).1
      · have hb' : b = e ∨ b = it := by simpa using hb
        rcases hb' with rfl | rfl
        · exact Ne.symm neT
        · obtain ⟨o, q, _⟩ := hit
          exact Nat.ne_of_lt (Heap.lt_size q)
  done := by
    intro X hP hw hK hc i pins s σ H E I hf st hg
    subst hP hw hK
    obtain ⟨xs, hq, hx⟩ := hg
    obtain ⟨⟨old, he⟩, hit⟩ := st
    obtain ⟨its, rv, p, hz⟩ := I.list hq
    have hl := rv.length
    refine wpAny_pyNext_enum_end (I.ok.hd hc) he hit p.isList (by simp; omega) fun h' eb => ⟨rfl, Inv_turns (t' := s.toks) I (fun b o hb q => ?_) hf⟩
    have hb' : b ≠ e ∧ b ≠ it := by simpa using hb
    exact eb b o hb'.2 q
  self := fun _ i s Q E st h => by
    obtain ⟨⟨old, he⟩, _⟩ := st
    exact wpAny_pyIter_enum he h
def iEnum (K : PySem.W.Frag) (ta : TA) : TI := fun σ H R => ta σ H fun vs H1 => ∃ a, vs = [.ref a] ∧ (∃ xs, SqL K H1 a xs) ∧ R (Ite K a) H1
theorem pi_enum {X : Cx} {es : List Expr} {k : Nat} {tp : Pos} {e : Expr} {ta : TA} {p pos : Pos} (hg : Gl X "enumerate") (hm : X.mg "enumerate" = none) (ha : PA X [e] ta) (hs : starEach [e] X.env = [(false, eval e X.env)] := by rfl) : PI X (.Tuple es k tp) (.Call (.Name "enumerate" p) [e] [] pos) (iEnum X.K ta) := by
  intro pins s σ H R I h
  refine Call_ (ld_blt I hg hm b_enumerate (PyProof.Rows.callWith_type1 (thn (ha pos pins s σ H _ I h) fun us s1 ⟨vs, H1, I1, r1, q1⟩ => ?_) hs rfl))
  obtain ⟨a, rfl, ⟨xs, hq⟩, q⟩ := q1
  obtain ⟨u, rfl, ru⟩ := vals1 r1
  cases ru
  obtain ⟨its, rv, p, hz⟩ := I1.list hq
  refine call_enumerate_list p.isList fun h' he hit hsz hk => ?_
  refine wpAny_pyIter_enum he ?_
  have I2 : Inv X pins σ H1 { s1 with heap := h' } := I1.kept (t' := s1.toks) hk
  refine ⟨s1.heap.objs.size + 1, [s1.heap.objs.size + 1, s1.heap.objs.size], _, _, H1, rfl, I2, turn_enum a _ _ (by walk_at "om"), ⟨⟨.none, he⟩, hit⟩, fun b hb => ?_, q⟩
  have hb' : b = s1.heap.objs.size + 1 ∨ b = s1.heap.objs.size := by simpa using hb
  rcases hb' with rfl | rfl
  · exact I1.fpOk (Nat.le_succ _) (I1.hok.fresh (Nat.le_succ _))
  · exact I1.fpOk (Nat.le_refl _) (I1.hok.fresh (Nat.le_refl _))
def Itz (K : PySem.W.Frag) (a b : Addr) : It :=
  ⟨fun i H => ∃ xs ys x y, SqL K H a xs ∧ SqL K H b ys ∧ xs[i]? = some x ∧ ys[i]? = some y, fun i H v H' => ∃ (p : Addr) (x y : V), v = .ref p ∧ H p = none ∧ H' = upd H p (.tup [x, y]) ∧ (∀ xs, SqL K H a xs → xs[i]? = some x) ∧ ∀ ys, SqL K H b ys → ys[i]? = some y,
    fun i H => ∃ xs ys, SqL K H a xs ∧ SqL K H b ys ∧ (xs.length ≤ i ∨ ys.length ≤ i)⟩
theorem turn_zip {P : Program} {w : World} {K : PySem.W.Frag} {es : List Expr} {k : Nat} {tp : Pos} (a b z TI TO i1 i2 : Addr) (D : ZipApart z TI TO i1 i2 a b) : Turn P w K (.Tuple es k tp) (Itz K a b) [z, TI, TO, i1, i2] z
    (fun i h => IsZip h z TI TO .none ∧ IsPair h TI (.ref i1) (.ref i2) ∧ (∃ a b, IsPair h TO a b) ∧ h.IsListIter i1 a i ∧ h.IsListIter i2 b i) where
  mem := by simp
  obj := fun i h st c hc => by
    obtain ⟨hz, hTI, ⟨ta, tb, hTO⟩, ⟨o1, h1, c1, d1⟩, ⟨o2, h2, c2, d2⟩⟩ := st
    have hc' : c = z ∨ c = TI ∨ c = TO ∨ c = i1 ∨ c = i2 := by simpa using hc
    rcases hc' with rfl | rfl | rfl | rfl | rfl
    · exact ⟨_, hz, fun v q => by
        have q' : Data.fields _ = Data.cell v := q
        cases q'⟩
    · exact ⟨_, hTI, fun v q => by
        have q' : Data.seq _ _ = Data.cell v := q
        cases q'⟩
    · exact ⟨_, hTO, fun v q => by
        have q' : Data.seq _ _ = Data.cell v := q
        cases q'⟩
    · exact ⟨o1, h1, fun v q => by rw [d1] at q; cases q⟩
    · exact ⟨o2, h2, fun v q => by rw [d2] at q; cases q⟩
  keep := fun i h h' st kk => by
    obtain ⟨hz, hTI, ⟨ta, tb, hTO⟩, h1, h2⟩ := st
    exact ⟨kk z (by simp) _ hz, kk TI (by simp) _ hTI, ⟨ta, tb, kk TO (by simp) _ hTO⟩, h1.at fun o e => kk i1 (by simp) o e, h2.at fun o e => kk i2 (by simp) o e⟩
  item := by
    intro X hP hw hK hc i pins s σ H E I hf st hg
    subst hP hw hK
    obtain ⟨xs, ys, x, y, hqx, hqy, hx, hy⟩ := hg
    obtain ⟨hz, hTI, ⟨ta, tb, hTO⟩, h1, h2⟩ := st
    obtain ⟨its, rv, p1, _⟩ := I.list hqx
    obtain ⟨jts, rv2, p2, _⟩ := I.list hqy
    obtain ⟨u, hu, ru⟩ := rv.get hx
    obtain ⟨v, hv, rv'⟩ := rv2.get hy
    refine wpAny_pyNext_zip_item D hz hTI hTO h1 h2 p1.isList p2.isList (x := u) (y := v) (by simpa using hu) (by simpa using hv) fun h' z1 t1 l1 l2 pT hsz hk => ?_
    refine ⟨_, rfl, wpAny_letOwnedTupleGo_zip z1 fun h3 z3 hs3 => ?_⟩
    have hs3' : Heap.SameBut z h' h3 := hs3
    have neT : s.heap.objs.size ≠ z := Nat.ne_of_gt (Heap.lt_size hz)
    have up : ∀ b o, b ∉ [z, TI, TO, i1, i2] → s.heap.get? b = some o → h3.get? b = some o := fun b o hb q => by
      have hb' : b ≠ z ∧ b ≠ TI ∧ b ≠ TO ∧ b ≠ i1 ∧ b ≠ i2 := by simpa using hb
      exact hs3'.extBut b o hb'.1 (hk b o hb'.1 hb'.2.2.1 hb'.2.2.2.1 hb'.2.2.2.2 q)
    have hn : H s.heap.objs.size = none := I.hok.fresh (Nat.le_refl _)
    refine ⟨.ref s.heap.objs.size, upd H s.heap.objs.size (.tup [x, y]), Inv_turnsLaid (s := s) (h' := h3) (t' := s.toks) I up hf (Nat.le_refl _) ⟨line2', [u, v], .cons ru (.cons rv' .nil), ?_⟩, rfl, ⟨_, x, y, rfl, hn, rfl, fun zs hzs => by rw [I.list_inj hzs hqx]; exact hx, fun zs hzs => by rw [I.list_inj hzs hqy]; exact hy⟩,
      ⟨z3, hs3'.extBut _ _ D.TIz (hk _ _ D.TIz D.TITO D.TIi1 D.TIi2 hTI), ⟨_, _, hs3'.extBut _ _ D.TOz t1⟩, l1.at fun o q => hs3'.extBut _ _ D.i1z q, l2.at fun o q => hs3'.extBut _ _ D.i2z q⟩, fun b hb => ?_⟩
    · have := hs3'.extBut _ _ neT pT
      exact ⟨_, this, rfl, _, rfl⟩
    · rw [upd_ne]
      · exact (hf b hb).1
      · have hb' : b = z ∨ b = TI ∨ b = TO ∨ b = i1 ∨ b = i2 := by simpa using hb
        rcases hb' with rfl | rfl | rfl | rfl | rfl
        · exact Ne.symm neT
        · exact Nat.ne_of_lt (Heap.lt_size hTI)
        · exact Nat.ne_of_lt (Heap.lt_size hTO)
        · obtain ⟨o, q, _⟩ := h1
          exact Nat.ne_of_lt (Heap.lt_size q)
        · obtain ⟨o, q, _⟩ := h2
          exact Nat.ne_of_lt (Heap.lt_size q)
  done := by
    intro X hP hw hK hc i pins s σ H E I hf st hg
    subst hP hw hK
    obtain ⟨xs, ys, hqx, hqy, hx⟩ := hg
    obtain ⟨hz, hTI, ⟨ta, tb, hTO⟩, h1, h2⟩ := st
    obtain ⟨its, rv, p1, _⟩ := I.list hqx
    obtain ⟨jts, rv2, p2, _⟩ := I.list hqy
    have l1 := rv.length
    have l2 := rv2.length
    refine wpAny_pyNext_zip_end (I.ok.hd hc) D hz hTI hTO h1 h2 p1.isList p2.isList (hx.imp (fun q => by simp; omega) fun q => by simp; omega) fun h' hk => ⟨rfl, Inv_turns (t' := s.toks) I (fun b o hb q => ?_) hf⟩
    have hb' : b ≠ z ∧ b ≠ TI ∧ b ≠ TO ∧ b ≠ i1 ∧ b ≠ i2 := by simpa using hb
    exact hk b o hb'.1 hb'.2.2.1 hb'.2.2.2.1 hb'.2.2.2.2 q
  self := fun _ i s Q E st h => wpAny_pyIter_zip st.1 h
def iZip (K : PySem.W.Frag) (ta : TA) : TI := fun σ H R => ta σ H fun vs H1 => ∃ a b, vs = [.ref a, .ref b] ∧ (∃ xs, SqL K H1 a xs) ∧ (∃ ys, SqL K H1 b ys) ∧ R (Itz K a b) H1
theorem pi_zip {X : Cx} {es : List Expr} {k : Nat} {tp : Pos} {e f : Expr} {ta : TA} {p pos : Pos} (hg : Gl X "zip") (hm : X.mg "zip" = none) (ha : PA X [e, f] ta) (hs : starEach [e, f] X.env = (false, eval e X.env) :: starEach [f] X.env := by rfl) (hs2 : starEach [f] X.env = [(false, eval f X.env)] := by rfl) : PI X (.Tuple es k tp) (.Call (.Name "zip" p) [e, f] [] pos) (iZip X.K ta) := by
  intro pins s σ H R I h
  refine Call_ (ld_blt I hg hm b_zip (PyProof.Rows.callWith_type1 (thn (ha pos pins s σ H _ I h) fun us s1 ⟨vs, H1, I1, r1, q1⟩ => ?_) hs (by rw [hs2]; rfl)))
  obtain ⟨a, b, rfl, ⟨xs, hqx⟩, ⟨ys, hqy⟩, q⟩ := q1
  obtain ⟨u, v, rfl, ru, rv0⟩ := vals2 r1
  cases ru
  cases rv0
  obtain ⟨its, rv, p1, _⟩ := I1.list hqx
  obtain ⟨jts, rv2, p2, _⟩ := I1.list hqy
  have a1 : a < s1.heap.objs.size := by obtain ⟨_, e, _⟩ := p1.isList; exact Heap.lt_size e
  have a2 : b < s1.heap.objs.size := by obtain ⟨_, e, _⟩ := p2.isList; exact Heap.lt_size e
  refine call_zip_2 p1.isList p2.isList fun h' hz hTI hTO h1 h2 hsz hk => ?_
  refine wpAny_pyIter_zip hz ?_
  have I2 : Inv X pins σ H1 { s1 with heap := h' } := I1.kept (t' := s1.toks) hk
  refine ⟨s1.heap.objs.size + 4, [s1.heap.objs.size + 4, s1.heap.objs.size + 2, s1.heap.objs.size + 3, s1.heap.objs.size, s1.heap.objs.size + 1], _, _, H1, rfl, I2, turn_zip a b _ _ _ _ _ (zipApart_new a1 a2), ⟨hz, hTI, ⟨_, _, hTO⟩, h1, h2⟩, fun c hc => ?_, q⟩
  have hc' : s1.heap.objs.size ≤ c := by
    simp only [List.mem_cons, List.not_mem_nil, or_false] at hc
    walk_at "om"
  exact I1.fpOk hc' (I1.hok.fresh hc')
section
variable {X : Cx}
theorem bools_are : ∀ {bs : List Bool} {its : List Value}, Vals (bs.map V.bl) its → its = bs.map Value.bool
  | [], its, r => by cases r; rfl
  | b :: bs, its, r => by
    cases r with
    | cons r1 r2 =>
      cases r1
      rw [bools_are r2]; rfl
theorem call_allL (hc : X.calm = true) : CallR X (.builtin "all") (fun xs H Q => ∃ (a : Addr) (bs : List Bool), xs = [.ref a] ∧ SqL X.K H a (bs.map V.bl) ∧ Q (.bl (bs.all id)) H) := by
  intro pins s σ H xs us Q I r h
  obtain ⟨a, bs, rfl, hS, q⟩ := h
  obtain ⟨u, rfl, ru⟩ := vals1 r
  cases ru
  obtain ⟨its, rv, hp, _⟩ := I.list hS
  have e := bools_are rv
  subst e
  have hl := hp.isList
  have hlt : a < s.heap.objs.size := by obtain ⟨_, e, _⟩ := hl; exact Heap.lt_size e
  refine call_all_walk (wpAny_pyIter_list hl ?_)
  refine ⟨s.heap.objs.size, [s.heap.objs.size, a], [s.heap.objs.size], (bs.map Value.bool).toArray.size, _, _, fun i => (bs[i]?).getD true, rfl, Walks.list (A := X.A.in1) (I.ok.hd hc) _ a (Nat.ne_of_lt hlt) (bs.map Value.bool).toArray, ⟨⟨_, Heap.get?_push_size _ rfl, rfl, rfl⟩, hl.push _⟩, fun i v s' Q' E' hP hQ => ?_, fun h' tk hk => ?_⟩
  · have hP' : (bs[i]?).map Value.bool = some v := by simpa using hP
    cases e : bs[i]? with
    | none => rw [e] at hP'; cases hP'
    | some b =>
      rw [e] at hP'; cases hP'
      simp only [e, Option.getD_some] at hQ
      exact wpAny_truthy_bool hQ
  · have e : ((List.range (bs.map Value.bool).toArray.size).all fun i => (bs[i]?).getD true) = bs.all id := by
      rw [List.size_toArray, List.length_map]; exact PyProof.Rows.LSm.range_all bs
    rw [e]
    exact ⟨.bl (bs.all id), H, I.kept (fun b o q => hk b o (fun z => by
      have : b = s.heap.objs.size := by simpa using z
      rw [this] at q; exact Nat.lt_irrefl _ (Heap.lt_size q)) (Heap.get?_push_of_some _ q)), rfl, q⟩
end
section
variable {K : PySem.W.Frag} {g : TG} {tb : TS} {D : Ends} {σ : L2.St} {H : Hp} {a b : Addr} {xs ys : List V}
theorem for_rev {ta : TA} : tFor (iRev K ta) g tb D σ H = ta σ H (fun vs H1 => ∃ a xs, vs = [.ref a] ∧ SqL K H1 a xs ∧ FJ (Itv K a xs.length) g tb D σ H1) := rfl
theorem for_enum {ta : TA} : tFor (iEnum K ta) g tb D σ H = ta σ H (fun vs H1 => ∃ a, vs = [.ref a] ∧ (∃ xs, SqL K H1 a xs) ∧ FJ (Ite K a) g tb D σ H1) := rfl
theorem for_zip {ta : TA} : tFor (iZip K ta) g tb D σ H = ta σ H (fun vs H1 => ∃ a b, vs = [.ref a, .ref b] ∧ (∃ xs, SqL K H1 a xs) ∧ (∃ ys, SqL K H1 b ys) ∧ FJ (Itz K a b) g tb D σ H1) := rfl
theorem by_enum (Pv : Nat → L2.St → Hp → Prop) (h0 : Pv 0 σ H) (hl : ∀ i σ H, i ≤ xs.length → Pv i σ H → SqL K H a xs)
    (hs : ∀ i x σ H p, xs[i]? = some x → Pv i σ H → H p = none → g (.ref p) σ (upd H p (.tup [.int i, x])) fun σ2 H2 => tb { D with nx := Pv (i + 1), ct := Pv (i + 1), bk := D.nx } σ2 H2) (hd : ∀ σ H, Pv xs.length σ H → D.nx σ H) : FJ (Ite K a) g tb D σ H := by
  refine ⟨fun i m σ H => m = xs.length - i ∧ i ≤ xs.length ∧ Pv i σ H, ⟨_, rfl, Nat.zero_le _, h0⟩, ?_⟩
  rintro i m σ H ⟨rfl, hi, p⟩
  have q := hl i σ H hi p
  by_cases hlt : i < xs.length
  · refine .inr ⟨⟨xs, xs[i], q, by simp [hlt]⟩, Pv (i + 1), fun σ' H' p' => ⟨xs.length - (i + 1), by omega, rfl, hlt, p'⟩, fun v H' y => ?_⟩
    obtain ⟨w, x, rfl, hw, rfl, y⟩ := y
    exact hs i x σ _ w (y xs q) p hw
  · have e : i = xs.length := by omega
    subst e
    exact .inl ⟨⟨xs, q, Nat.le_refl _⟩, hd σ H p⟩
theorem by_zip (Pv : Nat → L2.St → Hp → Prop) (h0 : Pv 0 σ H) (hl : ∀ i σ H, Pv i σ H → SqL K H a xs ∧ SqL K H b ys)
    (hs : ∀ i x y σ H p, xs[i]? = some x → ys[i]? = some y → Pv i σ H → H p = none → g (.ref p) σ (upd H p (.tup [x, y])) fun σ2 H2 => tb { D with nx := Pv (i + 1), ct := Pv (i + 1), bk := D.nx } σ2 H2) (hd : ∀ σ H, Pv (min xs.length ys.length) σ H → D.nx σ H) : FJ (Itz K a b) g tb D σ H := by
  refine ⟨fun i m σ H => m = min xs.length ys.length - i ∧ i ≤ min xs.length ys.length ∧ Pv i σ H, ⟨_, rfl, Nat.zero_le _, h0⟩, ?_⟩
  rintro i m σ H ⟨rfl, hi, p⟩
  have q := hl i σ H p
  by_cases hlt : i < min xs.length ys.length
  · have h1 : i < xs.length := by omega
    have h2 : i < ys.length := by omega
    refine .inr ⟨⟨xs, ys, xs[i], ys[i], q.1, q.2, by simp [h1], by simp [h2]⟩, Pv (i + 1), fun σ' H' p' => ⟨min xs.length ys.length - (i + 1), by omega, rfl, hlt, p'⟩, fun v H' y => ?_⟩
    obtain ⟨w, x, y', rfl, hw, rfl, e1, e2⟩ := y
    exact hs i x y' σ _ w (e1 xs q.1) (e2 ys q.2) p hw
  · have e : i = min xs.length ys.length := by omega
    refine .inl ⟨⟨xs, ys, q.1, q.2, by omega⟩, hd σ H (e ▸ p)⟩
end
theorem gTup2 {K : PySem.W.Frag} {i j : Nat} {p : Addr} {x y : V} {σ : L2.St} {H : Hp} {Q : L2.St → Hp → Prop} (h : SqT K H p [x, y]) (q : Q ((σ.set i (some x)).set j (some y)) H) : gTup K 2 (gCons (gName i) (gCons (gName j) gNil)) (.ref p) σ H Q :=
  ⟨p, [x, y], rfl, h, rfl, x, [y], rfl, y, [], rfl, rfl, q⟩
end Gz
set_option Elab.async false
set_option linter.all false
set_option maxRecDepth 100000
set_option maxHeartbeats 4000000
namespace Gz
open PySem PySem.Spec PyProof.Rows L2
local macro_rules | `(tactic| walk_at "om") => `(tactic| ((try simp only [PySem.Addr] at *); omega))
structure CompOkG (X : Cx) (own : List Str) (scope : Scope) (cl : List (Str × Addr)) (fr : List Nat) (ys : List Str) : Prop where
  clos : closureFor scope X.env = pure cl
  nocell : (scope.names.all fun p => p.2 != .cell) = true
  kind : scope.kind = .function
  names : (scope.names.all fun p => p.2 != .local || scope.names.lookup p.1 == some .local) = true
  kinds : ((relabel scope X.env).names.all fun p => (p.2 != .cell && p.2 != .free) || (cl.lookup p.1).isSome) = true
  cls : ClOk X cl
  frs : FrOk X scope cl fr ys
  kfr : (ys.all fun y => (relabel scope X.env).names.lookup y == some .cell) = true
def tBlkG (k : Nat) (J : It) (g : TG) (ρ : L2.St) (tt : TT) (te : TE) (H : Hp) (Q : VK) : Prop := ∃ W : Nat → Nat → List V → Hp → Prop, (∃ m, W 0 m [] H) ∧ ∀ i m ys H, W i m ys H →
  (J.stop i H ∧ ys.length ≤ sizeLine ∧ ∀ l, H l = none → Q (.ref l) (upd H l (.lst ys))) ∨ (J.go i H ∧ ys.length < sizeLine ∧ ∃ N : List V → Hp → Prop, (∀ zs H', N zs H' → ∃ m', m' < m ∧ W (i + 1) m' zs H') ∧
    ∀ os : List (Option V), os.length = k → ∀ x H', J.yld i H x H' → g x (os ++ ρ) H' fun σ2 H2 => ∃ os', os'.length = k ∧ σ2 = os' ++ ρ ∧ tt σ2 H2 fun b H1 => if b = true then te σ2 H1 fun y H2 => N (ys ++ [y]) H2 else N ys H1)
def tCompG (k : Nat) (wi : TI) (g : TG) (fr : List Nat) (tt : TT) (te : TE) : TE := fun σ H Q => wi σ H fun J H1 => tBlkG k J g (fr.map fun j => (σ[j]?).join) tt te H1 Q
theorem compLoop_own {prog : Program} {w : World} {A : Around} {s : Shared} {R : Result → Shared → Prop} {elt target iter : Expr} {ifs : List Expr} {scope : Scope} {pos : Pos} {it acc : Value} {env : Env} (I : Nat → Shared → Prop)
    (turn : ∀ n s, I n s → wpAny (model prog w) A (pyNext it) (fun r s₁ => match r with
      | none => R (.ok .next) s₁
      | some v => wpAny (model prog w) A (letOwnedTupleGo target it v) (fun _ s₁' => wpAny (model prog w) A (assign target env v) (fun _ s₂ =>
          wpAny (model prog w) A (forIn ifs true fun c r => if r = true then do let ok ← isTrue c env (eval c env); pure (ForInStep.yield ok) else pure (ForInStep.yield r)) (fun ok s₃ =>
            if ok = true then wpAny (model prog w) A (eval elt env) (fun x s₄ =>
              wpAny (model prog w) A (call (.builtin "list.append") [acc, x]) (fun _ s₅ => ∃ m, m < n ∧ I m s₅) (notedBy (model prog w) A env fun e s' => R (.error e) s') s₄) (notedBy (model prog w) A env fun e s' => R (.error e) s') s₃
            else ∃ m, m < n ∧ I m s₃) (notedBy (model prog w) A env fun e s' => R (.error e) s') s₂) (notedBy (model prog w) A env fun e s' => R (.error e) s') s₁') (notedBy (model prog w) A env fun e s' => R (.error e) s') s₁) (notedBy (model prog w) A env fun e s' => R (.error e) s') s)
    (n : Nat) (h : I n s) :
    codeAny (model prog w) A (.compLoop (.ListComp elt [⟨target, iter, ifs, 0⟩] scope pos) 0 it acc env) R s := by
  refine codeAny_loop rfl I (fun n s hI => ?_) n h
  show wpAny _ A ((compTurn (.ListComp elt [⟨target, iter, ifs, 0⟩] scope pos) 0 it acc env).onRaise (fun x => do noteFrame x env; theTreesLotGoes x)) _ _ s
  refine wpAny_noted ?_
  rw [compTurn_list]
  refine wpAny_bind (wpAny_standAt (wpAny_bind (wpAny_mono (turn n s hI) (fun r s₁ h₁ => ?_) fun _ _ h' => h')))
  cases r with
  | none => exact wpAny_pure h₁
  | some v =>
    refine wpAny_bind (wpAny_mono h₁ (fun _ s₁' h₁' => ?_) fun _ _ h' => h')
    refine wpAny_bind (wpAny_mono h₁' (fun _ s₂ h₂ => wpAny_bind (wpAny_mono h₂ (fun ok s₃ h₃ => ?_) fun _ _ h' => h')) fun _ _ h' => h')
    cases ok with
    | false => exact wpAny_pure ⟨rfl, h₃⟩
    | true =>
      exact wpAny_bind (wpAny_bind (wpAny_mono h₃ (fun x s₄ h₄ => wpAny_bind (wpAny_mono h₄ (fun _ s₅ h₅ => wpAny_pure (wpAny_pure ⟨rfl, h₅⟩)) fun _ _ h' => h')) fun _ _ h' => h'))
section
variable {X : Cx} {pins : List (Addr × Obj)} {σ : L2.St} {H2 : Hp} {s2 : Shared} {own : List Str} {tg : Expr} {g : TG} {pos : Pos} {elt iter : Expr} {ifs : List Expr} {scope : Scope} {cl : List (Str × Addr)} {fr : List Nat} {ys : List Str} {tt : TT} {te : TE}
theorem cxB_okG {C : Addr} {ex : List Addr} {pn : List (Addr × Obj)} (S : CompOkG X own scope cl fr ys) (I2 : Inv X pins σ H2 s2) (f2 : ∀ b ∈ ex, FpOk X pins H2 b) (hC : s2.heap.objs.size ≤ C) (hex : ∀ b ∈ ex, b < s2.heap.objs.size) : (cxB X (own ++ ys) scope cl C s2 H2 ex pn).Ok := by
  refine ⟨I2.ok.mod, S.kind, I2.ok.glob, I2.ok.blt, hC, fun a b c h1 h2 => ?_, fun y hy => ?_, fun _ _ z => (nomatch z), I2.ok.hd, I2.ok.frames, .inl rfl, fun b hb => ⟨?_, fun y c e z => ?_⟩, I2.bs, Nat.le_trans I2.ok.bsz I2.sz, fun b o e hb => ?_, fun b hb z => ?_, I2.stack, I2.stkFree⟩
  · exact I2.ok.inj a b c (S.cls.get a c h1) (S.cls.get b c h2)
  · have hy' : (relabel scope X.env).names.lookup y = some .cell ∨ (relabel scope X.env).names.lookup y = some .free := hy
    have q : (cl.lookup y).isSome = true := by
      rcases hy' with e | e
      · simpa using look_in S.kinds e
      · simpa using look_in S.kinds e
    exact Option.isSome_iff_exists.mp q
  · exact Nat.ne_of_lt (Nat.lt_of_lt_of_le (hex b hb) hC)
  · exact (f2 b hb).2.2.2.2.1 y c (S.cls.get y c e) z
  · obtain ⟨_, _, _, d, _, _⟩ := f2 b hb
    rcases d with d | d
    · exact I2.ok.noex b o e d
    · exact absurd (Nat.lt_of_lt_of_le (Heap.lt_size e) (Nat.le_trans I2.ok.bsz d)) (Nat.lt_irrefl _)
  · obtain ⟨_, d1, d2, _⟩ := f2 b hb
    rcases List.mem_cons.mp (I2.stkSub b z) with q | q
    · exact d1 q
    · exact d2 q
theorem comp_blockG {J : It} {fp : List Addr} {it : Addr} {tn : Nat → Heap → Prop} {E : Value → Shared → Prop} {Q : VK} {RR : Value → Addr → Result → Shared → Prop}
    (S : CompOkG X own scope cl fr ys) (hc : X.calm = true) (hg : ∀ (C : Addr) (s : Shared) (H : Hp) (ex : List Addr) (pn : List (Addr × Obj)), PG (cxB X (own ++ ys) scope cl C s H ex pn) tg g)
    (hb : ∀ (C : Addr) (s : Shared) (H : Hp) (ex : List Addr) (pn : List (Addr × Obj)), PTs (cxB X (own ++ ys) scope cl C s H ex pn) ifs tt ∧ PE (cxB X (own ++ ys) scope cl C s H ex pn) elt te)
    (I2 : Inv X pins σ H2 s2) (T : Turn X.prog X.w X.K tg J fp it tn) (st2 : tn 0 s2.heap) (f2 : ∀ b ∈ fp, FpOk X pins H2 b)
    (h : tBlkG own.length J g (fr.map fun j => (σ[j]?).join) tt te H2 Q)
    (hRR : ∀ D C s' H', Inv X pins σ H' s' → (∃ m, s'.heap.Ns C m) → FpOk X pins H' C → Q (.ref D) H' → RR (.ref D) C (.ok .next) s') :
    wpAny (model X.prog X.w) X.A (newList []) (fun acc s3 => wpAny (model X.prog X.w) X.A (newFunctionEnv scope X.env.globals cl [] X.env.qual none .none (some X.env)) (fun cenv s4 =>
      codeAny (model X.prog X.w) X.A (.compStart (.ListComp elt [⟨tg, iter, ifs, 0⟩] scope pos) 0 (.ref it) acc { cenv with scope := relabel scope X.env }) (RR acc cenv.locals) s4) E s3) E s2 := by
  obtain ⟨W, ⟨m0, w0⟩, turn⟩ := h
  refine wpAny_newObj_type (wpAny_newFunctionEnv (fun y hy => by simpa using List.all_eq_true.mp S.nocell y hy) (fun y hy => absurd hy (by simp)) (fun h1 hns hsb => ?_) S.kind)
  dsimp only at hns hsb ⊢
  generalize eP : s2.heap.push { cls := .type "list", dict := none, data := .seq ([] : List Value).toArray } = P2 at hns hsb ⊢
  have sz : P2.objs.size = s2.heap.objs.size + 1 := by rw [← eP, Heap.size_push]
  have hDC : s2.heap.objs.size ≠ P2.objs.size := by walk_at "om"
  have keep : ∀ b o, s2.heap.get? b = some o → h1.get? b = some o := fun b o e => by
    have lt := Heap.lt_size e
    exact hsb.extBut b o (by walk_at "om") (Heap.get?_push_of_some _ (eP ▸ Heap.get?_push_of_some _ e))
  have hD : h1.get? s2.heap.objs.size = some { cls := .type "list", data := .seq ([] : List Value).toArray 0 } :=
    hsb.extBut _ _ hDC (Heap.get?_push_of_some _ (eP ▸ Heap.get?_push_size _ rfl))
  have hfp : ∀ b ∈ fp, b < s2.heap.objs.size := fun b hb => by
    obtain ⟨o, e, _⟩ := T.obj 0 _ st2 b hb
    exact Heap.lt_size e
  have noStk : ∀ b, s2.heap.objs.size ≤ b → b ∉ frs X.stack := fun b hle z => by
    rcases List.mem_cons.mp (I2.stkSub b z) with q | q
    · have := I2.lt; walk_at "om"
    · exact I2.nofs hle q
  generalize eC : P2.objs.size = C at hns hsb hDC ⊢
  generalize eD : s2.heap.objs.size = D at hDC hD hfp noStk
  have hCle : s2.heap.objs.size ≤ C := by walk_at "om"
  have hDle : s2.heap.objs.size ≤ D := by walk_at "om"
  have ok' : (cxB X (own ++ ys) scope cl C s2 H2 fp (X.pn ++ pins)).Ok := cxB_okG S I2 f2 hCle (fun b hb => by have := hfp b hb; walk_at "om")
  have pinsOk : ∀ p ∈ X.pn ++ pins, p.1 ≠ C ∧ p.1 ≠ D ∧ p.1 ∉ frs X.stack ∧ ∀ b ∈ fp, p.1 ≠ b := fun p hp => by
    obtain ⟨e, n, nL, nf, _⟩ := I2.pin p hp
    have lt := Heap.lt_size e
    refine ⟨by walk_at "om", by walk_at "om", fun z => ?_, fun b hb => (f2 b hb).2.2.2.2.2 p hp⟩
    rcases List.mem_cons.mp (I2.stkSub _ z) with q | q
    · exact nL q
    · exact nf q
  have I4 : Inv (cxB X (own ++ ys) scope cl C s2 H2 fp (X.pn ++ pins)) [] ((own.map fun _ => none) ++ fr.map fun j => (σ[j]?).join) H2 { s2 with heap := h1, toks := s2.toks + ([] : List (Str × Value)).length } := by
    refine ⟨ok', rfl, I2.bare, Un.kept keep, ⟨_, hns, fun i y v e1 e2 e3 => ?_⟩, fun y c e => ?_, I2.hok.fresh hCle, fun y c e => I2.freeC y c (S.cls.get y c e), fun p hp => ?_, I2.hok.kept keep, ?_⟩
    · by_cases hio : i < own.length
      · rw [List.getElem?_append_left (by simpa using hio)] at e2
        simp [hio] at e2
      · rw [List.getElem?_append_right (by simp; omega)] at e2
        have e1' : ys[i - own.length]? = some y := by
          have : (own ++ ys)[i]? = some y := e1
          rwa [List.getElem?_append_right (by omega)] at this
        rw [List.length_map] at e2
        obtain ⟨j, c, hN, hσ, hk, hc1, hc2⟩ := S.frs.get (i - own.length) y v e1' e2
        obtain ⟨m, hm, hl⟩ := I2.loc
        obtain ⟨u, ru, lu⟩ := hl j y v hN hσ (.inr (.inl hk))
        refine ⟨u, ru, .inr ⟨.inl ?_, c, hc1, ?_⟩⟩
        · have z := List.all_eq_true.mp S.kfr y (List.mem_of_getElem? e1')
          exact (by simpa using z : (relabel scope X.env).names.lookup y = some .cell)
        · rcases lu with ⟨z, _⟩ | ⟨_, c', e', q'⟩
          · rw [hk] at z; cases z
          · rw [hc2] at e'; cases e'
            obtain ⟨o, ho, hd⟩ := q'
            exact ⟨o, keep _ _ ho, hd⟩
    · obtain ⟨v, o, ho, hd⟩ := I2.cell y c (S.cls.get y c e)
      exact ⟨v, o, keep _ _ ho, hd⟩
    · have hp' : p ∈ X.pn ++ pins := by
        have : p ∈ (X.pn ++ pins) ++ [] := hp
        simpa using this
      obtain ⟨e, n, _, _, d⟩ := I2.pin p hp'
      obtain ⟨p1, _, p3, _⟩ := pinsOk p hp'
      exact ⟨keep _ _ e, n, p1, p3, d⟩
    · show ((own.map fun _ => (none : Option V)) ++ fr.map fun j => (σ[j]?).join).length = (own ++ ys).length
      simp [S.frs.len]
  have st4 : tn 0 h1 := T.keep 0 _ _ st2 fun b _ o e => keep b o e
  have fpB : ∀ (H' : Hp) (o : Obj), (∀ b ∈ fp, H' b = none) → ∀ b ∈ fp, FpOk (cxB X (own ++ ys) scope cl C s2 H2 fp (X.pn ++ pins)) [(D, o)] H' b := fun H' o hn b hb => by
    obtain ⟨_, d1, d2, d3, d4, d5⟩ := f2 b hb
    have lt := hfp b hb
    refine ⟨hn b hb, ?_, fun z => ?_, .inl hb, fun y c e => d4 y c (S.cls.get y c e), fun p hp => ?_⟩
    · show b ≠ C
      walk_at "om"
    · rcases List.mem_cons.mp (I2.stkSub b z) with q | q
      · exact d1 q
      · exact d2 q
    · have hp' : p ∈ (X.pn ++ pins) ++ [(D, o)] := hp
      rcases List.mem_append.mp hp' with z | z
      · exact d5 p z
      · have : p = (D, o) := by simpa using z
        subst this
        show D ≠ b
        walk_at "om"
  have loop : ∀ s' : Shared, s' = { s2 with heap := h1, toks := s2.toks + ([] : List (Str × Value)).length } →
      codeAny (model X.prog X.w) X.A (.compLoop (.ListComp elt [⟨tg, iter, ifs, 0⟩] scope pos) 0 (.ref it) (.ref D) (compEnvC scope cl C X.env)) (RR (.ref D) C) s' := by
    rintro s' rfl
    refine compLoop_own (fun n s' => ∃ i zs H' os its nn, os.length = own.length ∧ Inv (cxB X (own ++ ys) scope cl C s2 H2 fp (X.pn ++ pins)) [] (os ++ fr.map fun j => (σ[j]?).join) H' s' ∧ tn i s'.heap ∧ (∀ b ∈ fp, H' b = none) ∧ H' D = none ∧
      s'.heap.get? D = some { cls := .type "list", data := .seq (its : List Value).toArray nn } ∧ Vals zs its ∧ W i n zs H') ?_ m0 ⟨0, [], H2, own.map fun _ => none, [], 0, by simp, I4, st4, fun b hb => (f2 b hb).1, I2.hok.fresh hDle, hD, .nil, w0⟩
    rintro n s3 ⟨i, zs, H3, os3, its, nn, hos3, I3, st3, fr3, hD3, oD3, r3, w3⟩
    have I3' : Inv (cxB X (own ++ ys) scope cl C s2 H2 fp (X.pn ++ pins)) [(D, { cls := .type "list", data := .seq its.toArray nn })] (os3 ++ fr.map fun j => (σ[j]?).join) H3 s3 := I3.pins_of fun p hp => by
      have : p = (D, { cls := .type "list", data := .seq its.toArray nn }) := by simpa using hp
      subst this
      exact ⟨oD3, hD3, hDC, noStk D (Nat.le_refl _), fun v z => nomatch z⟩
    rcases turn i n zs H3 w3 with ⟨stop, hlen, q⟩ | ⟨go, hlen, N, hNN, step⟩
    · refine wpAny_mono (T.done (cxB X (own ++ ys) scope cl C s2 H2 fp (X.pn ++ pins)) rfl rfl rfl hc i _ s3 _ H3 (fun _ _ => False) I3' (fpB H3 _ fr3) st3 stop) (fun r s4 ⟨hr, J4⟩ => ?_) fun _ _ z => z.elim
      subst hr
      have un := J4.base
      have neD : ∀ b o, s2.heap.get? b = some o → b ≠ D := fun b o e => by have := Heap.lt_size e; walk_at "om"
      have neH : ∀ b u, H3 b = some u → b ≠ D := fun b u e z => by rw [z, hD3] at e; cases e
      refine hRR D C s4 (upd H3 D (.lst zs)) ?_ ?_ ?_ (q D hD3)
      · refine I2.call' (ch := fp) J4.os ⟨un.keep, un.slot, fun b o e nn hx => ?_, un.there, fun b xs e => ?_, fun b o u e => ?_, fun b ps e => ?_⟩ (fun a o e => ?_) J4.bare fun b hb => ?_
        · rw [upd_ne (neD b o e)]; exact un.free b o e nn hx
        · have := un.tups b xs e; rw [upd_ne (neH b _ this)]; exact this
        · have := un.frzs b o u e; rw [upd_ne (neH b _ this)]; exact this
        · obtain ⟨more, this⟩ := un.tbls b ps e
          exact ⟨more, by rw [upd_ne (neH b _ this)]; exact this⟩
        · by_cases ha : a = D
          · subst ha
            rw [upd_same] at e; cases e
            exact ⟨hlen, its, nn, r3, (J4.pin (a, _) (List.mem_append_right _ (List.mem_singleton.mpr rfl))).1⟩
          · rw [upd_ne ha] at e
            exact (J4.hok a o e).stay (fun _ _ _ z => z) (fun b z => by rw [upd_ne (neH b _ z)]; exact z) fun b xs z => by rw [upd_ne (neH b _ z)]; exact z
        · obtain ⟨_, d1, d2, d3, d4, d5⟩ := f2 b hb
          exact ⟨d3, d1, d4, d5⟩
      · obtain ⟨m, hm, _⟩ := J4.loc
        exact ⟨m, hm⟩
      · exact I2.fpOk hCle (by rw [upd_ne (Ne.symm hDC)]; exact J4.free)
    · refine wpAny_mono (T.item (cxB X (own ++ ys) scope cl C s2 H2 fp (X.pn ++ pins)) rfl rfl rfl hc i _ s3 _ H3 (fun _ _ => False) I3' (fpB H3 _ fr3) st3 go) (fun r s4 ⟨u, hr, h4⟩ => ?_) fun _ _ z => z.elim
      subst hr
      refine wpAny_mono h4 (fun _ s5 ⟨y5, H5, I5, r5, yl, st5, fr5⟩ => ?_) fun _ _ z => z.elim
      have I5' := I5.pinned (fpB H5 _ fr5) (T.obj _ _ st5)
      refine wpAny_mono (hg C s2 H2 fp (X.pn ++ pins) _ s5 _ H5 y5 u _ I5' r5 (step os3 hos3 y5 H5 yl)) (fun _ s6 ⟨σ6, H6, I6, os6, hos6, e6, q6⟩ => ?_) fun _ _ z => z.elim
      subst e6
      have after : ∀ (s7 : Shared) (H7 : Hp), Inv (cxB X (own ++ ys) scope cl C s2 H2 fp (X.pn ++ pins)) ([(D, { cls := .type "list", data := .seq its.toArray nn })] ++ pinsAt fp s5.heap) (os6 ++ fr.map fun j => (σ[j]?).join) H7 s7 →
          Inv (cxB X (own ++ ys) scope cl C s2 H2 fp (X.pn ++ pins)) [] (os6 ++ fr.map fun j => (σ[j]?).join) H7 s7 ∧ tn (i + 1) s7.heap ∧ (∀ b ∈ fp, H7 b = none) ∧ H7 D = none ∧ s7.heap.get? D = some { cls := .type "list", data := .seq its.toArray nn } := fun s7 H7 I7 => by
        have pD := I7.pin (D, { cls := .type "list", data := .seq its.toArray nn }) (List.mem_append_right _ (List.mem_append_left _ (List.mem_singleton.mpr rfl)))
        refine ⟨I7.pins_of fun p hp => absurd hp (by simp), T.keep _ _ _ st5 fun b hb o e => (I7.pin (b, o) (List.mem_append_right _ (List.mem_append_right _ (mem_pinsAt hb e)))).1, fun b hb => ?_, pD.2.1, pD.1⟩
        obtain ⟨o, e, _⟩ := T.obj _ _ st5 b hb
        exact (I7.pin (b, o) (List.mem_append_right _ (List.mem_append_right _ (mem_pinsAt hb e)))).2.1
      refine wpAny_mono ((hb C s2 H2 fp (X.pn ++ pins)).1 _ s6 _ H6 _ I6 q6) (fun ok s7 ⟨H7, I7, q7⟩ => ?_) fun _ _ z => z.elim
      dsimp only at q7
      by_cases hok : ok = true
      · rw [if_pos hok] at q7 ⊢
        refine wpAny_mono ((hb C s2 H2 fp (X.pn ++ pins)).2 _ s7 _ H7 _ I7 q7) (fun yv s8 ⟨y8, H8, I8, r8, n8⟩ => ?_) fun _ _ z => z.elim
        obtain ⟨m', hm', w8⟩ := hNN _ _ n8
        obtain ⟨J8, st8, fr8, hD8, oD8⟩ := after s8 H8 I8
        have hl := r3.length
        refine call_meets F.slot_list_append ⟨_, oD8, rfl⟩ F.entry_list_append (F.args_list_append_2 _ _) (PySem.list_append D its.toArray nn yv (by rw [List.size_toArray]; walk_at "om")) ⟨oD8, ?_⟩
        have oD9 := PySem.IsL.update oD8 (fun a => a.push yv)
        rw [List.push_toArray] at oD9
        refine ⟨m', hm', i + 1, zs ++ [y8], H8, os6, its ++ [yv], _, hos6, J8.turned (it := D) (fun b o hb' e => (Heap.get?_update_other _ _ (Ne.symm hb')).trans e) hD8 hDC (.inr hDle) (fun y c e z => ?_) (fun p hp => ?_), T.keep _ _ _ st8 fun b hb' o e => ?_, fr8, hD8, oD9, r3.append (.cons r8 .nil), w8⟩
        · obtain ⟨v, o, ho, _⟩ := I2.cell y c (S.cls.get y c e)
          have := Heap.lt_size ho
          walk_at "om"
        · have hp' : p ∈ X.pn ++ pins := by
            have : p ∈ (X.pn ++ pins) ++ [] := hp
            simpa using this
          exact (pinsOk p hp').2.1
        · have := hfp b hb'
          exact (Heap.get?_update_other _ _ (by walk_at "om")).trans e
      · rw [if_neg hok] at q7 ⊢
        obtain ⟨m', hm', w7⟩ := hNN _ _ q7
        obtain ⟨J7, st7, fr7, hD7, oD7⟩ := after s7 H7 I7
        exact ⟨m', hm', i + 1, zs, H7, os6, its, nn, hos6, J7, st7, fr7, hD7, oD7, r3, w7⟩
  exact codeAny_compStart_list (loop _ rfl) (T.self X.A 0 _ _ _ st4 (loop _ rfl))
theorem pe_compG {wi : TI} (S : CompOkG X own scope cl fr ys) (hc : X.calm = true) (hi : PI X tg iter wi) (hg : ∀ (C : Addr) (s : Shared) (H : Hp) (ex : List Addr) (pn : List (Addr × Obj)), PG (cxB X (own ++ ys) scope cl C s H ex pn) tg g)
    (hb : ∀ (C : Addr) (s : Shared) (H : Hp) (ex : List Addr) (pn : List (Addr × Obj)), PTs (cxB X (own ++ ys) scope cl C s H ex pn) ifs tt ∧ PE (cxB X (own ++ ys) scope cl C s H ex pn) elt te)
    (hs : ∀ z, foldedSetIterable iter X.env z = pure z := by intro _; rfl) : PE X (.ListComp elt [⟨tg, iter, ifs, 0⟩] scope pos) (tCompG own.length wi g fr tt te) := by
  intro pins s σ H Q I h
  rw [eval_ListComp]
  refine wpAny_comprehension_free (use := none) rfl hs S.clos S.kind (fun y hy hl => ?_) (thn (hi pins s σ H _ I h) fun xv s1 h1 => thn h1 fun itv s2 h2 => ?_)
  · have z := List.all_eq_true.mp S.names y hy
    rw [hl] at z
    simpa using z
  · obtain ⟨it, fp, tn, J, H2, rfl, I2, T, st2, f2, hB⟩ := h2
    refine comp_blockG (RR := fun acc C => compPost (model X.prog X.w) X.A X.xe none (EP X pins σ Q) acc C) S hc hg hb I2 T st2 f2 hB fun D C s' H' J' hn fC q => ?_
    obtain ⟨m, hm⟩ := hn
    obtain ⟨c0, c1, c2, c3, c4, c5⟩ := fC
    exact ⟨m, hm, fun h' sb => ⟨.ref D, H', J'.turned (it := C) (fun b o hb e => sb.extBut b o hb e) c0 c1 c3 c4 c5, rfl, q⟩⟩
end
end Gz
namespace Gz
open PySem PySem.Spec PyProof.Rows L2
section
variable {X : Cx} {K : PySem.W.Frag}
def pairGo (Ok : Hp → Prop) (ρ : L2.St) (tt : TT) (te : TE) : List (V × V) → List V → Hp → (List V → Hp → Prop) → Prop
  | [], zs, H, Q => Ok H ∧ Q zs H
  | (x, y) :: r, zs, H, Q => Ok H ∧ ∀ p, H p = none → tt (some x :: some y :: ρ) (upd H p (.tup [x, y])) fun b H1 => if b = true then te (some x :: some y :: ρ) H1 fun z H2 => pairGo Ok ρ tt te r (zs ++ [z]) H2 Q else pairGo Ok ρ tt te r zs H1 Q
theorem two_os {os : List (Option V)} (h : os.length = 2) : ∃ a b, os = [a, b] := by
  match os, h with
  | [a, b], _ => exact ⟨a, b, rfl⟩
variable {ρ : L2.St} {tt : TT} {te : TE} {H : Hp} {Q : VK} {a b : Addr} {xs ys : List V}
theorem blk_zip (hn : (xs.zip ys).length ≤ sizeLine) (h : pairGo (fun H => SqL K H a xs ∧ SqL K H b ys) ρ tt te (xs.zip ys) [] H fun zs H' => ∀ l, H' l = none → Q (.ref l) (upd H' l (.lst zs))) :
    tBlkG 2 (Itz K a b) (gTup K 2 (gCons (gName 0) (gCons (gName 1) gNil))) ρ tt te H Q := by
  have hlen : (xs.zip ys).length = min xs.length ys.length := List.length_zip
  refine ⟨fun i m zs H => m = (xs.zip ys).length - i ∧ i ≤ (xs.zip ys).length ∧ zs.length ≤ i ∧ pairGo (fun H => SqL K H a xs ∧ SqL K H b ys) ρ tt te ((xs.zip ys).drop i) zs H fun zs H' => ∀ l, H' l = none → Q (.ref l) (upd H' l (.lst zs)), ⟨_, rfl, Nat.zero_le _, Nat.le_refl _, h⟩, ?_⟩
  rintro i m zs H ⟨rfl, hi, hy, g⟩
  by_cases hlt : i < (xs.zip ys).length
  · have e := List.drop_eq_getElem_cons hlt
    have h1 : i < xs.length := by omega
    have h2 : i < ys.length := by omega
    have e2 : (xs.zip ys)[i] = (xs[i], ys[i]) := List.getElem_zip
    rw [e, e2] at g
    obtain ⟨⟨g0, g0'⟩, g1⟩ := g
    have l1 : ∀ y : V, (zs ++ [y]).length ≤ i + 1 := fun y => by rw [List.length_append, List.length_singleton]; omega
    have l2 : zs.length ≤ i + 1 := by omega
    refine .inr ⟨⟨xs, ys, xs[i], ys[i], g0, g0', by simp [h1], by simp [h2]⟩, by omega, fun ws H' => ws.length ≤ i + 1 ∧ pairGo (fun H => SqL K H a xs ∧ SqL K H b ys) ρ tt te ((xs.zip ys).drop (i + 1)) ws H' fun zs H' => ∀ l, H' l = none → Q (.ref l) (upd H' l (.lst zs)), fun zs H' q => ⟨_, by omega, rfl, hlt, q.1, q.2⟩, fun os hos v H' y => ?_⟩
    obtain ⟨p, x, y', rfl, hp, rfl, ex, ey⟩ := y
    have ex := ex xs g0
    have ey := ey ys g0'
    rw [List.getElem?_eq_getElem h1] at ex
    rw [List.getElem?_eq_getElem h2] at ey
    cases ex
    cases ey
    obtain ⟨o1, o2, rfl⟩ := two_os hos
    refine gTup2 (SqT.of upd_same) ⟨[some xs[i], some ys[i]], rfl, rfl, ?_⟩
    simp only [l1, l2, true_and]
    exact g1 p hp
  · have e : i = (xs.zip ys).length := by omega
    subst e
    rw [List.drop_length] at g
    obtain ⟨⟨g0, g0'⟩, g1⟩ := g
    exact .inl ⟨⟨xs, ys, g0, g0', by omega⟩, by omega, g1⟩
theorem pairGo_map {Ok : Hp → Prop} {p : V × V → Bool} {f : V × V → V} {Q' : List V → Hp → Prop} : ∀ {rows : List (V × V)} {H : Hp} {zs : List V}, (∀ H', Same H H' → Ok H') → (∀ r ∈ rows, ∀ H', Same H H' → ∀ Q, Q (p r) H' → tt (some r.1 :: some r.2 :: ρ) H' Q) →
    (∀ r ∈ rows, p r = true → ∀ H', Same H H' → ∀ Q, Q (f r) H' → te (some r.1 :: some r.2 :: ρ) H' Q) → (∀ H', Same H H' → Q' (zs ++ (rows.filter p).map f) H') → pairGo Ok ρ tt te rows zs H Q'
  | [], H, zs, hOk, _, _, q => ⟨hOk H (Same.refl H), by simpa using q H (Same.refl H)⟩
  | (x, y) :: r, H, zs, hOk, ht, he, q => by
    refine ⟨hOk H (Same.refl H), fun w hw => ?_⟩
    have s := Gz.same_upd (o := .tup [x, y]) hw
    refine ht _ (.head _) _ s _ ?_
    by_cases hb : p (x, y) = true
    · rw [if_pos hb]
      refine he _ (.head _) hb _ s _ (pairGo_map (fun H' s' => hOk H' (s.trans s')) (fun z hz H' s' => ht z (.tail _ hz) H' (s.trans s')) (fun z hz hb H' s' => he z (.tail _ hz) hb H' (s.trans s')) fun H' s' => ?_)
      have := q H' (s.trans s')
      rw [List.filter_cons, if_pos hb] at this
      simpa using this
    · rw [if_neg hb]
      refine pairGo_map (fun H' s' => hOk H' (s.trans s')) (fun z hz H' s' => ht z (.tail _ hz) H' (s.trans s')) (fun z hz hb H' s' => he z (.tail _ hz) hb H' (s.trans s')) fun H' s' => ?_
      have := q H' (s.trans s')
      rw [List.filter_cons, if_neg hb] at this
      exact this
end
end Gz
set_option Elab.async false
set_option linter.all false
set_option maxRecDepth 100000
set_option maxHeartbeats 4000000
namespace Gz
open PySem PySem.Spec PyProof.Rows L2
theorem cutV_to (xs : List V) (b : Nat) : cutV xs none (some (b : Int)) = xs.take b := by
  unfold cutV
  rw [HT.sIx_nat, HT.sIx_none, List.drop_zero, Nat.sub_zero]
  by_cases h : b ≤ xs.length
  · rw [Nat.min_eq_left h]
  · rw [Nat.min_eq_right (by omega), List.take_length, List.take_of_length_le (by omega)]
theorem cutV_from (xs : List V) (a : Nat) : cutV xs (some (a : Int)) none = xs.drop a := by
  unfold cutV
  rw [HT.sIx_nat, HT.sIx_none]
  by_cases h : a ≤ xs.length
  · rw [Nat.min_eq_left h, List.take_of_length_le (by rw [List.length_drop]; omega)]
  · rw [Nat.min_eq_right (by omega), List.drop_eq_nil_of_le (Nat.le_refl _), List.drop_eq_nil_of_le (by omega)]; simp
theorem cutV_map (ns : List Int) (lo hi : Option Int) : ∃ ms : List Int, cutV (ns.map V.int) lo hi = ms.map V.int ∧ ms.length ≤ ns.length ∧ ∀ x ∈ ms, x ∈ ns := by
  unfold cutV
  rw [← List.map_drop, ← List.map_take]
  refine ⟨_, rfl, ?_, fun x hx => List.mem_of_mem_drop (List.mem_of_mem_take hx)⟩
  rw [List.length_take, List.length_drop]; omega
mutual
def plainD : Nat → PyData → Bool
  | _, .none => true
  | _, .bool _ => true
  | _, .int _ => true
  | n + 1, .tuple ds => plainDs n ds
  | n + 1, .list ds => plainDs n ds
  | _, _ => false
def plainDs : Nat → List PyData → Bool
  | _, [] => true
  | n, d :: ds => plainD n d && plainDs n ds
end
mutual
theorem plain_ok : ∀ (d : PyData) {n : Nat}, plainD n d = true → PyData.eqv d d = true ∧ d.canLay0 = true ∧ d.depth ≤ n
  | .none, n, _ => ⟨rfl, rfl, Nat.zero_le _⟩
  | .bool b, n, _ => ⟨by simp [PyData.eqv], rfl, Nat.zero_le _⟩
  | .int i, n, _ => ⟨by simp [PyData.eqv], rfl, Nat.zero_le _⟩
  | .str x, 0, h => by simp [plainD] at h
  | .str x, n + 1, h => by simp [plainD] at h
  | .dict x, 0, h => by simp [plainD] at h
  | .dict x, n + 1, h => by simp [plainD] at h
  | .tuple ds, 0, h => by simp [plainD] at h
  | .list ds, 0, h => by simp [plainD] at h
  | .tuple ds, n + 1, h => by
    obtain ⟨a, b, c⟩ := plain_oks ds (n := n) (by simpa [plainD] using h)
    exact ⟨by simpa only [PyData.eqv] using a, by simpa only [PyData.canLay0] using b, by simp only [PyData.depth]; omega⟩
  | .list ds, n + 1, h => by
    obtain ⟨a, b, c⟩ := plain_oks ds (n := n) (by simpa [plainD] using h)
    exact ⟨by simpa only [PyData.eqv] using a, by simpa only [PyData.canLay0] using b, by simp only [PyData.depth]; omega⟩
theorem plain_oks : ∀ (ds : List PyData) {n : Nat}, plainDs n ds = true → PyData.eqvAll ds ds = true ∧ PyData.canLayAll0 ds = true ∧ PyData.depthAll ds ≤ n
  | [], n, _ => ⟨rfl, rfl, Nat.zero_le _⟩
  | d :: ds, n, h => by
    have h' : plainD n d = true ∧ plainDs n ds = true := by simpa [plainDs] using h
    obtain ⟨a, b, c⟩ := plain_ok d h'.1
    obtain ⟨a', b', c'⟩ := plain_oks ds h'.2
    exact ⟨by simp only [PyData.eqvAll, a, a', Bool.and_self], by simp only [PyData.canLayAll0, b, b', Bool.and_self], by simp only [PyData.depthAll]; omega⟩
end
theorem eq_dat {K : PySem.W.Frag} {H : Hp} {x y : V} {d : PyData} {n : Nat} {neg : Bool} {Q : VK} (hx : Dat K H x d) (hy : Dat K H y d) (hp : plainD n d = true) (hn : n ≤ 60) (q : Q (.bl (!neg)) H) : rEqD K neg x y H Q := by
  obtain ⟨a, b, c⟩ := plain_ok d hp
  refine ⟨d, d, hx, hy, b, b, Nat.le_trans c hn, ?_⟩
  rw [a]
  cases neg <;> exact q
end Gz
namespace Gz
open PySem PySem.Spec PyProof.Rows L2
end Gz
set_option Elab.async false
set_option linter.all false
set_option maxRecDepth 100000
set_option maxHeartbeats 4000000
namespace Gz
open PySem PySem.Spec PyProof.Rows L2
def All2 {α : Type} (R : V → α → Prop) : List V → List α → Prop
  | [], [] => True
  | x :: xs, a :: as => R x a ∧ All2 R xs as
  | _, _ => False
section
variable {α : Type} {R R' : V → α → Prop}
theorem All2.len : ∀ {xs : List V} {as : List α}, All2 R xs as → xs.length = as.length
  | [], [], _ => rfl
  | _ :: _, _ :: _, h => by simp [All2.len h.2]
  | [], _ :: _, h => h.elim
  | _ :: _, [], h => h.elim
theorem All2.imp (f : ∀ x a, R x a → R' x a) : ∀ {xs : List V} {as : List α}, All2 R xs as → All2 R' xs as
  | [], [], _ => trivial
  | _ :: _, _ :: _, h => ⟨f _ _ h.1, All2.imp f h.2⟩
  | [], _ :: _, h => h.elim
  | _ :: _, [], h => h.elim
theorem All2.get : ∀ {xs : List V} {as : List α}, All2 R xs as → ∀ {i : Nat} {x : V}, xs[i]? = some x → ∃ a, as[i]? = some a ∧ R x a
  | [], [], _, i, x, e => by simp at e
  | _ :: _, a :: _, h, 0, x, e => by simp at e; subst e; exact ⟨a, by simp, h.1⟩
  | _ :: _, _ :: _, h, i + 1, x, e => by
    simp only [List.getElem?_cons_succ] at e ⊢
    exact All2.get h.2 e
  | [], _ :: _, h, _, _, _ => h.elim
  | _ :: _, [], h, _, _, _ => h.elim
theorem All2.at : ∀ {xs : List V} {as : List α}, All2 R xs as → ∀ {i : Nat} {a : α}, as[i]? = some a → ∃ x, xs[i]? = some x ∧ R x a
  | [], [], _, i, x, e => by simp at e
  | x :: _, _ :: _, h, 0, a, e => by simp at e; subst e; exact ⟨x, by simp, h.1⟩
  | _ :: _, _ :: _, h, i + 1, a, e => by
    simp only [List.getElem?_cons_succ] at e ⊢
    exact All2.at h.2 e
  | [], _ :: _, h, _, _, _ => h.elim
  | _ :: _, [], h, _, _, _ => h.elim
theorem All2.app : ∀ {xs ys : List V} {as bs : List α}, All2 R xs as → All2 R ys bs → All2 R (xs ++ ys) (as ++ bs)
  | [], _, [], _, _, h => h
  | _ :: _, _, _ :: _, _, h, h' => ⟨h.1, All2.app h.2 h'⟩
  | [], _, _ :: _, _, h, _ => h.elim
  | _ :: _, _, [], _, h, _ => h.elim
theorem All2.snoc {xs : List V} {as : List α} {x : V} {a : α} (h : All2 R xs as) (h' : R x a) : All2 R (xs ++ [x]) (as ++ [a]) := h.app ⟨h', trivial⟩
theorem All2.take : ∀ {xs : List V} {as : List α} (n : Nat), All2 R xs as → All2 R (xs.take n) (as.take n)
  | [], [], n, _ => by simp [All2]
  | _ :: _, _ :: _, 0, _ => by simp [All2]
  | _ :: _, _ :: _, n + 1, h => by simpa [All2] using ⟨h.1, All2.take n h.2⟩
  | [], _ :: _, _, h => h.elim
  | _ :: _, [], _, h => h.elim
theorem All2.drop : ∀ {xs : List V} {as : List α} (n : Nat), All2 R xs as → All2 R (xs.drop n) (as.drop n)
  | [], [], n, _ => by simp [All2]
  | _ :: _, _ :: _, 0, h => by simpa using h
  | _ :: _, _ :: _, n + 1, h => by simpa using All2.drop n h.2
  | [], _ :: _, _, h => h.elim
  | _ :: _, [], _, h => h.elim
theorem All2.rng {lo : Int} (n : Nat) : All2 (fun x (k : Nat) => x = V.int (lo + k)) ((List.range n).map fun k => V.int (lo + (k : Nat))) (List.range n) := by
  suffices ∀ l : List Nat, All2 (fun x (k : Nat) => x = V.int (lo + k)) (l.map fun k => V.int (lo + (k : Nat))) l from this _
  intro l
  induction l with
  | nil => trivial
  | cons a l ih => exact ⟨rfl, ih⟩
end
theorem compGo_all {α : Type} {R : V → α → Prop} {Ok : Hp → Prop} {ρ : L2.St} {tt : TT} {te : TE} {p : α → Bool} {f : α → V} {Q' : List V → Hp → Prop} {H : Hp} (hOk : Ok H) : ∀ {xs : List V} {as : List α} {ys : List V}, All2 R xs as →
    (∀ x a, a ∈ as → R x a → ∀ Q, Q (p a) H → tt (some x :: ρ) H Q) → (∀ x a, a ∈ as → p a = true → R x a → ∀ Q : VK, Q (f a) H → te (some x :: ρ) H Q) →
    Q' (ys ++ (as.filter p).map f) H → compGo Ok ρ tt te xs ys H Q'
  | [], [], ys, _, _, _, q => ⟨hOk, by simpa using q⟩
  | x :: xs, a :: as, ys, h, ht, he, q => by
    refine ⟨hOk, ht x a (.head _) h.1 _ ?_⟩
    by_cases hb : p a = true
    · rw [if_pos hb]
      refine he x a (.head _) hb h.1 _ (compGo_all hOk h.2 (fun x a ha => ht x a (.tail _ ha)) (fun x a ha => he x a (.tail _ ha)) ?_)
      rw [List.filter_cons, if_pos hb] at q
      simpa using q
    · rw [if_neg hb]
      refine compGo_all hOk h.2 (fun x a ha => ht x a (.tail _ ha)) (fun x a ha => he x a (.tail _ ha)) ?_
      rw [List.filter_cons, if_neg hb] at q
      exact q
  | [], _ :: _, _, h, _, _, _ => h.elim
  | _ :: _, [], _, h, _, _, _ => h.elim
theorem filter_tt {α : Type} (l : List α) : l.filter (fun _ => true) = l := List.filter_eq_self.mpr fun _ _ => rfl
abbrev P2 := Int × Int
def IsPt (H : Hp) (v : V) (p : P2) : Prop := ∃ a, v = .ref a ∧ H a = some (.tup [.int p.1, .int p.2])
theorem IsPt.same {H H' : Hp} {v : V} {p : P2} (h : IsPt H v p) (s : Same H H') : IsPt H' v p := let ⟨a, e, q⟩ := h; ⟨a, e, s _ _ q⟩
theorem IsPt.new {H : Hp} {a : Addr} {x y : Int} : IsPt (upd H a (.tup [.int x, .int y])) (.ref a) (x, y) := ⟨a, rfl, upd_same⟩
theorem IsPt.put {H : Hp} {v : V} {p : P2} {r : Addr} {ys zs : List V} (h : IsPt H v p) (hr : H r = some (.lst ys)) : IsPt (upd H r (.lst zs)) v p := by
  obtain ⟨a, e, q⟩ := h
  refine ⟨a, e, ?_⟩
  rw [upd_ne (ne_of q hr (fun z => nomatch z))]; exact q
abbrev Pts (H : Hp) : List V → List P2 → Prop := All2 (IsPt H)
theorem Pts.same {H H' : Hp} {xs : List V} {ps : List P2} (h : Pts H xs ps) (s : Same H H') : Pts H' xs ps := All2.imp (fun _ _ r => r.same s) h
theorem Pts.put {H : Hp} {xs : List V} {ps : List P2} {r : Addr} {ys zs : List V} (h : Pts H xs ps) (hr : H r = some (.lst ys)) : Pts (upd H r (.lst zs)) xs ps := All2.imp (fun _ _ x => x.put hr) h
def datP (p : P2) : PyData := .tuple [.int p.1, .int p.2]
theorem Pts.dat {K : PySem.W.Frag} {H : Hp} : ∀ {xs : List V} {ps : List P2}, Pts H xs ps → Dats K H xs (ps.map datP)
  | [], [], _ => .nil
  | _ :: _, _ :: _, h => by
    obtain ⟨a, rfl, q⟩ := h.1
    exact .cons (.tup (SqT.of q) (.cons (.int _) (.cons (.int _) .nil))) (Pts.dat h.2)
  | [], _ :: _, h => h.elim
  | _ :: _, [], h => h.elim
def ris (ns : List Int) : Bool := (ns.zip (ns.drop 1)).all fun r => decide (r.1 < r.2)
theorem ris_iff {ns : List Int} : ris ns = true ↔ ∀ i, i + 1 < ns.length → ns.getD i 0 < ns.getD (i + 1) 0 := by
  unfold ris
  rw [List.all_eq_true]
  constructor
  · intro h i hi
    have e : (ns.zip (ns.drop 1))[i]? = some (ns.getD i 0, ns.getD (i + 1) 0) := by
      rw [List.getElem?_zip_eq_some, List.getElem?_drop, List.getD_eq_getElem?_getD, List.getD_eq_getElem?_getD, List.getElem?_eq_getElem (show i < ns.length by omega), show 1 + i = i + 1 by omega, List.getElem?_eq_getElem hi]
      exact ⟨rfl, rfl⟩
    simpa using h _ (List.mem_of_getElem? e)
  · intro h r hr
    obtain ⟨i, hi⟩ := List.mem_iff_getElem?.mp hr
    rw [List.getElem?_zip_eq_some, List.getElem?_drop] at hi
    have h1 := (List.getElem?_eq_some_iff.mp hi.2).1
    have := h i (by omega)
    rw [List.getD_eq_getElem?_getD, List.getD_eq_getElem?_getD, hi.1, show i + 1 = 1 + i by omega, hi.2] at this
    simpa using this
def ltV : V × V → V
  | (.int a, .int b) => .bl (decide (a < b))
  | _ => .non
theorem zip_ints (ns ms : List Int) : (ns.map V.int).zip (ms.map V.int) = (ns.zip ms).map fun r => (V.int r.1, V.int r.2) := by
  rw [List.zip_map]; rfl
def aside (s e p : P2) : Int := (p.2 - s.2) * (e.1 - s.1) - (p.1 - s.1) * (e.2 - s.2)
def nearB (s e p : P2) (err : Int) : Bool := decide (iabs (aside s e p) ≤ err * (e.1 - s.1))
def ptD (ps : List P2) (i : Nat) : P2 := ps.getD i (0, 0)
def freeB (ps : List P2) (err : Int) (i j : Nat) : Bool := ((ps.take j).drop (i + 1)).all fun p => nearB (ptD ps i) (ptD ps j) p err
theorem free_next (ps : List P2) (err : Int) (i : Nat) : freeB ps err i (i + 1) = true := by
  unfold freeB
  rw [List.drop_eq_nil_of_le (by rw [List.length_take]; omega)]; rfl
def BP (ps : List P2) : Prop := ∀ p ∈ ps, Bd 300 p.1 ∧ Bd 300 p.2
def Prices (ps : List P2) (err : Int) (n : Nat) (cs : List Int) : Prop := cs.length = n ∧ cs.getD 0 0 = 0 ∧ ∀ e, 1 ≤ e → e < n → (∀ i, i < e → freeB ps err i e = true → cs.getD e 0 ≤ cs.getD i 0 + 1) ∧ ∃ i, i < e ∧ freeB ps err i e = true ∧ cs.getD e 0 = cs.getD i 0 + 1
theorem Prices.next {ps : List P2} {err : Int} {n : Nat} {cs : List Int} (h : Prices ps err n cs) (hn : 1 ≤ n) : Prices ps err (n + 1) (cs ++ [1 + minL (((List.range n).filter fun i => freeB ps err i n).map fun i => cs.getD i 0)]) := by
  obtain ⟨hl, h0, hp⟩ := h
  have ne : (((List.range n).filter fun i => freeB ps err i n).map fun i => cs.getD i 0) ≠ [] := by
    have hm : n - 1 ∈ (List.range n).filter fun i => freeB ps err i n := by
      rw [List.mem_filter]
      refine ⟨List.mem_range.mpr (by omega), ?_⟩
      have := free_next ps err (n - 1)
      rwa [show n - 1 + 1 = n by omega] at this
    intro z
    rw [List.map_eq_nil_iff] at z
    rw [z] at hm; cases hm
  obtain ⟨m1, m2⟩ := minL_mem ne
  have gl : ∀ i, i < n → (cs ++ [1 + minL (((List.range n).filter fun i => freeB ps err i n).map fun i => cs.getD i 0)]).getD i 0 = cs.getD i 0 := fun i hi => by
    rw [List.getD_eq_getElem?_getD, List.getD_eq_getElem?_getD, List.getElem?_append_left (by omega)]
  have gn : (cs ++ [1 + minL (((List.range n).filter fun i => freeB ps err i n).map fun i => cs.getD i 0)]).getD n 0 = 1 + minL (((List.range n).filter fun i => freeB ps err i n).map fun i => cs.getD i 0) := by
    rw [List.getD_eq_getElem?_getD, List.getElem?_append_right (by omega), hl, Nat.sub_self]; rfl
  refine ⟨by rw [List.length_append, List.length_singleton, hl], by rw [gl 0 (by omega)]; exact h0, fun e h1 h2 => ?_⟩
  by_cases he : e < n
  · obtain ⟨q1, i, hi, hf, q2⟩ := hp e h1 he
    rw [gl e he]
    refine ⟨fun j hj hf => by rw [gl j (by omega)]; exact q1 j hj hf, i, hi, hf, by rw [gl i (by omega)]; exact q2⟩
  · have : e = n := by omega
    subst this
    rw [gn]
    refine ⟨fun j hj hf => ?_, ?_⟩
    · rw [gl j hj]
      have := m2 (cs.getD j 0) (List.mem_map.mpr ⟨j, List.mem_filter.mpr ⟨List.mem_range.mpr hj, hf⟩, rfl⟩)
      omega
    · obtain ⟨i, hi, e⟩ := List.mem_map.mp m1
      rw [List.mem_filter] at hi
      refine ⟨i, List.mem_range.mp hi.1, hi.2, ?_⟩
      rw [gl i (List.mem_range.mp hi.1), e]; omega
end Gz
namespace Gz
open PySem PySem.Spec PyProof.Rows L2
theorem ris_snoc {ns : List Int} {n : Int} (h : ris ns = true) (h' : ∀ x ∈ ns, x < n) : ris (ns ++ [n]) = true := by
  rw [ris_iff] at h ⊢
  intro i hi
  rw [List.length_append, List.length_singleton] at hi
  by_cases hl : i + 1 < ns.length
  · have := h i hl
    rw [List.getD_eq_getElem?_getD, List.getD_eq_getElem?_getD, List.getElem?_append_left (by omega), List.getElem?_append_left hl, ← List.getD_eq_getElem?_getD, ← List.getD_eq_getElem?_getD]
    exact this
  · have e : i + 1 = ns.length := by omega
    rw [List.getD_eq_getElem?_getD, List.getD_eq_getElem?_getD, List.getElem?_append_left (by omega), List.getElem?_append_right (by omega), e, Nat.sub_self, List.getElem?_eq_getElem (by omega)]
    exact h' _ (List.getElem_mem _)
theorem Bd200 {x : Int} (h : x.natAbs < 2 ^ 300) : Bd 300 x := h
end Gz
namespace Gz
open PySem PySem.Spec PyProof.Rows L2
def BQ (ps : List P2) : Prop := ∀ p ∈ ps, Bd 250 p.1 ∧ Bd 250 p.2
theorem BQ.bp {ps : List P2} (h : BQ ps) : BP ps := fun p hp => ⟨(h p hp).1.up (by decide), (h p hp).2.up (by decide)⟩
end Gz
set_option Elab.async false
set_option linter.all false
set_option maxRecDepth 100000
set_option maxHeartbeats 4000000
namespace Gz
open PySem PySem.Spec PyProof.Rows L2
def onl (s e : P2) (p q t b : Int) : Prop := (t - s.2 * b) * (e.1 - s.1) * q = (p - s.1 * q) * (e.2 - s.2) * b
theorem chain_line {y1 v y2 x1 x2 m1 m2 s1 s2 q dr p r dv : Int} (h1 : s1 * dr = dv * s2) (h2 : m1 * q = (p - r * q) * m2) (h3 : x1 * (m2 * s2) = m1 * s1 * x2) (h4 : y1 * x2 = (v * x2 + x1) * y2) (n1 : x2 ≠ 0) (n2 : m2 ≠ 0) (n3 : s2 ≠ 0) :
    (y1 - v * y2) * dr * q = (p - r * q) * dv * y2 := by
  have h : ((y1 - v * y2) * dr * q - (p - r * q) * dv * y2) * (x2 * m2 * s2) = 0 := by grind
  have n : x2 * m2 * s2 ≠ 0 := Int.mul_ne_zero (Int.mul_ne_zero n1 n2) n3
  have := (Int.mul_eq_zero.mp h).resolve_right n
  omega
def inP (ks : List P2) (p q : Int) (i : Nat) : Prop := i + 1 < ks.length ∧ (ptD ks i).1 * q ≤ p ∧ p ≤ (ptD ks (i + 1)).1 * q
def hit (ks : List P2) (p q : Int) : Prop := ∃ i, inP ks p q i
structure Led (ks : List P2) (p q t b : Int) : Prop where
  pos : 1 ≤ b
  low : gcdI t b = 1
  on : ∀ i, inP ks p q i → onl (ptD ks i) (ptD ks (i + 1)) p q t b
def okKn (ks : List P2) : Prop := 2 ≤ ks.length ∧ ris (ks.map (·.1)) = true ∧ ris (ks.map (·.2)) = true
theorem ptD_map1 {ks : List P2} {i : Nat} (h : i < ks.length) : (ks.map (·.1)).getD i 0 = (ptD ks i).1 := by
  unfold ptD
  rw [List.getD_eq_getElem?_getD, List.getElem?_map, List.getD_eq_getElem?_getD, List.getElem?_eq_getElem h]; rfl
theorem ris_lt1 {ks : List P2} (h : ris (ks.map (·.1)) = true) : ∀ {i j : Nat}, i < j → j < ks.length → (ptD ks i).1 < (ptD ks j).1 := by
  rw [ris_iff] at h
  have st : ∀ i, i + 1 < ks.length → (ptD ks i).1 < (ptD ks (i + 1)).1 := fun i hi => by
    have := h i (by rw [List.length_map]; exact hi)
    rwa [ptD_map1 (by omega), ptD_map1 hi] at this
  intro i j hij hj
  induction j with
  | zero => omega
  | succ j ih =>
    by_cases e : i = j
    · subst e; exact st i hj
    · exact Int.lt_trans (ih (by omega) (by omega)) (st j hj)
theorem line_next {a b c : P2} {p q t w : Int} (hq : 0 < q) (hab : a.1 < b.1) (h1 : p = b.1 * q) (h : onl a b p q t w) : onl b c p q t w := by
  unfold onl at *
  subst h1
  have e : (t - b.2 * w) * ((b.1 - a.1) * q) = 0 := by grind
  have n : (b.1 - a.1) * q ≠ 0 := Int.mul_ne_zero (by omega) (by omega)
  have := (Int.mul_eq_zero.mp e).resolve_right n
  have e2 : t - b.2 * w = 0 := this
  rw [e2]; grind
theorem Led.of {ks : List P2} {p q t b : Int} {i : Nat} (hr : ris (ks.map (·.1)) = true) (hq : 0 < q) (h1 : 1 ≤ b) (h2 : gcdI t b = 1) (hi : inP ks p q i) (first : ∀ j, j < i → ¬ inP ks p q j) (h : onl (ptD ks i) (ptD ks (i + 1)) p q t b) : Led ks p q t b := by
  refine ⟨h1, h2, fun j hj => ?_⟩
  by_cases e : j = i
  · rw [e]; exact h
  by_cases lt : j < i
  · exact absurd hj (first j lt)
  by_cases e1 : j = i + 1
  · subst e1
    have l1 := ris_lt1 hr (i := i) (j := i + 1) (by omega) (by have := hj.1; omega)
    exact line_next hq l1 (by have := hi.2.2; have := hj.2.1; omega) h
  · have l1 := ris_lt1 hr (i := i + 1) (j := j) (by omega) (by have := hj.1; omega)
    have : (ptD ks (i + 1)).1 * q < (ptD ks j).1 * q := Int.mul_lt_mul_of_pos_right l1 hq
    have a1 := hi.2.2
    have a2 := hj.2.1
    omega
theorem hit_of {ks : List P2} {p q : Int} (h2 : 2 ≤ ks.length) (h0 : (ptD ks 0).1 * q ≤ p) (h1 : p ≤ (ptD ks (ks.length - 1)).1 * q) : hit ks p q := by
  have : ∀ n, n < ks.length → p ≤ (ptD ks n).1 * q → (∃ i, inP ks p q i) ∨ n = 0 := by
    intro n
    induction n with
    | zero => intro _ _; exact .inr rfl
    | succ n ih =>
      intro hn hp
      by_cases hc : (ptD ks n).1 * q ≤ p
      · exact .inl ⟨n, hn, hc, hp⟩
      · rcases ih (by omega) (by omega) with h | rfl
        · exact .inl h
        · exact absurd h0 hc
  rcases this (ks.length - 1) (by omega) h1 with h | h
  · exact h
  · omega
theorem no_hit_low {ks : List P2} {p q : Int} (hr : ris (ks.map (·.1)) = true) (hq : 0 < q) (h : p < (ptD ks 0).1 * q) : ¬ hit ks p q := by
  rintro ⟨i, h1, h2, h3⟩
  have : (ptD ks 0).1 * q ≤ (ptD ks i).1 * q := by
    by_cases e : i = 0
    · rw [e]; exact Int.le_refl _
    · exact Int.le_of_lt (Int.mul_lt_mul_of_pos_right (ris_lt1 hr (by omega) (by omega)) hq)
  omega
theorem no_hit_high {ks : List P2} {p q : Int} (hr : ris (ks.map (·.1)) = true) (hq : 0 < q) (h : (ptD ks (ks.length - 1)).1 * q < p) : ¬ hit ks p q := by
  rintro ⟨i, h1, h2, h3⟩
  have : (ptD ks (i + 1)).1 * q ≤ (ptD ks (ks.length - 1)).1 * q := by
    by_cases e : i + 1 = ks.length - 1
    · rw [e]; exact Int.le_refl _
    · exact Int.le_of_lt (Int.mul_lt_mul_of_pos_right (ris_lt1 hr (by omega) (by omega)) hq)
  omega
def IsR (H : Hp) (v : V) (t b : Int) : Prop := ∃ a, v = .ref a ∧ H a = some (.tup [.int t, .int b])
theorem IsR.same {H H' : Hp} {v : V} {t b : Int} (h : IsR H v t b) (s : Same H H') : IsR H' v t b := let ⟨a, e, q⟩ := h; ⟨a, e, s _ _ q⟩
theorem IsR.p {K : PySem.W.Frag} {H : Hp} {v : V} {t b : Int} (h : IsR H v t b) : IsP K H v t b := let ⟨a, e, q⟩ := h; ⟨a, e, SqT.of q⟩
def IsG (C : Addr) (H : Hp) (v : V) (ks : List P2) : Prop := ∃ x dx l xs, v = .ref x ∧ H x = some (.ins C dx [("knots", .ref l)]) ∧ H l = some (.lst xs) ∧ Pts H xs ks
theorem IsG.same {C : Addr} {H H' : Hp} {v : V} {ks : List P2} (h : IsG C H v ks) (s : Same H H') : IsG C H' v ks := by
  obtain ⟨x, dx, l, xs, e, h1, h2, h3⟩ := h
  exact ⟨x, dx, l, xs, e, s _ _ h1, s _ _ h2, h3.same s⟩
def SameBut (x : Addr) (H H' : Hp) : Prop := ∀ b o, b ≠ x → H b = some o → H' b = some o
end Gz
namespace Gz
open PySem PySem.Spec PyProof.Rows L2
end Gz
namespace Gz
open PySem PySem.Spec PyProof.Rows L2
theorem compGo_new {α β : Type} {R : Hp → V → α → Prop} {R' : Hp → V → β → Prop} {Ok : Hp → Prop} {ρ : L2.St} {tt : TT} {te : TE} {f : α → β} {Q' : List V → Hp → Prop} (mono : ∀ H H' x a, Same H H' → R H x a → R H' x a) (mono' : ∀ H H' x a, Same H H' → R' H x a → R' H' x a) :
    ∀ {xs : List V} {as : List α} {ys : List V} {bs : List β} {H : Hp}, All2 (R H) xs as → All2 (R' H) ys bs → (∀ H', Same H H' → Ok H') → (∀ x a, a ∈ as → ∀ H', Same H H' → R H' x a → ∀ Q, Q true H' → tt (some x :: ρ) H' Q) →
    (∀ x a, a ∈ as → ∀ H', Same H H' → R H' x a → ∀ Q : VK, (∀ H'' y, Same H' H'' → R' H'' y (f a) → Q y H'') → te (some x :: ρ) H' Q) →
    (∀ H' zs, Same H H' → All2 (R' H') zs (bs ++ as.map f) → Q' zs H') → compGo Ok ρ tt te xs ys H Q'
  | [], [], ys, bs, H, _, hy, hOk, _, _, q => ⟨hOk H (Same.refl H), q H ys (Same.refl H) (by simpa using hy)⟩
  | x :: xs, a :: as, ys, bs, H, h, hy, hOk, ht, he, q => by
    refine ⟨hOk H (Same.refl H), ht x a (.head _) H (Same.refl H) h.1 _ ?_⟩
    rw [if_pos rfl]
    refine he x a (.head _) H (Same.refl H) h.1 _ fun H2 y s2 r2 => ?_
    refine compGo_new mono mono' (bs := bs ++ [f a]) (h.2.imp fun x a r => mono _ _ _ _ s2 r) ((hy.imp fun x a r => mono' _ _ _ _ s2 r).snoc r2) (fun H' s' => hOk H' (s2.trans s')) (fun x a ha H' s' => ht x a (.tail _ ha) H' (s2.trans s')) (fun x a ha H' s' => he x a (.tail _ ha) H' (s2.trans s')) fun H' zs s' hz => ?_
    refine q H' zs (s2.trans s') ?_
    rw [List.map_cons]
    rwa [List.append_assoc] at hz
  | [], _ :: _, _, _, _, h, _, _, _, _, _ => h.elim
  | _ :: _, [], _, _, _, h, _, _, _, _, _ => h.elim
end Gz
namespace Gz
open PySem PySem.Spec PyProof.Rows L2
end Gz
set_option Elab.async false
set_option linter.all false
set_option maxRecDepth 100000
set_option maxHeartbeats 4000000
namespace Gz
open PySem PySem.Spec PyProof.Rows L2
theorem vals_ints {us : List Value} {ns : List Int} (h : IntsAre us ns) : Vals (ns.map V.int) us := by
  induction h with
  | nil => exact .nil
  | cons n t r ih => exact .cons ⟨t, rfl⟩ ih
abbrev IsS2 (H : Hp) (v : V) (s : S2) : Prop := IsS H v s.1 s.2
theorem Sts.all : ∀ {H : Hp} {xs : List V} {ss : List S2}, Sts H xs ss → All2 (IsS2 H) xs ss
  | _, [], [], _ => trivial
  | _, _ :: _, _ :: _, h => ⟨h.1, Sts.all h.2⟩
  | _, [], _ :: _, h => h.elim
  | _, _ :: _, [], h => h.elim
def cellsFrom : En → List Int → List S2
  | lo, [] => [(lo, none)]
  | lo, z :: zs => (lo, some (z - 1)) :: cellsFrom (some z) zs
end Gz
namespace Gz
open PySem PySem.Spec PyProof.Rows L2
end Gz
namespace Gz
open PySem PySem.Spec PyProof.Rows L2
end Gz
set_option Elab.async false
set_option linter.all false
set_option maxRecDepth 100000
set_option maxHeartbeats 4000000
namespace Gz
open PySem PySem.Spec PyProof.Rows L2
structure ClsFn (K : PySem.W.Frag) (C : Addr) (m : Str) (f : Addr) : Prop where
  ga : PySem.W.specialIn K (.ref C) "__getattribute__" = some (some (.builtin "type.__getattribute__"))
  rd : PySem.W.readsIn K C (.type "type") = true
  fd : PySem.W.findCls K (.ref C) (.type "type") m = some (.val (.ref f))
  kp : PySem.W.keepIn K (.ref f) = true
section
variable {X : Cx} {CX : CXT} {k : Nat} {f C : Addr} {fd : FuncData} {ps : List Str} {ds : List Value} {dvs : List V} {sp : Sp} {E : XK} {x m : Str} {p pos apos : Pos} {e : Expr} {es : List Expr} {t : TA}
theorem pe_clsm {pl : Sem Bool} (hg : Gl X x) (hm : X.mg x = some (.ref C)) (c : ClsFn X.K C m f) (F : FnOk X.prog X.w X.K X.mg X.base CX k f fd ps sp) (hr : Room k X.A) (hb : Binds X.K fd ps ds) (hd : Vals dvs ds) (hx : Passes CX X E) (ha : PA X (e :: es) t)
    (hdb : (x == ("__debug__" : Str)) = false := by decide) (hst : starEach (e :: es) X.env = (false, eval e X.env) :: starEach es X.env := by rfl) (hpl : (backTo pos (starEach es X.env)).any (·.1) = false := by rfl)
    (ht : eval (.Call (.Attribute (.Name x p) m apos) (e :: es) [] pos) X.env = (do
      let ov ← eval (.Name x p) X.env
      standAt apos.atName
      let (f, first) ← holding [ov] (getMethod ov m pl)
      callWith pos f first (backTo pos (starEach (e :: es) X.env)) (backToKw pos (keywordEach [] X.env))) := by rfl) :
    PE X (.Call (.Attribute (.Name x p) m apos) (e :: es) [] pos) (tCall sp dvs E t) := by
  intro pins s σ H Q I h
  refine PySem.W.methodCall_KW (pl := pl) (thn (pe_glob (X := X) (v := .ref C) hg hm rfl hdb pins s σ H (fun v H1 => v = .ref C ∧ H1 = H) I ⟨rfl, rfl⟩) fun u s1 ⟨y, H1, I1, rx, e1, e2⟩ => ?_) ht
  subst e1 e2
  obtain rfl : u = Value.ref C := rx
  refine PySem.W.method_cls I1.kIn c.ga (PySem.W.cls_value I1.kIn c.rd c.fd rfl ?_)
  have I2 : Inv X pins σ H1 { s1 with toks := s1.toks + 1 } := I1.tok _
  refine PySem.W.callWith_K (first := []) (h₀ := X.base) I.ok.mod.kin c.kp (thn (ha pos pins _ σ H1 _ I2 h) fun us s2 ⟨vs, H2, I3, r, q2⟩ => ⟨I3.kIn, ?_⟩) hst hpl
  exact run_fn (us := us) (vs := vs) F hr hb hd hx I3 r q2
end
section
variable {X : Cx}
def tRng (ta : TA) : TE := fun σ H Q => ta σ H fun vs H1 => ∃ j : Int, vs = [.int j] ∧ 0 ≤ j ∧ j ≤ 1000 ∧ ∀ r, H1 r = none → Q (.ref r) (upd H1 r (.rng 0 j))
end
theorem All2.map_nat {f : Nat → Int} : ∀ (l : List Nat), All2 (fun x (k : Nat) => x = V.int (f k)) (l.map fun k => V.int (f k)) l
  | [] => trivial
  | a :: l => ⟨rfl, All2.map_nat l⟩
section
variable {X : Cx} {CX : CXT} {k : Nat} {f : Addr} {fd : FuncData} {ps : List Str} {ds : List Value} {dvs : List V} {sp : Sp} {E : XK} {m : Str} {pos apos : Pos} {o e : Expr} {es : List Expr} {ta : TE} {t : TA}
def tMethV (K : PySem.W.Frag) (m : Str) (f : Addr) (sp : Sp) (dvs : List V) (E : XK) (ta : TE) (t : TA) : TE := fun σ H Q => ta σ H fun x H1 => ∃ a C dx fs, x = .ref a ∧ H1 a = some (.ins C dx fs) ∧ Cls K C ∧ Meth K C m f ∧ fs.lookup m = none ∧
  t σ H1 fun vs H2 => sp (.ref a :: (vs ++ dvs)) H2 Q E
theorem pe_methV {pl : Sem Bool} (he : PE X o ta) (F : FnOk X.prog X.w X.K X.mg X.base CX k f fd ps sp) (hr : Room k X.A) (hb : Binds X.K fd ps ds) (hd : Vals dvs ds) (hx : Passes CX X E) (ha : PA X (e :: es) t)
    (hst : starEach (e :: es) X.env = (false, eval e X.env) :: starEach es X.env := by rfl) (hpl : (backTo pos (starEach es X.env)).any (·.1) = false := by rfl)
    (ht : eval (.Call (.Attribute o m apos) (e :: es) [] pos) X.env = (do
      let ov ← eval o X.env
      standAt apos.atName
      let (f, first) ← holding [ov] (getMethod ov m pl)
      callWith pos f first (backTo pos (starEach (e :: es) X.env)) (backToKw pos (keywordEach [] X.env))) := by rfl) :
    PE X (.Call (.Attribute o m apos) (e :: es) [] pos) (tMethV X.K m f sp dvs E ta t) := by
  intro pins s σ H Q I h
  refine PySem.W.methodCall_KW (pl := pl) (thn (he pins s σ H _ I h) fun u s1 ⟨x, H1, I1, rx, a, C, dx, fs, ex, ea, c, hm, l, q⟩ => ?_) ht
  subst ex
  obtain rfl : u = Value.ref a := rx
  refine getmeth_ok I1 ea c hm l ?_
  refine PySem.W.callWith_K (first := [.ref a]) (h₀ := X.base) I.ok.mod.kin hm.kp (thn (ha pos pins s1 σ H1 _ I1 q) fun us s2 ⟨vs, H2, I2, r, q2⟩ => ⟨I2.kIn, ?_⟩) hst hpl
  exact run_fn (us := .ref a :: us) (vs := .ref a :: vs) F hr hb hd hx I2 (.cons rfl r) q2
end
def ceilI (t b : Int) : Int := -(-t / b)
theorem ceil_uniq {t b c d : Int} (hb : 0 < b) (h1 : t ≤ c * b) (h2 : (c - 1) * b < t) (h3 : t ≤ d * b) (h4 : (d - 1) * b < t) : c = d := by
  have a1 : (c - 1) * b < d * b := by omega
  have a2 : (d - 1) * b < c * b := by omega
  have b1 := Int.lt_of_mul_lt_mul_right a1 (Int.le_of_lt hb)
  have b2 := Int.lt_of_mul_lt_mul_right a2 (Int.le_of_lt hb)
  omega
theorem ceil_low {t b : Int} (hb : 0 < b) : ceilI (rt t b) (rb t b) = ceilI t b := by
  obtain ⟨r1, r2, _⟩ := rat_ok (t := t) (b := b) (by omega)
  have p1 := raise_in t hb
  have p2 := raise_in (rt t b) (b := rb t b) (by omega)
  show -(-rt t b / rb t b) = -(-t / b)
  generalize -(-t / b) = c at p1
  generalize -(-rt t b / rb t b) = d at p2
  refine ceil_uniq hb ?_ ?_ p1.1 p1.2
  · refine Int.le_of_mul_le_mul_right (a := rb t b) ?_ (by omega)
    have := Int.mul_le_mul_of_nonneg_right p2.1 (Int.le_of_lt hb)
    grind
  · refine Int.lt_of_mul_lt_mul_right (a := rb t b) ?_ (by omega)
    have := Int.mul_lt_mul_of_pos_right p2.2 hb
    grind
abbrev W2 := Option S2
def IsW (H : Hp) (v : V) : W2 → Prop
  | none => v = .non
  | some s => IsS H v s.1 s.2
theorem IsW.same {H H' : Hp} {v : V} {w : W2} (h : IsW H v w) (s : Same H H') : IsW H' v w := by
  cases w with
  | none => exact h
  | some a => exact IsS.same h s
theorem IsW.put {H : Hp} {v : V} {w : W2} {l : Addr} {ys : List V} {o : HO} (h : IsW H v w) (hl : H l = some (.lst ys)) : IsW (upd H l o) v w := by
  cases w with
  | none => exact h
  | some a => exact IsS.put h hl
def wOut (k : Int) (w : W2) : W2 := w.map fun s => (subE s.1 k, addE s.2 k)
def wOuts (sl : Int → Int) : Int → List W2 → List W2
  | _, [] => []
  | i, w :: ws => wOut (sl i) w :: wOuts sl (i + 1) ws
theorem wOuts_snoc (sl : Int → Int) : ∀ (i : Int) (ws : List W2) (w : W2), wOuts sl i (ws ++ [w]) = wOuts sl i ws ++ [wOut (sl (i + ws.length)) w]
  | i, [], w => by simp [wOuts]
  | i, x :: ws, w => by
    show wOut (sl i) x :: wOuts sl (i + 1) (ws ++ [w]) = _
    rw [wOuts_snoc sl (i + 1) ws w]
    show _ = wOut (sl i) x :: (wOuts sl (i + 1) ws ++ [wOut (sl (i + (ws.length + 1 : Nat))) w])
    rw [show i + 1 + (ws.length : Int) = i + ((ws.length + 1 : Nat) : Int) by omega]
theorem wOuts_len (sl : Int → Int) : ∀ (i : Int) (ws : List W2), (wOuts sl i ws).length = ws.length
  | _, [] => rfl
  | i, w :: ws => by show (wOuts sl (i + 1) ws).length + 1 = _; rw [wOuts_len]; rfl
end Gz
set_option Elab.async false
set_option linter.all false
set_option maxRecDepth 100000
set_option maxHeartbeats 4000000
namespace Gz
open PySem PySem.Spec PyProof.Rows L2
def bits (bs : List Int) : Prop := ∀ x ∈ bs, x = 0 ∨ x = 1
theorem made_same {H : Hp} {x dx C : Addr} {fs : List (Str × V)} (hx : H x = none) (hd : H dx = none) (hn : dx ≠ x) : Same H (upd (upd H dx (.own x)) x (.ins C dx fs)) :=
  (same_upd hd).trans (same_upd (by rw [upd_ne (Ne.symm hn)]; exact hx))
abbrev Lk := Option (List Int)
def IsLx (xs : List Addr) (H : Hp) (v : V) : Lk → Prop
  | none => v = .non
  | some bs => ∃ l, v = .ref l ∧ l ∉ xs ∧ H l = some (.lst (bs.map V.int))
abbrev IsL := IsLx []
theorem IsLx.same {xs : List Addr} {H H' : Hp} {v : V} {k : Lk} (h : IsLx xs H v k) (s : Same H H') : IsLx xs H' v k := by
  cases k with
  | none => exact h
  | some bs => obtain ⟨l, a, b, c⟩ := h; exact ⟨l, a, b, s _ _ c⟩
theorem IsLx.put {xs : List Addr} {H : Hp} {v : V} {k : Lk} {c : Addr} {o : HO} (h : IsLx xs H v k) (hc : c ∈ xs) : IsLx xs (upd H c o) v k := by
  cases k with
  | none => exact h
  | some bs => obtain ⟨l, a, b, e⟩ := h; exact ⟨l, a, b, by rw [upd_ne (show l ≠ c from fun z => b (by rw [z]; exact hc))]; exact e⟩
theorem IsLx.l {xs : List Addr} {H : Hp} {v : V} {k : Lk} (h : IsLx xs H v k) : IsL H v k := by
  cases k with
  | none => exact h
  | some bs => obtain ⟨l, a, b, c⟩ := h; exact ⟨l, a, (fun z => nomatch z), c⟩
def IsN (H H' : Hp) (v : V) : Lk → Prop
  | none => v = .non
  | some bs => ∃ l, v = .ref l ∧ H l = none ∧ H' l = some (.lst (bs.map V.int))
theorem IsN.lx {H H' : Hp} {v : V} {k : Lk} {xs : List Addr} (h : IsN H H' v k) (hx : ∀ a ∈ xs, H a ≠ none) : IsLx xs H' v k := by
  cases k with
  | none => exact h
  | some bs => obtain ⟨l, a, b, c⟩ := h; exact ⟨l, a, fun z => hx l z b, c⟩
end Gz
set_option Elab.async false
set_option linter.all false
set_option maxRecDepth 100000
set_option maxHeartbeats 4000000
namespace Gz
open PySem PySem.Spec PyProof.Rows L2
local macro_rules | `(tactic| walk_at "om") => `(tactic| ((try simp only [PySem.Addr] at *); omega))
def FlyAt (B : Heap) (l : List Env) (x : Addr) (cls a0 mk : Value) (h : Heap) : Prop := B.StaysIn h ∧ B.get? x = none ∧ h.FunFrames B l ∧ h.TracedAtW B x cls a0 mk
section
variable {M : Model} {A : Around} {E : Value → Shared → Prop} {s : Shared} {B : Heap} {l outer : List Env} {env : Env} {L x C : Addr} {cls a0 mk : Value} {Q : Unit → Shared → Prop}
theorem leaves_any (hfr : A.frames = some (env :: outer)) (hf : env.frame = some L) (fl : FlyAt B (env :: outer) x cls a0 mk s.heap)
    (k : ∀ h', Heap.FlyingW B outer x cls a0 h' → s.heap.UpToSlots h' → Q () { s with heap := h' }) : wpAny M A (leaving env (.ref x)) Q E s := by
  obtain ⟨f1, f2, f3, f4⟩ := fl
  by_cases q : mk = rawInt L
  · subst q
    unfold leaving
    exact wpAny_bind (wpAny_noteFrame_againW hf f4 (wpAny_landsW ⟨f1, f2, f3, f4⟩ fun h' g sl => k h' ⟨g.1, g.2.1, g.2.2.1.2.2, g.2.2.2⟩ sl))
  · obtain ⟨ox, us, T, oT, ts, e1, ⟨rfl, e2⟩, e3, e4, e5, e6, e7, e8, e9⟩ := f4
    unfold leaving noteFrame
    simp only [hf]
    refine wpAny_bind (wpAny_bind (wpAny_field e1 e3 e4 ?_))
    rw [if_pos (by simp)]
    refine wpAny_bind (wpAny_field e7 e8 e9 ?_)
    rw [if_neg (by simpa using q)]
    refine wpAny_bind (wpAny_setField e7 e8 (Array.getElem?_eq_some_iff.mp e9).1 ?_)
    have oth : ∀ b, b ≠ T → (s.heap.update T (Obj.mapFields (·.setIfInBounds 3 Value.none))).get? b = s.heap.get? b := fun b z => Heap.get?_update_other _ _ (Ne.symm z)
    have neT : ∀ b o, s.heap.get? b = some o → (∀ us, o.data ≠ .fields us) → b ≠ T := fun b o z n y => by
      rw [y, e7] at z; cases z; exact n ts e8
    refine wpAny_newEntryW hfr (f3.of_keeps fun b o z n => ⟨o, (oth b (neT b o z n)).trans z, rfl⟩) hf ((oth x (Ne.symm e6)).trans e1) (fun b o z => (oth b fun y => by rw [y, e5] at z; cases z).trans (f1 b o z)) f2 e3 (Array.getElem?_eq_some_iff.mp e4).1 e2 fun h' g => ?_
    obtain ⟨g1, ⟨_, _, g2⟩, g3, g4⟩ := g
    exact k h' ⟨g1, f2, g2, g3⟩ fun b o z n => g4 b o ((oth b (neT b o z n)).trans z) n
theorem pass_on {α : Type} {what : String} {Qa : α → Shared → Prop} (fl : FlyAt B l x cls a0 mk s.heap) (k : ∀ h' mk', FlyAt B l x cls a0 mk' h' → s.heap.UpToSlots h' → E (.ref x) { s with heap := h' }) : wpAny M A (PySem.passOn what (.ref x) env : Sem α) Qa E s := by
  obtain ⟨f1, f2, f3, ox, us, T, oT, ts, e1, e2, e3, e4, e5, e6, e7, e8, e9⟩ := fl
  unfold PySem.passOn
  refine wpAny_bind (wpAny_field e1 e3 e4 ?_)
  rw [if_neg (by simp)]
  have go : wpAny M A (setFlight (.ref x) env.frame) (fun _ s' => E (.ref x) s') E s := by
    unfold setFlight
    refine wpAny_bind (wpAny_field e1 e3 e4 ?_)
    rw [if_pos (by simp)]
    refine wpAny_setField e7 e8 (Array.getElem?_eq_some_iff.mp e9).1 ?_
    have oth : ∀ b, b ≠ T → (s.heap.update T (Obj.mapFields (·.setIfInBounds 3 (env.frame.elim Value.none fun f => rawInt f)))).get? b = s.heap.get? b := fun b z => Heap.get?_update_other _ _ (Ne.symm z)
    have neT : ∀ b o, s.heap.get? b = some o → (∀ us, o.data ≠ .fields us) → b ≠ T := fun b o z n y => by
      rw [y, e7] at z; cases z; exact n ts e8
    have l3 := (Array.getElem?_eq_some_iff.mp e9).1
    refine k _ (env.frame.elim Value.none fun f => rawInt f) ⟨fun b o z => (oth b fun y => by rw [y, e5] at z; cases z).trans (f1 b o z), f2, f3.of_keeps fun b o z n => ⟨o, (oth b (neT b o z n)).trans z, rfl⟩, ?_⟩ fun b o z n => ⟨o.slots, (oth b (neT b o z n)).trans z⟩
    exact ⟨ox, us, T, _, _, (oth x (Ne.symm e6)).trans e1, e2, e3, e4, e5, e6, Heap.get?_update_self _ e7 (Obj.isFreed_of_fields (Obj.data_mapFields e8 _)), Obj.data_mapFields e8 _, by simp [l3]⟩
  first
    | exact wpAny_bind (wpAny_pure (wpAny_bind (wpAny_mono go (fun _ _ z => wpAny_throw z) fun _ _ z => z)))
    | exact wpAny_bind (wpAny_mono go (fun _ _ z => wpAny_throw z) fun _ _ z => z)
theorem FlyAt.but {h h' : Heap} {ob : Obj} (fl : FlyAt B l x cls a0 mk h) (hC : h.get? C = some ob) (hn : ∀ us, ob.data ≠ .fields us) (hB : B.get? C = none) (hl : C ∉ frs l) (sb : Heap.SameBut C h h') : FlyAt B l x cls a0 mk h' := by
  obtain ⟨f1, f2, f3, ox, us, T, oT, ts, e1, e2, e3, e4, e5, e6, e7, e8, e9⟩ := fl
  have nx : x ≠ C := fun z => by rw [z, hC] at e1; cases e1; exact hn _ e3
  have nT : T ≠ C := fun z => by rw [z, hC] at e7; cases e7; exact hn _ e8
  have all : ∀ (l : List Env), C ∉ frs l → h.FunFrames B l → h'.FunFrames B l := by
    intro l
    induction l with
    | nil => intro _ _; trivial
    | cons env r ih =>
      intro hs hl
      obtain ⟨hk, ⟨L, o, hf, hn, ho, hd⟩, hr⟩ := hl
      unfold frs at hs
      rw [List.filterMap_cons, hf] at hs
      exact ⟨hk, ⟨L, o, hf, hn, (sb.2 L fun z => hs (by rw [z]; exact List.mem_cons_self)).trans ho, hd⟩, ih (fun z => hs (List.mem_cons_of_mem _ z)) hr⟩
  exact ⟨fun b o z => (sb.2 b fun y => by rw [y, hB] at z; cases z).trans (f1 b o z), f2, all l hl f3, ox, us, T, oT, ts, (sb.2 x nx).trans e1, e2, e3, e4, e5, e6, (sb.2 T nT).trans e7, e8, e9⟩
theorem FlyAt.less {B' h : Heap} (fl : FlyAt B l x cls a0 mk h) (k : B'.StaysIn B) : FlyAt B' l x cls a0 mk h := by
  obtain ⟨f1, f2, f3, ox, us, T, oT, ts, e1, e2, e3, e4, e5, e6⟩ := fl
  exact ⟨fun b o z => f1 b o (k b o z), PySem.W.fresh_of_stays k f2, PySem.W.funFrames_base k f3, ox, us, T, oT, ts, e1, e2, e3, e4, PySem.W.fresh_of_stays k e5, e6⟩
end
def CXF (P : Program) (w : World) (C : Addr) (outer : List Env) (H : Hp) (s : Shared) (E : XK) (e : Value) (s' : Shared) : Prop :=
  ∃ (x : Addr) (cls a0 mk : Value) (H' : Hp) (B : Heap), e = .ref x ∧ s'.os = s.os ∧ AllBare s'.gens ∧ Un (frs outer) [C] H H' s.heap s'.heap ∧
    (∀ b o, s.heap.get? b = some o → H b = none → b ∉ frs outer → b ≠ C → B.get? b = some o) ∧ (∀ b o, s.heap.get? b = some o → b ∉ frs outer → b ≠ C → ∃ o', B.get? b = some o') ∧ HOk P w H' B ∧ H' x = none ∧ s.heap.get? x = none ∧
    FlyAt B outer x cls a0 mk s'.heap ∧ E cls none H'
structure PassesF (P : Program) (w : World) (X : Cx) (E : XK) : Prop where
  stk : X.stack = X.env :: X.outer
  frm : X.env.frame = some X.env.locals
  on : ∀ (C : Addr), X.s₀.heap.objs.size ≤ C → ∀ (pins : List (Addr × Obj)) (σ : L2.St) (H : Hp) (s : Shared) (e : Value) (s' : Shared), Inv X pins σ H s → CXF P w C X.stack H s E e s' → X.xe e s'
section
variable {P : Program} {w : World} {K : PySem.W.Frag} {mg : Str → Option Value} {base : Heap} {N : List Str} {qual : Str} {scope : Scope} {f : Addr} {cd : Value} {A : Around} {outer : List Env} {s : Shared} {H : Hp} {E : XK}
theorem pass_upF : PassesF P w (cxOf (CXX P w) P w K mg base N qual scope f cd A outer s H E) E := by
  refine ⟨rfl, rfl, ?_⟩
  intro C hC pins σ H1 s1 ev s2 I cx
  obtain ⟨x, cls, a0, mk, H', B, rfl, os, bare, un, kb, tb, hok, hx, hn, fl, hE⟩ := cx
  have hC' : s.heap.objs.size ≤ C := hC
  have hfr : (cxOf (CXX P w) P w K mg base N qual scope f cd A outer s H E).A.frames = some (envOfC qual scope s.heap.objs.size f cd :: outer) := I.ok.frames
  have hF : s1.heap.FunFrames base (envOfC qual scope s.heap.objs.size f cd :: outer) := I.stack
  have neL : ∀ b o, s.heap.get? b = some o → b ≠ s.heap.objs.size := fun b o e => Nat.ne_of_lt (Heap.lt_size e)
  have neC : ∀ b o, s.heap.get? b = some o → b ≠ C := fun b o e => Nat.ne_of_lt (Nat.lt_of_lt_of_le (Heap.lt_size e) hC')
  have ncl : ∀ b o, s.heap.get? b = some o → b ∉ [C] := fun b o e z => neC b o e (List.mem_singleton.mp z)
  have nofr : ∀ b o, s.heap.get? b = some o → b ∉ frs outer → b ∉ frs (envOfC qual scope s.heap.objs.size f cd :: outer) := fun b o e hb z => by
    rcases frs_mem rfl z with z | z
    · exact neL b o e z
    · exact hb z
  have infr : ∀ b, b ∈ frs outer → b ∈ frs (envOfC qual scope s.heap.objs.size f cd :: outer) := fun b hb => by
    unfold frs; rw [List.filterMap_cons]; exact List.mem_cons_of_mem _ hb
  have ub : Un (frs outer) [] H H1 s.heap s1.heap := I.base
  have un' : Un (frs (envOfC qual scope s.heap.objs.size f cd :: outer)) [C] H1 H' s1.heap s2.heap := un
  have frfree : ∀ b ∈ frs (envOfC qual scope s.heap.objs.size f cd :: outer), H1 b = none := I.stkFree
  refine leaves_any hfr rfl fl fun h' fl' up => ?_
  have stays := fl'.1
  have frUp : ∀ b ∈ frs (envOfC qual scope s.heap.objs.size f cd :: outer), b ≠ C → ∀ o, s1.heap.get? b = some o → ∃ sl, h'.get? b = some { o with slots := sl } := fun b hb hc o q => by
    obtain ⟨_, o', ho', hnf⟩ := hF.mem hb
    rw [q] at ho'; cases ho'
    obtain ⟨sl, e1⟩ := un'.slot b o q (frfree b hb) hb (fun z => hc (List.mem_singleton.mp z))
    obtain ⟨sl', e2⟩ := up b _ e1 hnf
    exact ⟨sl', e2⟩
  refine ⟨x, cls, a0, H', B, rfl, os.trans I.os, bare, ⟨fun b o q n hb hx' => ?_, fun b o q n hb hx' => ?_, fun b o q n hx' => ?_, fun b o q hx' => ?_, fun b xs q => un.tups _ _ (ub.tups _ _ q), fun b o u q => un.frzs _ _ _ (ub.frzs _ _ _ q), fun b ps q => ?_⟩, fun b o q n hb => ?_, fun b o q hb => ?_, hok, hx, ?_, fl', hE⟩
  · exact stays b o (kb b o (ub.keep b o q n hb hx') (ub.free b o q n hx') (nofr b o q hb) (neC b o q))
  · obtain ⟨sl, e1⟩ := ub.slot b o q n hb hx'
    obtain ⟨sl', e2⟩ := frUp b (infr b hb) (neC b o q) _ e1
    exact ⟨sl', e2⟩
  · obtain ⟨o', e1⟩ := ub.there b o q hx'
    exact un'.free b o' e1 (ub.free b o q n hx') (ncl b o q)
  · obtain ⟨o', e1⟩ := ub.there b o q hx'
    by_cases hb : b ∈ frs (envOfC qual scope s.heap.objs.size f cd :: outer)
    · obtain ⟨sl, e2⟩ := frUp b hb (neC b o q) o' e1
      exact ⟨_, e2⟩
    · obtain ⟨o2, e2⟩ := tb b o' e1 hb (neC b o q)
      exact ⟨o2, stays b o2 e2⟩
  · obtain ⟨m1, e1⟩ := ub.tbls b ps q
    obtain ⟨m2, e2⟩ := un.tbls b _ e1
    exact ⟨m1 ++ m2, by rw [e2, Array.append_assoc]⟩
  · exact kb b o (ub.keep b o q n hb (by simp)) (ub.free b o q n (by simp)) (nofr b o q hb) (neC b o q)
  · obtain ⟨o', e1⟩ := ub.there b o q (by simp)
    exact tb b o' e1 (nofr b o q hb) (neC b o q)
  · cases q : s.heap.get? x with
    | none => rfl
    | some u =>
      obtain ⟨o', z⟩ := ub.there x u q (by simp)
      rw [hn] at z; cases z
end
def errB (X : Cx) (C : Addr) (e : Value) (s' : Shared) : Prop := ∃ m, s'.heap.Ns C m ∧ ∀ h', Heap.SameBut C s'.heap h' → ∀ env : Env, env.locals = C → wpAny (model X.prog X.w) X.A (PySem.passOn "comprehension.variables-let-go" e env : Sem Value) (fun _ _ => False) X.xe { s' with heap := h' }
def cxE (X : Cx) (N' : List Str) (scope : Scope) (cl : List (Str × Addr)) (C : Addr) (s2 : Shared) (H2 : Hp) (ex : List Addr) (pn : List (Addr × Obj)) : Cx :=
  Xp (cxB X N' scope cl C s2 H2 ex pn) (notedBy (model X.prog X.w) X.A (compEnvC scope cl C X.env) (errB X C)) pn
def BlkAt (X : Cx) (C : Addr) (s2 : Shared) (H2 : Hp) (ex : List Addr) : Prop := ∃ (pins : List (Addr × Obj)) (σ : L2.St), Inv X pins σ H2 s2 ∧ s2.heap.objs.size ≤ C ∧ ∀ b ∈ ex, FpOk X pins H2 b
section
variable {X : Cx} {pins : List (Addr × Obj)} {σ : L2.St} {H2 : Hp} {s2 : Shared} {x : Str} {px pos : Pos} {elt iter : Expr} {ifs : List Expr} {scope : Scope} {cl : List (Str × Addr)} {fr : List Nat} {ys : List Str} {tt : TT} {te : TE}
theorem cxE_ok {C : Addr} {ex : List Addr} {pn : List (Addr × Obj)} (S : CompOk X x scope cl fr ys) (I2 : Inv X pins σ H2 s2) (f2 : ∀ b ∈ ex, FpOk X pins H2 b) (hC : s2.heap.objs.size ≤ C) (hex : ∀ b ∈ ex, b < s2.heap.objs.size) : (cxE X (x :: ys) scope cl C s2 H2 ex pn).Ok := okP (cxB_ok S I2 f2 hC hex)
theorem passB {P : Program} {w : World} {N' : List Str} {C : Addr} {ex : List Addr} {pn : List (Addr × Obj)} {E : XK} (hP : X.prog = P) (hw : X.w = w) (F : PassesF P w X E) (bk : BlkAt X C s2 H2 ex) : Passes (CXX P w) (cxE X N' scope cl C s2 H2 ex pn) E := by
  subst hP hw
  obtain ⟨pins, σ, I2, hC, f2⟩ := bk
  intro pins' σ' H1 s1 ev s3 I cx
  obtain ⟨x, cls, a0, H', B, rfl, os, bare, un, kb, tb, hok, hx, hn, fl, hE⟩ := cx
  have I1 : Inv X pins σ H1 s1 := I2.call' (ch := ex) I.os I.base I.hok I.bare fun b hb => by
    obtain ⟨_, d1, d2, d3, d4, d5⟩ := f2 b hb
    exact ⟨d3, d1, d4, d5⟩
  have hCs : X.s₀.heap.objs.size ≤ C := Nat.le_trans I2.sz hC
  obtain ⟨m, ⟨oC, es, ep, hoC, hdC, hrC⟩, _⟩ := I.loc
  have hoC : s1.heap.get? C = some oC := hoC
  have hCn : H1 C = none := I.free
  have stk : (cxE X N' scope cl C s2 H2 ex pn).stack = X.stack := rfl
  rw [stk] at un kb tb fl
  have hCf : C ∉ frs X.stack := fun z => by
    rcases List.mem_cons.mp (I2.stkSub C z) with q | q
    · have := I2.lt; walk_at "om"
    · exact I2.nofs hC q
  have hCB : B.get? C = some oC := kb C oC hoC hCn hCf
  have fr1 := I1.stkFree
  have hF := I1.stack
  have hfr : X.A.frames = some (X.env :: X.outer) := I1.ok.frames.trans (congrArg some F.stk)
  rw [F.stk] at fl
  show wpAny (model X.prog X.w) X.A (noteFrame (.ref x) X.env) (fun _ s'' => errB X C (.ref x) s'') (errB X C) s3
  refine wpAny_looks_onW hfr F.frm fl fun h4 hd4 up4 => ?_
  obtain ⟨a1, a2, a3, a4⟩ := hd4
  have c4 : h4.get? C = some oC := a1 C oC hCB
  have nf : ∀ us, oC.data ≠ .fields us := fun us z => by rw [hdC] at z; cases z
  refine ⟨m, ⟨oC, es, ep, c4, hdC, hrC⟩, fun h5 sb env he => ?_⟩
  have kB : (PySem.W.hideAll B [C]).StaysIn B := fun b o z => PySem.W.of_hideAll _ z
  have hCl : C ∉ frs (X.env :: X.outer) := by rw [← F.stk]; exact hCf
  have g5 : FlyAt (PySem.W.hideAll B [C]) (X.env :: X.outer) x cls a0 (rawInt X.env.locals) h5 := FlyAt.but (FlyAt.less ⟨a1, a2, a3, a4⟩ kB) c4 nf (PySem.W.hideAll_none _ (by simp)) hCl sb
  refine pass_on g5 fun h6 mk' g6 up6 => ?_
  have inB : ∀ b o, B.get? b = some o → b ≠ C → (PySem.W.hideAll B [C]).get? b = some o := fun b o z n => PySem.W.hideAll_get _ z (by simpa using n)
  have in6 : ∀ b o, B.get? b = some o → b ≠ C → h6.get? b = some o := fun b o z n => g6.1 b o (inB b o z n)
  have frUp : ∀ b ∈ frs X.stack, ∀ o, s1.heap.get? b = some o → ∃ sl, h6.get? b = some { o with slots := sl } := fun b hb o q => by
    have hbC : b ≠ C := fun z => hCf (z ▸ hb)
    obtain ⟨_, o', ho', hnf⟩ := hF.mem hb
    rw [q] at ho'; cases ho'
    obtain ⟨sl, e1⟩ := un.slot b o q (fr1 b hb) hb (by simp)
    obtain ⟨sl', e2⟩ := up4 b _ e1 hnf
    obtain ⟨sl6, e3⟩ := up6 b _ ((sb.2 b hbC).trans e2) hnf
    exact ⟨sl6, e3⟩
  refine F.on C hCs pins σ H1 s1 (.ref x) _ I1 ⟨x, cls, a0, mk', H', PySem.W.hideAll B [C], rfl, os, bare, ⟨fun b o q n hb hx' => ?_, fun b o q n hb hx' => ?_, fun b o q n hx' => un.free b o q n (by simp), fun b o q hx' => ?_, un.tups, un.frzs, un.tbls⟩, fun b o q n hb hc => inB b o (kb b o q n hb) hc, fun b o q hb hc => ?_, fun a o q => ?_, hx, hn, by rw [F.stk]; exact g6, hE⟩
  · exact in6 b o (kb b o q n hb) (by simpa using hx')
  · exact frUp b hb o q
  · by_cases hb : b ∈ frs X.stack
    · obtain ⟨sl, e⟩ := frUp b hb o q
      exact ⟨_, e⟩
    · obtain ⟨o', e⟩ := tb b o q hb
      exact ⟨o', in6 b o' e (by simpa using hx')⟩
  · obtain ⟨o', e⟩ := tb b o q hb
    exact ⟨o', inB b o' e hc⟩
  · have hC' : H' C = none := un.free C oC hoC hCn (by simp)
    refine (hok a o q).stay (fun b u hb z => inB b u z fun y => ?_) (fun _ z => z) fun _ _ z => z
    subst y
    rcases hb with hb | hb
    · rw [hb, q] at hC'; cases hC'
    · rw [hb] at hC'; cases hC'
theorem comp_blockE {J : It} {fp : List Addr} {it : Addr} {tn : Nat → Heap → Prop} {E : Value → Shared → Prop} {Q : VK} {RR : Value → Addr → Result → Shared → Prop}
    (S : CompOk X x scope cl fr ys) (hc : X.calm = true)
    (hb : ∀ (C : Addr) (s : Shared) (H : Hp) (ex : List Addr) (pn : List (Addr × Obj)), BlkAt X C s H ex → PTs (cxE X (x :: ys) scope cl C s H ex pn) ifs tt ∧ PE (cxE X (x :: ys) scope cl C s H ex pn) elt te)
    (I2 : Inv X pins σ H2 s2) (T : Turn X.prog X.w X.K (.Name x px) J fp it tn) (st2 : tn 0 s2.heap) (f2 : ∀ b ∈ fp, FpOk X pins H2 b)
    (h : tBlk J (fr.map fun j => (σ[j]?).join) tt te H2 Q)
    (hRR : ∀ D C s' H', Inv X pins σ H' s' → (∃ m, s'.heap.Ns C m) → FpOk X pins H' C → Q (.ref D) H' → RR (.ref D) C (.ok .next) s')
    (hRE : ∀ D C e s', errB X C e s' → RR (.ref D) C (.error e) s') :
    wpAny (model X.prog X.w) X.A (newList []) (fun acc s3 => wpAny (model X.prog X.w) X.A (newFunctionEnv scope X.env.globals cl [] X.env.qual none .none (some X.env)) (fun cenv s4 =>
      codeAny (model X.prog X.w) X.A (.compStart (.ListComp elt [⟨.Name x px, iter, ifs, 0⟩] scope pos) 0 (.ref it) acc { cenv with scope := relabel scope X.env }) (RR acc cenv.locals) s4) E s3) E s2 := by
  obtain ⟨W, ⟨m0, w0⟩, turn⟩ := h
  refine wpAny_newObj_type (wpAny_newFunctionEnv (fun y hy => by simpa using List.all_eq_true.mp S.nocell y hy) (fun y hy => absurd hy (by simp)) (fun h1 hns hsb => ?_) S.kind)
  dsimp only at hns hsb ⊢
  generalize eP : s2.heap.push { cls := .type "list", dict := none, data := .seq ([] : List Value).toArray } = P2 at hns hsb ⊢
  have sz : P2.objs.size = s2.heap.objs.size + 1 := by rw [← eP, Heap.size_push]
  have hDC : s2.heap.objs.size ≠ P2.objs.size := by walk_at "om"
  have keep : ∀ b o, s2.heap.get? b = some o → h1.get? b = some o := fun b o e => by
    have lt := Heap.lt_size e
    exact hsb.extBut b o (by walk_at "om") (Heap.get?_push_of_some _ (eP ▸ Heap.get?_push_of_some _ e))
  have hD : h1.get? s2.heap.objs.size = some { cls := .type "list", data := .seq ([] : List Value).toArray 0 } :=
    hsb.extBut _ _ hDC (Heap.get?_push_of_some _ (eP ▸ Heap.get?_push_size _ rfl))
  have hfp : ∀ b ∈ fp, b < s2.heap.objs.size := fun b hb => by
    obtain ⟨o, e, _⟩ := T.obj 0 _ st2 b hb
    exact Heap.lt_size e
  have noStk : ∀ b, s2.heap.objs.size ≤ b → b ∉ frs X.stack := fun b hle z => by
    rcases List.mem_cons.mp (I2.stkSub b z) with q | q
    · have := I2.lt; walk_at "om"
    · exact I2.nofs hle q
  generalize eC : P2.objs.size = C at hns hsb hDC ⊢
  generalize eD : s2.heap.objs.size = D at hDC hD hfp noStk
  have hCle : s2.heap.objs.size ≤ C := by walk_at "om"
  have hDle : s2.heap.objs.size ≤ D := by walk_at "om"
  have bk : BlkAt X C s2 H2 fp := ⟨pins, σ, I2, hCle, f2⟩
  have ok' : (cxE X (x :: ys) scope cl C s2 H2 fp (X.pn ++ pins)).Ok := cxE_ok S I2 f2 hCle (fun b hb => by have := hfp b hb; walk_at "om")
  have pinsOk : ∀ p ∈ X.pn ++ pins, p.1 ≠ C ∧ p.1 ≠ D ∧ p.1 ∉ frs X.stack ∧ ∀ b ∈ fp, p.1 ≠ b := fun p hp => by
    obtain ⟨e, n, nL, nf, _⟩ := I2.pin p hp
    have lt := Heap.lt_size e
    refine ⟨by walk_at "om", by walk_at "om", fun z => ?_, fun b hb => (f2 b hb).2.2.2.2.2 p hp⟩
    rcases List.mem_cons.mp (I2.stkSub _ z) with q | q
    · exact nL q
    · exact nf q
  have I4 : Inv (cxE X (x :: ys) scope cl C s2 H2 fp (X.pn ++ pins)) [] (none :: fr.map fun j => (σ[j]?).join) H2 { s2 with heap := h1, toks := s2.toks + ([] : List (Str × Value)).length } := by
    refine ⟨ok', rfl, I2.bare, Un.kept keep, ⟨_, hns, fun i y v e1 e2 e3 => ?_⟩, fun y c e => ?_, I2.hok.fresh hCle, fun y c e => I2.freeC y c (S.cls.get y c e), fun p hp => ?_, I2.hok.kept keep, ?_⟩
    · cases i with
      | zero => simp at e2
      | succ i =>
        simp only [List.getElem?_cons_succ] at e1 e2
        have e1' : ys[i]? = some y := e1
        obtain ⟨j, c, hN, hσ, hk, hc1, hc2⟩ := S.frs.get i y v e1' e2
        obtain ⟨m, hm, hl⟩ := I2.loc
        obtain ⟨u, ru, lu⟩ := hl j y v hN hσ (.inr (.inl hk))
        refine ⟨u, ru, .inr ⟨.inl ?_, c, hc1, ?_⟩⟩
        · have z := List.all_eq_true.mp S.kfr y (List.mem_of_getElem? e1')
          exact (by simpa using z : (relabel scope X.env).names.lookup y = some .cell)
        · rcases lu with ⟨z, _⟩ | ⟨_, c', e', q'⟩
          · rw [hk] at z; cases z
          · rw [hc2] at e'; cases e'
            obtain ⟨o, ho, hd⟩ := q'
            exact ⟨o, keep _ _ ho, hd⟩
    · obtain ⟨v, o, ho, hd⟩ := I2.cell y c (S.cls.get y c e)
      exact ⟨v, o, keep _ _ ho, hd⟩
    · have hp' : p ∈ X.pn ++ pins := by
        have : p ∈ (X.pn ++ pins) ++ [] := hp
        simpa using this
      obtain ⟨e, n, _, _, d⟩ := I2.pin p hp'
      obtain ⟨p1, _, p3, _⟩ := pinsOk p hp'
      exact ⟨keep _ _ e, n, p1, p3, d⟩
    · show (none :: fr.map fun j => (σ[j]?).join).length = (x :: ys).length
      simp [S.frs.len]
  have st4 : tn 0 h1 := T.keep 0 _ _ st2 fun b _ o e => keep b o e
  have fpB : ∀ (H' : Hp) (o : Obj), (∀ b ∈ fp, H' b = none) → ∀ b ∈ fp, FpOk (cxE X (x :: ys) scope cl C s2 H2 fp (X.pn ++ pins)) [(D, o)] H' b := fun H' o hn b hb => by
    obtain ⟨_, d1, d2, d3, d4, d5⟩ := f2 b hb
    have lt := hfp b hb
    refine ⟨hn b hb, ?_, fun z => ?_, .inl hb, fun y c e => d4 y c (S.cls.get y c e), fun p hp => ?_⟩
    · show b ≠ C
      walk_at "om"
    · rcases List.mem_cons.mp (I2.stkSub b z) with q | q
      · exact d1 q
      · exact d2 q
    · have hp' : p ∈ (X.pn ++ pins) ++ [(D, o)] := hp
      rcases List.mem_append.mp hp' with z | z
      · exact d5 p z
      · have : p = (D, o) := by simpa using z
        subst this
        show D ≠ b
        walk_at "om"
  have loop : ∀ s' : Shared, s' = { s2 with heap := h1, toks := s2.toks + ([] : List (Str × Value)).length } →
      codeAny (model X.prog X.w) X.A (.compLoop (.ListComp elt [⟨.Name x px, iter, ifs, 0⟩] scope pos) 0 (.ref it) (.ref D) (compEnvC scope cl C X.env)) (RR (.ref D) C) s' := by
    rintro s' rfl
    refine codeAny_compLoop_tests (fun n s' => ∃ i zs H' o its nn, Inv (cxE X (x :: ys) scope cl C s2 H2 fp (X.pn ++ pins)) [] (o :: fr.map fun j => (σ[j]?).join) H' s' ∧ tn i s'.heap ∧ (∀ b ∈ fp, H' b = none) ∧ H' D = none ∧
      s'.heap.get? D = some { cls := .type "list", data := .seq (its : List Value).toArray nn } ∧ Vals zs its ∧ W i n zs H') ?_ m0 ⟨0, [], H2, none, [], 0, I4, st4, fun b hb => (f2 b hb).1, I2.hok.fresh hDle, hD, .nil, w0⟩
    rintro n s3 ⟨i, zs, H3, o3, its, nn, I3, st3, fr3, hD3, oD3, r3, w3⟩
    have I3' : Inv (cxE X (x :: ys) scope cl C s2 H2 fp (X.pn ++ pins)) [(D, { cls := .type "list", data := .seq its.toArray nn })] (o3 :: fr.map fun j => (σ[j]?).join) H3 s3 := I3.pins_of fun p hp => by
      have : p = (D, { cls := .type "list", data := .seq its.toArray nn }) := by simpa using hp
      subst this
      exact ⟨oD3, hD3, hDC, noStk D (Nat.le_refl _), fun v z => nomatch z⟩
    have hXE : ∀ e s', (cxE X (x :: ys) scope cl C s2 H2 fp (X.pn ++ pins)).xe e s' → notedBy (model X.prog X.w) X.A (compEnvC scope cl C X.env) (fun e s' => RR (.ref D) C (.error e) s') e s' := fun e s' z => wpAny_mono z (fun _ _ y => hRE D C _ _ y) fun _ _ y => hRE D C _ _ y
    generalize notedBy (model X.prog X.w) X.A (compEnvC scope cl C X.env) (fun e s' => RR (.ref D) C (.error e) s') = XE at hXE ⊢
    rcases turn i n zs H3 w3 with ⟨stop, hlen, q⟩ | ⟨go, hlen, N, hNN, step⟩
    · refine wpAny_mono (T.done (cxE X (x :: ys) scope cl C s2 H2 fp (X.pn ++ pins)) rfl rfl rfl hc i _ s3 _ H3 (fun _ _ => False) I3' (fpB H3 _ fr3) st3 stop) (fun r s4 ⟨hr, J4⟩ => ?_) fun _ _ z => z.elim
      subst hr
      have un := J4.base
      have neD : ∀ b o, s2.heap.get? b = some o → b ≠ D := fun b o e => by have := Heap.lt_size e; walk_at "om"
      have neH : ∀ b u, H3 b = some u → b ≠ D := fun b u e z => by rw [z, hD3] at e; cases e
      refine hRR D C s4 (upd H3 D (.lst zs)) ?_ ?_ ?_ (q D hD3)
      · refine I2.call' (ch := fp) J4.os ⟨un.keep, un.slot, fun b o e nn hx => ?_, un.there, fun b xs e => ?_, fun b o u e => ?_, fun b ps e => ?_⟩ (fun a o e => ?_) J4.bare fun b hb => ?_
        · rw [upd_ne (neD b o e)]; exact un.free b o e nn hx
        · have := un.tups b xs e; rw [upd_ne (neH b _ this)]; exact this
        · have := un.frzs b o u e; rw [upd_ne (neH b _ this)]; exact this
        · obtain ⟨more, this⟩ := un.tbls b ps e
          exact ⟨more, by rw [upd_ne (neH b _ this)]; exact this⟩
        · by_cases ha : a = D
          · subst ha
            rw [upd_same] at e; cases e
            exact ⟨hlen, its, nn, r3, (J4.pin (a, _) (List.mem_append_right _ (List.mem_singleton.mpr rfl))).1⟩
          · rw [upd_ne ha] at e
            exact (J4.hok a o e).stay (fun _ _ _ z => z) (fun b z => by rw [upd_ne (neH b _ z)]; exact z) fun b xs z => by rw [upd_ne (neH b _ z)]; exact z
        · obtain ⟨_, d1, d2, d3, d4, d5⟩ := f2 b hb
          exact ⟨d3, d1, d4, d5⟩
      · obtain ⟨m, hm, _⟩ := J4.loc
        exact ⟨m, hm⟩
      · exact I2.fpOk hCle (by rw [upd_ne (Ne.symm hDC)]; exact J4.free)
    · refine wpAny_mono (T.item (cxE X (x :: ys) scope cl C s2 H2 fp (X.pn ++ pins)) rfl rfl rfl hc i _ s3 _ H3 XE I3' (fpB H3 _ fr3) st3 go) (fun r s4 ⟨u, hr, h4⟩ => ?_) fun _ _ z => z
      subst hr
      have go' : wpAny (model X.prog X.w) X.A (letOwnedTupleGo (.Name x px) (.ref it) u >>= fun _ => assign (.Name x px) (compEnvC scope cl C X.env) u) (fun _ s5 =>
          wpAny (model X.prog X.w) X.A (forIn ifs true fun c r => if r = true then do let ok ← isTrue c (compEnvC scope cl C X.env) (eval c (compEnvC scope cl C X.env)); pure (ForInStep.yield ok) else pure (ForInStep.yield r)) (fun ok s6 =>
            if ok = true then wpAny (model X.prog X.w) X.A (eval elt (compEnvC scope cl C X.env)) (fun y s7 =>
              wpAny (model X.prog X.w) X.A (call (.builtin "list.append") [.ref D, y]) (fun _ s8 => ∃ m, m < n ∧ ∃ i zs H' o its nn, Inv (cxE X (x :: ys) scope cl C s2 H2 fp (X.pn ++ pins)) [] (o :: fr.map fun j => (σ[j]?).join) H' s8 ∧ tn i s8.heap ∧ (∀ b ∈ fp, H' b = none) ∧ H' D = none ∧
                s8.heap.get? D = some { cls := .type "list", data := .seq (its : List Value).toArray nn } ∧ Vals zs its ∧ W i m zs H') XE s7) XE s6
            else ∃ m, m < n ∧ ∃ i zs H' o its nn, Inv (cxE X (x :: ys) scope cl C s2 H2 fp (X.pn ++ pins)) [] (o :: fr.map fun j => (σ[j]?).join) H' s6 ∧ tn i s6.heap ∧ (∀ b ∈ fp, H' b = none) ∧ H' D = none ∧
                s6.heap.get? D = some { cls := .type "list", data := .seq (its : List Value).toArray nn } ∧ Vals zs its ∧ W i m zs H') XE s5) XE s4 := by
        refine wpAny_bind (thn h4 fun _ s5 ⟨y5, H5, I5, r5, yl, st5, fr5⟩ => ?_)
        have I5' := I5.pinned (fpB H5 _ fr5) (T.obj _ _ st5)
        refine wpAny_mono (pg_name (X := cxE X (x :: ys) scope cl C s2 H2 fp (X.pn ++ pins)) (i := 0) S.nd rfl (.inl (lookup_relabel_local S.own)) (.inr (lookup_relabel_local S.own)) _ s5 _ H5 y5 u (fun σ' H' => σ' = (some y5 :: fr.map fun j => (σ[j]?).join) ∧ H' = H5) I5' r5 ⟨rfl, rfl⟩) (fun _ s6 ⟨σ6, H6, I6, e6, e6'⟩ => ?_) hXE
        subst e6 e6'
        have after : ∀ (s7 : Shared) (H7 : Hp), Inv (cxE X (x :: ys) scope cl C s2 H2 fp (X.pn ++ pins)) ([(D, { cls := .type "list", data := .seq its.toArray nn })] ++ pinsAt fp s5.heap) (some y5 :: fr.map fun j => (σ[j]?).join) H7 s7 →
            Inv (cxE X (x :: ys) scope cl C s2 H2 fp (X.pn ++ pins)) [] (some y5 :: fr.map fun j => (σ[j]?).join) H7 s7 ∧ tn (i + 1) s7.heap ∧ (∀ b ∈ fp, H7 b = none) ∧ H7 D = none ∧ s7.heap.get? D = some { cls := .type "list", data := .seq its.toArray nn } := fun s7 H7 I7 => by
          have pD := I7.pin (D, { cls := .type "list", data := .seq its.toArray nn }) (List.mem_append_right _ (List.mem_append_left _ (List.mem_singleton.mpr rfl)))
          refine ⟨I7.pins_of fun p hp => absurd hp (by simp), T.keep _ _ _ st5 fun b hb o e => (I7.pin (b, o) (List.mem_append_right _ (List.mem_append_right _ (mem_pinsAt hb e)))).1, fun b hb => ?_, pD.2.1, pD.1⟩
          obtain ⟨o, e, _⟩ := T.obj _ _ st5 b hb
          exact (I7.pin (b, o) (List.mem_append_right _ (List.mem_append_right _ (mem_pinsAt hb e)))).2.1
        refine wpAny_mono ((hb C s2 H2 fp (X.pn ++ pins) bk).1 _ s6 _ H6 _ I6 (step y5 H6 yl)) (fun ok s7 ⟨H7, I7, q7⟩ => ?_) hXE
        dsimp only at q7
        by_cases hok : ok = true
        · rw [if_pos hok] at q7 ⊢
          refine wpAny_mono ((hb C s2 H2 fp (X.pn ++ pins) bk).2 _ s7 _ H7 _ I7 q7) (fun yv s8 ⟨y8, H8, I8, r8, n8⟩ => ?_) hXE
          obtain ⟨m', hm', w8⟩ := hNN _ _ n8
          obtain ⟨J8, st8, fr8, hD8, oD8⟩ := after s8 H8 I8
          have hl := r3.length
          refine call_meets F.slot_list_append ⟨_, oD8, rfl⟩ F.entry_list_append (F.args_list_append_2 _ _) (PySem.list_append D its.toArray nn yv (by rw [List.size_toArray]; walk_at "om")) ⟨oD8, ?_⟩
          have oD9 := PySem.IsL.update oD8 (fun a => a.push yv)
          rw [List.push_toArray] at oD9
          refine ⟨m', hm', i + 1, zs ++ [y8], H8, some y5, its ++ [yv], _, J8.turned (it := D) (fun b o hb' e => (Heap.get?_update_other _ _ (Ne.symm hb')).trans e) hD8 hDC (.inr hDle) (fun y c e z => ?_) (fun p hp => ?_), T.keep _ _ _ st8 fun b hb' o e => ?_, fr8, hD8, oD9, r3.append (.cons r8 .nil), w8⟩
          · obtain ⟨v, o, ho, _⟩ := I2.cell y c (S.cls.get y c e)
            have := Heap.lt_size ho
            walk_at "om"
          · have hp' : p ∈ X.pn ++ pins := by
              have : p ∈ (X.pn ++ pins) ++ [] := hp
              simpa using this
            exact (pinsOk p hp').2.1
          · have := hfp b hb'
            exact (Heap.get?_update_other _ _ (by walk_at "om")).trans e
        · rw [if_neg hok] at q7 ⊢
          obtain ⟨m', hm', w7⟩ := hNN _ _ q7
          obtain ⟨J7, st7, fr7, hD7, oD7⟩ := after s7 H7 I7
          exact ⟨m', hm', i + 1, zs, H7, some y5, its, nn, J7, st7, fr7, hD7, oD7, r3, w7⟩
      have e0 : (letOwnedTupleGo (.Name x px) (.ref it) u >>= fun _ => assign (.Name x px) (compEnvC scope cl C X.env) u) = assign (.Name x px) (compEnvC scope cl C X.env) u := rfl
      rw [e0] at go'
      exact go'
  exact codeAny_compStart_list (loop _ rfl) (T.self X.A 0 _ _ _ st4 (loop _ rfl))
theorem pe_compE {wi : TI} (S : CompOk X x scope cl fr ys) (hc : X.calm = true) (hi : PI X (.Name x px) iter wi)
    (hb : ∀ (C : Addr) (s : Shared) (H : Hp) (ex : List Addr) (pn : List (Addr × Obj)), BlkAt X C s H ex → PTs (cxE X (x :: ys) scope cl C s H ex pn) ifs tt ∧ PE (cxE X (x :: ys) scope cl C s H ex pn) elt te)
    (hs : ∀ z, foldedSetIterable iter X.env z = pure z := by intro _; rfl) : PE X (.ListComp elt [⟨.Name x px, iter, ifs, 0⟩] scope pos) (tComp wi fr tt te) := by
  intro pins s σ H Q I h
  rw [eval_ListComp]
  refine wpAny_comprehension_free (use := none) rfl hs S.clos S.kind (fun y hy hl => ?_) (thn (hi pins s σ H _ I h) fun xv s1 h1 => thn h1 fun itv s2 h2 => ?_)
  · have z := List.all_eq_true.mp S.names y hy
    rw [hl] at z
    simpa using z
  · obtain ⟨it, fp, tn, J, H2, rfl, I2, T, st2, f2, hB⟩ := h2
    refine comp_blockE (RR := fun acc C => compPost (model X.prog X.w) X.A X.xe none (EP X pins σ Q) acc C) S hc hb I2 T st2 f2 hB (fun D C s' H' J' hn fC q => ?_) fun D C e s' z => z
    obtain ⟨m, hm⟩ := hn
    obtain ⟨c0, c1, c2, c3, c4, c5⟩ := fC
    exact ⟨m, hm, fun h' sb => ⟨.ref D, H', J'.turned (it := C) (fun b o hb e => sb.extBut b o hb e) c0 c1 c3 c4 c5, rfl, q⟩⟩
end
def tTryN (K : PySem.W.Frag) (m : Nat) (G : Addr) (tb th : TS) (E' : XK) : TS := fun D σ H => tb D σ H ∧ ∀ cls H', E' cls none H' → ∃ C, cls = .ref C ∧ PySem.W.exmOne K (.ref C) (.ref G) = some true ∧ th D (List.replicate m none) H'
section
variable {X : Cx} {F : Value → Shared → Prop} {pins pn : List (Addr × Obj)} {σ : L2.St} {H : Hp} {s : Shared} {A' : Around}
theorem invH' (ok : X.Ok) (I : Inv (Xh X A' (X.pn ++ pins)) [] σ H s) : Inv X pins σ H s := ⟨ok, I.os, I.bare, I.base, I.loc, I.cell, I.free, I.freeC, fun p hp => I.pin p (by simpa using hp), I.hok, I.len⟩
theorem ps_tryN {body suite : List Stmt} {b₀ : Stmt} {x : Str} {np hpos pos : Pos} {tb th : TS} {G : Addr} (E' : XK) (hst : X.stack = X.env :: X.outer) (hfm : X.env.frame = some X.env.locals) (hg : Gl X x) (hm : X.mg x = some (.ref G))
    (hb : ∀ F pn, Passes (CXX X.prog X.w) (Xp X F pn) E' → PSs (Xp X F pn) body tb) (hh : ∀ A' pn, PSs (Xh X A' pn) (b₀ :: suite) th) (hd : (x == ("__debug__" : Str)) = false := by decide) :
    PS X (.Try body [.ExceptHandler (some (.Name x np)) none (b₀ :: suite) hpos] [] [] pos) (tTryN X.K X.N.length G tb th E') := by
  intro pins s σ H D I h
  obtain ⟨h1, h2⟩ := h
  refine wpAny_Try_except ?_
  refine wpAny_mono (hb (fun e s₁ => wpAny (model X.prog X.w) X.A (noteFrame e X.env) (fun _ s₂ => wpAny (model X.prog X.w) X.A (setFlight e none) (fun _ s₃ => wpAny (model X.prog X.w) X.A (handleBy e X.env [.ExceptHandler (some (.Name x np)) none (b₀ :: suite) hpos]) (SP X pins D) X.xe s₃) X.xe s₂) X.xe s₁) (X.pn ++ pins) ?_ [] s σ H D (invP I) h1) (fun f s1 q => ?_) fun e s1 q => q
  · intro pins' σ' H1 s1 ev s2 I1 cx
    obtain ⟨xx, cls, a0, H', B, rfl, os, bare, un, kb, tb', hok, hx, hn, fl, hE⟩ := cx
    obtain ⟨C, rfl, hmt, hth⟩ := h2 cls H' hE
    have okX := I.ok
    have hfr : X.A.frames = some (X.env :: X.outer) := by rw [← hst]; exact okX.frames
    have fl' : Heap.FlyingW B (X.env :: X.outer) xx (.ref C) a0 s2.heap := by
      have z : Heap.FlyingW B X.stack xx (.ref C) a0 s2.heap := fl
      rw [hst] at z
      exact z
    have hF : s1.heap.FunFrames X.base X.stack := I1.stack
    have frfree : ∀ b ∈ frs X.stack, H1 b = none := I1.stkFree
    have un5 : ∀ h : Heap, B.StaysIn h → s2.heap.UpToSlots h → Un (frs X.stack) [] H1 H' s1.heap h := fun h stays up => by
      have frUp : ∀ b ∈ frs X.stack, ∀ o, s1.heap.get? b = some o → ∃ sl, h.get? b = some { o with slots := sl } := fun b hb o q => by
        obtain ⟨_, o', ho', hnf⟩ := hF.mem hb
        rw [q] at ho'; cases ho'
        obtain ⟨sl, e1⟩ := un.slot b o q (frfree b hb) hb (by simp)
        obtain ⟨sl', e2⟩ := up b _ e1 hnf
        exact ⟨sl', e2⟩
      refine ⟨fun b o q nn hb hx' => stays b o (kb b o q nn hb), fun b o q nn hb hx' => frUp b hb o q, un.free, fun b o q hx' => ?_, un.tups, un.frzs, un.tbls⟩
      by_cases hb : b ∈ frs X.stack
      · obtain ⟨sl, e2⟩ := frUp b hb o q
        exact ⟨_, e2⟩
      · obtain ⟨o2, e2⟩ := tb' b o q hb
        exact ⟨o2, stays b o2 e2⟩
    refine wpAny_looks_onW hfr hfm fl' fun h₄ hheld₄ hsm₄ => ?_
    refine wpAny_landsW hheld₄ fun h₅ hfl₅ hsm₅ => ?_
    have up5 : s2.heap.UpToSlots h₅ := hsm₄.trans hsm₅
    have I5 : Inv (Xh X (X.A.mark (some (.ref xx))) (X.pn ++ pins)) [] σ' H' { s2 with heap := h₅ } := by
      refine invH (I1.call' (s' := { s2 with heap := h₅ }) (ch := []) os (un5 h₅ hfl₅.1 up5) (hok.kept fun b u q => hfl₅.1 b u q) bare (fun b z => absurd z (by simp))) ?_
      first | rfl | simp
    refine wpAny_handleBy_cons (codeAny_handlers_test ?_) (by intro q; cases q)
    refine ld_glob (X := Xh X (X.A.mark (some (.ref xx))) (X.pn ++ pins)) I5 hg hm ?_ hd
    obtain ⟨ob, hob, hobc⟩ := hfl₅.there
    have LT : PySem.W.Looks (model X.prog X.w) h₅ (typeOf (.ref xx)) (.ref C) := hobc ▸ (PySem.W.Looks.ld hob).andThen .now
    refine (PySem.W.exm_one (M := model X.prog X.w) (h := h₅) I5.kIn LT hmt).here ?_
    refine codeAny_handlers_suite ?_
    refine lands_againW hfl₅ fun h₆ fl₆ up₆ => ?_
    have up6 : s2.heap.UpToSlots h₆ := up5.trans up₆
    have I6 : Inv (Xh X (X.A.mark (some (.ref xx))) (X.pn ++ pins)) [] σ' H' { s2 with heap := h₆ } := by
      refine invH (I1.call' (s' := { s2 with heap := h₆ }) (ch := []) os (un5 h₆ fl₆.1 up6) (hok.kept fun b u q => fl₆.1 b u q) bare (fun b z => absurd z (by simp))) ?_
      first | rfl | simp
    have I7 : Inv (Xh X (X.A.mark (some (.ref xx))) (X.pn ++ pins)) [] (List.replicate X.N.length none) H' { s2 with heap := h₆ } :=
      I6.weak (by rw [List.length_replicate, I6.len]) fun j v z => by
        rw [List.getElem?_replicate] at z
        split at z <;> cases z
    refine wpAny_mono (hh (X.A.mark (some (.ref xx))) (X.pn ++ pins) [] _ _ _ _ I7 hth) (fun fl s9 q => ?_) fun _ _ z => z.elim
    cases fl with
    | next =>
      obtain ⟨σ9, H9, I9, q⟩ := q
      exact ⟨_, _, invH' okX I9, q⟩
    | brk =>
      obtain ⟨σ9, H9, I9, q⟩ := q
      exact ⟨_, _, invH' okX I9, q⟩
    | cont =>
      obtain ⟨σ9, H9, I9, q⟩ := q
      exact ⟨_, _, invH' okX I9, q⟩
    | ret u =>
      obtain ⟨v, σ9, H9, I9, r, q⟩ := q
      exact ⟨v, _, _, invH' okX I9, r, q⟩
  · have q' := SP.unP q
    cases f with
    | next =>
      obtain ⟨σ', H', I', q'⟩ := q'
      exact wpAny_execs_nil ⟨σ', H', I', q'⟩
    | brk => exact q'
    | cont => exact q'
    | ret u => exact q'
end
end Gz
set_option Elab.async false
set_option linter.all false
set_option maxRecDepth 100000
set_option maxHeartbeats 4000000
namespace Gz
open PySem PySem.Spec PyProof.Rows L2
theorem compGo_newX {α β : Type} {R : Hp → V → α → Prop} {R' : Hp → V → β → Prop} {Ok : Hp → Prop} {ρ : L2.St} {tt : TT} {te : TE} {f : α → β} {good : α → Prop} {Q' : List V → Hp → Prop} (mono : ∀ H H' x a, Same H H' → R H x a → R H' x a) (mono' : ∀ H H' x a, Same H H' → R' H x a → R' H' x a) :
    ∀ {xs : List V} {as : List α} {ys : List V} {bs : List β} {H : Hp}, All2 (R H) xs as → All2 (R' H) ys bs → (∀ H', Same H H' → Ok H') → (∀ x a, a ∈ as → ∀ H', Same H H' → R H' x a → ∀ Q, Q true H' → tt (some x :: ρ) H' Q) →
    (∀ x a, a ∈ as → ∀ H', Same H H' → R H' x a → good a → ∀ Q : VK, (∀ H'' y, Same H' H'' → R' H'' y (f a) → Q y H'') → te (some x :: ρ) H' Q) →
    (∀ x a, a ∈ as → ∀ H', Same H H' → R H' x a → ¬ good a → ∀ Q : VK, te (some x :: ρ) H' Q) →
    ((∀ a ∈ as, good a) → ∀ H' zs, Same H H' → All2 (R' H') zs (bs ++ as.map f) → Q' zs H') → compGo Ok ρ tt te xs ys H Q'
  | [], [], ys, bs, H, _, hy, hOk, _, _, _, q => ⟨hOk H (Same.refl H), q (fun a h => by simp at h) H ys (Same.refl H) (by simpa using hy)⟩
  | x :: xs, a :: as, ys, bs, H, h, hy, hOk, ht, he, hx, q => by
    refine ⟨hOk H (Same.refl H), ht x a (.head _) H (Same.refl H) h.1 _ ?_⟩
    rw [if_pos rfl]
    by_cases hg : good a
    · refine he x a (.head _) H (Same.refl H) h.1 hg _ fun H2 y s2 r2 => ?_
      refine compGo_newX mono mono' (bs := bs ++ [f a]) (h.2.imp fun x a r => mono _ _ _ _ s2 r) ((hy.imp fun x a r => mono' _ _ _ _ s2 r).snoc r2) (fun H' s' => hOk H' (s2.trans s')) (fun x a ha H' s' => ht x a (.tail _ ha) H' (s2.trans s')) (fun x a ha H' s' => he x a (.tail _ ha) H' (s2.trans s')) (fun x a ha H' s' => hx x a (.tail _ ha) H' (s2.trans s')) fun hall H' zs s' hz => ?_
      refine q (fun b hb => ?_) H' zs (s2.trans s') ?_
      · rcases List.mem_cons.mp hb with e | hb
        · rw [e]; exact hg
        · exact hall b hb
      · rw [List.map_cons]
        rwa [List.append_assoc] at hz
    · exact hx x a (.head _) H (Same.refl H) h.1 hg _
  | [], _ :: _, _, _, _, h, _, _, _, _, _, _ => h.elim
  | _ :: _, [], _, _, _, h, _, _, _, _, _, _ => h.elim
theorem div_same {a b c d : Int} (hb : 0 < b) (hd : 0 < d) (h : a * d = c * b) : a / b = c / d := by
  have e1 : a * d / (b * d) = a / b := Int.mul_ediv_mul_of_pos_left a b hd
  have e2 : c * b / (d * b) = c / d := Int.mul_ediv_mul_of_pos_left c d hb
  rw [← e1, h, Int.mul_comm b d, e2]
def climb (s e : P2) (r : Int) : Int := (e.2 - s.2) * (r - s.1)
def loV (s e : P2) (r : Int) : Int := s.2 + climb s e r / (e.1 - s.1)
def hiV (s e : P2) (r : Int) : Int := s.2 - (-climb s e r) / (e.1 - s.1)
def inB (ks : List P2) (r : Int) (i : Nat) : Bool := decide ((ptD ks i).1 ≤ r) && decide (r ≤ (ptD ks (i + 1)).1)
def fstB (ks : List P2) (r : Int) : Nat → Nat → Option Nat
  | _, 0 => none
  | i, n + 1 => if inB ks r i = true then some i else fstB ks r (i + 1) n
theorem fst_some {ks : List P2} {r : Int} : ∀ {n i j : Nat}, fstB ks r i n = some j → i ≤ j ∧ j < i + n ∧ inB ks r j = true
  | 0, i, j, h => by cases h
  | n + 1, i, j, h => by
    unfold fstB at h
    split at h
    · rename_i hb; cases h; exact ⟨Nat.le_refl _, by omega, hb⟩
    · obtain ⟨h1, h2, h3⟩ := fst_some h; exact ⟨by omega, by omega, h3⟩
theorem fst_none {ks : List P2} {r : Int} : ∀ {n i : Nat}, fstB ks r i n = none → ∀ j, i ≤ j → j < i + n → inB ks r j = false
  | 0, i, h, j, h1, h2 => by omega
  | n + 1, i, h, j, h1, h2 => by
    unfold fstB at h
    split at h
    · cases h
    · rename_i hb
      by_cases e : j = i
      · subst e; simpa using hb
      · exact fst_none h j (by omega) (by omega)
def atB (ks : List P2) (r : Int) : Option Nat := fstB ks r 0 (ks.length - 1)
def loE (ks : List P2) (r : Int) : En := (atB ks r).map fun i => loV (ptD ks i) (ptD ks (i + 1)) r
def hiE (ks : List P2) (r : Int) : En := (atB ks r).map fun i => hiV (ptD ks i) (ptD ks (i + 1)) r
theorem inB_iff {ks : List P2} {r : Int} {i : Nat} : inB ks r i = true ↔ (ptD ks i).1 * 1 ≤ r ∧ r ≤ (ptD ks (i + 1)).1 * 1 := by
  unfold inB
  rw [Bool.and_eq_true, decide_eq_true_eq, decide_eq_true_eq, Int.mul_one, Int.mul_one]
theorem at_inP {ks : List P2} {r : Int} {i : Nat} (h : atB ks r = some i) : inP ks r 1 i := by
  obtain ⟨_, h2, h3⟩ := fst_some h
  exact ⟨by omega, inB_iff.mp h3⟩
theorem at_hit {ks : List P2} {r : Int} : (∃ i, atB ks r = some i) ↔ hit ks r 1 := by
  refine ⟨fun ⟨i, h⟩ => ⟨i, at_inP h⟩, fun ⟨i, h⟩ => ?_⟩
  cases e : atB ks r with
  | some j => exact ⟨j, rfl⟩
  | none =>
    have := fst_none e i (by omega) (by have := h.1; omega)
    rw [inB_iff.mpr h.2] at this
    cases this
theorem led_lo {ks : List P2} {r t b : Int} (hk : ris (ks.map (·.1)) = true) (h : Led ks r 1 t b) (hh : hit ks r 1) : loE ks r = some (t / b) ∧ hiE ks r = some (ceilI t b) := by
  obtain ⟨i, e⟩ := at_hit.mpr hh
  have hi := at_inP e
  have hl := ris_lt1 hk (i := i) (j := i + 1) (by omega) hi.1
  have on := h.on i hi
  have hb := h.pos
  unfold onl at on
  have e1 : t * ((ptD ks (i + 1)).1 - (ptD ks i).1) = ((ptD ks i).2 * ((ptD ks (i + 1)).1 - (ptD ks i).1) + climb (ptD ks i) (ptD ks (i + 1)) r) * b := by
    unfold climb; grind
  have hd : 0 < (ptD ks (i + 1)).1 - (ptD ks i).1 := by omega
  have q1 := div_same (show 0 < b by omega) hd e1
  have q2 := div_same (a := -t) (c := -((ptD ks i).2 * ((ptD ks (i + 1)).1 - (ptD ks i).1) + climb (ptD ks i) (ptD ks (i + 1)) r)) (show 0 < b by omega) hd (by grind)
  have z1 : loE ks r = some (loV (ptD ks i) (ptD ks (i + 1)) r) := by unfold loE; rw [e]; rfl
  have z2 : hiE ks r = some (hiV (ptD ks i) (ptD ks (i + 1)) r) := by unfold hiE; rw [e]; rfl
  rw [z1, z2]
  unfold loV hiV ceilI
  generalize climb (ptD ks i) (ptD ks (i + 1)) r = c at q1 q2 ⊢
  generalize (ptD ks (i + 1)).1 - (ptD ks i).1 = d at hd q1 q2 ⊢
  rw [q1, q2]
  have n : d ≠ 0 := by omega
  constructor
  · rw [Int.add_comm ((ptD ks i).2 * d) c, Int.add_mul_ediv_right _ _ n, Int.add_comm]
  · rw [show -((ptD ks i).2 * d + c) = -c + (-(ptD ks i).2) * d by grind, Int.add_mul_ediv_right _ _ n]
    congr 1; omega
theorem miss_lo {ks : List P2} {r : Int} (hh : ¬ hit ks r 1) : loE ks r = none ∧ hiE ks r = none := by
  have e : atB ks r = none := by
    cases e : atB ks r with
    | none => rfl
    | some j => exact absurd (at_hit.mp ⟨j, e⟩) hh
  unfold loE hiE
  rw [e]
  exact ⟨rfl, rfl⟩
def seenW (ks : List P2) (er : Int) (r : En) : W2 := r.map fun n => (loE ks (n - er), hiE ks (n + er))
def goodR (ks : List P2) (r : En) : Prop := ∀ n, r = some n → hit ks n 1
def GdAt (C G : Addr) (H : Hp) (v : V) (d1 d2 s er : Int) (ks : List P2) : Prop := ∃ x dx w gv, v = .ref x ∧ H x = some (.ins C dx [("drift", w), ("since", .int s), ("gauge", gv), ("error", .int er)]) ∧ IsR H w d1 d2 ∧ IsG G H gv ks
theorem GdAt.same {C G : Addr} {H H' : Hp} {v : V} {d1 d2 s er : Int} {ks : List P2} (h : GdAt C G H v d1 d2 s er ks) (e : Same H H') : GdAt C G H' v d1 d2 s er ks := by
  obtain ⟨x, dx, w, gv, h1, h2, h3, h4⟩ := h
  exact ⟨x, dx, w, gv, h1, e _ _ h2, h3.same e, h4.same e⟩
def OneE (H : Hp) (v : V) (lo hi : En) : Prop := (v = .non ∧ lo = none ∧ hi = none) ∨ ∃ t b, IsR H v t b ∧ 1 ≤ b ∧ Bd 300 b ∧ lo = some (t / b) ∧ hi = some (ceilI t b)
theorem OneE.same {H H' : Hp} {v : V} {lo hi : En} (h : OneE H v lo hi) (s : Same H H') : OneE H' v lo hi := by
  rcases h with h | ⟨t, b, h1, h2⟩
  · exact .inl h
  · exact .inr ⟨t, b, h1.same s, h2⟩
theorem all2_ev : ∀ (rs : List En), All2 (fun x r => x = ev r) (rs.map ev) rs
  | [] => trivial
  | _ :: rs => ⟨rfl, all2_ev rs⟩
theorem good_none {ks : List P2} : goodR ks none := fun _ h => nomatch h
theorem good_some {ks : List P2} {n : Int} : goodR ks (some n) ↔ hit ks n 1 := ⟨fun h => h n rfl, fun h m e => by cases e; exact h⟩
theorem fst_at {ks : List P2} {r : Int} : ∀ {n i j : Nat}, i ≤ j → j < i + n → (∀ k, i ≤ k → k < j → inB ks r k = false) → inB ks r j = true → fstB ks r i n = some j
  | 0, i, j, h1, h2, _, _ => by omega
  | n + 1, i, j, h1, h2, h3, h4 => by
    unfold fstB
    by_cases e : i = j
    · subst e; rw [if_pos h4]
    · rw [if_neg (by rw [h3 i (Nat.le_refl _) (by omega)]; decide)]
      exact fst_at (by omega) (by omega) (fun k hk => h3 k (by omega)) h4
theorem fst_no {ks : List P2} {r : Int} : ∀ {n i : Nat}, (∀ k, i ≤ k → k < i + n → inB ks r k = false) → fstB ks r i n = none
  | 0, _, _ => rfl
  | n + 1, i, h => by
    unfold fstB
    rw [if_neg (by rw [h i (Nat.le_refl _) (by omega)]; decide)]
    exact fst_no fun k h1 h2 => h k (by omega) (by omega)
theorem hit_pt {ks : List P2} {j : Nat} (hk : okKn ks) (hj : j < ks.length) : hit ks (ptD ks j).1 1 := by
  have h2 := hk.1
  refine hit_of h2 ?_ ?_
  · rw [Int.mul_one]
    by_cases e : j = 0
    · subst e; exact Int.le_refl _
    · exact Int.le_of_lt (ris_lt1 hk.2.1 (by omega) hj)
  · rw [Int.mul_one]
    by_cases e : j = ks.length - 1
    · subst e; exact Int.le_refl _
    · exact Int.le_of_lt (ris_lt1 hk.2.1 (by omega) (by omega))
theorem dats_ends {K : PySem.W.Frag} {H : Hp} : ∀ (rs : List En), Dats K H (rs.map ev) (rs.map datE)
  | [] => .nil
  | r :: rs => .cons (dat_ev r) (dats_ends rs)
theorem plain_ends : ∀ (rs : List En) (n : Nat), plainDs n (rs.map datE) = true
  | [], _ => rfl
  | none :: rs, n => by rw [List.map_cons]; simp only [plainDs, plain_ends rs, Bool.and_true]; rfl
  | some _ :: rs, n => by rw [List.map_cons]; simp only [plainDs, plain_ends rs, Bool.and_true]; rfl
theorem eq_ends {K : PySem.W.Frag} {H : Hp} {a b : Addr} {rs : List En} {neg : Bool} {Q : VK} (ha : SqL K H a (rs.map ev)) (hb : SqL K H b (rs.map ev)) (q : Q (.bl (!neg)) H) : rEqD K neg (.ref a) (.ref b) H Q :=
  eq_dat (n := 2) (.lst ha (dats_ends rs)) (.lst hb (dats_ends rs)) (by simp only [plainD, plain_ends]) (by decide) q
theorem ends_of {P : En → Prop} : ∀ {zs : List V} {ms : List Int}, All2 (fun y (_ : Int) => ∃ r, y = ev r ∧ P r) zs ms → ∃ rs : List En, zs = rs.map ev ∧ rs.length = ms.length ∧ ∀ r ∈ rs, P r
  | [], [], _ => ⟨[], rfl, rfl, fun r h => by simp at h⟩
  | _ :: _, _ :: _, h => by
    obtain ⟨r, rfl, hr⟩ := h.1
    obtain ⟨rs, rfl, hl, hp⟩ := ends_of h.2
    refine ⟨r :: rs, rfl, by simp [hl], fun x hx => ?_⟩
    rcases List.mem_cons.mp hx with e | hx
    · rw [e]; exact hr
    · exact hp x hx
  | [], _ :: _, h => h.elim
  | _ :: _, [], h => h.elim
theorem pt_at {H : Hp} {xs : List V} {ks : List P2} {j : Nat} (hP : Pts H xs ks) (hj : j < ks.length) : ∃ p, atI xs (j : Int) = some (.ref p) ∧ H p = some (.tup [.int (ptD ks j).1, .int (ptD ks j).2]) ∧ ptD ks j ∈ ks := by
  have e : ks[j]? = some (ptD ks j) := by unfold ptD; rw [List.getD_eq_getElem?_getD, List.getElem?_eq_getElem hj]; rfl
  obtain ⟨x, ex, p, rfl, hp⟩ := hP.at e
  exact ⟨p, atI_nat ex, hp, List.mem_of_getElem? e⟩
theorem pt_last {H : Hp} {xs : List V} {ks : List P2} (hP : Pts H xs ks) (h2 : 2 ≤ ks.length) : ∃ p, atI xs (-1) = some (.ref p) ∧ H p = some (.tup [.int (ptD ks (ks.length - 1)).1, .int (ptD ks (ks.length - 1)).2]) ∧ ptD ks (ks.length - 1) ∈ ks := by
  have hl := hP.len
  have e : ks[ks.length - 1]? = some (ptD ks (ks.length - 1)) := by unfold ptD; rw [List.getD_eq_getElem?_getD, List.getElem?_eq_getElem (by omega)]; rfl
  obtain ⟨x, ex, p, rfl, hp⟩ := hP.at e
  refine ⟨p, ?_, hp, List.mem_of_getElem? e⟩
  unfold atI ixN
  rw [if_neg (by decide), if_pos (by omega)]
  show xs[(-1 + (xs.length : Int)).toNat]? = _
  rw [show (-1 + (xs.length : Int)).toNat = ks.length - 1 by omega]
  exact ex
end Gz
set_option Elab.async false
set_option linter.all false
set_option maxRecDepth 100000
set_option maxHeartbeats 1000000
namespace K13
open PySem L2 Gz
local macro_rules | `(tactic| walk_at "gz") => `(tactic| try simp only [ev_none, ev_some, tMethV, tRng, rRep, tSeq, tIfS, tTest, tOp, tUn, tVar, tC, tRet, tNext, tAsg, gName, tCB, tCons, tNil, tCall, tIsN, tNotN, tB, tAnd, tOr, tNot, tAndV, tOrV, tNotV, tIf, tDrop, rI, rI0, rU, rEq, rNe, scal_ii, scal_bb, scal_in, scal_ni, scal_nn, isi_ii, isi_ib, isi_bi, isi_bb, isi_ni, isi_nt, ite_tt, ite_ff, L2.start, cxK, cxN, List.map_cons, List.map_nil, List.length_cons, List.length_nil, List.replicate, List.append_nil, List.nil_append, List.cons_append, List.getElem?_cons_zero, List.getElem?_cons_succ, List.set_cons_zero, List.set_cons_succ, Option.some.injEq, V.int.injEq, V.bl.injEq, V.ref.injEq, List.cons.injEq, exists_eq_left, exists_eq_left', exists_and_left, true_and, and_true, decide_eq_true_eq, Nat.zero_add, Nat.sub_self, Nat.add_one_sub_one, Nat.reduceAdd, Nat.reduceSub, reduceCtorEq, decide_true, decide_false, Bool.not_true, Bool.not_false, Bool.not_eq_true', decide_eq_false_iff_not, false_and, exists_false, and_assoc, tTup, tLst, tBM, tBM0, rAppend, rExtend, for_rng1, for_lst, for_tpl, ↓reduceIte, not_false_eq_true, not_true_eq_false, tComp, tMM, tSortK, tSetC, iTup, iList, tAll, gSub, rSetL, iRng3, iRng2, iRng1, for_rng2, for_rng3, tFld, sFld, tMeth, tMake, tSl, tNoPart, tPart, rSlL, rCat, for_rev, for_enum, for_zip, tChain, tCompG, iRev, iEnum, iZip, Option.join_some])
local macro_rules | `(tactic| walk_at "gza") => `(tactic| simp only [ev_none, ev_some, tMethV, tRng, rRep, tSeq, tIfS, tTest, tOp, tUn, tVar, tC, tRet, tNext, tAsg, gName, tCB, tCons, tNil, tCall, tIsN, tNotN, tB, tAnd, tOr, tNot, tAndV, tOrV, tNotV, tIf, tDrop, rI, rI0, rU, rEq, rNe, scal_ii, scal_bb, scal_in, scal_ni, scal_nn, isi_ii, isi_ib, isi_bi, isi_bb, isi_ni, isi_nt, ite_tt, ite_ff, L2.start, cxK, cxN, List.map_cons, List.map_nil, List.length_cons, List.length_nil, List.replicate, List.append_nil, List.nil_append, List.cons_append, List.getElem?_cons_zero, List.getElem?_cons_succ, List.set_cons_zero, List.set_cons_succ, Option.some.injEq, V.int.injEq, V.bl.injEq, V.ref.injEq, List.cons.injEq, exists_eq_left, exists_eq_left', exists_and_left, true_and, and_true, decide_eq_true_eq, Nat.zero_add, Nat.sub_self, Nat.add_one_sub_one, Nat.reduceAdd, Nat.reduceSub, reduceCtorEq, decide_true, decide_false, Bool.not_true, Bool.not_false, Bool.not_eq_true', decide_eq_false_iff_not, false_and, exists_false, and_assoc, tTup, tLst, tBM, tBM0, rAppend, rExtend, for_rng1, for_lst, for_tpl, ↓reduceIte, not_false_eq_true, not_true_eq_false, tComp, tMM, tSortK, tSetC, iTup, iList, tAll, gSub, rSetL, iRng3, iRng2, iRng1, for_rng2, for_rng3, tFld, sFld, tMeth, tMake, tSl, tNoPart, tPart, rSlL, rCat, for_rev, for_enum, for_zip, tChain, tCompG, iRev, iEnum, iZip, Option.join_some] at *)
local macro_rules | `(tactic| walk_at "sd") => `(tactic| (and_intros <;> first | assumption | exact bd200 (by decide) | exact bd200 (em30 _) | exact mul200 (by decide) (by decide) | exact ⟨by decide, by decide, by decide⟩ | decide | omega))
local macro_rules | `(tactic| walk_at "gzn") => `(tactic| (try simp only [ev_none, ev_some, tMethV, tRng, rRep, tSeq, tIfS, tTest, tOp, tUn, tVar, tC, tRet, tNext, tAsg, gName, tCB, tCons, tNil, tCall, tIsN, tNotN, tB, tAnd, tOr, tNot, tAndV, tOrV, tNotV, tIf, tDrop, rI, rI0, rU, rEq, rNe, scal_ii, scal_bb, scal_in, scal_ni, scal_nn, isi_ii, isi_ib, isi_bi, isi_bb, isi_ni, isi_nt, ite_tt, ite_ff, L2.start, cxK, cxN, List.map_cons, List.map_nil, List.length_cons, List.length_nil, List.replicate, List.append_nil, List.nil_append, List.cons_append, List.getElem?_cons_zero, List.getElem?_cons_succ, List.set_cons_zero, List.set_cons_succ, Option.some.injEq, V.int.injEq, V.bl.injEq, V.ref.injEq, List.cons.injEq, exists_eq_left, exists_eq_left', exists_and_left, true_and, and_true, decide_eq_true_eq, Nat.zero_add, Nat.sub_self, Nat.add_one_sub_one, Nat.reduceAdd, Nat.reduceSub, reduceCtorEq, decide_true, decide_false, Bool.not_true, Bool.not_false, Bool.not_eq_true', decide_eq_false_iff_not, false_and, exists_false, and_assoc, tTup, tLst, tBM, tBM0, rAppend, rExtend, for_rng1, for_lst, for_tpl, ↓reduceIte, not_false_eq_true, not_true_eq_false, tComp, tMM, tSortK, tSetC, iTup, iList, tAll, gSub, rSetL, iRng3, iRng2, iRng1, for_rng2, for_rng3, tFld, sFld, tMeth, tMake, tSl, tNoPart, tPart, rSlL, rCat, for_rev, for_enum, for_zip, tChain, tCompG, iRev, iEnum, iZip, Option.join_some, Int.reducePow, Int.reduceToNat, Int.reduceMul, Int.reduceAdd]))
def top (i : Nat) : Stmt := PySem.Challenge.pw_gaze_k13_words_of_a_gauged_eye.main.body.getD i (.Pass ⟨0, 0, 0, 0⟩)
abbrev s_greatest_divisor : Stmt := top 7
abbrev s_ratio : Stmt := top 8
abbrev s_plus : Stmt := top 9
abbrev s_minus : Stmt := top 10
abbrev s_times : Stmt := top 11
abbrev s_under : Stmt := top 12
abbrev s_floored : Stmt := top 13
abbrev s_raised : Stmt := top 14
abbrev s_widened : Stmt := top 16
abbrev s_Eye_init__ : Stmt := inClass (top 18) 0
abbrev s_Eye_slack : Stmt := inClass (top 18) 1
abbrev s_Eye_slackened : Stmt := inClass (top 18) 2
abbrev s_forth_or_none : Stmt := top 19
abbrev s_Gauged_init__ : Stmt := inClass (top 20) 0
abbrev s_Gauged_seen : Stmt := inClass (top 20) 1
abbrev s_Gauged_stretches : Stmt := inClass (top 20) 2
abbrev s_is_rising : Stmt := top 22
abbrev s_on_line : Stmt := top 23
abbrev s_lies_between : Stmt := top 24
abbrev s_led : Stmt := top 25
abbrev s_Gauge_init__ : Stmt := inClass (top 26) 0
abbrev s_Gauge_forth : Stmt := inClass (top 26) 1
abbrev s_law_cell : Stmt := top 28
abbrev s_law_whole : Stmt := top 29
abbrev s_law_number : Stmt := top 30
abbrev s_law_step : Stmt := top 31
abbrev s_law_error : Stmt := top 32
abbrev s_law_knots : Stmt := top 33
abbrev s_law_raw : Stmt := top 34
abbrev s_law_value : Stmt := top 35
abbrev s_law_due : Stmt := top 36
abbrev s_law_alike : Stmt := top 37
abbrev s_law_refused : Stmt := top 38
abbrev s_law : Stmt := top 39
theorem sc_greatest_divisor : FnScope ["one", "other", "rest"] ["one", "other"] (defScope s_greatest_divisor) := ⟨rfl, rfl, rfl, by decide +kernel, rfl, by decide +kernel, by decide +kernel⟩
theorem sc_ratio : FnScope ["top", "bottom", "divisor"] ["top", "bottom"] (defScope s_ratio) := ⟨rfl, rfl, rfl, by decide +kernel, rfl, by decide +kernel, by decide +kernel⟩
theorem sc_plus : FnScope ["one", "other"] ["one", "other"] (defScope s_plus) := ⟨rfl, rfl, rfl, by decide +kernel, rfl, by decide +kernel, by decide +kernel⟩
theorem sc_minus : FnScope ["one", "other"] ["one", "other"] (defScope s_minus) := ⟨rfl, rfl, rfl, by decide +kernel, rfl, by decide +kernel, by decide +kernel⟩
theorem sc_times : FnScope ["one", "other"] ["one", "other"] (defScope s_times) := ⟨rfl, rfl, rfl, by decide +kernel, rfl, by decide +kernel, by decide +kernel⟩
theorem sc_under : FnScope ["one", "other"] ["one", "other"] (defScope s_under) := ⟨rfl, rfl, rfl, by decide +kernel, rfl, by decide +kernel, by decide +kernel⟩
theorem sc_floored : FnScope ["one"] ["one"] (defScope s_floored) := ⟨rfl, rfl, rfl, by decide +kernel, rfl, by decide +kernel, by decide +kernel⟩
theorem sc_raised : FnScope ["one"] ["one"] (defScope s_raised) := ⟨rfl, rfl, rfl, by decide +kernel, rfl, by decide +kernel, by decide +kernel⟩
theorem sc_widened : FnScope ["one", "by", "lo", "hi"] ["one", "by"] (defScope s_widened) := ⟨rfl, rfl, rfl, by decide +kernel, rfl, by decide +kernel, by decide +kernel⟩
theorem sc_Eye_init__ : FnScope ["self", "drift", "since"] ["self", "drift", "since"] (defScope s_Eye_init__) := ⟨rfl, rfl, rfl, by decide +kernel, rfl, by decide +kernel, by decide +kernel⟩
theorem sc_Eye_slack : FnScope ["self", "turn"] ["self", "turn"] (defScope s_Eye_slack) := ⟨rfl, rfl, rfl, by decide +kernel, rfl, by decide +kernel, by decide +kernel⟩
theorem sc_Eye_slackened : FnScope ["self", "words", "told", "turn", "word"] ["self", "words"] (defScope s_Eye_slackened) := ⟨rfl, rfl, rfl, by decide +kernel, rfl, by decide +kernel, by decide +kernel⟩
theorem sc_forth_or_none : FnScope ["gauge", "raw"] ["gauge", "raw"] (defScope s_forth_or_none) := ⟨rfl, rfl, rfl, by decide +kernel, rfl, by decide +kernel, by decide +kernel⟩
theorem sc_Gauged_init__ : FnScope ["self", "drift", "since", "gauge", "error"] ["self", "drift", "since", "gauge", "error"] (defScope s_Gauged_init__) := ⟨rfl, rfl, rfl, by decide +kernel, rfl, by decide +kernel, by decide +kernel⟩
theorem sc_Gauged_seen : FnScope ["self", "raw", "least", "greatest", "lo", "hi"] ["self", "raw"] (defScope s_Gauged_seen) := ⟨rfl, rfl, rfl, by decide +kernel, rfl, by decide +kernel, by decide +kernel⟩
theorem sc_Gauged_stretches : FnScope ["self", "words"] ["self", "words"] (defScope s_Gauged_stretches) := ⟨rfl, rfl, rfl, by decide +kernel, rfl, by decide +kernel, by decide +kernel⟩
theorem sc_is_rising : FnScope ["numbers"] ["numbers"] (defScope s_is_rising) := ⟨rfl, rfl, rfl, by decide +kernel, rfl, by decide +kernel, by decide +kernel⟩
theorem sc_on_line : FnScope ["start", "end", "one", "slope"] ["start", "end", "one"] (defScope s_on_line) := ⟨rfl, rfl, rfl, by decide +kernel, rfl, by decide +kernel, by decide +kernel⟩
theorem sc_lies_between : FnScope ["start", "end", "one"] ["start", "end", "one"] (defScope s_lies_between) := ⟨rfl, rfl, rfl, by decide +kernel, rfl, by decide +kernel, by decide +kernel⟩
theorem sc_led : FnScope ["pairs", "one", "start", "end"] ["pairs", "one"] (defScope s_led) := ⟨rfl, rfl, rfl, by decide +kernel, rfl, by decide +kernel, by decide +kernel⟩
theorem sc_Gauge_init__ : FnScope ["self", "knots", "raws", "values"] ["self", "knots"] (defScope s_Gauge_init__) := ⟨rfl, rfl, rfl, by decide +kernel, rfl, by decide +kernel, by decide +kernel⟩
theorem sc_Gauge_forth : FnScope ["self", "raw"] ["self", "raw"] (defScope s_Gauge_forth) := ⟨rfl, rfl, rfl, by decide +kernel, rfl, by decide +kernel, by decide +kernel⟩
theorem sc_law_cell : FnScope ["_law_script", "_law_k"] ["_law_script", "_law_k"] (defScope s_law_cell) := ⟨rfl, rfl, rfl, by decide +kernel, rfl, by decide +kernel, by decide +kernel⟩
theorem sc_law_whole : FnScope ["_law_found"] ["_law_found"] (defScope s_law_whole) := ⟨rfl, rfl, rfl, by decide +kernel, rfl, by decide +kernel, by decide +kernel⟩
theorem sc_law_number : FnScope ["_law_cell_here"] ["_law_cell_here"] (defScope s_law_number) := ⟨rfl, rfl, rfl, by decide +kernel, rfl, by decide +kernel, by decide +kernel⟩
theorem sc_law_step : FnScope ["_law_cell_here"] ["_law_cell_here"] (defScope s_law_step) := ⟨rfl, rfl, rfl, by decide +kernel, rfl, by decide +kernel, by decide +kernel⟩
theorem sc_law_error : FnScope ["_law_cell_here"] ["_law_cell_here"] (defScope s_law_error) := ⟨rfl, rfl, rfl, by decide +kernel, rfl, by decide +kernel, by decide +kernel⟩
theorem sc_law_knots : FnScope ["_law_script", "_law_knots_here", "_law_k", "_law_raw_here"] ["_law_script"] (defScope s_law_knots) := ⟨rfl, rfl, rfl, by decide +kernel, rfl, by decide +kernel, by decide +kernel⟩
theorem sc_law_raw : FnScope ["_law_cell_here", "_law_knots_here", "_law_wide"] ["_law_cell_here", "_law_knots_here"] (defScope s_law_raw) := ⟨rfl, rfl, rfl, by decide +kernel, rfl, by decide +kernel, by decide +kernel⟩
theorem sc_law_value : FnScope ["_law_knots_here", "_law_raw_here", "_law_up", "_law_k", "_law_here", "_law_there", "_law_climb"] ["_law_knots_here", "_law_raw_here", "_law_up"] (defScope s_law_value) := ⟨rfl, rfl, rfl, by decide +kernel, rfl, by decide +kernel, by decide +kernel⟩
theorem sc_law_due : FnScope ["_law_knots_here", "_law_words", "_law_error_here", "_law_slacks", "_law_due_here", "_law_k", "_law_word", "_law_lo", "_law_hi"] ["_law_knots_here", "_law_words", "_law_error_here", "_law_slacks"] (defScope s_law_due) := ⟨rfl, rfl, rfl, by decide +kernel, rfl, by decide +kernel, by decide +kernel⟩
theorem sc_law_alike : FnScope ["_law_found", "_law_due_here", "_law_k"] ["_law_found", "_law_due_here"] (defScope s_law_alike) := ⟨rfl, rfl, rfl, by decide +kernel, rfl, by decide +kernel, by decide +kernel⟩
theorem sc_law_refused : FnScope ["_law_eye", "_law_words", "_law_told", "e"] ["_law_eye", "_law_words"] (defScope s_law_refused) := ⟨rfl, rfl, rfl, by decide +kernel, rfl, by decide +kernel, by decide +kernel⟩
theorem sc_law : FnScope ["_law_script", "_law_knots_here", "_law_error_here", "_law_drift", "_law_since", "_law_words", "_law_slacks", "_law_due_here", "_law_handed", "_law_eye", "_law_at", "_law_far"] ["_law_script"] (defScope s_law) := ⟨rfl, rfl, rfl, by decide +kernel, rfl, by decide +kernel, by decide +kernel⟩
set_option genInjectivity false
set_option genSizeOf false
structure Tx (K : PySem.W.Frag) (mg : Str → Option Value) where
  a_greatest_divisor : Addr
  fd_greatest_divisor : FuncData
  F_greatest_divisor : Fun K "greatest_divisor" "greatest_divisor" s_greatest_divisor a_greatest_divisor fd_greatest_divisor
  m_greatest_divisor : mg "greatest_divisor" = some (.ref a_greatest_divisor)
  b_greatest_divisor : Binds K fd_greatest_divisor ["one", "other"] []
  a_ratio : Addr
  fd_ratio : FuncData
  F_ratio : Fun K "ratio" "ratio" s_ratio a_ratio fd_ratio
  m_ratio : mg "ratio" = some (.ref a_ratio)
  b_ratio : Binds K fd_ratio ["top", "bottom"] []
  a_plus : Addr
  fd_plus : FuncData
  F_plus : Fun K "plus" "plus" s_plus a_plus fd_plus
  m_plus : mg "plus" = some (.ref a_plus)
  b_plus : Binds K fd_plus ["one", "other"] []
  a_minus : Addr
  fd_minus : FuncData
  F_minus : Fun K "minus" "minus" s_minus a_minus fd_minus
  m_minus : mg "minus" = some (.ref a_minus)
  b_minus : Binds K fd_minus ["one", "other"] []
  a_times : Addr
  fd_times : FuncData
  F_times : Fun K "times" "times" s_times a_times fd_times
  m_times : mg "times" = some (.ref a_times)
  b_times : Binds K fd_times ["one", "other"] []
  a_under : Addr
  fd_under : FuncData
  F_under : Fun K "under" "under" s_under a_under fd_under
  m_under : mg "under" = some (.ref a_under)
  b_under : Binds K fd_under ["one", "other"] []
  a_floored : Addr
  fd_floored : FuncData
  F_floored : Fun K "floored" "floored" s_floored a_floored fd_floored
  m_floored : mg "floored" = some (.ref a_floored)
  b_floored : Binds K fd_floored ["one"] []
  a_raised : Addr
  fd_raised : FuncData
  F_raised : Fun K "raised" "raised" s_raised a_raised fd_raised
  m_raised : mg "raised" = some (.ref a_raised)
  b_raised : Binds K fd_raised ["one"] []
  a_widened : Addr
  fd_widened : FuncData
  F_widened : Fun K "widened" "widened" s_widened a_widened fd_widened
  m_widened : mg "widened" = some (.ref a_widened)
  b_widened : Binds K fd_widened ["one", "by"] []
  a_Eye_init__ : Addr
  fd_Eye_init__ : FuncData
  F_Eye_init__ : Fun K "__init__" "Eye.__init__" s_Eye_init__ a_Eye_init__ fd_Eye_init__
  b_Eye_init__ : Binds K fd_Eye_init__ ["self", "drift", "since"] []
  a_Eye_slack : Addr
  fd_Eye_slack : FuncData
  F_Eye_slack : Fun K "slack" "Eye.slack" s_Eye_slack a_Eye_slack fd_Eye_slack
  b_Eye_slack : Binds K fd_Eye_slack ["self", "turn"] []
  a_Eye_slackened : Addr
  fd_Eye_slackened : FuncData
  F_Eye_slackened : Fun K "slackened" "Eye.slackened" s_Eye_slackened a_Eye_slackened fd_Eye_slackened
  b_Eye_slackened : Binds K fd_Eye_slackened ["self", "words"] []
  a_forth_or_none : Addr
  fd_forth_or_none : FuncData
  F_forth_or_none : Fun K "forth_or_none" "forth_or_none" s_forth_or_none a_forth_or_none fd_forth_or_none
  m_forth_or_none : mg "forth_or_none" = some (.ref a_forth_or_none)
  b_forth_or_none : Binds K fd_forth_or_none ["gauge", "raw"] []
  a_Gauged_init__ : Addr
  fd_Gauged_init__ : FuncData
  F_Gauged_init__ : Fun K "__init__" "Gauged.__init__" s_Gauged_init__ a_Gauged_init__ fd_Gauged_init__
  b_Gauged_init__ : Binds K fd_Gauged_init__ ["self", "drift", "since", "gauge", "error"] []
  a_Gauged_seen : Addr
  fd_Gauged_seen : FuncData
  F_Gauged_seen : Fun K "seen" "Gauged.seen" s_Gauged_seen a_Gauged_seen fd_Gauged_seen
  b_Gauged_seen : Binds K fd_Gauged_seen ["self", "raw"] []
  a_Gauged_stretches : Addr
  fd_Gauged_stretches : FuncData
  F_Gauged_stretches : Fun K "stretches" "Gauged.stretches" s_Gauged_stretches a_Gauged_stretches fd_Gauged_stretches
  b_Gauged_stretches : Binds K fd_Gauged_stretches ["self", "words"] []
  a_is_rising : Addr
  fd_is_rising : FuncData
  F_is_rising : Fun K "is_rising" "is_rising" s_is_rising a_is_rising fd_is_rising
  m_is_rising : mg "is_rising" = some (.ref a_is_rising)
  b_is_rising : Binds K fd_is_rising ["numbers"] []
  a_on_line : Addr
  fd_on_line : FuncData
  F_on_line : Fun K "on_line" "on_line" s_on_line a_on_line fd_on_line
  m_on_line : mg "on_line" = some (.ref a_on_line)
  b_on_line : Binds K fd_on_line ["start", "end", "one"] []
  a_lies_between : Addr
  fd_lies_between : FuncData
  F_lies_between : Fun K "lies_between" "lies_between" s_lies_between a_lies_between fd_lies_between
  m_lies_between : mg "lies_between" = some (.ref a_lies_between)
  b_lies_between : Binds K fd_lies_between ["start", "end", "one"] []
  a_led : Addr
  fd_led : FuncData
  F_led : Fun K "led" "led" s_led a_led fd_led
  m_led : mg "led" = some (.ref a_led)
  b_led : Binds K fd_led ["pairs", "one"] []
  a_Gauge_init__ : Addr
  fd_Gauge_init__ : FuncData
  F_Gauge_init__ : Fun K "__init__" "Gauge.__init__" s_Gauge_init__ a_Gauge_init__ fd_Gauge_init__
  b_Gauge_init__ : Binds K fd_Gauge_init__ ["self", "knots"] []
  a_Gauge_forth : Addr
  fd_Gauge_forth : FuncData
  F_Gauge_forth : Fun K "forth" "Gauge.forth" s_Gauge_forth a_Gauge_forth fd_Gauge_forth
  b_Gauge_forth : Binds K fd_Gauge_forth ["self", "raw"] []
  a_law_cell : Addr
  fd_law_cell : FuncData
  F_law_cell : Fun K "_law_cell" "_law_cell" s_law_cell a_law_cell fd_law_cell
  m_law_cell : mg "_law_cell" = some (.ref a_law_cell)
  b_law_cell : Binds K fd_law_cell ["_law_script", "_law_k"] []
  a_law_whole : Addr
  fd_law_whole : FuncData
  F_law_whole : Fun K "_law_whole" "_law_whole" s_law_whole a_law_whole fd_law_whole
  m_law_whole : mg "_law_whole" = some (.ref a_law_whole)
  b_law_whole : Binds K fd_law_whole ["_law_found"] []
  a_law_number : Addr
  fd_law_number : FuncData
  F_law_number : Fun K "_law_number" "_law_number" s_law_number a_law_number fd_law_number
  m_law_number : mg "_law_number" = some (.ref a_law_number)
  b_law_number : Binds K fd_law_number ["_law_cell_here"] []
  a_law_step : Addr
  fd_law_step : FuncData
  F_law_step : Fun K "_law_step" "_law_step" s_law_step a_law_step fd_law_step
  m_law_step : mg "_law_step" = some (.ref a_law_step)
  b_law_step : Binds K fd_law_step ["_law_cell_here"] []
  a_law_error : Addr
  fd_law_error : FuncData
  F_law_error : Fun K "_law_error" "_law_error" s_law_error a_law_error fd_law_error
  m_law_error : mg "_law_error" = some (.ref a_law_error)
  b_law_error : Binds K fd_law_error ["_law_cell_here"] []
  a_law_knots : Addr
  fd_law_knots : FuncData
  F_law_knots : Fun K "_law_knots" "_law_knots" s_law_knots a_law_knots fd_law_knots
  m_law_knots : mg "_law_knots" = some (.ref a_law_knots)
  b_law_knots : Binds K fd_law_knots ["_law_script"] []
  a_law_raw : Addr
  fd_law_raw : FuncData
  F_law_raw : Fun K "_law_raw" "_law_raw" s_law_raw a_law_raw fd_law_raw
  m_law_raw : mg "_law_raw" = some (.ref a_law_raw)
  b_law_raw : Binds K fd_law_raw ["_law_cell_here", "_law_knots_here"] []
  a_law_value : Addr
  fd_law_value : FuncData
  F_law_value : Fun K "_law_value" "_law_value" s_law_value a_law_value fd_law_value
  m_law_value : mg "_law_value" = some (.ref a_law_value)
  b_law_value : Binds K fd_law_value ["_law_knots_here", "_law_raw_here", "_law_up"] []
  a_law_due : Addr
  fd_law_due : FuncData
  F_law_due : Fun K "_law_due" "_law_due" s_law_due a_law_due fd_law_due
  m_law_due : mg "_law_due" = some (.ref a_law_due)
  b_law_due : Binds K fd_law_due ["_law_knots_here", "_law_words", "_law_error_here", "_law_slacks"] []
  a_law_alike : Addr
  fd_law_alike : FuncData
  F_law_alike : Fun K "_law_alike" "_law_alike" s_law_alike a_law_alike fd_law_alike
  m_law_alike : mg "_law_alike" = some (.ref a_law_alike)
  b_law_alike : Binds K fd_law_alike ["_law_found", "_law_due_here"] []
  a_law_refused : Addr
  fd_law_refused : FuncData
  F_law_refused : Fun K "_law_refused" "_law_refused" s_law_refused a_law_refused fd_law_refused
  m_law_refused : mg "_law_refused" = some (.ref a_law_refused)
  b_law_refused : Binds K fd_law_refused ["_law_eye", "_law_words"] []
  a_law : Addr
  fd_law : FuncData
  F_law : Fun K "law" "law" s_law a_law fd_law
  m_law : mg "law" = some (.ref a_law)
  b_law : Binds K fd_law ["_law_script"] []
  n_abs : mg "abs" = none
  n_all : mg "all" = none
  n_bool : mg "bool" = none
  n_enumerate : mg "enumerate" = none
  n_int : mg "int" = none
  n_isinstance : mg "isinstance" = none
  n_len : mg "len" = none
  n_list : mg "list" = none
  n_range : mg "range" = none
  n_tuple : mg "tuple" = none
  n_zip : mg "zip" = none
  C_GazeError : Addr
  c_GazeError : mg "GazeError" = some (.ref C_GazeError)
  C_NoRatio : Addr
  c_NoRatio : mg "NoRatio" = some (.ref C_NoRatio)
  C_NoGauge : Addr
  c_NoGauge : mg "NoGauge" = some (.ref C_NoGauge)
  C_OffGauge : Addr
  c_OffGauge : mg "OffGauge" = some (.ref C_OffGauge)
  C_Eye : Addr
  c_Eye : mg "Eye" = some (.ref C_Eye)
  C_Gauged : Addr
  c_Gauged : mg "Gauged" = some (.ref C_Gauged)
  C_Gauge : Addr
  c_Gauge : mg "Gauge" = some (.ref C_Gauge)
  cl_Eye : Cls K C_Eye
  no_Eye_drift : NoAttr K C_Eye "drift"
  no_Eye_since : NoAttr K C_Eye "since"
  mk_Eye : Mk K C_Eye a_Eye_init__
  me_Eye_slack : Meth K C_Eye "slack" a_Eye_slack
  me_Eye_slackened : Meth K C_Eye "slackened" a_Eye_slackened
  cl_Gauged : Cls K C_Gauged
  no_Gauged_drift : NoAttr K C_Gauged "drift"
  no_Gauged_since : NoAttr K C_Gauged "since"
  no_Gauged_gauge : NoAttr K C_Gauged "gauge"
  no_Gauged_error : NoAttr K C_Gauged "error"
  mk_Gauged : Mk K C_Gauged a_Gauged_init__
  me_Gauged_slack : Meth K C_Gauged "slack" a_Eye_slack
  me_Gauged_slackened : Meth K C_Gauged "slackened" a_Eye_slackened
  me_Gauged_seen : Meth K C_Gauged "seen" a_Gauged_seen
  me_Gauged_stretches : Meth K C_Gauged "stretches" a_Gauged_stretches
  cl_Gauge : Cls K C_Gauge
  no_Gauge_knots : NoAttr K C_Gauge "knots"
  mk_Gauge : Mk K C_Gauge a_Gauge_init__
  me_Gauge_forth : Meth K C_Gauge "forth" a_Gauge_forth
  cf_Eye_init__ : ClsFn K C_Eye "__init__" a_Eye_init__
  xc_NoGauge : XC K C_NoGauge
  xc_OffGauge : XC K C_OffGauge
  mt_OffGauge_GazeError : PySem.W.exmOne K (.ref C_OffGauge) (.ref C_GazeError) = some true
  mt_OffGauge_OffGauge : PySem.W.exmOne K (.ref C_OffGauge) (.ref C_OffGauge) = some true
  is_OffGauge_OffGauge : PySem.W.kitOne K (.ref C_OffGauge) (.ref C_OffGauge) = some true
  is_OffGauge_NoGauge : PySem.W.kitOne K (.ref C_OffGauge) (.ref C_NoGauge) = some false
set_option genInjectivity true
set_option genSizeOf true
section
variable {P : Program} {w : World} {K : PySem.W.Frag} {mg : Str → Option Value} {base : Heap}
def sp_cell (K : PySem.W.Frag) : Sp := fun vs H Q _ => ∃ (a : Addr) (ns : List Int) (k : Int), vs = [.ref a, .int k] ∧ SqL K H a (ns.map V.int) ∧ 0 ≤ k ∧ Q (.int (cellD ns k)) H
theorem ok_law_cell (T : Tx K mg) : FnOk P w K mg base (CXX P w) 1 T.a_law_cell T.fd_law_cell ["_law_script", "_law_k"] (sp_cell K) := by
  refine okN T.F_law_cell sc_law_cell (fun vs H Q E h => ?_) (fun cdv A outer s H vs Q E hr h => ?_)
  · obtain ⟨a, ns, k, rfl, _⟩ := h
    rfl
  · obtain ⟨a, ns, k, rfl, hS, hk, q⟩ := h
    refine ⟨_, (pss_cons (ps_if (pt_cmpR op_lt (pv 1) (pe_callB call_len (by rfl) T.n_len b_len (pa_cons (pv 0) pa_nil)) (nomark _)) (pss_one (ps_ret (pe_ix ix_seq (pv 0) (pv 1) (fun _ _ => rfl)))) pss_nil)
    (pss_one (ps_ret pe_int))), ?_⟩
    walk_at "gz"
    refine ⟨_, lenL hS, ?_⟩
    rw [List.length_map]
    by_cases hlt : k < (ns.length : Int)
    · rw [if_pos hlt]
      have e : ns[k.toNat]? = some (cellD ns k) := by
        unfold cellD
        rw [List.getD_eq_getElem?_getD, List.getElem?_eq_getElem (by omega)]
        rfl
      refine ixL hS ?_ q
      have ek : k = ((k.toNat : Nat) : Int) := by omega
      refine (congrArg (atI _) ek).trans (atI_nat ?_)
      rw [List.getElem?_map, e]
      rfl
    · rw [if_neg hlt]
      have e : cellD ns k = 0 := by
        unfold cellD
        rw [List.getD_eq_getElem?_getD, List.getElem?_eq_none (by omega)]
        rfl
      rw [e] at q
      exact q
def sp_whole : Sp := fun vs H Q _ => ∃ (v : V), vs = [v] ∧ (v = .non ∨ ∃ i, v = .int i) ∧ Q (.bl (isWhole v)) H
theorem ok_law_whole (T : Tx K mg) : FnOk P w K mg base (CXX P w) 1 T.a_law_whole T.fd_law_whole ["_law_found"] sp_whole := by
  refine okN T.F_law_whole sc_law_whole (fun vs H Q E h => ?_) (fun cdv A outer s H vs Q E hr h => ?_)
  · obtain ⟨v, rfl, _⟩ := h
    rfl
  · obtain ⟨v, rfl, hv, q⟩ := h
    refine ⟨_, (pss_one (ps_ret (pe_and (pe_callB call_isiA (by rfl) T.n_isinstance b_isinstance (pa_cons (pv 0) (pa_cons (pe_bltn (v := .ty "int") rfl T.n_int b_int rfl) pa_nil))) (pe_one (pe_not (pe_callB call_isiA (by rfl) T.n_isinstance b_isinstance (pa_cons (pv 0) (pa_cons (pe_bltn (v := .ty "bool") rfl T.n_bool b_bool rfl) pa_nil)))))))), ?_⟩
    rcases hv with rfl | ⟨i, rfl⟩
    · walk_at "gz"
      exact q
    · walk_at "gz"
      exact q
def sp_greatest : Sp := fun vs H Q _ => ∃ (a b : Int), vs = [.int a, .int b] ∧ 0 ≤ a ∧ 0 ≤ b ∧ Q (.int (gcdI a b)) H
def inv_greatest (a b : Int) (H : Hp) (σ : St) (H1 : Hp) : Prop := ∃ (x y : Int) (z : Option V), σ = [some (.int x), some (.int y), z] ∧ H1 = H ∧ 0 ≤ x ∧ 0 ≤ y ∧ gcdI x y = gcdI a b
def mu_greatest (σ : St) (_ : Hp) : Nat := match σ with | [_, some (.int y), _] => y.toNat | _ => 0
theorem ok_greatest_divisor (T : Tx K mg) : FnOk P w K mg base (CXX P w) 1 T.a_greatest_divisor T.fd_greatest_divisor ["one", "other"] sp_greatest := by
  refine okN T.F_greatest_divisor sc_greatest_divisor (fun vs H Q E h => ?_) (fun cdv A outer s H vs Q E hr h => ?_)
  · obtain ⟨a, b, rfl, _⟩ := h
    rfl
  · obtain ⟨a, b, rfl, ha, hb, q⟩ := h
    refine ⟨_, (pss_cons (ps_while PassesOwn.never (pt_cmpR op_ne (pv 1) pe_int (nomark _)) (pss_cons (ps_set (i := 2) sc_greatest_divisor.nd rfl (Or.inl rfl) (pe_op op_mod (pv 0) (pv 1)))
        (pss_cons (ps_set (i := 0) sc_greatest_divisor.nd rfl (Or.inl rfl) (pv 1))
        (pss_one (ps_set (i := 1) sc_greatest_divisor.nd rfl (Or.inl rfl) (pv 2))))))
    (pss_one (ps_ret (pv 0)))), ?_⟩
    walk_at "gz"
    refine while_by (inv_greatest a b H) mu_greatest ⟨_, _, _, rfl, rfl, ha, hb, rfl⟩ ?_ ?_
    · rintro σ H1 ⟨x, y, z, rfl, rfl, hx, hy, hg⟩
      walk_at "gz"
      split
      · rename_i hp
        have hp' : (0 : Int) < y := by omega
        refine ⟨hp', ⟨_, _, _, rfl, rfl, hy, Int.emod_nonneg x (by omega), ?_⟩, ?_⟩
        · rw [gcd_step hx hp']; exact hg
        · have := Int.emod_lt_of_pos x hp'
          have := Int.emod_nonneg x (show y ≠ 0 by omega)
          show (x % y).toNat < y.toNat
          omega
      · rename_i hp
        have : y = 0 := by omega
        subst this
        rw [gcd_zero hx] at hg
        rw [hg]
        exact q
    · intro σ H1 Q1 Q2 hQ h
      clear q hr
      walk_at "gza"
      obtain ⟨v, e, hv, h⟩ := h
      exact ⟨v, e, hv, hQ _ _ h⟩
def sp_ratio : Sp := fun vs H Q _ => ∃ (t b : Int), vs = [.int t, .int b] ∧ b ≠ 0 ∧ Bd 3000 t ∧ Bd 3000 b ∧ ∀ p, H p = none → Q (.ref p) (upd H p (.tup [.int (rt t b), .int (rb t b)]))
theorem ok_ratio (T : Tx K mg) : FnOk P w K mg base (CXX P w) 2 T.a_ratio T.fd_ratio ["top", "bottom"] sp_ratio := by
  refine okN T.F_ratio sc_ratio (fun vs H Q E h => ?_) (fun cdv A outer s H vs Q E hr h => ?_)
  · obtain ⟨t, b, rfl, _⟩ := h
    rfl
  · obtain ⟨t, b, rfl, hb, t1, b1, q⟩ := h
    refine ⟨_, (pss_cons (ps_if (pt_cmpR op_eq (pv 1) pe_int (nomark _)) (pss_one ps_never) pss_nil)
    (pss_cons (ps_set (i := 2) sc_ratio.nd rfl (Or.inl rfl) (pe_call (ok_greatest_divisor T) (hr.mono (by decide)) rfl T.m_greatest_divisor T.F_greatest_divisor.kp T.b_greatest_divisor .nil passE0 (pa_cons (pe_callB call_abs (by rfl) T.n_abs b_abs (pa_cons (pv 0) pa_nil)) (pa_cons (pe_callB call_abs (by rfl) T.n_abs b_abs (pa_cons (pv 1) pa_nil)) pa_nil))))
    (pss_cons (ps_if (pt_cmpR op_lt (pv 1) pe_int (nomark _)) (pss_one (ps_set (i := 2) sc_ratio.nd rfl (Or.inl rfl) (pe_un un_neg (pv 2)))) pss_nil)
    (pss_one (ps_ret (pe_tup (pa_cons (pe_op op_fdivS (pv 0) (pv 2)) (pa_cons (pe_op op_fdivS (pv 1) (pv 2)) pa_nil)))))))), ?_⟩
    walk_at "gz"
    rw [if_neg hb]
    simp only [sp_greatest]
    walk_at "gz"
    have e : gcdI (if t < 0 then -t else t) (if b < 0 then -b else b) = gcdI t b := gcd_abs t b
    simp only [e]
    refine ⟨iabs_nn t, iabs_nn b, ?_⟩
    obtain ⟨_, _, _, _, _, s0, s1⟩ := rat_ok (t := t) hb
    have sB : Bd 4000 (sg t b) := Bd.up (n := 3000) (Nat.lt_of_le_of_lt s1 b1) (by decide)
    unfold rt rb at q
    split
    · rename_i h
      have es : sg t b = -gcdI t b := if_pos h
      rw [es] at s0 sB q
      exact ⟨s0, sB, s0, sB, line2, q⟩
    · rename_i h
      have es : sg t b = gcdI t b := if_neg h
      rw [es] at s0 sB q
      exact ⟨s0, sB, s0, sB, line2, q⟩
def sp_plus (K : PySem.W.Frag) : Sp := fun vs H Q _ => ∃ (v u : V) (a b c d : Int), vs = [v, u] ∧ IsP K H v a b ∧ IsP K H u c d ∧ 1 ≤ b ∧ 1 ≤ d ∧ Bd 1000 a ∧ Bd 1000 b ∧ Bd 1000 c ∧ Bd 1000 d ∧ ∀ p, H p = none → Q (.ref p) (upd H p (.tup [.int (rt (a * d + c * b) (b * d)), .int (rb (a * d + c * b) (b * d))]))
theorem ok_plus (T : Tx K mg) : FnOk P w K mg base (CXX P w) 3 T.a_plus T.fd_plus ["one", "other"] (sp_plus K) := by
  refine okN T.F_plus sc_plus (fun vs H Q E h => ?_) (fun cdv A outer s H vs Q E hr h => ?_)
  · obtain ⟨v, u, a, b, c, d, rfl, _⟩ := h
    rfl
  · obtain ⟨v, u, a, b, c, d, rfl, ⟨x, rfl, hx⟩, ⟨y, rfl, hy⟩, hb, hd, ba, bb, bc, bd, q⟩ := h
    refine ⟨_, (pss_one (ps_ret (pe_call (ok_ratio T) (hr.mono (by decide)) rfl T.m_ratio T.F_ratio.kp T.b_ratio .nil passE0 (pa_cons (pe_op op_add (pe_op op_mulB (pe_ix ix_seq (pv 0) pe_int (fun _ _ => rfl)) (pe_ix ix_seq (pv 1) pe_int (fun _ _ => rfl))) (pe_op op_mulB (pe_ix ix_seq (pv 1) pe_int (fun _ _ => rfl)) (pe_ix ix_seq (pv 0) pe_int (fun _ _ => rfl)))) (pa_cons (pe_op op_mulB (pe_ix ix_seq (pv 0) pe_int (fun _ _ => rfl)) (pe_ix ix_seq (pv 1) pe_int (fun _ _ => rfl))) pa_nil))))), ?_⟩
    walk_at "gz"
    refine ixT hx rfl (ixT hy rfl ?_)
    walk_at "gz"
    refine ⟨⟨ba.up (by decide), bd.up (by decide)⟩, ixT hy rfl (ixT hx rfl ?_)⟩
    walk_at "gz"
    refine ⟨⟨bc.up (by decide), bb.up (by decide)⟩, ixT hx rfl (ixT hy rfl ?_)⟩
    walk_at "gz"
    refine ⟨⟨bb.up (by decide), bd.up (by decide)⟩, _, _, rfl, Int.ne_of_gt (Int.mul_pos (by omega) (by omega)), (Bd.add (ba.mul bd) (bc.mul bb) (by decide) (by decide)), Bd.up (bb.mul bd) (by decide), q⟩
def sp_minus (K : PySem.W.Frag) : Sp := fun vs H Q _ => ∃ (v u : V) (a b c d : Int), vs = [v, u] ∧ IsP K H v a b ∧ IsP K H u c d ∧ 1 ≤ b ∧ 1 ≤ d ∧ Bd 1000 a ∧ Bd 1000 b ∧ Bd 1000 c ∧ Bd 1000 d ∧ ∀ p, H p = none → Q (.ref p) (upd H p (.tup [.int (rt (a * d - c * b) (b * d)), .int (rb (a * d - c * b) (b * d))]))
theorem ok_minus (T : Tx K mg) : FnOk P w K mg base (CXX P w) 3 T.a_minus T.fd_minus ["one", "other"] (sp_minus K) := by
  refine okN T.F_minus sc_minus (fun vs H Q E h => ?_) (fun cdv A outer s H vs Q E hr h => ?_)
  · obtain ⟨v, u, a, b, c, d, rfl, _⟩ := h
    rfl
  · obtain ⟨v, u, a, b, c, d, rfl, ⟨x, rfl, hx⟩, ⟨y, rfl, hy⟩, hb, hd, ba, bb, bc, bd, q⟩ := h
    refine ⟨_, (pss_one (ps_ret (pe_call (ok_ratio T) (hr.mono (by decide)) rfl T.m_ratio T.F_ratio.kp T.b_ratio .nil passE0 (pa_cons (pe_op op_sub (pe_op op_mulB (pe_ix ix_seq (pv 0) pe_int (fun _ _ => rfl)) (pe_ix ix_seq (pv 1) pe_int (fun _ _ => rfl))) (pe_op op_mulB (pe_ix ix_seq (pv 1) pe_int (fun _ _ => rfl)) (pe_ix ix_seq (pv 0) pe_int (fun _ _ => rfl)))) (pa_cons (pe_op op_mulB (pe_ix ix_seq (pv 0) pe_int (fun _ _ => rfl)) (pe_ix ix_seq (pv 1) pe_int (fun _ _ => rfl))) pa_nil))))), ?_⟩
    walk_at "gz"
    refine ixT hx rfl (ixT hy rfl ?_)
    walk_at "gz"
    refine ⟨⟨ba.up (by decide), bd.up (by decide)⟩, ixT hy rfl (ixT hx rfl ?_)⟩
    walk_at "gz"
    refine ⟨⟨bc.up (by decide), bb.up (by decide)⟩, ixT hx rfl (ixT hy rfl ?_)⟩
    walk_at "gz"
    refine ⟨⟨bb.up (by decide), bd.up (by decide)⟩, _, _, rfl, Int.ne_of_gt (Int.mul_pos (by omega) (by omega)), (Bd.sub (ba.mul bd) (bc.mul bb) (by decide) (by decide)), Bd.up (bb.mul bd) (by decide), q⟩
def sp_times (K : PySem.W.Frag) : Sp := fun vs H Q _ => ∃ (v u : V) (a b c d : Int), vs = [v, u] ∧ IsP K H v a b ∧ IsP K H u c d ∧ 1 ≤ b ∧ 1 ≤ d ∧ Bd 1000 a ∧ Bd 1000 b ∧ Bd 1000 c ∧ Bd 1000 d ∧ ∀ p, H p = none → Q (.ref p) (upd H p (.tup [.int (rt (a * c) (b * d)), .int (rb (a * c) (b * d))]))
theorem ok_times (T : Tx K mg) : FnOk P w K mg base (CXX P w) 3 T.a_times T.fd_times ["one", "other"] (sp_times K) := by
  refine okN T.F_times sc_times (fun vs H Q E h => ?_) (fun cdv A outer s H vs Q E hr h => ?_)
  · obtain ⟨v, u, a, b, c, d, rfl, _⟩ := h
    rfl
  · obtain ⟨v, u, a, b, c, d, rfl, ⟨x, rfl, hx⟩, ⟨y, rfl, hy⟩, hb, hd, ba, bb, bc, bd, q⟩ := h
    refine ⟨_, (pss_one (ps_ret (pe_call (ok_ratio T) (hr.mono (by decide)) rfl T.m_ratio T.F_ratio.kp T.b_ratio .nil passE0 (pa_cons (pe_op op_mulB (pe_ix ix_seq (pv 0) pe_int (fun _ _ => rfl)) (pe_ix ix_seq (pv 1) pe_int (fun _ _ => rfl))) (pa_cons (pe_op op_mulB (pe_ix ix_seq (pv 0) pe_int (fun _ _ => rfl)) (pe_ix ix_seq (pv 1) pe_int (fun _ _ => rfl))) pa_nil))))), ?_⟩
    walk_at "gz"
    refine ixT hx rfl (ixT hy rfl ?_)
    walk_at "gz"
    refine ⟨⟨ba.up (by decide), bc.up (by decide)⟩, ixT hx rfl (ixT hy rfl ?_)⟩
    walk_at "gz"
    refine ⟨⟨bb.up (by decide), bd.up (by decide)⟩, _, _, rfl, Int.ne_of_gt (Int.mul_pos (by omega) (by omega)), Bd.up (ba.mul bc) (by decide), Bd.up (bb.mul bd) (by decide), q⟩
def sp_under (K : PySem.W.Frag) : Sp := fun vs H Q _ => ∃ (v u : V) (a b c d : Int), vs = [v, u] ∧ IsP K H v a b ∧ IsP K H u c d ∧ Bd 1000 a ∧ Bd 1000 b ∧ Bd 1000 c ∧ Bd 1000 d ∧ Q (.bl (decide (a * d < c * b))) H
theorem ok_under (T : Tx K mg) : FnOk P w K mg base (CXX P w) 1 T.a_under T.fd_under ["one", "other"] (sp_under K) := by
  refine okN T.F_under sc_under (fun vs H Q E h => ?_) (fun cdv A outer s H vs Q E hr h => ?_)
  · obtain ⟨v, u, a, b, c, d, rfl, _⟩ := h
    rfl
  · obtain ⟨v, u, a, b, c, d, rfl, ⟨x, rfl, hx⟩, ⟨y, rfl, hy⟩, ba, bb, bc, bd, q⟩ := h
    refine ⟨_, (pss_one (ps_ret (pe_cmpR op_lt (pe_op op_mulB (pe_ix ix_seq (pv 0) pe_int (fun _ _ => rfl)) (pe_ix ix_seq (pv 1) pe_int (fun _ _ => rfl))) (pe_op op_mulB (pe_ix ix_seq (pv 1) pe_int (fun _ _ => rfl)) (pe_ix ix_seq (pv 0) pe_int (fun _ _ => rfl))) (nomark _)))), ?_⟩
    walk_at "gz"
    refine ixT hx rfl (ixT hy rfl ?_)
    walk_at "gz"
    refine ⟨⟨ba.up (by decide), bd.up (by decide)⟩, ixT hy rfl (ixT hx rfl ?_)⟩
    walk_at "gz"
    exact ⟨⟨bc.up (by decide), bb.up (by decide)⟩, q⟩
def sp_rising (K : PySem.W.Frag) : Sp := fun vs H Q _ => ∃ (a : Addr) (ns : List Int), vs = [.ref a] ∧ SqL K H a (ns.map V.int) ∧ ns.length ≤ 1000 ∧ ∀ H', Same H H' → Q (.bl (ris ns)) H'
theorem ok_is_rising (T : Tx K mg) : FnOk P w K mg base (CXX P w) 1 T.a_is_rising T.fd_is_rising ["numbers"] (sp_rising K) := by
  refine okN T.F_is_rising sc_is_rising (fun vs H Q E h => ?_) (fun cdv A outer s H vs Q E hr h => ?_)
  · obtain ⟨a, ns, rfl, _⟩ := h
    rfl
  · obtain ⟨a, ns, rfl, hS, hn, q⟩ := h
    refine ⟨_, (pss_one (ps_ret (pe_callB (call_allL rfl) (by rfl) T.n_all b_all (pa_cons (pe_compG (g := gTup K 2 (gCons (gName 0) (gCons (gName 1) gNil))) (CompOkG.mk (own := ["one", "later"]) (fr := []) (ys := []) rfl (by decide +kernel) rfl (by decide +kernel) rfl .nil .nil rfl) rfl (pi_zip rfl T.n_zip (pa_cons (pv 0) (pa_cons (pe_slice sl_list (pv 0) (po_some pe_int) po_none) pa_nil))) (fun C s2 H2 ex pn => pg_tup (n := 2) rfl (pgs_cons (pg_name (i := 0) (show (["one", "later"] : List Str).Nodup by decide) rfl (.inl (lookup_relabel_local rfl)) (.inr (lookup_relabel_local rfl))) (pgs_cons (pg_name (i := 1) (show (["one", "later"] : List Str).Nodup by decide) rfl (.inl (lookup_relabel_local rfl)) (.inr (lookup_relabel_local rfl))) pgs_nil))) (fun C s2 H2 ex pn => ⟨pts_nil, (pe_cmpR op_lt (pv 0) (pv 1) (nomark _))⟩)) pa_nil)))), ?_⟩
    walk_at "gzn"
    refine ⟨_, hS, fun p hp => ?_⟩
    rw [show (1 : Int) = ((1 : Nat) : Int) from rfl, cutV_from, ← List.map_drop]
    have s1 := same_upd (o := .lst ((ns.drop 1).map V.int)) hp
    have P1 : upd H p (.lst ((ns.drop 1).map V.int)) p = some (.lst ((ns.drop 1).map V.int)) := upd_same
    generalize upd H p (.lst ((ns.drop 1).map V.int)) = H1 at s1 P1 ⊢
    have hz : ((ns.map V.int).zip ((ns.drop 1).map V.int)).length ≤ sizeLine := by
      rw [List.length_zip, List.length_map]
      exact Nat.le_trans (Nat.min_le_left _ _) (Nat.le_trans hn (by decide))
    refine ⟨⟨_, s1.seq hS⟩, ⟨_, SqL.of P1⟩, blk_zip (xs := ns.map V.int) (ys := (ns.drop 1).map V.int) hz (pairGo_map (p := fun _ => true) (f := ltV) (fun H' s' => ⟨(s1.trans s').seq hS, SqL.of (s' _ _ P1)⟩) (fun r hr0 H' s' Q h => ?_) (fun r hr0 _ H' s' Q h => ?_) fun H' s' => ?_)⟩
    · walk_at "gz"
      exact h
    · rw [zip_ints] at hr0
      obtain ⟨⟨x, y⟩, _, rfl⟩ := List.mem_map.mp hr0
      walk_at "gz"
      exact h
    · rw [List.nil_append, filter_tt, zip_ints, List.map_map]
      intro l hl
      refine ⟨l, rfl, (ns.zip (ns.drop 1)).map fun r => decide (r.1 < r.2), SqL.of ?_, ?_⟩
      · rw [upd_same, List.map_map]; rfl
      · rw [List.all_map]
        exact q _ ((s1.trans s').trans (same_upd hl))
def sp_widened : Sp := fun vs H Q _ => ∃ (v : V) (a b : En) (k : Int), vs = [v, .int k] ∧ IsS H v a b ∧ ∀ p, H p = none → Q (.ref p) (upd H p (.tup [ev (subE a k), ev (addE b k)]))
theorem ok_widened (T : Tx K mg) : FnOk P w K mg base (CXX P w) 1 T.a_widened T.fd_widened ["one", "by"] sp_widened := by
  refine okN T.F_widened sc_widened (fun vs H Q E h => ?_) (fun cdv A outer s H vs Q E hr h => ?_)
  · obtain ⟨v, a, b, k, rfl, _⟩ := h
    rfl
  · obtain ⟨v, a, b, k, rfl, ⟨p, rfl, hp⟩, q⟩ := h
    refine ⟨_, (pss_cons (ps_set (i := 2) sc_widened.nd rfl (Or.inl rfl) (pe_ifExp (pt_cmp (pc_isN (pe_ix ix_seq (pv 0) pe_int (fun _ _ => rfl)))) pe_non (pe_op op_sub (pe_ix ix_seq (pv 0) pe_int (fun _ _ => rfl)) (pv 1))))
    (pss_cons (ps_set (i := 3) sc_widened.nd rfl (Or.inl rfl) (pe_ifExp (pt_cmp (pc_isN (pe_ix ix_seq (pv 0) pe_int (fun _ _ => rfl)))) pe_non (pe_op op_add (pe_ix ix_seq (pv 0) pe_int (fun _ _ => rfl)) (pv 1))))
    (pss_one (ps_ret (pe_tup (pa_cons (pv 2) (pa_cons (pv 3) pa_nil))))))), ?_⟩
    rcases a with _ | x
    · walk_at "gz"
      refine ixT (SqT.of hp) rfl ?_
      walk_at "gz"
      refine ixT (SqT.of hp) rfl ?_
      rcases b with _ | y
      · walk_at "gz"
        exact ⟨line2, q⟩
      · walk_at "gz"
        refine ixT (SqT.of hp) rfl ?_
        walk_at "gz"
        exact ⟨line2, q⟩
    · walk_at "gz"
      refine ixT (SqT.of hp) rfl ?_
      walk_at "gz"
      refine ixT (SqT.of hp) rfl ?_
      walk_at "gz"
      refine ixT (SqT.of hp) rfl ?_
      rcases b with _ | y
      · walk_at "gz"
        exact ⟨line2, q⟩
      · walk_at "gz"
        refine ixT (SqT.of hp) rfl ?_
        walk_at "gz"
        exact ⟨line2, q⟩
def sp_floored (K : PySem.W.Frag) : Sp := fun vs H Q _ => ∃ (v : V) (t b : Int), vs = [v] ∧ IsP K H v t b ∧ 0 < b ∧ Bd 4000 b ∧ Q (.int (t / b)) H
theorem ok_floored (T : Tx K mg) : FnOk P w K mg base (CXX P w) 1 T.a_floored T.fd_floored ["one"] (sp_floored K) := by
  refine okN T.F_floored sc_floored (fun vs H Q E h => ?_) (fun cdv A outer s H vs Q E hr h => ?_)
  · obtain ⟨v, t, b, rfl, _⟩ := h
    rfl
  · obtain ⟨v, t, b, rfl, ⟨p, rfl, hS⟩, h0, hb, q⟩ := h
    refine ⟨_, (pss_one (ps_ret (pe_op op_fdivB (pe_ix ix_seq (pv 0) pe_int (fun _ _ => rfl)) (pe_ix ix_seq (pv 0) pe_int (fun _ _ => rfl))))), ?_⟩
    walk_at "gz"
    refine ixT hS rfl (ixT hS rfl ?_)
    walk_at "gz"
    exact ⟨h0, hb, q⟩
def sp_raised (K : PySem.W.Frag) : Sp := fun vs H Q _ => ∃ (v : V) (t b : Int), vs = [v] ∧ IsP K H v t b ∧ 0 < b ∧ Bd 4000 b ∧ Q (.int (ceilI t b)) H
theorem ok_raised (T : Tx K mg) : FnOk P w K mg base (CXX P w) 1 T.a_raised T.fd_raised ["one"] (sp_raised K) := by
  refine okN T.F_raised sc_raised (fun vs H Q E h => ?_) (fun cdv A outer s H vs Q E hr h => ?_)
  · obtain ⟨v, t, b, rfl, _⟩ := h
    rfl
  · obtain ⟨v, t, b, rfl, ⟨p, rfl, hS⟩, h0, hb, q⟩ := h
    refine ⟨_, (pss_one (ps_ret (pe_un un_neg (pe_op op_fdivB (pe_un un_neg (pe_ix ix_seq (pv 0) pe_int (fun _ _ => rfl))) (pe_ix ix_seq (pv 0) pe_int (fun _ _ => rfl)))))), ?_⟩
    walk_at "gz"
    refine ixT hS rfl ?_
    walk_at "gz"
    refine ixT hS rfl ?_
    walk_at "gz"
    exact ⟨h0, hb, q⟩
def tBits (P N : Nat) : Nat := max P (N + 250) + 253
def sp_online (K : PySem.W.Frag) : Sp := fun vs H Q _ => ∃ (u v w : V) (s e : P2) (p q : Int) (P N : Nat), vs = [u, v, w] ∧ IsPt H u s ∧ IsPt H v e ∧ IsR H w p q ∧ (Bd 250 s.1 ∧ Bd 250 s.2) ∧ (Bd 250 e.1 ∧ Bd 250 e.2) ∧ Bd P p ∧ Bd N q ∧ P ≤ 653 ∧ N ≤ 352 ∧ 1 ≤ q ∧ s.1 < e.1 ∧
  ∀ v t b H', Same H H' → IsR H' v t b → 1 ≤ b → gcdI t b = 1 → onl s e p q t b → Bd (tBits P N) t → Bd (N + 252) b → Q v H'
theorem ok_on_line (T : Tx K mg) : FnOk P w K mg base (CXX P w) 4 T.a_on_line T.fd_on_line ["start", "end", "one"] (sp_online K) := by
  refine okN T.F_on_line sc_on_line (fun vs H Q E h => ?_) (fun cdv A outer s H vs Q E hr h => ?_)
  · obtain ⟨u, v, w, s, e, p, q, P, N, rfl, _⟩ := h
    rfl
  · obtain ⟨u, v, w, s, e, p, q, P, N, rfl, ⟨ua, rfl, hu⟩, ⟨va, rfl, hv⟩, hw, bs, be, bp, bq, hP6, hN3, hq, hlt, qq⟩ := h
    refine ⟨_, (pss_cons (ps_set (i := 3) sc_on_line.nd rfl (Or.inl rfl) (pe_call (ok_ratio T) (hr.mono (by decide)) rfl T.m_ratio T.F_ratio.kp T.b_ratio .nil passE0 (pa_cons (pe_op op_sub (pe_ix ix_seq (pv 1) pe_int (fun _ _ => rfl)) (pe_ix ix_seq (pv 0) pe_int (fun _ _ => rfl))) (pa_cons (pe_op op_sub (pe_ix ix_seq (pv 1) pe_int (fun _ _ => rfl)) (pe_ix ix_seq (pv 0) pe_int (fun _ _ => rfl))) pa_nil))))
    (pss_one (ps_ret (pe_call (ok_plus T) (hr.mono (by decide)) rfl T.m_plus T.F_plus.kp T.b_plus .nil passE0 (pa_cons (pe_tup (pa_cons (pe_ix ix_seq (pv 0) pe_int (fun _ _ => rfl)) (pa_cons pe_int pa_nil))) (pa_cons (pe_call (ok_times T) (hr.mono (by decide)) rfl T.m_times T.F_times.kp T.b_times .nil passE0 (pa_cons (pe_call (ok_minus T) (hr.mono (by decide)) rfl T.m_minus T.F_minus.kp T.b_minus .nil passE0 (pa_cons (pv 2) (pa_cons (pe_tup (pa_cons (pe_ix ix_seq (pv 0) pe_int (fun _ _ => rfl)) (pa_cons pe_int pa_nil))) pa_nil))) (pa_cons (pv 3) pa_nil))) pa_nil)))))), ?_⟩
    have b1 := be.1.sub bs.1 (k := 251) (by decide) (by decide)
    have b2 := be.2.sub bs.2 (k := 251) (by decide) (by decide)
    walk_at "gz"
    refine ixT (SqT.of hv) rfl (ixT (SqT.of hu) rfl ?_)
    walk_at "gz"
    refine ixT (SqT.of hv) rfl (ixT (SqT.of hu) rfl ?_)
    walk_at "gz"
    refine ⟨_, _, rfl, by omega, b2.up (by decide), b1.up (by decide), fun a1 ha1 => ?_⟩
    obtain ⟨r1, r2, _, r4, r5, _, _⟩ := rat_ok (t := e.2 - s.2) (b := e.1 - s.1) (by omega)
    have c1 : Bd 251 (rt (e.2 - s.2) (e.1 - s.1)) := Nat.lt_of_le_of_lt r4 b2
    have c2 : Bd 251 (rb (e.2 - s.2) (e.1 - s.1)) := Nat.lt_of_le_of_lt r5 b1
    generalize rt (e.2 - s.2) (e.1 - s.1) = s1 at r2 c1 ⊢
    generalize rb (e.2 - s.2) (e.1 - s.1) = s2 at r1 r2 c2 ⊢
    have S1 := same_upd (o := .tup [.int s1, .int s2]) ha1
    have A1 : IsR (upd H a1 (.tup [.int s1, .int s2])) (.ref a1) s1 s2 := ⟨_, rfl, upd_same⟩
    generalize upd H a1 (.tup [.int s1, .int s2]) = H1 at S1 A1 ⊢
    walk_at "gz"
    refine ixT (SqT.of (S1 _ _ hu)) rfl ⟨line2, fun a2 ha2 => ?_⟩
    have S2 := same_upd (o := .tup [.int s.2, .int 1]) ha2
    have A2 : IsR (upd H1 a2 (.tup [.int s.2, .int 1])) (.ref a2) s.2 1 := ⟨_, rfl, upd_same⟩
    generalize upd H1 a2 (.tup [.int s.2, .int 1]) = H2 at S2 A2 ⊢
    refine ixT (SqT.of ((S1.trans S2) _ _ hu)) rfl ⟨line2, fun a3 ha3 => ?_⟩
    have S3 := same_upd (o := .tup [.int s.1, .int 1]) ha3
    have A3 : IsR (upd H2 a3 (.tup [.int s.1, .int 1])) (.ref a3) s.1 1 := ⟨_, rfl, upd_same⟩
    generalize upd H2 a3 (.tup [.int s.1, .int 1]) = H3 at S3 A3 ⊢
    have T3 := S1.trans (S2.trans S3)
    have one1 : Bd 1000 1 := Bd.up (n := 1) (by show 1 < 2; decide) (by decide)
    refine ⟨_, _, p, q, s.1, 1, rfl, (hw.same T3).p, A3.p, hq, Int.le_refl _, bp.up (by omega), bq.up (by omega), bs.1.up (by decide), one1, fun a4 ha4 => ?_⟩
    have hm1 : P ≤ max P (N + 250) := Nat.le_max_left ..
    have hm2 : N + 250 ≤ max P (N + 250) := Nat.le_max_right ..
    have hm : max P (N + 250) ≤ 653 := Nat.max_le.mpr ⟨hP6, by omega⟩
    have etB : tBits P N = max P (N + 250) + 253 := rfl
    rw [etB] at qq
    generalize max P (N + 250) = m at hm1 hm2 hm qq
    have bm : Bd (m + 1) (p * 1 - s.1 * q) := by
      rw [Int.mul_one]
      exact bp.sub (bs.1.mul bq) (by omega) (by omega)
    obtain ⟨m1, m2, _, m4, m5, _, _⟩ := rat_ok (t := p * 1 - s.1 * q) (b := q * 1) (by omega)
    have d1 : Bd (m + 1) (rt (p * 1 - s.1 * q) (q * 1)) := Nat.lt_of_le_of_lt m4 bm
    have d2 : Bd N (rb (p * 1 - s.1 * q) (q * 1)) := by
      have := Nat.lt_of_le_of_lt m5 (show (q * 1).natAbs < 2 ^ N by rw [Int.mul_one]; exact bq)
      exact this
    generalize rt (p * 1 - s.1 * q) (q * 1) = mm1 at m2 d1 ⊢
    generalize rb (p * 1 - s.1 * q) (q * 1) = mm2 at m1 m2 d2 ⊢
    have S4 := same_upd (o := .tup [.int mm1, .int mm2]) ha4
    have A4 : IsR (upd H3 a4 (.tup [.int mm1, .int mm2])) (.ref a4) mm1 mm2 := ⟨_, rfl, upd_same⟩
    generalize upd H3 a4 (.tup [.int mm1, .int mm2]) = H4 at S4 A4 ⊢
    refine ⟨_, _, mm1, mm2, s1, s2, rfl, A4.p, ((A1.same S2).same (S3.trans S4)).p, m1, r1, d1.up (by omega), d2.up (by omega), c1.up (by decide), c2.up (by decide), fun a5 ha5 => ?_⟩
    have n1 : mm2 * s2 ≠ 0 := Int.mul_ne_zero (by omega) (by omega)
    obtain ⟨x1, x2, _, x4, x5, _, _⟩ := rat_ok (t := mm1 * s1) (b := mm2 * s2) n1
    have f1 : Bd (m + 1 + 251) (rt (mm1 * s1) (mm2 * s2)) := Nat.lt_of_le_of_lt x4 (d1.mul c1)
    have f2 : Bd (N + 251) (rb (mm1 * s1) (mm2 * s2)) := Nat.lt_of_le_of_lt x5 (d2.mul c2)
    generalize rt (mm1 * s1) (mm2 * s2) = xx1 at x2 f1 ⊢
    generalize rb (mm1 * s1) (mm2 * s2) = xx2 at x1 x2 f2 ⊢
    have S5 := same_upd (o := .tup [.int xx1, .int xx2]) ha5
    have A5 : IsR (upd H4 a5 (.tup [.int xx1, .int xx2])) (.ref a5) xx1 xx2 := ⟨_, rfl, upd_same⟩
    generalize upd H4 a5 (.tup [.int xx1, .int xx2]) = H5 at S5 A5 ⊢
    refine ⟨_, _, s.2, 1, xx1, xx2, rfl, (A2.same (S3.trans (S4.trans S5))).p, A5.p, Int.le_refl _, x1, bs.2.up (by decide), one1, f1.up (by omega), f2.up (by omega), fun a6 ha6 => ?_⟩
    have n2 : (1 : Int) * xx2 ≠ 0 := by omega
    obtain ⟨y1, y2, y3, y4, y5, _, _⟩ := rat_ok (t := s.2 * xx2 + xx1 * 1) (b := 1 * xx2) n2
    have g1 : Bd (m + 253) (s.2 * xx2 + xx1 * 1) := by
      rw [Int.mul_one]
      exact (bs.2.mul f2).add f1 (by omega) (by omega)
    refine qq _ _ _ _ (T3.trans (S4.trans (S5.trans (same_upd ha6)))) ⟨_, rfl, upd_same⟩ y1 y3 ?_ (Nat.lt_of_le_of_lt y4 g1) ?_
    · unfold onl
      rw [Int.mul_one, Int.one_mul] at y2
      rw [Int.mul_one, Int.mul_one] at m2
      rw [Int.mul_one, Int.one_mul]
      exact chain_line r2 m2 x2 y2 (by omega) (by omega) (by omega)
    · refine Bd.up (n := N + 251) (Nat.lt_of_le_of_lt y5 ?_) (by omega)
      rw [Int.one_mul]; exact f2
def btw (s e : P2) (p q : Int) : Bool := decide (s.1 * q ≤ p) && decide (p ≤ e.1 * q)
def sp_btw (K : PySem.W.Frag) : Sp := fun vs H Q _ => ∃ (u v w : V) (s e : P2) (p q : Int) (P N : Nat), vs = [u, v, w] ∧ IsPt H u s ∧ IsPt H v e ∧ IsR H w p q ∧ Bd 250 s.1 ∧ Bd 250 e.1 ∧ Bd P p ∧ Bd N q ∧ P ≤ 653 ∧ N ≤ 352 ∧ ∀ H', Same H H' → Q (.bl (btw s e p q)) H'
theorem ok_lies_between (T : Tx K mg) : FnOk P w K mg base (CXX P w) 2 T.a_lies_between T.fd_lies_between ["start", "end", "one"] (sp_btw K) := by
  refine okN T.F_lies_between sc_lies_between (fun vs H Q E h => ?_) (fun cdv A outer s H vs Q E hr h => ?_)
  · obtain ⟨u, v, w, s, e, p, q, P, N, rfl, _⟩ := h
    rfl
  · obtain ⟨u, v, w, s, e, p, q, P, N, rfl, ⟨ua, rfl, hu⟩, ⟨va, rfl, hv⟩, hw, bs, be, bp, bq, hP6, hN3, qq⟩ := h
    refine ⟨_, (pss_one (ps_ret (pe_and (pe_not (pe_call (ok_under T) (hr.mono (by decide)) rfl T.m_under T.F_under.kp T.b_under .nil passE0 (pa_cons (pv 2) (pa_cons (pe_tup (pa_cons (pe_ix ix_seq (pv 0) pe_int (fun _ _ => rfl)) (pa_cons pe_int pa_nil))) pa_nil)))) (pe_one (pe_not (pe_call (ok_under T) (hr.mono (by decide)) rfl T.m_under T.F_under.kp T.b_under .nil passE0 (pa_cons (pe_tup (pa_cons (pe_ix ix_seq (pv 1) pe_int (fun _ _ => rfl)) (pa_cons pe_int pa_nil))) (pa_cons (pv 2) pa_nil)))))))), ?_⟩
    have one1 : Bd 1000 1 := Bd.up (n := 1) (by show 1 < 2; decide) (by decide)
    walk_at "gz"
    refine ixT (SqT.of hu) rfl ⟨line2, fun a1 ha1 => ?_⟩
    have S1 := same_upd (o := .tup [.int s.1, .int 1]) ha1
    have A1 : IsR (upd H a1 (.tup [.int s.1, .int 1])) (.ref a1) s.1 1 := ⟨_, rfl, upd_same⟩
    generalize upd H a1 (.tup [.int s.1, .int 1]) = H1 at S1 A1 ⊢
    refine ⟨_, _, p, q, s.1, 1, rfl, (hw.same S1).p, A1.p, bp.up (by omega), bq.up (by omega), bs.up (by decide), one1, ?_⟩
    rw [Int.mul_one]
    by_cases h1 : p < s.1 * q
    · rw [decide_eq_true h1]
      walk_at "gz"
      have e : btw s e p q = false := by unfold btw; rw [decide_eq_false (by omega)]; rfl
      rw [e] at qq
      exact qq _ S1
    · rw [decide_eq_false h1]
      walk_at "gz"
      refine ixT (SqT.of (S1 _ _ hv)) rfl ⟨line2, fun a2 ha2 => ?_⟩
      have S2 := same_upd (o := .tup [.int e.1, .int 1]) ha2
      have A2 : IsR (upd H1 a2 (.tup [.int e.1, .int 1])) (.ref a2) e.1 1 := ⟨_, rfl, upd_same⟩
      generalize upd H1 a2 (.tup [.int e.1, .int 1]) = H2 at S2 A2 ⊢
      refine ⟨_, _, e.1, 1, p, q, rfl, A2.p, (hw.same (S1.trans S2)).p, be.up (by decide), one1, bp.up (by omega), bq.up (by omega), ?_⟩
      rw [Int.mul_one]
      have e0 : btw s e p q = !decide (e.1 * q < p) := by
        unfold btw
        rw [decide_eq_true (by omega), Bool.true_and]
        by_cases h2 : e.1 * q < p
        · rw [decide_eq_true h2, decide_eq_false (by omega)]; rfl
        · rw [decide_eq_false h2, decide_eq_true (by omega)]; rfl
      rw [e0] at qq
      walk_at "gz"
      exact qq _ (S1.trans S2)
def sp_led (K : PySem.W.Frag) (C : Addr) : Sp := fun vs H Q E => ∃ (a : Addr) (xs : List V) (ks : List P2) (w : V) (p q : Int) (P N : Nat), vs = [.ref a, w] ∧ SqL K H a xs ∧ Pts H xs ks ∧ BQ ks ∧ ks.length ≤ 1000 ∧ ris (ks.map (·.1)) = true ∧ IsR H w p q ∧ Bd P p ∧ Bd N q ∧ P ≤ 653 ∧ N ≤ 352 ∧ 1 ≤ q ∧
  (hit ks p q → ∀ v t b H', Same H H' → IsR H' v t b → Led ks p q t b → Bd (tBits P N) t → Bd (N + 252) b → Q v H') ∧ (¬ hit ks p q → ∀ H', Same H H' → E (.ref C) none H')
def inv_led (H : Hp) (a m : Addr) (w : V) (ks : List P2) (p q : Int) (ys : List V) (i : Nat) (σ : St) (H1 : Hp) : Prop := ∃ (e1 e2 : Option V), σ = [some (.ref a), some w, e1, e2] ∧ Same H H1 ∧ H1 m = some (.lst ys) ∧ ∀ j, j < i → ¬ inP ks p q j
theorem ok_led (T : Tx K mg) : FnOk P w K mg base (CXX P w) 5 T.a_led T.fd_led ["pairs", "one"] (sp_led K T.C_OffGauge) := by
  refine okX T.F_led sc_led (fun vs H Q E h => ?_) (fun cdv A outer s H vs Q E hr h => ?_)
  · obtain ⟨a, xs, ks, w, p, q, P, N, rfl, _⟩ := h
    rfl
  · obtain ⟨a, xs, ks, w, p, q, P, N, rfl, hS, hP, hB, hn, hr1, hw, bp, bq, hP6, hN3, hq, q1, q0⟩ := h
    refine ⟨_, (pss_cons (ps_for PassesOwn.leaving rfl (pi_zip rfl T.n_zip (pa_cons (pv 0) (pa_cons (pe_slice sl_list (pv 0) (po_some pe_int) po_none) pa_nil))) (pg_tup rfl (pgs_cons (pg_name (i := 2) sc_led.nd rfl (Or.inl rfl)) (pgs_cons (pg_name (i := 3) sc_led.nd rfl (Or.inl rfl)) pgs_nil))) (pss_one (ps_if (pt_val (pe_call (ok_lies_between T) (hr.mono (by decide)) rfl T.m_lies_between T.F_lies_between.kp T.b_lies_between .nil passE0 (pa_cons (pv 2) (pa_cons (pv 3) (pa_cons (pv 1) pa_nil))))) (pss_one (ps_ret (pe_call (ok_on_line T) (hr.mono (by decide)) rfl T.m_on_line T.F_on_line.kp T.b_on_line .nil passE0 (pa_cons (pv 2) (pa_cons (pv 3) (pa_cons (pv 1) pa_nil)))))) pss_nil)))
    (pss_one (ps_raise raise_up rfl T.c_OffGauge T.xc_OffGauge rfl (pa_cons pe_str pa_nil)))), ?_⟩
    have hl := hP.len
    walk_at "gzn"
    refine ⟨_, hS, fun m hm => ?_⟩
    rw [show (1 : Int) = ((1 : Nat) : Int) from rfl, cutV_from]
    have S1 := same_upd (o := .lst (xs.drop 1)) hm
    have M1 : upd H m (.lst (xs.drop 1)) m = some (.lst (xs.drop 1)) := upd_same
    generalize upd H m (.lst (xs.drop 1)) = H1 at S1 M1 ⊢
    refine ⟨⟨_, S1.seq hS⟩, ⟨_, SqL.of M1⟩, by_zip (xs := xs) (ys := xs.drop 1) (inv_led H a m w ks p q (xs.drop 1)) ⟨_, _, rfl, S1, M1, fun j h => absurd h (by omega)⟩ ?_ ?_ ?_⟩
    · rintro i σ H2 ⟨_, _, _, s2, m2, _⟩
      exact ⟨s2.seq hS, SqL.of m2⟩
    · rintro i x y σ H2 z hx hy ⟨e1, e2, rfl, s2, m2, hno⟩ hz
      rw [List.getElem?_drop] at hy
      obtain ⟨s, es, rs⟩ := hP.get hx
      obtain ⟨e, ee, re⟩ := hP.get hy
      have hi : i + 1 < ks.length := by have := (List.getElem?_eq_some_iff.mp ee).1; omega
      have eS : ptD ks i = s := by unfold ptD; rw [List.getD_eq_getElem?_getD, es]; rfl
      have eE : ptD ks (i + 1) = e := by unfold ptD; rw [List.getD_eq_getElem?_getD, show i + 1 = 1 + i by omega, ee]; rfl
      have s3 := same_upd (o := .tup [x, y]) hz
      have S3 := s2.trans s3
      refine gTup2 (SqT.of upd_same) ?_
      have m3 := s3 _ _ m2
      generalize upd H2 z (.tup [x, y]) = H3 at S3 m3 ⊢
      walk_at "gzn"
      refine ⟨_, _, _, s, e, p, q, P, N, rfl, rs.same S3, re.same S3, hw.same S3, (hB s (List.mem_of_getElem? es)).1, (hB e (List.mem_of_getElem? ee)).1, bp, bq, hP6, hN3, fun H4 s4 => ?_⟩
      have S4 := S3.trans s4
      cases hc : btw s e p q with
      | true =>
        walk_at "gzn"
        have hin : inP ks p q i := by
          unfold btw at hc
          rw [Bool.and_eq_true, decide_eq_true_eq, decide_eq_true_eq] at hc
          refine ⟨hi, ?_, ?_⟩
          · rw [eS]; exact hc.1
          · rw [eE]; exact hc.2
        have hlt := ris_lt1 hr1 (i := i) (j := i + 1) (by omega) hi
        rw [eS, eE] at hlt
        refine ⟨_, _, _, s, e, p, q, P, N, rfl, rs.same S4, re.same S4, hw.same S4, hB s (List.mem_of_getElem? es), hB e (List.mem_of_getElem? ee), bp, bq, hP6, hN3, hq, hlt, fun v t b H5 s5 hv h1 h2 h3 h4 h5 => ?_⟩
        refine q1 ⟨i, hin⟩ v t b H5 (S4.trans s5) hv (Led.of hr1 (by omega) h1 h2 hin hno ?_) h4 h5
        rw [eS, eE]; exact h3
      | false =>
        walk_at "gzn"
        refine ⟨_, _, rfl, S4, s4 _ _ m3, fun j hj hjn => ?_⟩
        by_cases hji : j = i
        · subst hji
          obtain ⟨_, k1, k2⟩ := hjn
          rw [eS] at k1
          rw [eE] at k2
          unfold btw at hc
          rw [decide_eq_true k1, decide_eq_true k2] at hc
          cases hc
        · exact hno j (by omega) hjn
    · rintro σ H2 ⟨e1, e2, rfl, s2, m2, hno⟩
      walk_at "gzn"
      refine ⟨by decide, q0 ?_ _ s2⟩
      rintro ⟨j, hj⟩
      refine hno j ?_ hj
      have := hj.1
      rw [List.length_drop]; omega
def sp_ginit (K : PySem.W.Frag) (C G : Addr) : Sp := fun vs H Q E => ∃ (x dx a : Addr) (xs : List V) (ks : List P2), vs = [.ref x, .ref a] ∧ H x = some (.ins G dx []) ∧ SqL K H a xs ∧ Pts H xs ks ∧ ks.length ≤ 1000 ∧ (¬ okKn ks → ∀ H', Same H H' → E (.ref C) none H') ∧
  (okKn ks → ∀ l H', SameBut x H H' → H' x = some (.ins G dx [("knots", .ref l)]) → H l = none → H' l = some (.lst xs) → Q .non H')
theorem ok_Gauge_init__ (T : Tx K mg) : FnOk P w K mg base (CXX P w) 2 T.a_Gauge_init__ T.fd_Gauge_init__ ["self", "knots"] (sp_ginit K T.C_NoGauge T.C_Gauge) := by
  refine okX T.F_Gauge_init__ sc_Gauge_init__ (fun vs H Q E h => ?_) (fun cdv A outer s H vs Q E hr h => ?_)
  · obtain ⟨x, dx, a, xs, ks, rfl, _⟩ := h
    rfl
  · obtain ⟨x, dx, a, xs, ks, rfl, hx, hS, hP, hn, q0, q⟩ := h
    refine ⟨_, (pss_cons (ps_setComp (i := 2) (CompOk.mk (fr := []) (ys := []) rfl (by decide +kernel) rfl (by decide +kernel) rfl rfl .nil .nil (by decide) rfl) rfl sc_Gauge_init__.nd rfl rfl (pi_list (pv 1)) (fun C s2 H2 ex pn => ⟨pts_nil, (pe_ix (ix_seqK (K := K) rfl) (pv 0) pe_int (fun _ _ => rfl))⟩))
    (pss_cons (ps_setComp (i := 3) (CompOk.mk (fr := []) (ys := []) rfl (by decide +kernel) rfl (by decide +kernel) rfl rfl .nil .nil (by decide) rfl) rfl sc_Gauge_init__.nd rfl rfl (pi_list (pv 1)) (fun C s2 H2 ex pn => ⟨pts_nil, (pe_ix (ix_seqK (K := K) rfl) (pv 0) pe_int (fun _ _ => rfl))⟩))
    (pss_cons (ps_if (PW.pt (pw_or (pt_cmpR op_lt (pe_callB call_len (by rfl) T.n_len b_len (pa_cons (pv 1) pa_nil)) pe_int (nomark _)) (pw_or (pt_not (pt_val (pe_call (ok_is_rising T) (hr.mono (by decide)) rfl T.m_is_rising T.F_is_rising.kp T.b_is_rising .nil passE0 (pa_cons (pv 2) pa_nil)))) (pw_or1 (pt_not (pt_val (pe_call (ok_is_rising T) (hr.mono (by decide)) rfl T.m_is_rising T.F_is_rising.kp T.b_is_rising .nil passE0 (pa_cons (pv 3) pa_nil)))))))) (pss_one (ps_raise raise_up rfl T.c_NoGauge T.xc_NoGauge rfl (pa_cons pe_str pa_nil))) pss_nil)
    (pss_one (ps_fld (pv 0) (pe_callTy call_list_of (by rfl) T.n_list b_list (pa_cons (pv 1) pa_nil)) rfl))))), ?_⟩
    have hl := hP.len
    walk_at "gz"
    refine ⟨⟨_, hS⟩, blk_of it_list (Nat.le_trans (by omega : xs.length ≤ 1000) (by decide)) (compGo_all (R := IsPt H) (p := fun _ => true) (f := fun p => .int p.1) hS hP (fun x a _ r Q h => ?_) (fun x a _ _ r Q h => ?_) ?_)⟩
    · walk_at "gz"
      exact h
    · obtain ⟨t, rfl, ht⟩ := r
      walk_at "gz"
      exact ixT (SqT.of ht) rfl h
    rw [List.nil_append, filter_tt, show (ks.map fun p => V.int p.1) = (ks.map (·.1)).map V.int by rw [List.map_map]; rfl]
    intro l1 hl1
    have S1 := same_upd (o := .lst ((ks.map (·.1)).map V.int)) hl1
    have A1 : upd H l1 (.lst ((ks.map (·.1)).map V.int)) l1 = some (.lst ((ks.map (·.1)).map V.int)) := upd_same
    generalize upd H l1 (.lst ((ks.map (·.1)).map V.int)) = H1 at S1 A1 ⊢
    have hP1 := hP.same S1
    walk_at "gz"
    refine ⟨⟨_, S1.seq hS⟩, blk_of it_list (Nat.le_trans (by omega : xs.length ≤ 1000) (by decide)) (compGo_all (R := IsPt H1) (p := fun _ => true) (f := fun p => .int p.2) (S1.seq hS) hP1 (fun x a _ r Q h => ?_) (fun x a _ _ r Q h => ?_) ?_)⟩
    · walk_at "gz"
      exact h
    · obtain ⟨t, rfl, ht⟩ := r
      walk_at "gz"
      exact ixT (SqT.of ht) rfl h
    rw [List.nil_append, filter_tt, show (ks.map fun p => V.int p.2) = (ks.map (·.2)).map V.int by rw [List.map_map]; rfl]
    intro l2 hl2
    have S2 := same_upd (o := .lst ((ks.map (·.2)).map V.int)) hl2
    have A2 : upd H1 l2 (.lst ((ks.map (·.2)).map V.int)) l2 = some (.lst ((ks.map (·.2)).map V.int)) := upd_same
    generalize upd H1 l2 (.lst ((ks.map (·.2)).map V.int)) = H2 at S2 A2 ⊢
    have T2 := S1.trans S2
    walk_at "gz"
    refine ⟨_, lenL (T2.seq hS), ?_⟩
    split
    · rename_i h
      exact ⟨by decide, q0 (fun z => by have := z.1; omega) _ T2⟩
    rename_i h
    refine ⟨l1, _, rfl, SqL.of (S2 _ _ A1), by rw [List.length_map]; exact hn, fun H3 s3 => ?_⟩
    cases c1 : ris (ks.map (·.1)) with
    | false =>
      walk_at "gz"
      exact ⟨by decide, q0 (fun z => by rw [z.2.1] at c1; cases c1) _ (T2.trans s3)⟩
    | true =>
      walk_at "gz"
      refine ⟨l2, _, rfl, SqL.of (s3 _ _ A2), by rw [List.length_map]; exact hn, fun H4 s4 => ?_⟩
      have T4 := T2.trans (s3.trans s4)
      cases c2 : ris (ks.map (·.2)) with
      | false =>
        walk_at "gz"
        exact ⟨by decide, q0 (fun z => by rw [z.2.2] at c2; cases c2) _ T4⟩
      | true =>
        walk_at "gz"
        refine ⟨_, .inl (T4.seq hS), fun l3 hl3 => ?_⟩
        have S5 := same_upd (o := .lst xs) hl3
        have X5 := (T4.trans S5) _ _ hx
        refine ⟨_, _, _, X5, T.cl_Gauge, T.no_Gauge_knots, by decide, ?_⟩
        refine q ⟨by omega, c1, c2⟩ l3 _ (fun b o hb e => ?_) upd_same (T4.free hl3) ?_
        · rw [upd_ne hb]; exact (T4.trans S5) _ _ e
        · have : l3 ≠ x := fun z => by rw [z] at hl3; rw [T4 _ _ hx] at hl3; cases hl3
          rw [upd_ne this]; exact upd_same
def sp_forth (G C : Addr) : Sp := fun vs H Q E => ∃ (v w : V) (ks : List P2) (p q : Int) (P N : Nat), vs = [v, w] ∧ IsG G H v ks ∧ BQ ks ∧ ks.length ≤ 1000 ∧ okKn ks ∧ IsR H w p q ∧ Bd P p ∧ Bd N q ∧ P ≤ 653 ∧ N ≤ 352 ∧ 1 ≤ q ∧
  (hit ks p q → ∀ v t b H', Same H H' → IsR H' v t b → Led ks p q t b → Bd (tBits P N) t → Bd (N + 252) b → Q v H') ∧ (¬ hit ks p q → ∀ H', Same H H' → E (.ref C) none H')
theorem ok_Gauge_forth (T : Tx K mg) : FnOk P w K mg base (CXX P w) 6 T.a_Gauge_forth T.fd_Gauge_forth ["self", "raw"] (sp_forth T.C_Gauge T.C_OffGauge) := by
  refine okX T.F_Gauge_forth sc_Gauge_forth (fun vs H Q E h => ?_) (fun cdv A outer s H vs Q E hr h => ?_)
  · obtain ⟨v, w, ks, p, q, P, N, rfl, _⟩ := h
    rfl
  · obtain ⟨v, w, ks, p, q, P, N, rfl, ⟨x, dx, l, xs, rfl, hx, hl, hP⟩, hB, hn, hok, hw, bp, bq, hP6, hN3, hq, q1, q0⟩ := h
    refine ⟨_, (pss_one (ps_ret (pe_call (ok_led T) (hr.mono (by decide)) rfl T.m_led T.F_led.kp T.b_led .nil pass_up (pa_cons (pe_fld (pv 0) rfl) (pa_cons (pv 1) pa_nil))))), ?_⟩
    walk_at "gz"
    refine ⟨_, _, _, hx, T.cl_Gauge, T.no_Gauge_knots, _, rfl, ?_⟩
    exact ⟨l, xs, ks, w, p, q, P, N, rfl, SqL.of hl, hP, hB, hn, hok.2.1, hw, bp, bq, hP6, hN3, hq, q1, q0⟩
def slk (d1 d2 s t : Int) : Int := ceilI (d1 * iabs (t - s)) d2
structure EyeC (K : PySem.W.Frag) (C fS fL : Addr) : Prop where
  cl : Cls K C
  nd : NoAttr K C "drift"
  ns : NoAttr K C "since"
  sl : Meth K C "slack" fS
  sk : Meth K C "slackened" fL
def EyeAt (C : Addr) (H : Hp) (v : V) (d1 d2 s : Int) : Prop := ∃ x dx fs w, v = .ref x ∧ H x = some (.ins C dx fs) ∧ fs.lookup ("drift" : Str) = some w ∧ IsR H w d1 d2 ∧ fs.lookup ("since" : Str) = some (.int s) ∧ fs.lookup ("slack" : Str) = none ∧ fs.lookup ("slackened" : Str) = none ∧ fs.lookup ("stretches" : Str) = none
theorem EyeAt.same {C : Addr} {H H' : Hp} {v : V} {d1 d2 s : Int} (h : EyeAt C H v d1 d2 s) (e : Same H H') : EyeAt C H' v d1 d2 s := by
  obtain ⟨x, dx, fs, w, h1, h2, h3, h4, h5⟩ := h
  exact ⟨x, dx, fs, w, h1, e _ _ h2, h3, h4.same e, h5⟩
def sp_eyeinit (K : PySem.W.Frag) : Sp := fun vs H Q _ => ∃ (x C dx : Addr) (fs : List (Str × V)) (d s : V), vs = [.ref x, d, s] ∧ H x = some (.ins C dx fs) ∧ Cls K C ∧ NoAttr K C "drift" ∧ NoAttr K C "since" ∧ fs.length ≤ 10 ∧ Q .non (upd H x (.ins C dx (putF "since" s (putF "drift" d fs))))
theorem ok_Eye_init__ (T : Tx K mg) : FnOk P w K mg base (CXX P w) 1 T.a_Eye_init__ T.fd_Eye_init__ ["self", "drift", "since"] (sp_eyeinit K) := by
  refine okN T.F_Eye_init__ sc_Eye_init__ (fun vs H Q E h => ?_) (fun cdv A outer s H vs Q E hr h => ?_)
  · obtain ⟨x, C, dx, fs, d, s, rfl, _⟩ := h
    rfl
  · obtain ⟨x, C, dx, fs, d, s, rfl, hx, cl, nd, ns, hl, q⟩ := h
    refine ⟨_, (pss_cons (ps_fld (pv 0) (pv 1) rfl)
    (pss_one (ps_fld (pv 0) (pv 2) rfl))), ?_⟩
    walk_at "gz"
    have l1 := length_putF "drift" d fs
    refine ⟨_, _, _, hx, cl, nd, by omega, _, _, _, upd_same, cl, ns, by omega, ?_⟩
    rw [upd_upd]
    exact q
def sp_slack (K : PySem.W.Frag) (fS fL : Addr) : Sp := fun vs H Q _ => ∃ (C : Addr) (v : V) (d1 d2 s t : Int), vs = [v, .int t] ∧ EyeC K C fS fL ∧ EyeAt C H v d1 d2 s ∧ 1 ≤ d2 ∧ Bd 300 d1 ∧ Bd 300 d2 ∧ Bd 300 s ∧ Bd 300 t ∧ ∀ H', Same H H' → Q (.int (slk d1 d2 s t)) H'
theorem ok_Eye_slack (T : Tx K mg) : FnOk P w K mg base (CXX P w) 4 T.a_Eye_slack T.fd_Eye_slack ["self", "turn"] (sp_slack K T.a_Eye_slack T.a_Eye_slackened) := by
  refine okN T.F_Eye_slack sc_Eye_slack (fun vs H Q E h => ?_) (fun cdv A outer s H vs Q E hr h => ?_)
  · obtain ⟨C, v, d1, d2, s, t, rfl, _⟩ := h
    rfl
  · obtain ⟨C, v, d1, d2, s, t, rfl, ec, ⟨x, dx, fs, w, rfl, hx, ld, hw, ls, _⟩, h2, b1, b2, bs, bt, q⟩ := h
    refine ⟨_, (pss_one (ps_ret (pe_call (ok_raised T) (hr.mono (by decide)) rfl T.m_raised T.F_raised.kp T.b_raised .nil passE0 (pa_cons (pe_call (ok_times T) (hr.mono (by decide)) rfl T.m_times T.F_times.kp T.b_times .nil passE0 (pa_cons (pe_fld (pv 0) rfl) (pa_cons (pe_tup (pa_cons (pe_callB call_abs (by rfl) T.n_abs b_abs (pa_cons (pe_op op_sub (pv 1) (pe_fld (pv 0) rfl)) pa_nil)) (pa_cons pe_int pa_nil))) pa_nil))) pa_nil)))), ?_⟩
    have bk := bt.sub bs (k := 301) (by decide) (by decide)
    have bk2 : Bd 301 (iabs (t - s)) := by unfold Bd iabs at *; split <;> omega
    have one1 : Bd 1000 1 := Bd.up (n := 1) (by show 1 < 2; decide) (by decide)
    walk_at "gz"
    refine ⟨_, _, _, hx, ec.cl, ec.nd, _, ld, ?_⟩
    walk_at "gz"
    refine ⟨_, _, _, hx, ec.cl, ec.ns, ?_⟩
    rw [ls]
    walk_at "gz"
    refine ⟨line2, fun p hp => ?_⟩
    have S1 := same_upd (o := .tup [.int (if t - s < 0 then -(t - s) else t - s), .int 1]) hp
    have A1 : IsR (upd H p (.tup [.int (if t - s < 0 then -(t - s) else t - s), .int 1])) (.ref p) (iabs (t - s)) 1 := ⟨p, rfl, upd_same⟩
    generalize upd H p (.tup [.int (if t - s < 0 then -(t - s) else t - s), .int 1]) = H1 at S1 A1 ⊢
    refine ⟨_, _, d1, d2, iabs (t - s), 1, rfl, (hw.same S1).p, A1.p, h2, Int.le_refl _, b1.up (by decide), b2.up (by decide), bk2.up (by decide), one1, fun p2 hp2 => ?_⟩
    rw [Int.mul_one]
    have n0 : (d2 : Int) ≠ 0 := by omega
    obtain ⟨r1, r2, _, r4, r5, _, _⟩ := rat_ok (t := d1 * iabs (t - s)) (b := d2) n0
    have cb : Bd 300 (rb (d1 * iabs (t - s)) d2) := Nat.lt_of_le_of_lt r5 b2
    refine ⟨_, _, _, rfl, ⟨p2, rfl, SqT.of upd_same⟩, by omega, cb.up (by decide), ?_⟩
    rw [ceil_low (show 0 < d2 by omega)]
    exact q _ (S1.trans (same_upd hp2))
def sp_slackened (K : PySem.W.Frag) (fS fL : Addr) : Sp := fun vs H Q _ => ∃ (C : Addr) (v : V) (d1 d2 s : Int) (a : Addr) (xs : List V) (ws : List W2), vs = [v, .ref a] ∧ EyeC K C fS fL ∧ EyeAt C H v d1 d2 s ∧ 1 ≤ d2 ∧ Bd 300 d1 ∧ Bd 300 d2 ∧ Bd 300 s ∧ SqL K H a xs ∧ All2 (IsW H) xs ws ∧ ws.length ≤ 100 ∧
  ∀ l ys H', Same H H' → H l = none → H' l = some (.lst ys) → All2 (IsW H') ys (wOuts (slk d1 d2 s) 0 ws) → Q (.ref l) H'
def inv_slackened (H : Hp) (v : V) (a l : Addr) (sl : Int → Int) (ws : List W2) (i : Nat) (σ : St) (H1 : Hp) : Prop := ∃ (ys : List V) (e1 e2 : Option V), σ = [some v, some (.ref a), some (.ref l), e1, e2] ∧ Same H H1 ∧ H1 l = some (.lst ys) ∧ All2 (IsW H1) ys (wOuts sl 0 (ws.take i))
theorem ok_Eye_slackened (T : Tx K mg) : FnOk P w K mg base (CXX P w) 5 T.a_Eye_slackened T.fd_Eye_slackened ["self", "words"] (sp_slackened K T.a_Eye_slack T.a_Eye_slackened) := by
  refine okN T.F_Eye_slackened sc_Eye_slackened (fun vs H Q E h => ?_) (fun cdv A outer s H vs Q E hr h => ?_)
  · obtain ⟨C, v, d1, d2, s, a, xs, ws, rfl, _⟩ := h
    rfl
  · obtain ⟨C, v, d1, d2, s, a, xs, ws, rfl, ec, he, h2, b1, b2, bs, hS, hW, hn, q⟩ := h
    refine ⟨_, (pss_cons (ps_set (i := 2) sc_Eye_slackened.nd rfl (Or.inl rfl) (pe_lst pa_nil))
    (pss_cons (ps_for PassesOwn.never rfl (pi_enum rfl T.n_enumerate (pa_cons (pv 1) pa_nil)) (pg_tup rfl (pgs_cons (pg_name (i := 3) sc_Eye_slackened.nd rfl (Or.inl rfl)) (pgs_cons (pg_name (i := 4) sc_Eye_slackened.nd rfl (Or.inl rfl)) pgs_nil))) (pss_one (ps_expr (pe_bm PySem.F.plainAttrs_list PySem.F.slot_list_append PySem.F.type_list_append mt_append (pv 2) (pa_cons (pe_ifExp (pt_cmp (pc_isN (pv 4))) pe_non (pe_call (ok_widened T) (hr.mono (by decide)) rfl T.m_widened T.F_widened.kp T.b_widened .nil passE0 (pa_cons (pv 4) (pa_cons (pe_methV (pv 0) (ok_Eye_slack T) (hr.mono (by decide)) T.b_Eye_slack .nil passE0 (pa_cons (pv 3) pa_nil)) pa_nil)))) pa_nil)))))
    (pss_one (ps_ret (pv 2))))), ?_⟩
    have hl := hW.len
    walk_at "gz"
    refine ⟨by decide, fun l hl0 => ?_⟩
    have s1 := same_upd (o := .lst []) hl0
    refine ⟨⟨_, s1.seq hS⟩, by_enum (xs := xs) (inv_slackened H v a l (slk d1 d2 s) ws) ⟨[], _, _, rfl, s1, upd_same, trivial⟩ ?_ ?_ ?_⟩
    · rintro i σ H1 _ ⟨_, _, _, _, s, _⟩
      exact s.seq hS
    · rintro i x σ H1 p hx ⟨ys, e1, e2, rfl, s2, L2, hY⟩ hp
      obtain ⟨w, ew, hw⟩ := hW.get hx
      have hi : i < ws.length := (List.getElem?_eq_some_iff.mp ew).1
      have hyl := hY.len
      rw [wOuts_len, List.length_take] at hyl
      have tk : ws.take (i + 1) = ws.take i ++ [w] := by rw [List.take_succ, ew]; rfl
      have tl : (ws.take i).length = i := by rw [List.length_take]; omega
      have s3 := same_upd (o := .tup [.int i, x]) hp
      refine gTup2 (SqT.of upd_same) ?_
      have L3 := s3 _ _ L2
      have S3 := s2.trans s3
      have hY3 := hY.imp fun x a r => IsW.same r s3
      have hw3 := IsW.same hw S3
      generalize upd H1 p (.tup [.int i, x]) = H3 at S3 L3 hY3 hw3 ⊢
      have zl : ys.length < sizeLine := Nat.lt_of_le_of_lt (by omega : ys.length ≤ 100) (by decide)
      have app : ∀ y H4, Same H3 H4 → IsW H4 y (wOut (slk d1 d2 s i) w) → ∃ xs', H4 l = some (.lst xs') ∧ xs'.length < sizeLine ∧ inv_slackened H v a l (slk d1 d2 s) ws (i + 1) [some v, some (.ref a), some (.ref l), some (.int i), some x] (upd H4 l (.lst (xs' ++ [y]))) := fun y H4 s4 hy => by
        have L4 := s4 _ _ L3
        refine ⟨ys, L4, zl, ys ++ [y], some (.int i), some x, rfl, same_put hl0 (S3.trans s4), upd_same, ?_⟩
        rw [tk, wOuts_snoc, tl, Int.zero_add]
        exact All2.imp (fun x a r => IsW.put r L4) ((hY3.imp fun x a r => IsW.same r s4).snoc hy)
      walk_at "gz"
      refine ⟨.inl ⟨rfl, _, SqL.of L3⟩, ?_⟩
      rcases w with _ | ⟨c, d⟩
      · have hx0 : x = .non := hw3
        subst hx0
        walk_at "gz"
        exact app _ _ (Same.refl _) rfl
      · obtain ⟨t, rfl, ht⟩ := hw3
        walk_at "gz"
        obtain ⟨ex, edx, efs, ew0, e1, e2, e3, e4, e5, e6, e7⟩ := he.same S3
        subst e1
        have bi : Bd 300 (i : Int) := Bd200 (by have : (i : Int).natAbs < 2 ^ 20 := by omega
                                                exact Nat.lt_of_lt_of_le this (Nat.pow_le_pow_right (by decide) (by decide)))
        refine ⟨ex, rfl, _, _, _, e2, ec.cl, ec.sl, e6, C, _, d1, d2, s, i, rfl, ec, ⟨ex, edx, efs, ew0, rfl, e2, e3, e4, e5, e6, e7⟩, h2, b1, b2, bs, bi, fun H4 s4 => ?_⟩
        refine ⟨_, c, d, _, rfl, ⟨t, rfl, s4 _ _ ht⟩, fun p5 hp5 => ?_⟩
        exact app _ _ (s4.trans (same_upd hp5)) IsS.new
    · rintro σ H1 ⟨ys, e1, e2, rfl, s2, L2, hY⟩
      walk_at "gz"
      rw [List.take_of_length_le (by omega)] at hY
      exact q _ _ _ s2 hl0 L2 hY
def sp_gdinit (G : Addr) : Sp := fun vs H Q _ => ∃ (x dx : Addr) (d v e : V) (s : Int), vs = [.ref x, d, .int s, v, e] ∧ H x = some (.ins G dx []) ∧ Q .non (upd H x (.ins G dx [("drift", d), ("since", .int s), ("gauge", v), ("error", e)]))
theorem ok_Gauged_init__ (T : Tx K mg) : FnOk P w K mg base (CXX P w) 2 T.a_Gauged_init__ T.fd_Gauged_init__ ["self", "drift", "since", "gauge", "error"] (sp_gdinit T.C_Gauged) := by
  refine okN T.F_Gauged_init__ sc_Gauged_init__ (fun vs H Q E h => ?_) (fun cdv A outer s H vs Q E hr h => ?_)
  · obtain ⟨x, dx, d, v, e, s, rfl, _⟩ := h
    rfl
  · obtain ⟨x, dx, d, v, e, s, rfl, hx, q⟩ := h
    refine ⟨_, (pss_cons (ps_expr (pe_clsm rfl T.c_Eye T.cf_Eye_init__ (ok_Eye_init__ T) (hr.mono (by decide)) T.b_Eye_init__ .nil passE0 (pa_cons (pv 0) (pa_cons (pv 1) (pa_cons (pv 2) pa_nil)))))
    (pss_cons (ps_fld (pv 0) (pv 3) rfl)
    (pss_one (ps_fld (pv 0) (pv 4) rfl)))), ?_⟩
    walk_at "gz"
    refine ⟨x, _, dx, _, d, .int s, rfl, hx, T.cl_Gauged, T.no_Gauged_drift, T.no_Gauged_since, by decide, ?_⟩
    walk_at "gz"
    refine ⟨_, _, _, upd_same, T.cl_Gauged, T.no_Gauged_gauge, (by show 2 < 1000; decide), _, _, _, upd_same, T.cl_Gauged, T.no_Gauged_error, (by show 3 < 1000; decide), ?_⟩
    rw [upd_upd, upd_upd]
    exact q
end
section
variable {P : Program} {w : World} {K : PySem.W.Frag} {mg : Str → Option Value} {base : Heap}
seal L2.PE L2.PS L2.PSs L2.PA
def sp_fon (G : Addr) : Sp := fun vs H Q _ => ∃ (v : V) (r : Int) (ks : List P2), vs = [v, .int r] ∧ IsG G H v ks ∧ BQ ks ∧ ks.length ≤ 1000 ∧ okKn ks ∧ Bd 250 r ∧ ∀ v H', Same H H' → OneE H' v (loE ks r) (hiE ks r) → Q v H'
theorem ok_forth_or_none (T : Tx K mg) : FnOk P w K mg base (CXX P w) 7 T.a_forth_or_none T.fd_forth_or_none ["gauge", "raw"] (sp_fon T.C_Gauge) := by
  refine okN T.F_forth_or_none sc_forth_or_none (fun vs H Q E h => ?_) (fun cdv A outer s H vs Q E hr h => ?_)
  · obtain ⟨v, r, ks, rfl, _⟩ := h
    rfl
  · obtain ⟨v, r, ks, rfl, hG, hB, hn, hok, br, q⟩ := h
    refine ⟨_, (pss_one (ps_tryN (fun cls _ H1 => cls = .ref T.C_OffGauge ∧ Same H H1 ∧ ¬ hit ks r 1) rfl rfl rfl T.c_OffGauge (fun F pn hx => (pss_one (ps_ret (pe_meth (pv 0) T.cl_Gauge T.me_Gauge_forth (ok_Gauge_forth T) (hr.mono (by decide)) T.b_Gauge_forth .nil hx (pa_cons (pe_tup (pa_cons (pv 1) (pa_cons pe_int pa_nil))) pa_nil))))) (fun A' pn => (pss_one (ps_ret pe_non))))), ?_⟩
    refine ⟨?_, fun cls H1 z => ?_⟩
    · obtain ⟨x, dx, l, xs, rfl, hx, hl, hP⟩ := id hG
      have one1 : Bd 1 1 := by show 1 < 2; decide
      walk_at "gz"
      refine ⟨_, _, hx, rfl, line2, fun p hp => ?_⟩
      have s1 := same_upd (o := .tup [.int r, .int 1]) hp
      refine ⟨_, _, ks, r, 1, 250, 1, rfl, hG.same s1, hB, hn, hok, ⟨p, rfl, upd_same⟩, br, one1, by decide, by decide, Int.le_refl _, fun hh v t b H' s2 hv hL _ hb => ?_, fun hh H' s2 => ⟨rfl, s1.trans s2, hh⟩⟩
      obtain ⟨e1, e2⟩ := led_lo hok.2.1 hL hh
      exact q v H' (s1.trans s2) (.inr ⟨t, b, hv, hL.pos, hb.up (by decide), e1, e2⟩)
    · obtain ⟨rfl, s1, hh⟩ := z
      refine ⟨_, rfl, T.mt_OffGauge_OffGauge, ?_⟩
      walk_at "gz"
      exact q _ _ s1 (.inl ⟨rfl, miss_lo hh⟩)
def sp_seen (C G X : Addr) : Sp := fun vs H Q E => ∃ (v : V) (r d1 d2 s er : Int) (ks : List P2), vs = [v, .int r] ∧ GdAt C G H v d1 d2 s er ks ∧ BQ ks ∧ ks.length ≤ 1000 ∧ okKn ks ∧ Bd 240 r ∧ Bd 240 er ∧
  (hit ks r 1 → ∀ v H', Same H H' → IsS H' v (loE ks (r - er)) (hiE ks (r + er)) → Q v H') ∧ (¬ hit ks r 1 → ∀ H', Same H H' → E (.ref X) none H')
theorem ok_Gauged_seen (T : Tx K mg) : FnOk P w K mg base (CXX P w) 8 T.a_Gauged_seen T.fd_Gauged_seen ["self", "raw"] (sp_seen T.C_Gauged T.C_Gauge T.C_OffGauge) := by
  refine okX T.F_Gauged_seen sc_Gauged_seen (fun vs H Q E h => ?_) (fun cdv A outer s H vs Q E hr h => ?_)
  · obtain ⟨v, r, d1, d2, s, er, ks, rfl, _⟩ := h
    rfl
  · obtain ⟨v, r, d1, d2, s, er, ks, rfl, ⟨x, dx, w, gv, rfl, hx, hw, hG⟩, hB, hn, hok, br, ber, q1, q0⟩ := h
    refine ⟨_, (pss_cons (ps_expr (pe_meth (pe_fld (pv 0) rfl) T.cl_Gauge T.me_Gauge_forth (ok_Gauge_forth T) (hr.mono (by decide)) T.b_Gauge_forth .nil pass_up (pa_cons (pe_tup (pa_cons (pv 1) (pa_cons pe_int pa_nil))) pa_nil)))
    (pss_cons (ps_set (i := 2) sc_Gauged_seen.nd rfl (Or.inl rfl) (pe_call (ok_forth_or_none T) (hr.mono (by decide)) rfl T.m_forth_or_none T.F_forth_or_none.kp T.b_forth_or_none .nil passE0 (pa_cons (pe_fld (pv 0) rfl) (pa_cons (pe_op op_sub (pv 1) (pe_fld (pv 0) rfl)) pa_nil))))
    (pss_cons (ps_set (i := 3) sc_Gauged_seen.nd rfl (Or.inl rfl) (pe_call (ok_forth_or_none T) (hr.mono (by decide)) rfl T.m_forth_or_none T.F_forth_or_none.kp T.b_forth_or_none .nil passE0 (pa_cons (pe_fld (pv 0) rfl) (pa_cons (pe_op op_add (pv 1) (pe_fld (pv 0) rfl)) pa_nil))))
    (pss_cons (ps_set (i := 4) sc_Gauged_seen.nd rfl (Or.inl rfl) (pe_ifExp (pt_cmp (pc_isN (pv 2))) pe_non (pe_call (ok_floored T) (hr.mono (by decide)) rfl T.m_floored T.F_floored.kp T.b_floored .nil passE0 (pa_cons (pv 2) pa_nil))))
    (pss_cons (ps_set (i := 5) sc_Gauged_seen.nd rfl (Or.inl rfl) (pe_ifExp (pt_cmp (pc_isN (pv 3))) pe_non (pe_call (ok_raised T) (hr.mono (by decide)) rfl T.m_raised T.F_raised.kp T.b_raised .nil passE0 (pa_cons (pv 3) pa_nil))))
    (pss_one (ps_ret (pe_tup (pa_cons (pv 4) (pa_cons (pv 5) pa_nil)))))))))), ?_⟩
    have one1 : Bd 1 1 := by show 1 < 2; decide
    have bl := br.sub ber (k := 250) (by decide) (by decide)
    have bh := br.add ber (k := 250) (by decide) (by decide)
    obtain ⟨gx, gdx, gl, gxs, rfl, hgx, hgl, hP⟩ := id hG
    walk_at "gz"
    refine ⟨_, _, _, hx, T.cl_Gauged, T.no_Gauged_gauge, _, rfl, gx, rfl, _, _, hgx, rfl, line2, fun p hp => ?_⟩
    have s1 := same_upd (o := .tup [.int r, .int 1]) hp
    refine ⟨_, _, ks, r, 1, 250, 1, rfl, hG.same s1, hB, hn, hok, ⟨p, rfl, upd_same⟩, br.up (by decide), one1, by decide, by decide, Int.le_refl _, fun hh v1 t1 b1 H1 s2 _ _ _ _ => ?_, fun hh H' s2 => q0 hh _ (s1.trans s2)⟩
    replace q1 := q1 hh
    have S := s1.trans s2
    refine ⟨_, _, _, S _ _ hx, T.cl_Gauged, T.no_Gauged_gauge, _, rfl, _, _, _, S _ _ hx, T.cl_Gauged, T.no_Gauged_error, _, rfl, _, rfl, ?_⟩
    refine ⟨_, _, ks, rfl, hG.same S, hB, hn, hok, bl, fun u2 H2 s3 o2 => ?_⟩
    have S3 := S.trans s3
    refine ⟨_, _, _, S3 _ _ hx, T.cl_Gauged, T.no_Gauged_gauge, _, rfl, _, _, _, S3 _ _ hx, T.cl_Gauged, T.no_Gauged_error, _, rfl, _, rfl, ?_⟩
    refine ⟨_, _, ks, rfl, hG.same S3, hB, hn, hok, bh, fun u3 H3 s4 o3 => ?_⟩
    have S4 := S3.trans s4
    have o2 := o2.same s4
    generalize loE ks (r - er) = lo at q1 o2
    generalize hiE ks (r - er) = hi0 at o2
    generalize hiE ks (r + er) = hi at q1 o3
    generalize loE ks (r + er) = lo0 at o3
    have fin : ∀ (a b : En), lo = a → hi = b → 2 ≤ sizeLine ∧ ∀ (p : Addr), H3 p = none → Q (.ref p) (upd H3 p (.tup [ev a, ev b])) := fun a b e1 e2 => ⟨line2, fun p hp => q1 _ _ (S4.trans (same_upd hp)) ⟨p, rfl, by rw [upd_same, e1, e2]⟩⟩
    walk_at "gz"
    rcases o2 with ⟨rfl, el, _⟩ | ⟨t2, b2, hv2, p2, c2, el, _⟩
    · rw [if_pos rfl]
      rcases o3 with ⟨rfl, _, eh⟩ | ⟨t3, b3, hv3, p3, c3, _, eh⟩
      · rw [if_pos rfl]
        exact fin _ _ el eh
      · obtain ⟨a3, rfl, h3⟩ := id hv3
        rw [if_neg (fun z => nomatch z)]
        exact ⟨_, _, _, rfl, hv3.p, by omega, c3.up (by decide), fin _ _ el eh⟩
    · obtain ⟨a2, rfl, h2⟩ := id hv2
      rw [if_neg (fun z => nomatch z)]
      refine ⟨_, _, _, rfl, hv2.p, by omega, c2.up (by decide), ?_⟩
      rcases o3 with ⟨rfl, _, eh⟩ | ⟨t3, b3, hv3, p3, c3, _, eh⟩
      · rw [if_pos rfl]
        exact fin _ _ el eh
      · obtain ⟨a3, rfl, h3⟩ := id hv3
        rw [if_neg (fun z => nomatch z)]
        exact ⟨_, _, _, rfl, hv3.p, by omega, c3.up (by decide), fin _ _ el eh⟩
theorem eyeGd (T : Tx K mg) : EyeC K T.C_Gauged T.a_Eye_slack T.a_Eye_slackened := ⟨T.cl_Gauged, T.no_Gauged_drift, T.no_Gauged_since, T.me_Gauged_slack, T.me_Gauged_slackened⟩
def sp_gstretches (K : PySem.W.Frag) (C G X : Addr) : Sp := fun vs H Q E => ∃ (v : V) (d1 d2 s er : Int) (ks : List P2) (a : Addr) (rs : List En), vs = [v, .ref a] ∧ GdAt C G H v d1 d2 s er ks ∧ BQ ks ∧ ks.length ≤ 1000 ∧ okKn ks ∧ 1 ≤ d2 ∧ Bd 300 d1 ∧ Bd 300 d2 ∧ Bd 300 s ∧ Bd 240 er ∧ SqL K H a (rs.map ev) ∧ (∀ n, some n ∈ rs → Bd 240 n) ∧ rs.length ≤ 100 ∧
  ((∀ r ∈ rs, goodR ks r) → ∀ l ys H', Same H H' → H l = none → H' l = some (.lst ys) → All2 (IsW H') ys (wOuts (slk d1 d2 s) 0 (rs.map (seenW ks er))) → Q (.ref l) H') ∧ ((∃ r ∈ rs, ¬ goodR ks r) → ∀ H', Same H H' → E (.ref X) none H')
theorem ok_Gauged_stretches (T : Tx K mg) : FnOk P w K mg base (CXX P w) 9 T.a_Gauged_stretches T.fd_Gauged_stretches ["self", "words"] (sp_gstretches K T.C_Gauged T.C_Gauge T.C_OffGauge) := by
  refine okX T.F_Gauged_stretches sc_Gauged_stretches (fun vs H Q E h => ?_) (fun cdv A outer s H vs Q E hr h => ?_)
  · obtain ⟨v, d1, d2, s, er, ks, a, rs, rfl, _⟩ := h
    rfl
  · obtain ⟨v, d1, d2, s, er, ks, a, rs, rfl, hE, hB, hn, hok, h2, b1, b2, bs, ber, hS, br, hl, q1, q0⟩ := h
    refine ⟨_, (pss_one (ps_ret (pe_meth (pv 0) T.cl_Gauged T.me_Gauged_slackened (ok_Eye_slackened T) (hr.mono (by decide)) T.b_Eye_slackened .nil passE0 (pa_cons (pe_compE (CompOk.mk (fr := [0]) (ys := ["self"]) rfl (by decide +kernel) rfl (by decide +kernel) rfl rfl (.cons rfl .nil) (.cons rfl rfl rfl rfl .nil) (by decide) rfl) rfl (pi_list (pv 1)) (fun C s2 H2 ex pn bk => ⟨pts_nil, (pe_ifExp (pt_cmp (pc_isN (pv 0))) pe_non (pe_meth (pv 1) T.cl_Gauged T.me_Gauged_seen (ok_Gauged_seen T) (hr.mono (by decide)) T.b_Gauged_seen .nil (passB rfl rfl pass_upF bk) (pa_cons (pv 0) pa_nil)))⟩)) pa_nil)))), ?_⟩
    obtain ⟨x, dx, w, gv, rfl, hx, hw, hG⟩ := id hE
    walk_at "gz"
    refine ⟨_, _, hx, rfl, ⟨_, hS⟩, blk_of it_list (Nat.le_trans (by rw [List.length_map]; exact hl : _ ≤ 100) (by decide)) (compGo_newX (R := fun _ x (r : En) => x = ev r) (R' := fun H y (w : W2) => IsW H y w) (f := seenW ks er) (good := goodR ks) (bs := []) (fun _ _ _ _ _ r => r) (fun _ _ _ _ s r => IsW.same r s) (all2_ev rs) trivial (fun H' s' => s'.seq hS) (fun y r _ H' s' e Q h => ?_) (fun y r hr0 H' s' e hg Q h => ?_) (fun y r hr0 H' s' e hg Q => ?_) fun hall H' zs s' hz => ?_)⟩
    · walk_at "gz"
      exact h
    · subst e
      rcases r with _ | n
      · walk_at "gz"
        exact h _ _ (Same.refl _) rfl
      · walk_at "gz"
        exact ⟨_, _, s' _ _ hx, rfl, _, n, d1, d2, s, er, ks, rfl, hE.same s', hB, hn, hok, br n hr0, ber, fun _ v H2 s2 hv => h _ _ s2 hv, fun z => absurd (good_some.mp hg) z⟩
    · subst e
      rcases r with _ | n
      · exact absurd good_none hg
      · walk_at "gz"
        exact ⟨_, _, s' _ _ hx, rfl, _, n, d1, d2, s, er, ks, rfl, hE.same s', hB, hn, hok, br n hr0, ber, fun z => absurd (good_some.mpr z) hg, fun _ H2 s2 => q0 ⟨_, hr0, hg⟩ _ (s'.trans s2)⟩
    rw [List.nil_append] at hz
    intro l hl0
    have s2 := s'.trans (same_upd (o := .lst zs) hl0)
    have hz2 := hz.imp fun x a r => IsW.same r (same_upd (o := .lst zs) hl0)
    obtain ⟨x', dx', w', gv', e1, hx', hw', _⟩ := hE.same s2
    cases e1
    refine ⟨T.C_Gauged, _, d1, d2, s, l, zs, _, rfl, eyeGd T, ⟨x, _, _, w', rfl, hx', rfl, hw', rfl, rfl, rfl, rfl⟩, h2, b1, b2, bs, SqL.of upd_same, hz2, by rw [List.length_map]; exact hl, fun l3 ys H3 s3 n3 L3 hY => q1 hall l3 ys H3 (s2.trans s3) (s2.free n3) L3 hY⟩
end
section
variable {P : Program} {w : World} {K : PySem.W.Frag} {mg : Str → Option Value} {base : Heap}
seal L2.PE L2.PS L2.PSs L2.PA
def sp_number : Sp := fun vs H Q _ => ∃ (c : Int), vs = [.int c] ∧ Q (.int (num c)) H
theorem ok_law_number (T : Tx K mg) : FnOk P w K mg base (CXX P w) 1 T.a_law_number T.fd_law_number ["_law_cell_here"] sp_number := by
  refine okN T.F_law_number sc_law_number (fun vs H Q E h => ?_) (fun cdv A outer s H vs Q E hr h => ?_)
  · obtain ⟨c, rfl, _⟩ := h
    rfl
  · obtain ⟨c, rfl, k⟩ := h
    refine ⟨_, (pss_cons (ps_if (pt_cmpR op_eq (pe_op op_mod (pv 0) pe_int) pe_int (nomark _)) (pss_one (ps_ret (pe_op op_sub (pe_op op_mod (pe_op op_fdivB (pv 0) pe_int) pe_int) pe_int))) pss_nil)
    (pss_one (ps_ret (pe_op op_sub (pe_op op_mod (pe_op op_mulB (pe_op op_mod (pe_op op_fdivB (pv 0) pe_int) (pe_op op_pow pe_int pe_int)) (pe_op op_pow pe_int pe_int)) (pe_op op_add (pe_op op_mulB pe_int (pe_op op_pow pe_int pe_int)) pe_int)) (pe_op op_pow pe_int pe_int))))), ?_⟩
    walk_at "gzn"
    unfold num at k
    refine ⟨by decide, ?_⟩
    have b1 := Int.emod_nonneg (c / 3) (show (1000000000000000000000000000000 : Int) ≠ 0 by decide)
    have b2 := Int.emod_lt_of_pos (c / 3) (show (0 : Int) < 1000000000000000000000000000000 by decide)
    have b3 : MulB (c / 3 % 1000000000000000000000000000000) 3315501701285949699224633478459810372516696558535471 := mul200 (by omega) (by decide)
    split
    · rename_i h
      rw [if_pos h] at k
      (and_intros <;> first | assumption | exact bd200 (by decide) | exact bd200 (em30 _) | exact mul200 (by decide) (by decide) | exact ⟨by decide, by decide, by decide⟩ | decide | omega)
    · rename_i h
      rw [if_neg h] at k
      have b4 := b3.1
      (and_intros <;> first | assumption | exact bd200 (by decide) | exact bd200 (em30 _) | exact mul200 (by decide) (by decide) | exact ⟨by decide, by decide, by decide⟩ | decide | omega)
def sp_step : Sp := fun vs H Q _ => ∃ (c : Int), vs = [.int c] ∧ ∀ d : Int, 1 ≤ d → d ≤ 100000000000000000000000000000000000000000000000000 → Q (.int d) H
theorem ok_law_step (T : Tx K mg) : FnOk P w K mg base (CXX P w) 1 T.a_law_step T.fd_law_step ["_law_cell_here"] sp_step := by
  refine okN T.F_law_step sc_law_step (fun vs H Q E h => ?_) (fun cdv A outer s H vs Q E hr h => ?_)
  · obtain ⟨c, rfl, _⟩ := h
    rfl
  · obtain ⟨c, rfl, q⟩ := h
    refine ⟨_, (pss_cons (ps_if (pt_cmpR op_eq (pe_op op_mod (pv 0) pe_int) pe_int (nomark _)) (pss_one (ps_ret (pe_op op_add pe_int (pe_op op_mod (pe_op op_fdivB (pv 0) pe_int) pe_int)))) pss_nil)
    (pss_one (ps_ret (pe_op op_add pe_int (pe_op op_mod (pe_op op_mulB (pe_op op_mod (pe_op op_fdivB (pv 0) pe_int) (pe_op op_pow pe_int pe_int)) (pe_op op_pow pe_int pe_int)) (pe_op op_pow pe_int pe_int)))))), ?_⟩
    walk_at "gzn"
    have b1 := Int.emod_nonneg (c / 2) (show (1000000000000000000000000000000 : Int) ≠ 0 by decide)
    have b2 := Int.emod_lt_of_pos (c / 2) (show (0 : Int) < 1000000000000000000000000000000 by decide)
    refine ⟨by decide, ?_⟩
    split
    · refine ⟨by decide, bd200 (by decide), by decide, q _ ?_ ?_⟩
      · omega
      · omega
    · refine ⟨by decide, bd200 (by decide), ⟨by decide, by decide, by decide⟩, by decide, ⟨by decide, by decide, by decide⟩, mul200 (by omega) (by decide), ⟨by decide, by decide, by decide⟩, by decide, ?_⟩
      generalize c / 2 % 1000000000000000000000000000000 * 3315501701285949699224633478459810372516696558535471 = x
      exact q _ (by omega) (by omega)
def sp_knots (K : PySem.W.Frag) : Sp := fun vs H Q _ => ∃ (a : Addr) (ns : List Int), vs = [.ref a] ∧ SqL K H a (ns.map V.int) ∧ ∀ l xs ks H', Same H H' → H' l = some (.lst xs) → Pts H' xs ks → (∀ p ∈ ks, p.1.natAbs < 2 ^ 180 ∧ p.2.natAbs < 2 ^ 180) → okKn ks → ks.length ≤ 8 → Q (.ref l) H'
def inv_knots (H : Hp) (a l : Addr) (i : Nat) (σ : St) (H1 : Hp) : Prop := ∃ (xs : List V) (ks : List P2) (k : P2) (e1 e2 : Option V), σ = [some (.ref a), some (.ref l), e1, e2] ∧ Same H H1 ∧ H1 l = some (.lst xs) ∧ Pts H1 xs (ks ++ [k]) ∧ ks.length = i ∧ ris ((ks ++ [k]).map (·.1)) = true ∧ ris ((ks ++ [k]).map (·.2)) = true ∧
  (∀ p ∈ ks, p.1 < k.1 ∧ p.2 < k.2) ∧ (∀ p ∈ ks, p.1.natAbs < 2 ^ 180 ∧ p.2.natAbs < 2 ^ 180) ∧ (-100000000000000000000000000000000000000000000000000 ≤ k.1 ∧ k.1 ≤ 100000000000000000000000000000000000000000000000000 * (i + 1)) ∧ (-100000000000000000000000000000000000000000000000000 ≤ k.2 ∧ k.2 ≤ 100000000000000000000000000000000000000000000000000 * (i + 1))
theorem last_pt {H : Hp} {xs : List V} {ks : List P2} {k : P2} (h : Pts H xs (ks ++ [k])) : ∃ v, atI xs (-1) = some v ∧ IsPt H v k := by
  have hl := h.len
  rw [List.length_append, List.length_singleton] at hl
  obtain ⟨x, ex, r⟩ := h.at (i := ks.length) (a := k) (by simp)
  refine ⟨x, ?_, r⟩
  unfold atI ixN
  rw [if_neg (by decide), if_pos (by omega)]
  show xs[(-1 + (xs.length : Int)).toNat]? = _
  rw [show (-1 + (xs.length : Int)).toNat = ks.length by omega]
  exact ex
theorem ok_law_knots (T : Tx K mg) : FnOk P w K mg base (CXX P w) 2 T.a_law_knots T.fd_law_knots ["_law_script"] (sp_knots K) := by
  refine okN T.F_law_knots sc_law_knots (fun vs H Q E h => ?_) (fun cdv A outer s H vs Q E hr h => ?_)
  · obtain ⟨a, ns, rfl, _⟩ := h
    rfl
  · obtain ⟨a, ns, rfl, hS, q⟩ := h
    refine ⟨_, (pss_cons (ps_set (i := 1) sc_law_knots.nd rfl (Or.inl rfl) (pe_lst (pa_cons (pe_tup (pa_cons (pe_call (ok_law_number T) (hr.mono (by decide)) rfl T.m_law_number T.F_law_number.kp T.b_law_number .nil passE0 (pa_cons (pe_call (ok_law_cell T) (hr.mono (by decide)) rfl T.m_law_cell T.F_law_cell.kp T.b_law_cell .nil passE0 (pa_cons (pv 0) (pa_cons pe_int pa_nil))) pa_nil)) (pa_cons (pe_call (ok_law_number T) (hr.mono (by decide)) rfl T.m_law_number T.F_law_number.kp T.b_law_number .nil passE0 (pa_cons (pe_call (ok_law_cell T) (hr.mono (by decide)) rfl T.m_law_cell T.F_law_cell.kp T.b_law_cell .nil passE0 (pa_cons (pv 0) (pa_cons pe_int pa_nil))) pa_nil)) pa_nil))) pa_nil)))
    (pss_cons (ps_for PassesOwn.never rfl (pi_range1 rfl T.n_range (pa_cons (pe_op op_add pe_int (pe_op op_mod (pe_call (ok_law_cell T) (hr.mono (by decide)) rfl T.m_law_cell T.F_law_cell.kp T.b_law_cell .nil passE0 (pa_cons (pv 0) (pa_cons pe_int pa_nil))) pe_int)) pa_nil)) (pg_name (i := 2) sc_law_knots.nd rfl (Or.inl rfl)) (pss_cons (ps_set (i := 3) sc_law_knots.nd rfl (Or.inl rfl) (pe_op op_add (pe_ix ix_seq (pe_ix ix_seq (pv 1) (pe_un un_neg pe_int) (fun _ _ => rfl)) pe_int (fun _ _ => rfl)) (pe_call (ok_law_step T) (hr.mono (by decide)) rfl T.m_law_step T.F_law_step.kp T.b_law_step .nil passE0 (pa_cons (pe_call (ok_law_cell T) (hr.mono (by decide)) rfl T.m_law_cell T.F_law_cell.kp T.b_law_cell .nil passE0 (pa_cons (pv 0) (pa_cons (pe_op op_add pe_int (pe_op op_mulB pe_int (pv 2))) pa_nil))) pa_nil))))
        (pss_one (ps_expr (pe_bm PySem.F.plainAttrs_list PySem.F.slot_list_append PySem.F.type_list_append mt_append (pv 1) (pa_cons (pe_tup (pa_cons (pv 3) (pa_cons (pe_op op_add (pe_ix ix_seq (pe_ix ix_seq (pv 1) (pe_un un_neg pe_int) (fun _ _ => rfl)) pe_int (fun _ _ => rfl)) (pe_call (ok_law_step T) (hr.mono (by decide)) rfl T.m_law_step T.F_law_step.kp T.b_law_step .nil passE0 (pa_cons (pe_call (ok_law_cell T) (hr.mono (by decide)) rfl T.m_law_cell T.F_law_cell.kp T.b_law_cell .nil passE0 (pa_cons (pv 0) (pa_cons (pe_op op_add pe_int (pe_op op_mulB pe_int (pv 2))) pa_nil))) pa_nil))) pa_nil))) pa_nil))))))
    (pss_one (ps_ret (pv 1))))), ?_⟩
    walk_at "gzn"
    refine ⟨a, ns, 1, rfl, hS, by decide, _, rfl, a, ns, 2, rfl, hS, by decide, _, rfl, ?_⟩
    have h1 := num_in (cellD ns 1)
    have h2 := num_in (cellD ns 2)
    generalize num (cellD ns 1) = r at h1 ⊢
    generalize num (cellD ns 2) = v at h2 ⊢
    walk_at "gzn"
    refine ⟨line2, fun p hp => ⟨by decide, fun l hl => ?_⟩⟩
    have s0 := same_upd (o := .tup [.int r, .int v]) hp
    have S1 := s0.trans (same_upd (o := .lst [.ref p]) hl)
    have L1 : upd (upd H p (.tup [.int r, .int v])) l (.lst [.ref p]) l = some (.lst [.ref p]) := upd_same
    have P1 : IsPt (upd (upd H p (.tup [.int r, .int v])) l (.lst [.ref p])) (.ref p) (r, v) := ⟨p, rfl, same_upd hl _ _ upd_same⟩
    have Hl : H l = none := s0.free hl
    generalize upd (upd H p (.tup [.int r, .int v])) l (.lst [.ref p]) = H1 at S1 L1 P1 ⊢
    refine ⟨a, ns, 0, rfl, S1.seq hS, by decide, ?_⟩
    walk_at "gzn"
    have h11 : 0 ≤ cellD ns 0 % 5 ∧ cellD ns 0 % 5 ≤ 6 := by omega
    generalize cellD ns 0 % 5 = c0 at h11 ⊢
    refine ⟨by decide, by omega, by omega, by_range (inv_knots H a l) ⟨_, [], (r, v), _, _, rfl, S1, L1, ⟨P1, trivial⟩, rfl, rfl, rfl, fun p hp => by simp at hp, fun p hp => by simp at hp, ⟨h1.1, by omega⟩, h2.1, by omega⟩ ?_ ?_⟩
    · rintro i σ H2 hi ⟨xs, ks, k, e1, e2, rfl, s2, L2, hP, hkl, r1, r2, hlt, hbd, b1, b2⟩
      have hi' : i < 7 := by omega
      obtain ⟨w, ew, wa, rfl, hw⟩ := last_pt hP
      walk_at "gzn"
      refine ixL (SqL.of L2) ew (ixT (SqT.of hw) rfl ⟨mul200 (by decide) (by omega), a, ns, _, rfl, s2.seq hS, by omega, _, rfl, fun d hd1 hd2 => ?_⟩)
      walk_at "gzn"
      refine ⟨.inl ⟨rfl, _, SqL.of L2⟩, ixL (SqL.of L2) ew (ixT (SqT.of hw) rfl ⟨mul200 (by decide) (by omega), a, ns, _, rfl, s2.seq hS, by omega, _, rfl, fun d' hd1' hd2' => ?_⟩)⟩
      walk_at "gzn"
      refine ⟨line2, fun t ht => ?_⟩
      have s3 := same_upd (o := .tup [.int (k.1 + d), .int (k.2 + d')]) ht
      have L3 := s3 _ _ L2
      have hx := hP.len
      rw [List.length_append, List.length_singleton] at hx
      have bk : k.1.natAbs < 2 ^ 180 ∧ k.2.natAbs < 2 ^ 180 := ⟨by omega, by omega⟩
      refine ⟨_, L3, Nat.lt_of_le_of_lt (by omega : xs.length ≤ 100) (by decide), _, ks ++ [k], (k.1 + d, k.2 + d'), _, _, rfl, same_put Hl (s2.trans s3), upd_same, Pts.put (All2.snoc (hP.same s3) ⟨t, rfl, upd_same⟩) L3, by rw [List.length_append, List.length_singleton, hkl], ?_, ?_, ?_, ?_, ⟨by omega, ?_⟩, by omega, ?_⟩
      · rw [List.map_append]
        refine ris_snoc r1 fun x hx => ?_
        obtain ⟨p, hp, rfl⟩ := List.mem_map.mp hx
        show p.1 < k.1 + d
        rcases List.mem_append.mp hp with h | h
        · have := (hlt p h).1; omega
        · have : p = k := by simpa using h
          subst this; omega
      · rw [List.map_append]
        refine ris_snoc r2 fun x hx => ?_
        obtain ⟨p, hp, rfl⟩ := List.mem_map.mp hx
        show p.2 < k.2 + d'
        rcases List.mem_append.mp hp with h | h
        · have := (hlt p h).2; omega
        · have : p = k := by simpa using h
          subst this; omega
      · intro p hp
        show p.1 < k.1 + d ∧ p.2 < k.2 + d'
        rcases List.mem_append.mp hp with h | h
        · have := hlt p h; omega
        · have : p = k := by simpa using h
          subst this; omega
      · intro p hp
        rcases List.mem_append.mp hp with h | h
        · exact hbd p h
        · have : p = k := by simpa using h
          subst this; exact bk
      · show k.1 + d ≤ _
        push_cast; omega
      · show k.2 + d' ≤ _
        push_cast; omega
    · rintro σ H2 ⟨xs, ks, k, e1, e2, rfl, s2, L2, hP, hkl, r1, r2, hlt, hbd, b1, b2⟩
      walk_at "gzn"
      refine q _ _ _ _ s2 L2 hP (fun p hp => ?_) ⟨by rw [List.length_append, List.length_singleton]; omega, r1, r2⟩ (by rw [List.length_append, List.length_singleton]; omega)
      rcases List.mem_append.mp hp with h | h
      · exact hbd p h
      · have : p = k := by simpa using h
        subst this
        have : (1 + c0).toNat ≤ 7 := by omega
        exact ⟨by omega, by omega⟩
def sp_lerror : Sp := fun vs H Q _ => ∃ (c : Int), vs = [.int c] ∧ ∀ d : Int, 0 ≤ d → d ≤ 100000000000000000000000000000000000000000000000000 → Q (.int d) H
theorem ok_law_error (T : Tx K mg) : FnOk P w K mg base (CXX P w) 1 T.a_law_error T.fd_law_error ["_law_cell_here"] sp_lerror := by
  refine okN T.F_law_error sc_law_error (fun vs H Q E h => ?_) (fun cdv A outer s H vs Q E hr h => ?_)
  · obtain ⟨c, rfl, _⟩ := h
    rfl
  · obtain ⟨c, rfl, q⟩ := h
    refine ⟨_, (pss_cons (ps_if (pt_cmpR op_eq (pe_op op_mod (pv 0) pe_int) pe_int (nomark _)) (pss_one (ps_ret pe_int)) pss_nil)
    (pss_cons (ps_if (pt_cmpR op_eq (pe_op op_mod (pv 0) pe_int) pe_int (nomark _)) (pss_one (ps_ret (pe_op op_add pe_int (pe_op op_mod (pe_op op_fdivB (pv 0) pe_int) pe_int)))) pss_nil)
    (pss_one (ps_ret (pe_op op_mod (pe_op op_mulB (pe_op op_mod (pe_op op_fdivB (pv 0) pe_int) (pe_op op_pow pe_int pe_int)) (pe_op op_pow pe_int pe_int)) (pe_op op_add (pe_op op_pow pe_int pe_int) pe_int)))))), ?_⟩
    walk_at "gzn"
    have b1 := Int.emod_nonneg (c / 3) (show (1000000000000000000000000000000 : Int) ≠ 0 by decide)
    have b2 := Int.emod_lt_of_pos (c / 3) (show (0 : Int) < 1000000000000000000000000000000 by decide)
    refine ⟨by decide, ?_⟩
    split
    · exact q _ (by omega) (by omega)
    · refine ⟨by decide, ?_⟩
      split
      · exact ⟨by decide, bd200 (by decide), by decide, q _ (by omega) (by omega)⟩
      · refine ⟨by decide, bd200 (by decide), ⟨by decide, by decide, by decide⟩, by decide, ⟨by decide, by decide, by decide⟩, mul200 (by omega) (by decide), ⟨by decide, by decide, by decide⟩, by decide, ?_⟩
        generalize c / 3 % 1000000000000000000000000000000 * 3315501701285949699224633478459810372516696558535471 = x
        exact q _ (by omega) (by omega)
def sp_lraw (K : PySem.W.Frag) : Sp := fun vs H Q _ => ∃ (c : Int) (l : Addr) (xs : List V) (ks : List P2), vs = [.int c, .ref l] ∧ SqL K H l xs ∧ Pts H xs ks ∧ (∀ p ∈ ks, p.1.natAbs < 2 ^ 180 ∧ p.2.natAbs < 2 ^ 180) ∧ okKn ks ∧ ks.length ≤ 8 ∧ ∀ r : En, goodR ks r → (∀ n, r = some n → n.natAbs < 2 ^ 180) → Q (ev r) H
theorem ok_law_raw (T : Tx K mg) : FnOk P w K mg base (CXX P w) 1 T.a_law_raw T.fd_law_raw ["_law_cell_here", "_law_knots_here"] (sp_lraw K) := by
  refine okN T.F_law_raw sc_law_raw (fun vs H Q E h => ?_) (fun cdv A outer s H vs Q E hr h => ?_)
  · obtain ⟨c, l, xs, ks, rfl, _⟩ := h
    rfl
  · obtain ⟨c, l, xs, ks, rfl, hS, hP, hb, hk, hn, q⟩ := h
    refine ⟨_, (pss_cons (ps_if (pt_cmpR op_eq (pe_op op_mod (pv 0) pe_int) pe_int (nomark _)) (pss_one (ps_ret pe_non)) pss_nil)
    (pss_cons (ps_if (pt_cmpR op_eq (pe_op op_mod (pv 0) pe_int) pe_int (nomark _)) (pss_one (ps_ret (pe_ix ix_seq (pe_ix ix_seq (pv 1) (pe_op op_mod (pe_op op_fdivB (pv 0) pe_int) (pe_callB call_len (by rfl) T.n_len b_len (pa_cons (pv 1) pa_nil))) (fun _ _ => rfl)) pe_int (fun _ _ => rfl)))) pss_nil)
    (pss_cons (ps_set (i := 2) sc_law_raw.nd rfl (Or.inl rfl) (pe_op op_sub (pe_ix ix_seq (pe_ix ix_seq (pv 1) (pe_un un_neg pe_int) (fun _ _ => rfl)) pe_int (fun _ _ => rfl)) (pe_ix ix_seq (pe_ix ix_seq (pv 1) pe_int (fun _ _ => rfl)) pe_int (fun _ _ => rfl))))
    (pss_one (ps_ret (pe_op op_add (pe_ix ix_seq (pe_ix ix_seq (pv 1) pe_int (fun _ _ => rfl)) pe_int (fun _ _ => rfl)) (pe_op op_mod (pe_op op_mulB (pe_op op_mod (pe_op op_fdivB (pv 0) pe_int) (pe_op op_pow pe_int pe_int)) (pe_op op_pow pe_int pe_int)) (pe_op op_add (pv 2) pe_int)))))))), ?_⟩
    have hl := hP.len
    have h2 := hk.1
    walk_at "gzn"
    refine ⟨by decide, ?_⟩
    split
    · exact q none good_none (fun n z => nomatch z)
    · refine ⟨by decide, ?_⟩
      split
      · have e0 := Int.emod_nonneg (c / 6) (show (ks.length : Int) ≠ 0 by omega)
        have e1 := Int.emod_lt_of_pos (c / 6) (show (0 : Int) < ks.length by omega)
        refine ⟨by decide, bd200 (by decide), _, lenL hS, by omega, ?_⟩
        rw [hl]
        obtain ⟨j, ej⟩ : ∃ j : Nat, c / 6 % (ks.length : Int) = (j : Int) := ⟨(c / 6 % (ks.length : Int)).toNat, by omega⟩
        rw [ej] at e1 ⊢
        obtain ⟨p, ap, hp, mp⟩ := pt_at hP (show j < ks.length by omega)
        exact ixL hS ap (ixT (SqT.of hp) rfl (q (some _) (good_some.mpr (hit_pt hk (by omega))) (fun n z => by cases z; exact (hb _ mp).1)))
      · obtain ⟨p, ap, hp, mp⟩ := pt_at (j := 0) hP (by omega)
        obtain ⟨z, az, hz, mz⟩ := pt_last hP h2
        have b1 := Int.emod_nonneg (c / 6) (show (1000000000000000000000000000000 : Int) ≠ 0 by decide)
        have b2 := Int.emod_lt_of_pos (c / 6) (show (0 : Int) < 1000000000000000000000000000000 by decide)
        have h0 := (hb _ mp).1
        have h1 := (hb _ mz).1
        have hlt := ris_lt1 hk.2.1 (i := 0) (j := ks.length - 1) (by omega) (by omega)
        refine ixL hS az (ixT (SqT.of hz) rfl (ixL hS ap (ixT (SqT.of hp) rfl ⟨_, rfl, _, rfl, ixL hS ap (ixT (SqT.of hp) rfl ⟨by decide, bd200 (by decide), ⟨by decide, by decide, by decide⟩, by decide, ⟨by decide, by decide, by decide⟩, mul200 (by omega) (by decide), by omega, _, rfl, ?_⟩)⟩)))
        generalize c / 6 % 1000000000000000000000000000000 * 3315501701285949699224633478459810372516696558535471 = y
        have y0 := Int.emod_nonneg y (show (ptD ks (ks.length - 1)).1 - (ptD ks 0).1 + 1 ≠ 0 by omega)
        have y1 := Int.emod_lt_of_pos y (show 0 < (ptD ks (ks.length - 1)).1 - (ptD ks 0).1 + 1 by omega)
        generalize y % ((ptD ks (ks.length - 1)).1 - (ptD ks 0).1 + 1) = x at y0 y1
        refine q (some _) (good_some.mpr (hit_of h2 (by omega) (by omega))) fun n z => ?_
        have e : (ptD ks 0).1 + x = n := Option.some.inj z
        omega
def sp_lvalue (K : PySem.W.Frag) : Sp := fun vs H Q _ => ∃ (l : Addr) (r : Int) (up : Bool) (xs : List V) (ks : List P2), vs = [.ref l, .int r, .bl up] ∧ SqL K H l xs ∧ Pts H xs ks ∧ BQ ks ∧ okKn ks ∧ ks.length ≤ 1000 ∧ Bd 250 r ∧ Q (ev (if up = true then hiE ks r else loE ks r)) H
def inv_lvalue (H : Hp) (l : Addr) (r : Int) (up : Bool) (ks : List P2) (i : Nat) (σ : St) (H1 : Hp) : Prop := ∃ (e1 e2 e3 e4 : Option V), σ = [some (.ref l), some (.int r), some (.bl up), e1, e2, e3, e4] ∧ H1 = H ∧ ∀ j, j < i → inB ks r j = false
theorem ok_law_value (T : Tx K mg) : FnOk P w K mg base (CXX P w) 1 T.a_law_value T.fd_law_value ["_law_knots_here", "_law_raw_here", "_law_up"] (sp_lvalue K) := by
  refine okN T.F_law_value sc_law_value (fun vs H Q E h => ?_) (fun cdv A outer s H vs Q E hr h => ?_)
  · obtain ⟨l, r, up, xs, ks, rfl, _⟩ := h
    rfl
  · obtain ⟨l, r, up, xs, ks, rfl, hS, hP, hB, hk, hn, br, q⟩ := h
    refine ⟨_, (pss_cons (ps_for PassesOwn.never rfl (pi_range1 rfl T.n_range (pa_cons (pe_op op_sub (pe_callB call_len (by rfl) T.n_len b_len (pa_cons (pv 0) pa_nil)) pe_int) pa_nil)) (pg_name (i := 3) sc_law_value.nd rfl (Or.inl rfl)) (pss_cons (ps_set (i := 4) sc_law_value.nd rfl (Or.inl rfl) (pe_ix ix_seq (pv 0) (pv 3) (fun _ _ => rfl)))
        (pss_cons (ps_set (i := 5) sc_law_value.nd rfl (Or.inl rfl) (pe_ix ix_seq (pv 0) (pe_op op_add (pv 3) pe_int) (fun _ _ => rfl)))
        (pss_one (ps_if (pt_chain op_le op_le (pe_ix ix_seq (pv 4) pe_int (fun _ _ => rfl)) (pv 1) (pe_ix ix_seq (pv 5) pe_int (fun _ _ => rfl))) (pss_cons (ps_set (i := 6) sc_law_value.nd rfl (Or.inl rfl) (pe_op op_mulB (pe_op op_sub (pe_ix ix_seq (pv 5) pe_int (fun _ _ => rfl)) (pe_ix ix_seq (pv 4) pe_int (fun _ _ => rfl))) (pe_op op_sub (pv 1) (pe_ix ix_seq (pv 4) pe_int (fun _ _ => rfl)))))
          (pss_cons (ps_if (pt_val (pv 2)) (pss_one (ps_ret (pe_op op_sub (pe_ix ix_seq (pv 4) pe_int (fun _ _ => rfl)) (pe_op op_fdivB (pe_un un_neg (pv 6)) (pe_op op_sub (pe_ix ix_seq (pv 5) pe_int (fun _ _ => rfl)) (pe_ix ix_seq (pv 4) pe_int (fun _ _ => rfl))))))) pss_nil)
          (pss_one (ps_ret (pe_op op_add (pe_ix ix_seq (pv 4) pe_int (fun _ _ => rfl)) (pe_op op_fdivB (pv 6) (pe_op op_sub (pe_ix ix_seq (pv 5) pe_int (fun _ _ => rfl)) (pe_ix ix_seq (pv 4) pe_int (fun _ _ => rfl))))))))) pss_nil)))))
    (pss_one (ps_ret pe_non))), ?_⟩
    have hl := hP.len
    have h2 := hk.1
    walk_at "gzn"
    refine ⟨_, lenL hS, by omega, by omega, by_range (inv_lvalue H l r up ks) ⟨_, _, _, _, rfl, rfl, fun j hj => absurd hj (by omega)⟩ ?_ ?_⟩
    · rintro i σ H1 hi ⟨e1, e2, e3, e4, rfl, rfl, hno⟩
      have hi' : i + 1 < ks.length := by omega
      obtain ⟨p, ap, hp, mp⟩ := pt_at hP (show i < ks.length by omega)
      obtain ⟨z, az, hz, mz⟩ := pt_at hP hi'
      have hlt := ris_lt1 hk.2.1 (i := i) (j := i + 1) (by omega) hi'
      have bp := hB _ mp
      have bz := hB _ mz
      have bd := bz.2.sub bp.2 (k := 251) (by decide) (by decide)
      have bx := bz.1.sub bp.1 (k := 251) (by decide) (by decide)
      have bc := br.sub bp.1 (k := 251) (by decide) (by decide)
      have a0 : atI xs (0 + (i : Int)) = some (.ref p) := by rw [Int.zero_add]; exact ap
      have a1 : atI xs (0 + (i : Int) + 1) = some (.ref z) := by rw [Int.zero_add]; exact az
      have P0 := SqT.of (K := K) hp
      have Z0 := SqT.of (K := K) hz
      have bad : inB ks r i = false → ∀ j, j < i + 1 → inB ks r j = false := fun h j hj => by
        by_cases e : j = i
        · subst e; exact h
        · exact hno j (by omega)
      walk_at "gzn"
      refine ixL hS a0 (ixL hS a1 (ixT P0 rfl ⟨_, rfl, ?_⟩))
      by_cases c1 : (ptD ks i).1 ≤ r
      · rw [if_pos c1]
        refine ixT Z0 rfl ⟨_, rfl, ?_⟩
        by_cases c2 : r ≤ (ptD ks (i + 1)).1
        · rw [if_pos c2]
          have at1 : atB ks r = some i := fst_at (Nat.zero_le _) (by omega) (fun k _ hk => hno k hk) (by unfold inB; rw [decide_eq_true c1, decide_eq_true c2]; rfl)
          refine ixT Z0 rfl (ixT P0 rfl ⟨_, rfl, _, rfl, ixT P0 rfl ⟨_, rfl, ⟨bd.up (by decide), bc.up (by decide)⟩, ?_⟩⟩)
          cases up with
          | true =>
            have e : hiE ks r = some (hiV (ptD ks i) (ptD ks (i + 1)) r) := by unfold hiE; rw [at1]; rfl
            rw [if_pos rfl, e] at q
            rw [if_pos rfl]
            exact ixT P0 rfl (ixT Z0 rfl (ixT P0 rfl ⟨_, rfl, _, rfl, by omega, bx.up (by decide), _, rfl, q⟩))
          | false =>
            have e : loE ks r = some (loV (ptD ks i) (ptD ks (i + 1)) r) := by unfold loE; rw [at1]; rfl
            rw [if_neg (by decide), e] at q
            rw [if_neg (by decide)]
            exact ixT P0 rfl (ixT Z0 rfl (ixT P0 rfl ⟨_, rfl, _, rfl, by omega, bx.up (by decide), _, rfl, q⟩))
        · rw [if_neg c2]
          exact ⟨_, _, _, _, rfl, rfl, bad (by unfold inB; rw [decide_eq_false c2, Bool.and_false])⟩
      · rw [if_neg c1]
        exact ⟨_, _, _, _, rfl, rfl, bad (by unfold inB; rw [decide_eq_false c1, Bool.false_and])⟩
    · rintro σ H1 ⟨e1, e2, e3, e4, rfl, rfl, hno⟩
      walk_at "gzn"
      have at0 : atB ks r = none := fst_no fun k _ hk => hno k (by omega)
      have e : (if up = true then hiE ks r else loE ks r) = none := by
        unfold hiE loE; rw [at0]; cases up <;> rfl
      rw [e] at q
      exact q
def sp_ldue (K : PySem.W.Frag) : Sp := fun vs H Q _ => ∃ (l a c : Addr) (er : Int) (xs : List V) (ks : List P2) (rs : List En) (zs : List Int) (sl : Int → Int), vs = [.ref l, .ref a, .int er, .ref c] ∧ SqL K H l xs ∧ Pts H xs ks ∧ BQ ks ∧ okKn ks ∧ ks.length ≤ 1000 ∧ SqL K H a (rs.map ev) ∧ rs.length ≤ 100 ∧ (∀ n, some n ∈ rs → Bd 240 n) ∧ Bd 240 er ∧ SqL K H c (zs.map V.int) ∧ (∀ i, i < rs.length → zs[i]? = some (sl i)) ∧
  ∀ m ys H', Same H H' → H' m = some (.lst ys) → All2 (IsW H') ys (wOuts sl 0 (rs.map (seenW ks er))) → Q (.ref m) H'
def inv_ldue (H : Hp) (l a c m : Addr) (er : Int) (ks : List P2) (rs : List En) (sl : Int → Int) (i : Nat) (σ : St) (H1 : Hp) : Prop := ∃ (ys : List V) (e1 e2 e3 e4 : Option V), σ = [some (.ref l), some (.ref a), some (.int er), some (.ref c), some (.ref m), e1, e2, e3, e4] ∧ Same H H1 ∧ H1 m = some (.lst ys) ∧ All2 (IsW H1) ys (wOuts sl 0 ((rs.take i).map (seenW ks er)))
theorem ok_law_due (T : Tx K mg) : FnOk P w K mg base (CXX P w) 2 T.a_law_due T.fd_law_due ["_law_knots_here", "_law_words", "_law_error_here", "_law_slacks"] (sp_ldue K) := by
  refine okN T.F_law_due sc_law_due (fun vs H Q E h => ?_) (fun cdv A outer s H vs Q E hr h => ?_)
  · obtain ⟨l, a, c, er, xs, ks, rs, zs, sl, rfl, _⟩ := h
    rfl
  · obtain ⟨l, a, c, er, xs, ks, rs, zs, sl, rfl, hS, hP, hB, hk, hn, hR, hrl, hrb, ber, hC, hz, q⟩ := h
    refine ⟨_, (pss_cons (ps_set (i := 4) sc_law_due.nd rfl (Or.inl rfl) (pe_lst pa_nil))
    (pss_cons (ps_for PassesOwn.never rfl (pi_range1 rfl T.n_range (pa_cons (pe_callB call_len (by rfl) T.n_len b_len (pa_cons (pv 1) pa_nil)) pa_nil)) (pg_name (i := 5) sc_law_due.nd rfl (Or.inl rfl)) (pss_cons (ps_set (i := 6) sc_law_due.nd rfl (Or.inl rfl) pe_non)
        (pss_cons (ps_if (pt_cmp (pc_notN (pe_ix ix_seq (pv 1) (pv 5) (fun _ _ => rfl)))) (pss_cons (ps_set (i := 7) sc_law_due.nd rfl (Or.inl rfl) (pe_call (ok_law_value T) (hr.mono (by decide)) rfl T.m_law_value T.F_law_value.kp T.b_law_value .nil passE0 (pa_cons (pv 0) (pa_cons (pe_op op_sub (pe_ix ix_seq (pv 1) (pv 5) (fun _ _ => rfl)) (pv 2)) (pa_cons pe_bl pa_nil)))))
            (pss_cons (ps_set (i := 8) sc_law_due.nd rfl (Or.inl rfl) (pe_call (ok_law_value T) (hr.mono (by decide)) rfl T.m_law_value T.F_law_value.kp T.b_law_value .nil passE0 (pa_cons (pv 0) (pa_cons (pe_op op_add (pe_ix ix_seq (pv 1) (pv 5) (fun _ _ => rfl)) (pv 2)) (pa_cons pe_bl pa_nil)))))
            (pss_cons (ps_if (pt_cmp (pc_notN (pv 7))) (pss_one (ps_set (i := 7) sc_law_due.nd rfl (Or.inl rfl) (pe_op op_sub (pv 7) (pe_ix ix_seq (pv 3) (pv 5) (fun _ _ => rfl))))) pss_nil)
            (pss_cons (ps_if (pt_cmp (pc_notN (pv 8))) (pss_one (ps_set (i := 8) sc_law_due.nd rfl (Or.inl rfl) (pe_op op_add (pv 8) (pe_ix ix_seq (pv 3) (pv 5) (fun _ _ => rfl))))) pss_nil)
            (pss_one (ps_set (i := 6) sc_law_due.nd rfl (Or.inl rfl) (pe_tup (pa_cons (pv 7) (pa_cons (pv 8) pa_nil))))))))) pss_nil)
        (pss_one (ps_expr (pe_bm PySem.F.plainAttrs_list PySem.F.slot_list_append PySem.F.type_list_append mt_append (pv 4) (pa_cons (pv 6) pa_nil)))))))
    (pss_one (ps_ret (pv 4))))), ?_⟩
    walk_at "gzn"
    refine ⟨by decide, fun m hm0 => ?_⟩
    have s1 := same_upd (o := .lst []) hm0
    refine ⟨_, lenL (s1.seq hR), ?_⟩
    rw [List.length_map, Int.toNat_natCast]
    refine ⟨by omega, by omega, by_range (inv_ldue H l a c m er ks rs sl) ⟨[], _, _, _, _, rfl, s1, upd_same, trivial⟩ ?_ ?_⟩
    · rintro i σ H1 hi ⟨ys, e1, e2, e3, e4, rfl, s2, M2, hY⟩
      have er0 : rs[i]? = some rs[i] := List.getElem?_eq_getElem hi
      have hrm := List.mem_of_getElem? er0
      generalize rs[i] = r at er0 hrm
      have ar : atI (rs.map ev) (0 + (i : Int)) = some (ev r) := by
        rw [Int.zero_add]; refine atI_nat ?_
        rw [List.getElem?_map, er0]; rfl
      have ac : atI (zs.map V.int) (0 + (i : Int)) = some (.int (sl i)) := by
        rw [Int.zero_add]; refine atI_nat ?_
        rw [List.getElem?_map, hz i hi]; rfl
      have hyl := hY.len
      rw [wOuts_len, List.length_map, List.length_take] at hyl
      have tk : (rs.take (i + 1)).map (seenW ks er) = (rs.take i).map (seenW ks er) ++ [seenW ks er r] := by rw [List.take_succ, er0, List.map_append]; rfl
      have tl : ((rs.take i).map (seenW ks er)).length = i := by rw [List.length_map, List.length_take]; omega
      have zl : ys.length < sizeLine := Nat.lt_of_le_of_lt (by omega : ys.length ≤ 100) (by decide)
      have app : ∀ y H4 e1 e2 e3 e4, Same H1 H4 → IsW H4 y (wOut (sl i) (seenW ks er r)) → ∃ xs', H4 m = some (.lst xs') ∧ xs'.length < sizeLine ∧ inv_ldue H l a c m er ks rs sl (i + 1) [some (.ref l), some (.ref a), some (.int er), some (.ref c), some (.ref m), e1, e2, e3, e4] (upd H4 m (.lst (xs' ++ [y]))) := fun y H4 e1 e2 e3 e4 s4 hy => by
        have M4 := s4 _ _ M2
        refine ⟨ys, M4, zl, ys ++ [y], e1, e2, e3, e4, rfl, same_put hm0 (s2.trans s4), upd_same, ?_⟩
        rw [tk, wOuts_snoc, tl, Int.zero_add]
        exact All2.imp (fun x a r => IsW.put r M4) ((hY.imp fun x a r => IsW.same r s4).snoc hy)
      walk_at "gzn"
      refine ixL (s2.seq hR) ar ?_
      rcases r with _ | n
      · rw [if_neg (fun z => z rfl)]
        exact ⟨.inl ⟨rfl, _, SqL.of M2⟩, app _ _ _ _ _ _ (Same.refl _) rfl⟩
      · rw [if_pos (fun z => nomatch z)]
        have bn := hrb n hrm
        refine ixL (s2.seq hR) ar ⟨n, rfl, l, _, false, xs, ks, rfl, s2.seq hS, hP.same s2, hB, hk, hn, bn.sub ber (by decide) (by decide), ?_⟩
        rw [if_neg (by decide)]
        refine ixL (s2.seq hR) ar ⟨n, rfl, l, _, true, xs, ks, rfl, s2.seq hS, hP.same s2, hB, hk, hn, bn.add ber (by decide) (by decide), ?_⟩
        rw [if_pos rfl]
        have es : seenW ks er (some n) = some (loE ks (n - er), hiE ks (n + er)) := rfl
        rw [es] at app
        generalize loE ks (n - er) = lo at app ⊢
        generalize hiE ks (n + er) = hi at app ⊢
        have fin : ∀ (e1 e3 e4 : Option V), 2 ≤ sizeLine ∧ ∀ p : Addr, H1 p = none → tyV K "list" (.ref m) (upd H1 p (.tup [ev (subE lo (sl i)), ev (addE hi (sl i))])) ∧ ∃ xs', upd H1 p (.tup [ev (subE lo (sl i)), ev (addE hi (sl i))]) m = some (.lst xs') ∧ xs'.length < sizeLine ∧ inv_ldue H l a c m er ks rs sl (i + 1) [some (.ref l), some (.ref a), some (.int er), some (.ref c), some (.ref m), e1, some (.ref p), e3, e4] (upd (upd H1 p (.tup [ev (subE lo (sl i)), ev (addE hi (sl i))])) m (.lst (xs' ++ [.ref p]))) := fun e1 e3 e4 => ⟨line2, fun p hp => ⟨.inl ⟨rfl, _, SqL.of ((same_upd hp) _ _ M2)⟩, app _ _ _ _ _ _ (same_upd hp) ⟨p, rfl, upd_same⟩⟩⟩
        have C2 := s2.seq hC
        rcases lo with _ | lo <;> rcases hi with _ | hi
        · walk_at "gzn"
          exact fin _ _ _
        · walk_at "gzn"
          exact ixL C2 ac ⟨_, rfl, fin _ _ _⟩
        · walk_at "gzn"
          exact ixL C2 ac ⟨_, rfl, fin _ _ _⟩
        · walk_at "gzn"
          exact ixL C2 ac ⟨_, rfl, ixL C2 ac ⟨_, rfl, fin _ _ _⟩⟩
    · rintro σ H1 ⟨ys, e1, e2, e3, e4, rfl, s2, M2, hY⟩
      walk_at "gzn"
      rw [List.take_of_length_le (Nat.le_refl _)] at hY
      exact q _ _ _ s2 M2 hY
def sp_alike (K : PySem.W.Frag) : Sp := fun vs H Q _ => ∃ (f d : Addr) (xs ys : List V) (ws : List W2), vs = [.ref f, .ref d] ∧ H f = some (.lst xs) ∧ All2 (IsW H) xs ws ∧ SqL K H d ys ∧ All2 (IsW H) ys ws ∧ ws.length ≤ 1000 ∧ ∀ H', Same H H' → Q (.bl true) H'
def inv_alike (H : Hp) (f d : Addr) (_ : Nat) (σ : St) (H1 : Hp) : Prop := ∃ (e : Option V), σ = [some (.ref f), some (.ref d), e] ∧ Same H H1
theorem IsW.eq {K : PySem.W.Frag} {H : Hp} {v u : V} {s : S2} {neg : Bool} {Q : VK} (h : IsW H v (some s)) (h' : IsW H u (some s)) (q : Q (.bl (!neg)) H) : rEqD K neg v u H Q := eq_IsS h h' q
theorem ok_law_alike (T : Tx K mg) : FnOk P w K mg base (CXX P w) 2 T.a_law_alike T.fd_law_alike ["_law_found", "_law_due_here"] (sp_alike K) := by
  refine okN T.F_law_alike sc_law_alike (fun vs H Q E h => ?_) (fun cdv A outer s H vs Q E hr h => ?_)
  · obtain ⟨f, d, xs, ys, ws, rfl, _⟩ := h
    rfl
  · obtain ⟨f, d, xs, ys, ws, rfl, hF, hX, hD, hY, hn, q⟩ := h
    refine ⟨_, (pss_cons (ps_if (PW.pt (pw_or (pt_not (pt_val (pe_callB call_isiA (by rfl) T.n_isinstance b_isinstance (pa_cons (pv 0) (pa_cons (pe_bltn (v := .ty "list") rfl T.n_list b_list rfl) pa_nil))))) (pw_or1 (pt_cmpR op_ne (pe_callB call_len (by rfl) T.n_len b_len (pa_cons (pv 0) pa_nil)) (pe_callB call_len (by rfl) T.n_len b_len (pa_cons (pv 1) pa_nil)) (nomark _))))) (pss_one (ps_ret pe_bl)) pss_nil)
    (pss_cons (ps_for PassesOwn.never rfl (pi_range1 rfl T.n_range (pa_cons (pe_callB call_len (by rfl) T.n_len b_len (pa_cons (pv 1) pa_nil)) pa_nil)) (pg_name (i := 2) sc_law_alike.nd rfl (Or.inl rfl)) (pss_one (ps_if (PW.pt (pw_or (pt_cmp (pc_isN (pe_ix ix_seq (pv 1) (pv 2) (fun _ _ => rfl)))) (pw_or1 (pt_not (pt_val (pe_callB call_isiA (by rfl) T.n_isinstance b_isinstance (pa_cons (pe_ix ix_seq (pv 0) (pv 2) (fun _ _ => rfl)) (pa_cons (pe_bltn (v := .ty "tuple") rfl T.n_tuple b_tuple rfl) pa_nil)))))))) (pss_one (ps_if (PW.pt (pw_or (pt_cmp (pc_notN (pe_ix ix_seq (pv 1) (pv 2) (fun _ _ => rfl)))) (pw_or1 (pt_cmp (pc_notN (pe_ix ix_seq (pv 0) (pv 2) (fun _ _ => rfl))))))) (pss_one (ps_ret pe_bl)) pss_nil)) (pss_one (ps_if (PW.pt (pw_or (pt_cmpR (op_neD hr.units) (pe_ix ix_seq (pv 0) (pv 2) (fun _ _ => rfl)) (pe_ix ix_seq (pv 1) (pv 2) (fun _ _ => rfl)) (nomark _)) (pw_or1 (pt_not (pt_val (pe_callB (call_allL rfl) (by rfl) T.n_all b_all (pa_cons (pe_comp (CompOk.mk (fr := []) (ys := []) rfl (by decide +kernel) rfl (by decide +kernel) rfl rfl .nil .nil (by decide) rfl) rfl (pi_tup (pe_ix ix_seq (pv 0) (pv 2) (fun _ _ => rfl))) (fun C s2 H2 ex pn => ⟨pts_nil, (pe_or (pe_cmp (pc_isN (pv 0))) (pe_one (pe_call (ok_law_whole T) (hr.mono (by decide)) rfl T.m_law_whole T.F_law_whole.kp T.b_law_whole .nil passE0 (pa_cons (pv 0) pa_nil))))⟩)) pa_nil))))))) (pss_one (ps_ret pe_bl)) pss_nil)))))
    (pss_one (ps_ret pe_bl)))), ?_⟩
    have lx := hX.len
    have ly := hY.len
    walk_at "gzn"
    refine isi_lst hF ?_
    walk_at "gzn"
    refine ⟨_, lenL (SqL.of hF), _, lenL hD, ?_⟩
    rw [if_neg (fun z => z (by omega))]
    walk_at "gzn"
    refine ⟨_, lenL hD, by omega, by omega, by_range (inv_alike H f d) ⟨_, rfl, Same.refl H⟩ ?_ ?_⟩
    · rintro i σ H1 hi ⟨e, rfl, s1⟩
      have hi' : i < ws.length := by omega
      have ew : ws[i]? = some ws[i] := List.getElem?_eq_getElem hi'
      obtain ⟨x, ex, hx⟩ := hX.at ew
      obtain ⟨y, ey, hy⟩ := hY.at ew
      generalize ws[i] = w at hx hy
      have ax : atI xs (0 + (i : Int)) = some x := by rw [Int.zero_add]; exact atI_nat ex
      have ay : atI ys (0 + (i : Int)) = some y := by rw [Int.zero_add]; exact atI_nat ey
      have F1 := SqL.of (K := K) (s1 _ _ hF)
      have D1 := s1.seq hD
      walk_at "gzn"
      refine ixL D1 ay ?_
      rcases w with _ | ⟨c, e2⟩
      · have e1 : x = .non := hx
        have e3 : y = .non := hy
        subst e1 e3
        walk_at "gzn"
        refine ixL D1 ay ?_
        walk_at "gzn"
        refine ixL F1 ax ?_
        walk_at "gzn"
        exact ⟨_, rfl, s1⟩
      · have hx1 := IsW.same hx s1
        have hy1 := IsW.same hy s1
        obtain ⟨p, rfl, hp⟩ := id hx1
        obtain ⟨r, rfl, hr0⟩ := id hy1
        walk_at "gzn"
        refine ixL F1 ax (isi_tup hp ?_)
        walk_at "gzn"
        refine ixL F1 ax (ixL D1 ay (IsW.eq hx1 hy1 ?_))
        walk_at "gzn"
        refine ixL F1 ax ?_
        walk_at "gzn"
        refine ⟨⟨_, SqT.of hp⟩, blk_of it_tup (by show 2 ≤ sizeLine; decide) (compGo_map (p := fun _ => true) (f := fun _ => .bl true) (SqT.of hp) (fun x _ Q h => ?_) (fun x hx0 _ Q h => ?_) ?_)⟩
        · walk_at "gzn"
          exact h
        · obtain ⟨e', rfl⟩ : ∃ e' : En, x = ev e' := by
            simp at hx0
            rcases hx0 with h | h
            · exact ⟨_, h⟩
            · exact ⟨_, h⟩
          rcases e' with _ | n
          · walk_at "gzn"
            exact h
          · walk_at "gzn"
            refine ⟨_, rfl, .inr ⟨_, rfl⟩, ?_⟩
            simp only [isWhole]
            exact h
        · intro m hm
          refine ⟨m, rfl, [true, true], SqL.of upd_same, ?_⟩
          walk_at "gzn"
          exact ⟨_, rfl, s1.trans (same_upd hm)⟩
    · rintro σ H1 ⟨e, rfl, s1⟩
      walk_at "gzn"
      exact q _ s1
def sp_lrefused (K : PySem.W.Frag) (C G : Addr) : Sp := fun vs H Q _ => ∃ (v : V) (d1 d2 s er : Int) (ks : List P2) (a : Addr) (rs : List En), vs = [v, .ref a] ∧ GdAt C G H v d1 d2 s er ks ∧ BQ ks ∧ ks.length ≤ 1000 ∧ okKn ks ∧ 1 ≤ d2 ∧ Bd 300 d1 ∧ Bd 300 d2 ∧ Bd 300 s ∧ Bd 240 er ∧ SqL K H a (rs.map ev) ∧ (∀ n, some n ∈ rs → Bd 240 n) ∧ rs.length ≤ 100 ∧ (∃ r ∈ rs, ¬ goodR ks r) ∧ ∀ H', Q (.bl true) H'
theorem ok_law_refused (T : Tx K mg) : FnOk P w K mg base (CXX P w) 10 T.a_law_refused T.fd_law_refused ["_law_eye", "_law_words"] (sp_lrefused K T.C_Gauged T.C_Gauge) := by
  refine okN T.F_law_refused sc_law_refused (fun vs H Q E h => ?_) (fun cdv A outer s H vs Q E hr h => ?_)
  · obtain ⟨v, d1, d2, s, er, ks, a, rs, rfl, _⟩ := h
    rfl
  · obtain ⟨v, d1, d2, s, er, ks, a, rs, rfl, hE, hB, hn, hok, h2, b1, b2, bs, ber, hS, br, hl, hbad, q⟩ := h
    refine ⟨_, (pss_cons (ps_set (i := 2) sc_law_refused.nd rfl (Or.inl rfl) pe_bl)
    (pss_cons (ps_try (fun cls _ H1 => cls = .ref T.C_OffGauge ∧ Same H H1) 3 rfl rfl rfl T.c_GazeError sc_law_refused.nd rfl rfl (fun F pn hx => (pss_one (ps_expr (pe_meth (pv 0) T.cl_Gauged T.me_Gauged_stretches (ok_Gauged_stretches T) (hr.mono (by decide)) T.b_Gauged_stretches .nil hx (pa_cons (pv 1) pa_nil))))) (fun A' pn => (pss_one (ps_set (i := 2) sc_law_refused.nd rfl (Or.inl rfl) (pe_and (pe_callB (call_isiX (K := K) rfl) (by rfl) T.n_isinstance b_isinstance (pa_cons (pv 3) (pa_cons (pe_glob (v := .ref T.C_OffGauge) rfl T.c_OffGauge rfl) pa_nil))) (pe_one (pe_not (pe_callB (call_isiX (K := K) rfl) (by rfl) T.n_isinstance b_isinstance (pa_cons (pv 3) (pa_cons (pe_glob (v := .ref T.C_NoGauge) rfl T.c_NoGauge rfl) pa_nil))))))))))
    (pss_one (ps_ret (pv 2))))), ?_⟩
    walk_at "gzn"
    refine ⟨?_, ?_⟩
    · obtain ⟨x, dx, w, gv, rfl, hx, hw, hG⟩ := id hE
      walk_at "gzn"
      exact ⟨_, _, hx, rfl, _, d1, d2, s, er, ks, a, rs, rfl, hE, hB, hn, hok, h2, b1, b2, bs, ber, hS, br, hl, fun z => by obtain ⟨r, m, n⟩ := hbad; exact absurd (z r m) n, fun _ H' s' => ⟨rfl, s'⟩⟩
    · rintro cls H' ⟨rfl, hs⟩
      refine ⟨T.C_OffGauge, rfl, T.mt_OffGauge_GazeError, fun a ha => ?_⟩
      walk_at "gzn"
      refine isiX upd_same T.xc_OffGauge (fun z => nomatch z) T.is_OffGauge_OffGauge ?_
      walk_at "gzn"
      refine isiX upd_same T.xc_OffGauge (fun z => nomatch z) T.is_OffGauge_NoGauge ?_
      walk_at "gzn"
      exact q _
end
section
variable {P : Program} {w : World} {K : PySem.W.Frag} {mg : Str → Option Value} {base : Heap}
def sp_law (K : PySem.W.Frag) : Sp := fun vs H Q _ => ∃ (a : Addr) (ns : List Int), vs = [.ref a] ∧ SqL K H a (ns.map V.int) ∧ ns.length ≤ 63 ∧ ∀ H', Q (.bl true) H'
theorem eqmap {f : Nat → V} : ∀ {zs : List V} {ks : List Nat}, All2 (fun y k => y = f k) zs ks → zs = ks.map f
  | [], [], _ => rfl
  | _ :: _, _ :: _, h => by rw [List.map_cons, ← eqmap h.2, h.1]
  | [], _ :: _, h => h.elim
  | _ :: _, [], h => h.elim
theorem all2_int : ∀ (ms : List Int), All2 (fun x (m : Int) => x = V.int m) (ms.map V.int) ms
  | [] => trivial
  | _ :: ms => ⟨rfl, all2_int ms⟩
seal L2.PE L2.PS L2.PSs L2.PA
theorem ok_law (T : Tx K mg) : FnOk P w K mg base (CXX P w) 11 T.a_law T.fd_law ["_law_script"] (sp_law K) := by
  refine okN T.F_law sc_law (fun vs H Q E h => ?_) (fun cdv A outer s H vs Q E hr h => ?_)
  · obtain ⟨a, ns, rfl, _⟩ := h
    rfl
  · obtain ⟨a, ns, rfl, hS, hn, q⟩ := h
    refine ⟨_, (pss_cons (ps_set (i := 1) sc_law.nd rfl (Or.inr rfl) (pe_call (ok_law_knots T) (hr.mono (by decide)) rfl T.m_law_knots T.F_law_knots.kp T.b_law_knots .nil passE0 (pa_cons (pv 0) pa_nil)))
    (pss_cons (ps_set (i := 2) sc_law.nd rfl (Or.inl rfl) (pe_call (ok_law_error T) (hr.mono (by decide)) rfl T.m_law_error T.F_law_error.kp T.b_law_error .nil passE0 (pa_cons (pe_call (ok_law_cell T) (hr.mono (by decide)) rfl T.m_law_cell T.F_law_cell.kp T.b_law_cell .nil passE0 (pa_cons (pv 0) (pa_cons pe_int pa_nil))) pa_nil)))
    (pss_cons (ps_set (i := 3) sc_law.nd rfl (Or.inr rfl) (pe_ix ix_seq (pe_lst (pa_cons (pe_tup (pa_cons pe_int (pa_cons pe_int pa_nil))) (pa_cons (pe_tup (pa_cons pe_int (pa_cons pe_int pa_nil))) (pa_cons (pe_tup (pa_cons pe_int (pa_cons pe_int pa_nil))) (pa_cons (pe_tup (pa_cons pe_int (pa_cons pe_int pa_nil))) (pa_cons (pe_tup (pa_cons pe_int (pa_cons pe_int pa_nil))) (pa_cons (pe_tup (pa_cons pe_int (pa_cons pe_int pa_nil))) pa_nil))))))) (pe_op op_mod (pe_call (ok_law_cell T) (hr.mono (by decide)) rfl T.m_law_cell T.F_law_cell.kp T.b_law_cell .nil passE0 (pa_cons (pv 0) (pa_cons pe_int pa_nil))) pe_int) (fun _ _ => rfl)))
    (pss_cons (ps_set (i := 4) sc_law.nd rfl (Or.inr rfl) (pe_op op_sub (pe_op op_mod (pe_call (ok_law_cell T) (hr.mono (by decide)) rfl T.m_law_cell T.F_law_cell.kp T.b_law_cell .nil passE0 (pa_cons (pv 0) (pa_cons pe_int pa_nil))) pe_int) pe_int))
    (pss_cons (ps_setComp (i := 5) (CompOk.mk (fr := [1]) (ys := ["_law_knots_here"]) rfl (by decide +kernel) rfl (by decide +kernel) rfl rfl (.cons rfl .nil) (.cons rfl rfl rfl rfl .nil) (by decide) rfl) rfl sc_law.nd rfl rfl (pi_list (pe_slice sl_list (pv 0) (po_some pe_int) (po_some pe_int))) (fun C s2 H2 ex pn => ⟨pts_nil, (pe_call (ok_law_raw T) (hr.mono (by decide)) rfl T.m_law_raw T.F_law_raw.kp T.b_law_raw .nil passE0 (pa_cons (pv 0) (pa_cons (pv 1) pa_nil)))⟩))
    (pss_cons (ps_setComp (i := 6) (CompOk.mk (fr := [3, 4]) (ys := ["_law_drift", "_law_since"]) rfl (by decide +kernel) rfl (by decide +kernel) rfl rfl (.cons rfl (.cons rfl .nil)) (.cons rfl rfl rfl rfl (.cons rfl rfl rfl rfl .nil)) (by decide) rfl) rfl sc_law.nd rfl rfl (pi_range1 rfl T.n_range (pa_cons (pe_callB call_len (by rfl) T.n_len b_len (pa_cons (pv 5) pa_nil)) pa_nil)) (fun C s2 H2 ex pn => ⟨pts_nil, (pe_un un_neg (pe_op op_fdivB (pe_op op_mulB (pe_un un_neg (pe_ix (ix_seqK (K := K) rfl) (pv 1) pe_int (fun _ _ => rfl))) (pe_callB call_abs (by rfl) T.n_abs b_abs (pa_cons (pe_op op_sub (pv 0) (pv 2)) pa_nil))) (pe_ix (ix_seqK (K := K) rfl) (pv 1) pe_int (fun _ _ => rfl))))⟩))
    (pss_cons (ps_set (i := 7) sc_law.nd rfl (Or.inl rfl) (pe_call (ok_law_due T) (hr.mono (by decide)) rfl T.m_law_due T.F_law_due.kp T.b_law_due .nil passE0 (pa_cons (pv 1) (pa_cons (pv 5) (pa_cons (pv 2) (pa_cons (pv 6) pa_nil))))))
    (pss_cons (ps_set (i := 8) sc_law.nd rfl (Or.inl rfl) (pe_callTy call_list_of (by rfl) T.n_list b_list (pa_cons (pv 5) pa_nil)))
    (pss_cons (ps_set (i := 9) sc_law.nd rfl (Or.inl rfl) (pe_make T.mk_Gauged (ok_Gauged_init__ T) (hr.mono (by decide)) rfl T.c_Gauged T.b_Gauged_init__ .nil passE0 (pa_cons (pv 3) (pa_cons (pv 4) (pa_cons (pe_make T.mk_Gauge (ok_Gauge_init__ T) (hr.mono (by decide)) rfl T.c_Gauge T.b_Gauge_init__ .nil passE0 (pa_cons (pv 1) pa_nil)) (pa_cons (pv 2) pa_nil))))))
    (pss_cons (ps_if (PW.pt (pw_or (pt_not (pt_val (pe_call (ok_law_alike T) (hr.mono (by decide)) rfl T.m_law_alike T.F_law_alike.kp T.b_law_alike .nil passE0 (pa_cons (pe_meth (pv 9) T.cl_Gauged T.me_Gauged_stretches (ok_Gauged_stretches T) (hr.mono (by decide)) T.b_Gauged_stretches .nil passE0 (pa_cons (pv 8) pa_nil)) (pa_cons (pv 7) pa_nil))))) (pw_or1 (pt_not (pt_val (pe_call (ok_law_alike T) (hr.mono (by decide)) rfl T.m_law_alike T.F_law_alike.kp T.b_law_alike .nil passE0 (pa_cons (pe_meth (pv 9) T.cl_Gauged T.me_Gauged_stretches (ok_Gauged_stretches T) (hr.mono (by decide)) T.b_Gauged_stretches .nil passE0 (pa_cons (pv 8) pa_nil)) (pa_cons (pv 7) pa_nil)))))))) (pss_one (ps_ret pe_bl)) pss_nil)
    (pss_cons (ps_set (i := 10) sc_law.nd rfl (Or.inl rfl) (pe_op op_mod (pe_call (ok_law_cell T) (hr.mono (by decide)) rfl T.m_law_cell T.F_law_cell.kp T.b_law_cell .nil passE0 (pa_cons (pv 0) (pa_cons pe_int pa_nil))) (pe_op op_add (pe_callB call_len (by rfl) T.n_len b_len (pa_cons (pv 5) pa_nil)) pe_int)))
    (pss_cons (ps_set (i := 11) sc_law.nd rfl (Or.inl rfl) (pe_ix ix_seq (pe_tup (pa_cons (pe_op op_sub (pe_ix ix_seq (pe_ix ix_seq (pv 1) pe_int (fun _ _ => rfl)) pe_int (fun _ _ => rfl)) pe_int) (pa_cons (pe_op op_add (pe_ix ix_seq (pe_ix ix_seq (pv 1) (pe_un un_neg pe_int) (fun _ _ => rfl)) pe_int (fun _ _ => rfl)) pe_int) pa_nil))) (pe_op op_mod (pe_call (ok_law_cell T) (hr.mono (by decide)) rfl T.m_law_cell T.F_law_cell.kp T.b_law_cell .nil passE0 (pa_cons (pv 0) (pa_cons pe_int pa_nil))) pe_int) (fun _ _ => rfl)))
    (pss_one (ps_ret (pe_and (pe_cmpR (op_eqD hr.units) (pv 8) (pv 5) (nomark _)) (pe_one (pe_call (ok_law_refused T) (hr.mono (by decide)) rfl T.m_law_refused T.F_law_refused.kp T.b_law_refused .nil passE0 (pa_cons (pv 9) (pa_cons (pe_op op_cat (pe_op op_cat (pe_slice sl_list (pv 5) po_none (po_some (pv 10))) (pe_lst (pa_cons (pv 11) pa_nil))) (pe_slice sl_list (pv 5) (po_some (pv 10)) po_none)) pa_nil))))))))))))))))))), ?_⟩
    walk_at "gzn"
    refine ⟨a, ns, rfl, hS, fun kl kxs ks Hk sk KL KP kb hok hkl => ?_⟩
    walk_at "gzn"
    refine ⟨a, ns, 14, rfl, sk.seq hS, by decide, _, rfl, fun er he0 he1 => ?_⟩
    walk_at "gzn"
    refine ⟨line2, fun p0 h0 => ⟨line2, fun p1 h1 => ⟨line2, fun p2 h2 => ⟨line2, fun p3 h3 => ⟨line2, fun p4 h4 => ⟨line2, fun p5 h5 => ⟨by decide, fun p6 h6 => ?_⟩⟩⟩⟩⟩⟩⟩
    have t0 := same_upd (o := .tup [V.int 0, .int 1]) h0
    have t1 := same_upd (o := .tup [V.int 1, .int 1]) h1
    have t2 := same_upd (o := .tup [V.int 1, .int 2]) h2
    have t3 := same_upd (o := .tup [V.int 2, .int 3]) h3
    have t4 := same_upd (o := .tup [V.int 4, .int 5]) h4
    have t5 := same_upd (o := .tup [V.int 3, .int 1]) h5
    have t6 := same_upd (o := .lst [V.ref p0, .ref p1, .ref p2, .ref p3, .ref p4, .ref p5]) h6
    have S6 := t0.trans (t1.trans (t2.trans (t3.trans (t4.trans (t5.trans t6)))))
    have D : ∀ j : Nat, j < 6 → ∃ (pj : Addr) (d1 d2 : Int), [V.ref p0, .ref p1, .ref p2, .ref p3, .ref p4, .ref p5][j]? = some (.ref pj) ∧ (upd (upd (upd (upd (upd (upd (upd Hk p0 (.tup [V.int 0, .int 1])) p1 (.tup [V.int 1, .int 1])) p2 (.tup [V.int 1, .int 2])) p3 (.tup [V.int 2, .int 3])) p4 (.tup [V.int 4, .int 5])) p5 (.tup [V.int 3, .int 1])) p6 (.lst [V.ref p0, .ref p1, .ref p2, .ref p3, .ref p4, .ref p5])) pj = some (.tup [.int d1, .int d2]) ∧ 0 ≤ d1 ∧ d1 ≤ 4 ∧ 1 ≤ d2 ∧ d2 ≤ 5 := fun j hj => by
      match j, hj with
      | 0, _ => exact ⟨p0, 0, 1, rfl, (t1.trans (t2.trans (t3.trans (t4.trans (t5.trans (t6)))))) _ _ upd_same, by decide, by decide, by decide, by decide⟩
      | 1, _ => exact ⟨p1, 1, 1, rfl, (t2.trans (t3.trans (t4.trans (t5.trans (t6))))) _ _ upd_same, by decide, by decide, by decide, by decide⟩
      | 2, _ => exact ⟨p2, 1, 2, rfl, (t3.trans (t4.trans (t5.trans (t6)))) _ _ upd_same, by decide, by decide, by decide, by decide⟩
      | 3, _ => exact ⟨p3, 2, 3, rfl, (t4.trans (t5.trans (t6))) _ _ upd_same, by decide, by decide, by decide, by decide⟩
      | 4, _ => exact ⟨p4, 4, 5, rfl, (t5.trans (t6)) _ _ upd_same, by decide, by decide, by decide, by decide⟩
      | 5, _ => exact ⟨p5, 3, 1, rfl, (t6) _ _ upd_same, by decide, by decide, by decide, by decide⟩
      | n + 6, h => exact absurd h (by omega)
    have P6 : (upd (upd (upd (upd (upd (upd (upd Hk p0 (.tup [V.int 0, .int 1])) p1 (.tup [V.int 1, .int 1])) p2 (.tup [V.int 1, .int 2])) p3 (.tup [V.int 2, .int 3])) p4 (.tup [V.int 4, .int 5])) p5 (.tup [V.int 3, .int 1])) p6 (.lst [V.ref p0, .ref p1, .ref p2, .ref p3, .ref p4, .ref p5])) p6 = some (.lst [V.ref p0, .ref p1, .ref p2, .ref p3, .ref p4, .ref p5]) := upd_same
    generalize upd (upd (upd (upd (upd (upd (upd Hk p0 (.tup [V.int 0, .int 1])) p1 (.tup [V.int 1, .int 1])) p2 (.tup [V.int 1, .int 2])) p3 (.tup [V.int 2, .int 3])) p4 (.tup [V.int 4, .int 5])) p5 (.tup [V.int 3, .int 1])) p6 (.lst [V.ref p0, .ref p1, .ref p2, .ref p3, .ref p4, .ref p5]) = H6 at S6 D P6 ⊢
    clear t0 t1 t2 t3 t4 t5 t6 h0 h1 h2 h3 h4 h5 h6
    have S06 := sk.trans S6
    refine ⟨a, ns, 15, rfl, S06.seq hS, by decide, ?_⟩
    walk_at "gzn"
    refine ⟨by decide, ?_⟩
    obtain ⟨j, hj, ej⟩ : ∃ j : Nat, j < 6 ∧ cellD ns 15 % 6 = (j : Int) := ⟨(cellD ns 15 % 6).toNat, by omega, by omega⟩
    rw [ej]
    obtain ⟨pd, d1, d2, e1, hd, hd1, hd2, hd3, hd4⟩ := D j hj
    refine ixL (SqL.of P6) (atI_nat e1) ?_
    walk_at "gzn"
    refine ⟨a, ns, 16, rfl, S06.seq hS, by decide, ?_⟩
    have hs : -3 ≤ cellD ns 16 % 18 - 3 ∧ cellD ns 16 % 18 - 3 ≤ 14 := by omega
    walk_at "gzn"
    refine ⟨by decide, ?_⟩
    generalize cellD ns 16 % 18 - 3 = s0 at hs ⊢
    clear D P6 e1 ej hj
    walk_at "gzn"
    obtain ⟨ms, em, hml, _⟩ := cutV_map ns (some 20) (some 32)
    refine ⟨_, S06.seq hS, fun p hp => ?_⟩
    rw [em]
    have s7 := same_upd (o := .lst (ms.map V.int)) hp
    have P7 : upd H6 p (.lst (ms.map V.int)) p = some (.lst (ms.map V.int)) := upd_same
    generalize upd H6 p (.lst (ms.map V.int)) = H7 at s7 P7 ⊢
    have S7 := S6.trans s7
    have hx := KP.len
    have h2 := hok.1
    have hB : BQ ks := fun p hp => ⟨Bd.up (n := 180) (kb p hp).1 (by decide), Bd.up (n := 180) (kb p hp).2 (by decide)⟩
    refine ⟨⟨_, SqL.of P7⟩, blk_of it_list (Nat.le_trans (by rw [List.length_map]; omega : _ ≤ 100) (by decide)) (compGo_new (R := fun _ x (m : Int) => x = V.int m) (R' := fun _ y (_ : Int) => ∃ r, y = ev r ∧ goodR ks r ∧ ∀ n, r = some n → n.natAbs < 2 ^ 180) (f := fun m => m) (bs := []) (fun _ _ _ _ _ r => r) (fun _ _ _ _ _ r => r) (all2_int ms) trivial (fun H' s' => SqL.of (s' _ _ P7)) (fun x m _ H' s' r Q h => ?_) (fun x m _ H' s' r Q h => ?_) fun H8 zs s8 hz => ?_)⟩
    · walk_at "gzn"
      exact h
    · subst r
      walk_at "gzn"
      exact ⟨m, kl, kxs, ks, rfl, SqL.of ((S7.trans s') _ _ KL), KP.same (S7.trans s'), kb, hok, hkl, fun r hg hb => h _ _ (Same.refl _) ⟨r, rfl, hg, hb⟩⟩
    rw [List.nil_append, List.map_id'] at hz
    obtain ⟨rs, rfl, hrl, hrp⟩ := ends_of hz
    clear hz
    intro l hl
    have s9 := s8.trans (same_upd (o := .lst (rs.map ev)) hl)
    have L9 : upd H8 l (.lst (rs.map ev)) l = some (.lst (rs.map ev)) := upd_same
    generalize upd H8 l (.lst (rs.map ev)) = H9 at s9 L9 ⊢
    have S9 := S7.trans s9
    have D9 := (s7.trans s9) _ _ hd
    have hgood : ∀ r ∈ rs, goodR ks r := fun r hr => (hrp r hr).1
    have hrb : ∀ n, some n ∈ rs → Bd 240 n := fun n hn => Bd.up (n := 180) ((hrp _ hn).2 n rfl) (by decide)
    have ber : Bd 240 er := Bd.up (n := 180) (by show er.natAbs < 2 ^ 180; omega) (by decide)
    have hrs : rs.length ≤ 63 := by omega
    have B1 : Bd 300 d1 := Bd.up (n := 20) (by show d1.natAbs < 2 ^ 20; omega) (by decide)
    have B2 : Bd 300 d2 := Bd.up (n := 20) (by show d2.natAbs < 2 ^ 20; omega) (by decide)
    have Bs : Bd 300 s0 := Bd.up (n := 20) (by show s0.natAbs < 2 ^ 20; omega) (by decide)
    refine ⟨_, lenL (SqL.of L9), ?_⟩
    rw [List.length_map, Int.toNat_natCast]
    refine ⟨by omega, by omega, blk_of it_rng (by rw [List.length_map, List.length_range]; exact Nat.le_trans hrs (by decide)) (compGo_new (R := fun _ x (k : Nat) => x = V.int (0 + (k : Int))) (R' := fun _ y (k : Nat) => y = V.int (slk d1 d2 s0 k)) (f := fun k => k) (bs := []) (fun _ _ _ _ _ r => r) (fun _ _ _ _ _ r => r) (All2.map_nat (f := fun k => 0 + (k : Int)) (List.range rs.length)) trivial (fun _ _ => trivial) (fun x k _ H' s' r Q h => ?_) (fun x k hk H' s' r Q h => ?_) fun H10 zs4 s10 hz4 => ?_)⟩
    · walk_at "gzn"
      exact h
    · subst r
      have hk12 := List.mem_range.mp hk
      have bi : Bd 300 (k : Int) := Bd.up (n := 20) (by show (k : Int).natAbs < 2 ^ 20; omega) (by decide)
      have bk := bi.sub Bs (k := 301) (by decide) (by decide)
      have bk2 : Bd 301 (iabs ((k : Int) - s0)) := by unfold Bd iabs at *; split <;> omega
      walk_at "gzn"
      refine ixT (SqT.of (s' _ _ D9)) rfl ?_
      walk_at "gzn"
      rw [Int.zero_add]
      refine ⟨⟨B1.neg.up (by decide), bk2.up (by decide)⟩, ixT (SqT.of (s' _ _ D9)) rfl ?_⟩
      walk_at "gzn"
      refine ⟨by omega, B2.up (by decide), h _ _ (Same.refl _) ?_⟩
      unfold slk ceilI
      rw [Int.neg_mul]; rfl
    rw [List.nil_append, List.map_id'] at hz4
    have ez := eqmap hz4
    rw [ez]
    clear hz4
    intro w hw
    have s11 := s10.trans (same_upd (o := .lst ((List.range rs.length).map fun (k : Nat) => V.int (slk d1 d2 s0 k))) hw)
    have W11 : upd H10 w (.lst ((List.range rs.length).map fun (k : Nat) => V.int (slk d1 d2 s0 k))) w = some (.lst ((List.range rs.length).map fun (k : Nat) => V.int (slk d1 d2 s0 k))) := upd_same
    generalize upd H10 w (.lst ((List.range rs.length).map fun (k : Nat) => V.int (slk d1 d2 s0 k))) = H11 at s11 W11 ⊢
    have S11 := S9.trans s11
    have W' : SqL K H11 w (((List.range rs.length).map fun (k : Nat) => slk d1 d2 s0 k).map V.int) := by
      rw [List.map_map]; exact SqL.of W11
    refine ⟨kl, l, w, er, kxs, ks, rs, _, slk d1 d2 s0, rfl, SqL.of (S11 _ _ KL), KP.same S11, hB, hok, by omega, SqL.of (s11 _ _ L9), by omega, hrb, ber, W', fun i hi => ?_, fun dl ys H12 s12 hdl hY => ?_⟩
    · rw [List.getElem?_map, List.getElem?_range hi]; rfl
    have S12 := S11.trans s12
    have L12 := (s11.trans s12) _ _ L9
    refine ⟨l, rfl, _, .inl (SqL.of L12), fun h hh => ?_⟩
    have s13 := same_upd (o := .lst (rs.map ev)) hh
    have G13 : upd H12 h (.lst (rs.map ev)) h = some (.lst (rs.map ev)) := upd_same
    generalize upd H12 h (.lst (rs.map ev)) = H13 at s13 G13 ⊢
    have S13 := S12.trans s13
    intro x dx hxn hdn hne
    have s14 := (same_upd (o := .own x) hdn).trans (same_upd (o := .ins T.C_Gauge dx []) (show upd H13 dx (.own x) x = none by rw [upd_ne (Ne.symm hne)]; exact hxn))
    have X14 : upd (upd H13 dx (.own x)) x (.ins T.C_Gauge dx []) x = some (.ins T.C_Gauge dx []) := upd_same
    generalize upd (upd H13 dx (.own x)) x (.ins T.C_Gauge dx []) = H14 at s14 X14 ⊢
    have S14 := S13.trans s14
    refine ⟨x, dx, kl, kxs, ks, rfl, X14, SqL.of (S14 _ _ KL), KP.same S14, by omega, fun z => absurd hok z, fun _ g0 H15 s15 X15 Hg G15 => ⟨rfl, ?_⟩⟩
    have nx : ∀ b o, H13 b = some o → b ≠ x := fun b o e z => by rw [z, hxn] at e; cases e
    have S15 : Same H13 H15 := fun b o e => s15 b o (nx b o e) (s14 _ _ e)
    have T15 := S13.trans S15
    have IG : IsG T.C_Gauge H15 (.ref x) ks := ⟨x, dx, g0, kxs, rfl, X15, G15, KP.same T15⟩
    intro x2 dx2 hx2 hdx2 hnd2
    refine ⟨x2, dx2, _, _, _, _, rfl, upd_same, rfl, ?_⟩
    rw [upd_upd]
    have s16 := made_same (C := T.C_Gauged) (fs := [("drift", V.ref pd), ("since", .int s0), ("gauge", .ref x), ("error", .int er)]) hx2 hdx2 hnd2
    have X16 : upd (upd H15 dx2 (.own x2)) x2 (.ins T.C_Gauged dx2 [("drift", V.ref pd), ("since", .int s0), ("gauge", .ref x), ("error", .int er)]) x2 = some (.ins T.C_Gauged dx2 [("drift", V.ref pd), ("since", .int s0), ("gauge", .ref x), ("error", .int er)]) := upd_same
    generalize upd (upd H15 dx2 (.own x2)) x2 (.ins T.C_Gauged dx2 [("drift", V.ref pd), ("since", .int s0), ("gauge", .ref x), ("error", .int er)]) = H16 at s16 X16 ⊢
    have S16 := T15.trans s16
    have Z := s13.trans (S15.trans s16)
    have G16 := (S15.trans s16) _ _ G13
    have GD : GdAt T.C_Gauged T.C_Gauge H16 (.ref x2) d1 d2 s0 er ks := ⟨x2, dx2, _, _, rfl, X16, ⟨pd, rfl, (s11.trans (s12.trans Z)) _ _ D9⟩, IG.same s16⟩
    refine ⟨_, _, X16, rfl, _, d1, d2, s0, er, ks, h, rs, rfl, GD, hB, by omega, hok, by omega, B1, B2, Bs, ber, SqL.of G16, hrb, by omega, fun _ f1 ys1 H17 s17 hf1 F17 Y17 => ?_, fun ⟨r, hr, hn⟩ => absurd (hgood r hr) hn⟩
    refine ⟨f1, dl, ys1, ys, _, rfl, F17, Y17, SqL.of ((Z.trans s17) _ _ hdl), hY.imp (fun x a r => IsW.same r (Z.trans s17)), by rw [wOuts_len, List.length_map]; omega, fun H18 s18 => ⟨_, rfl, ?_⟩⟩
    rw [if_neg (by decide)]
    have S18 := s17.trans s18
    refine ⟨_, _, S18 _ _ X16, rfl, _, d1, d2, s0, er, ks, h, rs, rfl, GD.same S18, hB, by omega, hok, by omega, B1, B2, Bs, ber, SqL.of (S18 _ _ G16), hrb, by omega, fun _ f2 ys2 H19 s19 hf2 F19 Y19 => ?_, fun ⟨r, hr, hn⟩ => absurd (hgood r hr) hn⟩
    have S19 := S18.trans s19
    refine ⟨f2, dl, ys2, ys, _, rfl, F19, Y19, SqL.of ((Z.trans S19) _ _ hdl), hY.imp (fun x a r => IsW.same r (Z.trans S19)), by rw [wOuts_len, List.length_map]; omega, fun H20 s20 => ⟨_, rfl, ?_⟩⟩
    rw [if_neg (by decide)]
    have S20 := S19.trans s20
    have W20 := S16.trans S20
    have L20 := (Z.trans S20) _ _ L12
    have G20 := S20 _ _ G16
    have GD20 := GD.same S20
    have KL20 := W20 _ _ KL
    have KP20 := KP.same W20
    have A20 := (sk.trans W20).seq hS
    clear GD G16 X16 Y17 Y19 F17 F19 IG
    obtain ⟨p, ap, hp', mp⟩ := pt_at (j := 0) KP20 (by omega)
    obtain ⟨z, az, hz', mz⟩ := pt_last KP20 h2
    have K20 := SqL.of (K := K) KL20
    refine ⟨a, ns, 17, rfl, A20, by decide, _, lenL (SqL.of L20), _, rfl, by omega, ixL K20 ap (ixT (SqT.of hp') rfl ⟨_, rfl, ixL K20 az (ixT (SqT.of hz') rfl ⟨_, rfl, ?_⟩)⟩)⟩
    rw [List.length_map]
    obtain ⟨j, hj, ej⟩ : ∃ j : Nat, j ≤ rs.length ∧ cellD ns 17 % ((rs.length : Int) + 1) = (j : Int) := by
      have h1 := Int.emod_nonneg (cellD ns 17) (show (rs.length : Int) + 1 ≠ 0 by omega)
      have h2 := Int.emod_lt_of_pos (cellD ns 17) (show 0 < (rs.length : Int) + 1 by omega)
      exact ⟨(cellD ns 17 % ((rs.length : Int) + 1)).toNat, by omega, by omega⟩
    rw [ej]
    refine ⟨line2, fun p2 hp2 => ?_⟩
    have s21 := same_upd (o := .tup [V.int ((ptD ks 0).1 - 1), .int ((ptD ks (ks.length - 1)).1 + 1)]) hp2
    have P21 : upd H20 p2 (.tup [V.int ((ptD ks 0).1 - 1), .int ((ptD ks (ks.length - 1)).1 + 1)]) p2 = some (.tup [V.int ((ptD ks 0).1 - 1), .int ((ptD ks (ks.length - 1)).1 + 1)]) := upd_same
    generalize upd H20 p2 (.tup [V.int ((ptD ks 0).1 - 1), .int ((ptD ks (ks.length - 1)).1 + 1)]) = H21 at s21 P21 ⊢
    refine ⟨a, ns, 18, rfl, s21.seq A20, by decide, _, rfl, by decide, ?_⟩
    have k0 := (kb _ mp).1
    have k1 := (kb _ mz).1
    obtain ⟨f, ef, hno, hfb⟩ : ∃ f : Int, atI [V.int ((ptD ks 0).1 - 1), .int ((ptD ks (ks.length - 1)).1 + 1)] (cellD ns 18 % 2) = some (.int f) ∧ ¬ hit ks f 1 ∧ Bd 240 f := by
      rcases (by omega : cellD ns 18 % 2 = 0 ∨ cellD ns 18 % 2 = 1) with e | e
      · rw [e]; exact ⟨_, rfl, no_hit_low hok.2.1 (by decide) (by omega), Bd.up (n := 181) (by show ((ptD ks 0).1 - 1).natAbs < 2 ^ 181; omega) (by decide)⟩
      · rw [e]; exact ⟨_, rfl, no_hit_high hok.2.1 (by decide) (by omega), Bd.up (n := 181) (by show ((ptD ks (ks.length - 1)).1 + 1).natAbs < 2 ^ 181; omega) (by decide)⟩
    refine ixT (SqT.of P21) ef ?_
    have L21 := s21 _ _ L20
    have GD21 := GD20.same s21
    refine eq_ends (rs := rs) (SqL.of (s21 _ _ G20)) (SqL.of L21) ⟨_, rfl, ?_⟩
    rw [if_pos (show (!false) = true from rfl)]
    refine ⟨l, rfl, _, SqL.of L21, fun q1 hq1 => ⟨by decide, fun q2 hq2 => ?_⟩⟩
    rw [cutV_to, ← List.map_take] at hq2 ⊢
    have s22 := same_upd (o := .lst ((rs.take j).map ev)) hq1
    have A22 : upd H21 q1 (.lst ((rs.take j).map ev)) q1 = some (.lst ((rs.take j).map ev)) := upd_same
    generalize upd H21 q1 (.lst ((rs.take j).map ev)) = H22 at s22 A22 hq2 ⊢
    have s23 := same_upd (o := .lst [V.int f]) hq2
    have A23 := s23 _ _ A22
    have B23 : upd H22 q2 (.lst [V.int f]) q2 = some (.lst [V.int f]) := upd_same
    generalize upd H22 q2 (.lst [V.int f]) = H23 at s23 A23 B23 ⊢
    refine ⟨_, A23, _, B23, Nat.le_trans (by rw [List.length_map, List.length_take]; simp; omega : _ ≤ 100) (by decide), fun q3 hq3 => ?_⟩
    have s24 := same_upd (o := .lst ((rs.take j).map ev ++ [V.int f])) hq3
    have C24 : upd H23 q3 (.lst ((rs.take j).map ev ++ [V.int f])) q3 = some (.lst ((rs.take j).map ev ++ [V.int f])) := upd_same
    generalize upd H23 q3 (.lst ((rs.take j).map ev ++ [V.int f])) = H24 at s24 C24 ⊢
    refine ⟨l, rfl, _, SqL.of ((s22.trans (s23.trans s24)) _ _ L21), fun q4 hq4 => ?_⟩
    rw [cutV_from, ← List.map_drop]
    have s25 := same_upd (o := .lst ((rs.drop j).map ev)) hq4
    have C25 := s25 _ _ C24
    have D25 : upd H24 q4 (.lst ((rs.drop j).map ev)) q4 = some (.lst ((rs.drop j).map ev)) := upd_same
    generalize upd H24 q4 (.lst ((rs.drop j).map ev)) = H25 at s25 C25 D25 ⊢
    refine ⟨_, C25, _, D25, Nat.le_trans (by rw [List.length_append, List.length_map, List.length_map, List.length_take, List.length_drop]; simp; omega : _ ≤ 100) (by decide), fun q5 hq5 => ?_⟩
    have S26 := s22.trans (s23.trans (s24.trans (s25.trans (same_upd (o := .lst ((rs.take j).map ev ++ [V.int f] ++ (rs.drop j).map ev)) hq5))))
    have el : (rs.take j).map ev ++ [V.int f] ++ (rs.drop j).map ev = (rs.take j ++ [some f] ++ rs.drop j).map ev := by rw [List.map_append, List.map_append]; rfl
    refine ⟨_, d1, d2, s0, er, ks, q5, rs.take j ++ [some f] ++ rs.drop j, rfl, GD21.same S26, hB, by omega, hok, by omega, B1, B2, Bs, ber, SqL.of (by rw [upd_same, el]), fun n hn => ?_, ?_, ⟨some f, by simp, fun z => hno (good_some.mp z)⟩, fun H' => q _⟩
    · rcases List.mem_append.mp hn with h | h
      · rcases List.mem_append.mp h with h | h
        · exact hrb n (List.mem_of_mem_take h)
        · have : n = f := by simpa using h
          rw [this]; exact hfb
      · exact hrb n (List.mem_of_mem_drop h)
    · rw [List.length_append, List.length_append, List.length_take, List.length_drop]; simp; omega
end
theorem fin_mk {l : PySem.W.OpenLaw} {w : World} {K : PySem.W.Frag} {h : Heap} {mg : Str → Option Value} {fa : Addr} (X : K.In h) (G : h.Ns mainGlobals mg) (hfa : mg "law" = some (.ref fa))
    {f_greatest_divisor : Addr} {od_greatest_divisor an_greatest_divisor : Option Addr} {sl_greatest_divisor : Array (Option Value)} {oc_greatest_divisor kV_greatest_divisor dc_greatest_divisor pm_greatest_divisor cd_greatest_divisor ct_greatest_divisor : Value}
    {f_ratio : Addr} {od_ratio an_ratio : Option Addr} {sl_ratio : Array (Option Value)} {oc_ratio kV_ratio dc_ratio pm_ratio cd_ratio ct_ratio : Value}
    {f_plus : Addr} {od_plus an_plus : Option Addr} {sl_plus : Array (Option Value)} {oc_plus kV_plus dc_plus pm_plus cd_plus ct_plus : Value}
    {f_minus : Addr} {od_minus an_minus : Option Addr} {sl_minus : Array (Option Value)} {oc_minus kV_minus dc_minus pm_minus cd_minus ct_minus : Value}
    {f_times : Addr} {od_times an_times : Option Addr} {sl_times : Array (Option Value)} {oc_times kV_times dc_times pm_times cd_times ct_times : Value}
    {f_under : Addr} {od_under an_under : Option Addr} {sl_under : Array (Option Value)} {oc_under kV_under dc_under pm_under cd_under ct_under : Value}
    {f_floored : Addr} {od_floored an_floored : Option Addr} {sl_floored : Array (Option Value)} {oc_floored kV_floored dc_floored pm_floored cd_floored ct_floored : Value}
    {f_raised : Addr} {od_raised an_raised : Option Addr} {sl_raised : Array (Option Value)} {oc_raised kV_raised dc_raised pm_raised cd_raised ct_raised : Value}
    {f_widened : Addr} {od_widened an_widened : Option Addr} {sl_widened : Array (Option Value)} {oc_widened kV_widened dc_widened pm_widened cd_widened ct_widened : Value}
    {f_Eye_init__ : Addr} {od_Eye_init__ an_Eye_init__ : Option Addr} {sl_Eye_init__ : Array (Option Value)} {oc_Eye_init__ kV_Eye_init__ dc_Eye_init__ pm_Eye_init__ cd_Eye_init__ ct_Eye_init__ : Value}
    {f_Eye_slack : Addr} {od_Eye_slack an_Eye_slack : Option Addr} {sl_Eye_slack : Array (Option Value)} {oc_Eye_slack kV_Eye_slack dc_Eye_slack pm_Eye_slack cd_Eye_slack ct_Eye_slack : Value}
    {f_Eye_slackened : Addr} {od_Eye_slackened an_Eye_slackened : Option Addr} {sl_Eye_slackened : Array (Option Value)} {oc_Eye_slackened kV_Eye_slackened dc_Eye_slackened pm_Eye_slackened cd_Eye_slackened ct_Eye_slackened : Value}
    {f_forth_or_none : Addr} {od_forth_or_none an_forth_or_none : Option Addr} {sl_forth_or_none : Array (Option Value)} {oc_forth_or_none kV_forth_or_none dc_forth_or_none pm_forth_or_none cd_forth_or_none ct_forth_or_none : Value}
    {f_Gauged_init__ : Addr} {od_Gauged_init__ an_Gauged_init__ : Option Addr} {sl_Gauged_init__ : Array (Option Value)} {oc_Gauged_init__ kV_Gauged_init__ dc_Gauged_init__ pm_Gauged_init__ cd_Gauged_init__ ct_Gauged_init__ : Value}
    {f_Gauged_seen : Addr} {od_Gauged_seen an_Gauged_seen : Option Addr} {sl_Gauged_seen : Array (Option Value)} {oc_Gauged_seen kV_Gauged_seen dc_Gauged_seen pm_Gauged_seen cd_Gauged_seen ct_Gauged_seen : Value}
    {f_Gauged_stretches : Addr} {od_Gauged_stretches an_Gauged_stretches : Option Addr} {sl_Gauged_stretches : Array (Option Value)} {oc_Gauged_stretches kV_Gauged_stretches dc_Gauged_stretches pm_Gauged_stretches cd_Gauged_stretches ct_Gauged_stretches : Value}
    {f_is_rising : Addr} {od_is_rising an_is_rising : Option Addr} {sl_is_rising : Array (Option Value)} {oc_is_rising kV_is_rising dc_is_rising pm_is_rising cd_is_rising ct_is_rising : Value}
    {f_on_line : Addr} {od_on_line an_on_line : Option Addr} {sl_on_line : Array (Option Value)} {oc_on_line kV_on_line dc_on_line pm_on_line cd_on_line ct_on_line : Value}
    {f_lies_between : Addr} {od_lies_between an_lies_between : Option Addr} {sl_lies_between : Array (Option Value)} {oc_lies_between kV_lies_between dc_lies_between pm_lies_between cd_lies_between ct_lies_between : Value}
    {f_led : Addr} {od_led an_led : Option Addr} {sl_led : Array (Option Value)} {oc_led kV_led dc_led pm_led cd_led ct_led : Value}
    {f_Gauge_init__ : Addr} {od_Gauge_init__ an_Gauge_init__ : Option Addr} {sl_Gauge_init__ : Array (Option Value)} {oc_Gauge_init__ kV_Gauge_init__ dc_Gauge_init__ pm_Gauge_init__ cd_Gauge_init__ ct_Gauge_init__ : Value}
    {f_Gauge_forth : Addr} {od_Gauge_forth an_Gauge_forth : Option Addr} {sl_Gauge_forth : Array (Option Value)} {oc_Gauge_forth kV_Gauge_forth dc_Gauge_forth pm_Gauge_forth cd_Gauge_forth ct_Gauge_forth : Value}
    {f_law_cell : Addr} {od_law_cell an_law_cell : Option Addr} {sl_law_cell : Array (Option Value)} {oc_law_cell kV_law_cell dc_law_cell pm_law_cell cd_law_cell ct_law_cell : Value}
    {f_law_whole : Addr} {od_law_whole an_law_whole : Option Addr} {sl_law_whole : Array (Option Value)} {oc_law_whole kV_law_whole dc_law_whole pm_law_whole cd_law_whole ct_law_whole : Value}
    {f_law_number : Addr} {od_law_number an_law_number : Option Addr} {sl_law_number : Array (Option Value)} {oc_law_number kV_law_number dc_law_number pm_law_number cd_law_number ct_law_number : Value}
    {f_law_step : Addr} {od_law_step an_law_step : Option Addr} {sl_law_step : Array (Option Value)} {oc_law_step kV_law_step dc_law_step pm_law_step cd_law_step ct_law_step : Value}
    {f_law_error : Addr} {od_law_error an_law_error : Option Addr} {sl_law_error : Array (Option Value)} {oc_law_error kV_law_error dc_law_error pm_law_error cd_law_error ct_law_error : Value}
    {f_law_knots : Addr} {od_law_knots an_law_knots : Option Addr} {sl_law_knots : Array (Option Value)} {oc_law_knots kV_law_knots dc_law_knots pm_law_knots cd_law_knots ct_law_knots : Value}
    {f_law_raw : Addr} {od_law_raw an_law_raw : Option Addr} {sl_law_raw : Array (Option Value)} {oc_law_raw kV_law_raw dc_law_raw pm_law_raw cd_law_raw ct_law_raw : Value}
    {f_law_value : Addr} {od_law_value an_law_value : Option Addr} {sl_law_value : Array (Option Value)} {oc_law_value kV_law_value dc_law_value pm_law_value cd_law_value ct_law_value : Value}
    {f_law_due : Addr} {od_law_due an_law_due : Option Addr} {sl_law_due : Array (Option Value)} {oc_law_due kV_law_due dc_law_due pm_law_due cd_law_due ct_law_due : Value}
    {f_law_alike : Addr} {od_law_alike an_law_alike : Option Addr} {sl_law_alike : Array (Option Value)} {oc_law_alike kV_law_alike dc_law_alike pm_law_alike cd_law_alike ct_law_alike : Value}
    {f_law_refused : Addr} {od_law_refused an_law_refused : Option Addr} {sl_law_refused : Array (Option Value)} {oc_law_refused kV_law_refused dc_law_refused pm_law_refused cd_law_refused ct_law_refused : Value}
    {f_law : Addr} {od_law an_law : Option Addr} {sl_law : Array (Option Value)} {oc_law kV_law dc_law pm_law cd_law ct_law : Value}
    {C_GazeError : Addr}
    {C_NoRatio : Addr}
    {C_NoGauge : Addr}
    {C_OffGauge : Addr}
    {C_Eye : Addr}
    {C_Gauged : Addr}
    {C_Gauge : Addr}
    {cd_GazeError : ClassData}
    {cd_OffGauge : ClassData}
    (a_greatest_divisor : PySem.W.nsIn K mainGlobals "greatest_divisor" = some (some (.ref f_greatest_divisor))) (l_greatest_divisor : K.lookup f_greatest_divisor = some ⟨oc_greatest_divisor, od_greatest_divisor, .func (PySem.W.fnOf "greatest_divisor" "greatest_divisor" (defArgs s_greatest_divisor) (defBody s_greatest_divisor) (defScope s_greatest_divisor) .none kV_greatest_divisor dc_greatest_divisor pm_greatest_divisor an_greatest_divisor cd_greatest_divisor ct_greatest_divisor), sl_greatest_divisor⟩) (c_greatest_divisor : PySem.W.codeIn K cd_greatest_divisor "greatest_divisor" = true) (k_greatest_divisor : PySem.W.keepIn K (.ref f_greatest_divisor) = true)
    (a_ratio : PySem.W.nsIn K mainGlobals "ratio" = some (some (.ref f_ratio))) (l_ratio : K.lookup f_ratio = some ⟨oc_ratio, od_ratio, .func (PySem.W.fnOf "ratio" "ratio" (defArgs s_ratio) (defBody s_ratio) (defScope s_ratio) .none kV_ratio dc_ratio pm_ratio an_ratio cd_ratio ct_ratio), sl_ratio⟩) (c_ratio : PySem.W.codeIn K cd_ratio "ratio" = true) (k_ratio : PySem.W.keepIn K (.ref f_ratio) = true)
    (a_plus : PySem.W.nsIn K mainGlobals "plus" = some (some (.ref f_plus))) (l_plus : K.lookup f_plus = some ⟨oc_plus, od_plus, .func (PySem.W.fnOf "plus" "plus" (defArgs s_plus) (defBody s_plus) (defScope s_plus) .none kV_plus dc_plus pm_plus an_plus cd_plus ct_plus), sl_plus⟩) (c_plus : PySem.W.codeIn K cd_plus "plus" = true) (k_plus : PySem.W.keepIn K (.ref f_plus) = true)
    (a_minus : PySem.W.nsIn K mainGlobals "minus" = some (some (.ref f_minus))) (l_minus : K.lookup f_minus = some ⟨oc_minus, od_minus, .func (PySem.W.fnOf "minus" "minus" (defArgs s_minus) (defBody s_minus) (defScope s_minus) .none kV_minus dc_minus pm_minus an_minus cd_minus ct_minus), sl_minus⟩) (c_minus : PySem.W.codeIn K cd_minus "minus" = true) (k_minus : PySem.W.keepIn K (.ref f_minus) = true)
    (a_times : PySem.W.nsIn K mainGlobals "times" = some (some (.ref f_times))) (l_times : K.lookup f_times = some ⟨oc_times, od_times, .func (PySem.W.fnOf "times" "times" (defArgs s_times) (defBody s_times) (defScope s_times) .none kV_times dc_times pm_times an_times cd_times ct_times), sl_times⟩) (c_times : PySem.W.codeIn K cd_times "times" = true) (k_times : PySem.W.keepIn K (.ref f_times) = true)
    (a_under : PySem.W.nsIn K mainGlobals "under" = some (some (.ref f_under))) (l_under : K.lookup f_under = some ⟨oc_under, od_under, .func (PySem.W.fnOf "under" "under" (defArgs s_under) (defBody s_under) (defScope s_under) .none kV_under dc_under pm_under an_under cd_under ct_under), sl_under⟩) (c_under : PySem.W.codeIn K cd_under "under" = true) (k_under : PySem.W.keepIn K (.ref f_under) = true)
    (a_floored : PySem.W.nsIn K mainGlobals "floored" = some (some (.ref f_floored))) (l_floored : K.lookup f_floored = some ⟨oc_floored, od_floored, .func (PySem.W.fnOf "floored" "floored" (defArgs s_floored) (defBody s_floored) (defScope s_floored) .none kV_floored dc_floored pm_floored an_floored cd_floored ct_floored), sl_floored⟩) (c_floored : PySem.W.codeIn K cd_floored "floored" = true) (k_floored : PySem.W.keepIn K (.ref f_floored) = true)
    (a_raised : PySem.W.nsIn K mainGlobals "raised" = some (some (.ref f_raised))) (l_raised : K.lookup f_raised = some ⟨oc_raised, od_raised, .func (PySem.W.fnOf "raised" "raised" (defArgs s_raised) (defBody s_raised) (defScope s_raised) .none kV_raised dc_raised pm_raised an_raised cd_raised ct_raised), sl_raised⟩) (c_raised : PySem.W.codeIn K cd_raised "raised" = true) (k_raised : PySem.W.keepIn K (.ref f_raised) = true)
    (a_widened : PySem.W.nsIn K mainGlobals "widened" = some (some (.ref f_widened))) (l_widened : K.lookup f_widened = some ⟨oc_widened, od_widened, .func (PySem.W.fnOf "widened" "widened" (defArgs s_widened) (defBody s_widened) (defScope s_widened) .none kV_widened dc_widened pm_widened an_widened cd_widened ct_widened), sl_widened⟩) (c_widened : PySem.W.codeIn K cd_widened "widened" = true) (k_widened : PySem.W.keepIn K (.ref f_widened) = true)
    (a_Eye_init__ : PySem.W.findIn K (.ref C_Eye) "__init__" = some (some (.ref f_Eye_init__))) (l_Eye_init__ : K.lookup f_Eye_init__ = some ⟨oc_Eye_init__, od_Eye_init__, .func (PySem.W.fnOf "__init__" "Eye.__init__" (defArgs s_Eye_init__) (defBody s_Eye_init__) (defScope s_Eye_init__) .none kV_Eye_init__ dc_Eye_init__ pm_Eye_init__ an_Eye_init__ cd_Eye_init__ ct_Eye_init__), sl_Eye_init__⟩) (c_Eye_init__ : PySem.W.codeIn K cd_Eye_init__ "Eye.__init__" = true) (k_Eye_init__ : PySem.W.keepIn K (.ref f_Eye_init__) = true)
    (a_Eye_slack : PySem.W.findIn K (.ref C_Eye) "slack" = some (some (.ref f_Eye_slack))) (l_Eye_slack : K.lookup f_Eye_slack = some ⟨oc_Eye_slack, od_Eye_slack, .func (PySem.W.fnOf "slack" "Eye.slack" (defArgs s_Eye_slack) (defBody s_Eye_slack) (defScope s_Eye_slack) .none kV_Eye_slack dc_Eye_slack pm_Eye_slack an_Eye_slack cd_Eye_slack ct_Eye_slack), sl_Eye_slack⟩) (c_Eye_slack : PySem.W.codeIn K cd_Eye_slack "Eye.slack" = true) (k_Eye_slack : PySem.W.keepIn K (.ref f_Eye_slack) = true)
    (a_Eye_slackened : PySem.W.findIn K (.ref C_Eye) "slackened" = some (some (.ref f_Eye_slackened))) (l_Eye_slackened : K.lookup f_Eye_slackened = some ⟨oc_Eye_slackened, od_Eye_slackened, .func (PySem.W.fnOf "slackened" "Eye.slackened" (defArgs s_Eye_slackened) (defBody s_Eye_slackened) (defScope s_Eye_slackened) .none kV_Eye_slackened dc_Eye_slackened pm_Eye_slackened an_Eye_slackened cd_Eye_slackened ct_Eye_slackened), sl_Eye_slackened⟩) (c_Eye_slackened : PySem.W.codeIn K cd_Eye_slackened "Eye.slackened" = true) (k_Eye_slackened : PySem.W.keepIn K (.ref f_Eye_slackened) = true)
    (a_forth_or_none : PySem.W.nsIn K mainGlobals "forth_or_none" = some (some (.ref f_forth_or_none))) (l_forth_or_none : K.lookup f_forth_or_none = some ⟨oc_forth_or_none, od_forth_or_none, .func (PySem.W.fnOf "forth_or_none" "forth_or_none" (defArgs s_forth_or_none) (defBody s_forth_or_none) (defScope s_forth_or_none) .none kV_forth_or_none dc_forth_or_none pm_forth_or_none an_forth_or_none cd_forth_or_none ct_forth_or_none), sl_forth_or_none⟩) (c_forth_or_none : PySem.W.codeIn K cd_forth_or_none "forth_or_none" = true) (k_forth_or_none : PySem.W.keepIn K (.ref f_forth_or_none) = true)
    (a_Gauged_init__ : PySem.W.findIn K (.ref C_Gauged) "__init__" = some (some (.ref f_Gauged_init__))) (l_Gauged_init__ : K.lookup f_Gauged_init__ = some ⟨oc_Gauged_init__, od_Gauged_init__, .func (PySem.W.fnOf "__init__" "Gauged.__init__" (defArgs s_Gauged_init__) (defBody s_Gauged_init__) (defScope s_Gauged_init__) .none kV_Gauged_init__ dc_Gauged_init__ pm_Gauged_init__ an_Gauged_init__ cd_Gauged_init__ ct_Gauged_init__), sl_Gauged_init__⟩) (c_Gauged_init__ : PySem.W.codeIn K cd_Gauged_init__ "Gauged.__init__" = true) (k_Gauged_init__ : PySem.W.keepIn K (.ref f_Gauged_init__) = true)
    (a_Gauged_seen : PySem.W.findIn K (.ref C_Gauged) "seen" = some (some (.ref f_Gauged_seen))) (l_Gauged_seen : K.lookup f_Gauged_seen = some ⟨oc_Gauged_seen, od_Gauged_seen, .func (PySem.W.fnOf "seen" "Gauged.seen" (defArgs s_Gauged_seen) (defBody s_Gauged_seen) (defScope s_Gauged_seen) .none kV_Gauged_seen dc_Gauged_seen pm_Gauged_seen an_Gauged_seen cd_Gauged_seen ct_Gauged_seen), sl_Gauged_seen⟩) (c_Gauged_seen : PySem.W.codeIn K cd_Gauged_seen "Gauged.seen" = true) (k_Gauged_seen : PySem.W.keepIn K (.ref f_Gauged_seen) = true)
    (a_Gauged_stretches : PySem.W.findIn K (.ref C_Gauged) "stretches" = some (some (.ref f_Gauged_stretches))) (l_Gauged_stretches : K.lookup f_Gauged_stretches = some ⟨oc_Gauged_stretches, od_Gauged_stretches, .func (PySem.W.fnOf "stretches" "Gauged.stretches" (defArgs s_Gauged_stretches) (defBody s_Gauged_stretches) (defScope s_Gauged_stretches) .none kV_Gauged_stretches dc_Gauged_stretches pm_Gauged_stretches an_Gauged_stretches cd_Gauged_stretches ct_Gauged_stretches), sl_Gauged_stretches⟩) (c_Gauged_stretches : PySem.W.codeIn K cd_Gauged_stretches "Gauged.stretches" = true) (k_Gauged_stretches : PySem.W.keepIn K (.ref f_Gauged_stretches) = true)
    (a_is_rising : PySem.W.nsIn K mainGlobals "is_rising" = some (some (.ref f_is_rising))) (l_is_rising : K.lookup f_is_rising = some ⟨oc_is_rising, od_is_rising, .func (PySem.W.fnOf "is_rising" "is_rising" (defArgs s_is_rising) (defBody s_is_rising) (defScope s_is_rising) .none kV_is_rising dc_is_rising pm_is_rising an_is_rising cd_is_rising ct_is_rising), sl_is_rising⟩) (c_is_rising : PySem.W.codeIn K cd_is_rising "is_rising" = true) (k_is_rising : PySem.W.keepIn K (.ref f_is_rising) = true)
    (a_on_line : PySem.W.nsIn K mainGlobals "on_line" = some (some (.ref f_on_line))) (l_on_line : K.lookup f_on_line = some ⟨oc_on_line, od_on_line, .func (PySem.W.fnOf "on_line" "on_line" (defArgs s_on_line) (defBody s_on_line) (defScope s_on_line) .none kV_on_line dc_on_line pm_on_line an_on_line cd_on_line ct_on_line), sl_on_line⟩) (c_on_line : PySem.W.codeIn K cd_on_line "on_line" = true) (k_on_line : PySem.W.keepIn K (.ref f_on_line) = true)
    (a_lies_between : PySem.W.nsIn K mainGlobals "lies_between" = some (some (.ref f_lies_between))) (l_lies_between : K.lookup f_lies_between = some ⟨oc_lies_between, od_lies_between, .func (PySem.W.fnOf "lies_between" "lies_between" (defArgs s_lies_between) (defBody s_lies_between) (defScope s_lies_between) .none kV_lies_between dc_lies_between pm_lies_between an_lies_between cd_lies_between ct_lies_between), sl_lies_between⟩) (c_lies_between : PySem.W.codeIn K cd_lies_between "lies_between" = true) (k_lies_between : PySem.W.keepIn K (.ref f_lies_between) = true)
    (a_led : PySem.W.nsIn K mainGlobals "led" = some (some (.ref f_led))) (l_led : K.lookup f_led = some ⟨oc_led, od_led, .func (PySem.W.fnOf "led" "led" (defArgs s_led) (defBody s_led) (defScope s_led) .none kV_led dc_led pm_led an_led cd_led ct_led), sl_led⟩) (c_led : PySem.W.codeIn K cd_led "led" = true) (k_led : PySem.W.keepIn K (.ref f_led) = true)
    (a_Gauge_init__ : PySem.W.findIn K (.ref C_Gauge) "__init__" = some (some (.ref f_Gauge_init__))) (l_Gauge_init__ : K.lookup f_Gauge_init__ = some ⟨oc_Gauge_init__, od_Gauge_init__, .func (PySem.W.fnOf "__init__" "Gauge.__init__" (defArgs s_Gauge_init__) (defBody s_Gauge_init__) (defScope s_Gauge_init__) .none kV_Gauge_init__ dc_Gauge_init__ pm_Gauge_init__ an_Gauge_init__ cd_Gauge_init__ ct_Gauge_init__), sl_Gauge_init__⟩) (c_Gauge_init__ : PySem.W.codeIn K cd_Gauge_init__ "Gauge.__init__" = true) (k_Gauge_init__ : PySem.W.keepIn K (.ref f_Gauge_init__) = true)
    (a_Gauge_forth : PySem.W.findIn K (.ref C_Gauge) "forth" = some (some (.ref f_Gauge_forth))) (l_Gauge_forth : K.lookup f_Gauge_forth = some ⟨oc_Gauge_forth, od_Gauge_forth, .func (PySem.W.fnOf "forth" "Gauge.forth" (defArgs s_Gauge_forth) (defBody s_Gauge_forth) (defScope s_Gauge_forth) .none kV_Gauge_forth dc_Gauge_forth pm_Gauge_forth an_Gauge_forth cd_Gauge_forth ct_Gauge_forth), sl_Gauge_forth⟩) (c_Gauge_forth : PySem.W.codeIn K cd_Gauge_forth "Gauge.forth" = true) (k_Gauge_forth : PySem.W.keepIn K (.ref f_Gauge_forth) = true)
    (a_law_cell : PySem.W.nsIn K mainGlobals "_law_cell" = some (some (.ref f_law_cell))) (l_law_cell : K.lookup f_law_cell = some ⟨oc_law_cell, od_law_cell, .func (PySem.W.fnOf "_law_cell" "_law_cell" (defArgs s_law_cell) (defBody s_law_cell) (defScope s_law_cell) .none kV_law_cell dc_law_cell pm_law_cell an_law_cell cd_law_cell ct_law_cell), sl_law_cell⟩) (c_law_cell : PySem.W.codeIn K cd_law_cell "_law_cell" = true) (k_law_cell : PySem.W.keepIn K (.ref f_law_cell) = true)
    (a_law_whole : PySem.W.nsIn K mainGlobals "_law_whole" = some (some (.ref f_law_whole))) (l_law_whole : K.lookup f_law_whole = some ⟨oc_law_whole, od_law_whole, .func (PySem.W.fnOf "_law_whole" "_law_whole" (defArgs s_law_whole) (defBody s_law_whole) (defScope s_law_whole) .none kV_law_whole dc_law_whole pm_law_whole an_law_whole cd_law_whole ct_law_whole), sl_law_whole⟩) (c_law_whole : PySem.W.codeIn K cd_law_whole "_law_whole" = true) (k_law_whole : PySem.W.keepIn K (.ref f_law_whole) = true)
    (a_law_number : PySem.W.nsIn K mainGlobals "_law_number" = some (some (.ref f_law_number))) (l_law_number : K.lookup f_law_number = some ⟨oc_law_number, od_law_number, .func (PySem.W.fnOf "_law_number" "_law_number" (defArgs s_law_number) (defBody s_law_number) (defScope s_law_number) .none kV_law_number dc_law_number pm_law_number an_law_number cd_law_number ct_law_number), sl_law_number⟩) (c_law_number : PySem.W.codeIn K cd_law_number "_law_number" = true) (k_law_number : PySem.W.keepIn K (.ref f_law_number) = true)
    (a_law_step : PySem.W.nsIn K mainGlobals "_law_step" = some (some (.ref f_law_step))) (l_law_step : K.lookup f_law_step = some ⟨oc_law_step, od_law_step, .func (PySem.W.fnOf "_law_step" "_law_step" (defArgs s_law_step) (defBody s_law_step) (defScope s_law_step) .none kV_law_step dc_law_step pm_law_step an_law_step cd_law_step ct_law_step), sl_law_step⟩) (c_law_step : PySem.W.codeIn K cd_law_step "_law_step" = true) (k_law_step : PySem.W.keepIn K (.ref f_law_step) = true)
    (a_law_error : PySem.W.nsIn K mainGlobals "_law_error" = some (some (.ref f_law_error))) (l_law_error : K.lookup f_law_error = some ⟨oc_law_error, od_law_error, .func (PySem.W.fnOf "_law_error" "_law_error" (defArgs s_law_error) (defBody s_law_error) (defScope s_law_error) .none kV_law_error dc_law_error pm_law_error an_law_error cd_law_error ct_law_error), sl_law_error⟩) (c_law_error : PySem.W.codeIn K cd_law_error "_law_error" = true) (k_law_error : PySem.W.keepIn K (.ref f_law_error) = true)
    (a_law_knots : PySem.W.nsIn K mainGlobals "_law_knots" = some (some (.ref f_law_knots))) (l_law_knots : K.lookup f_law_knots = some ⟨oc_law_knots, od_law_knots, .func (PySem.W.fnOf "_law_knots" "_law_knots" (defArgs s_law_knots) (defBody s_law_knots) (defScope s_law_knots) .none kV_law_knots dc_law_knots pm_law_knots an_law_knots cd_law_knots ct_law_knots), sl_law_knots⟩) (c_law_knots : PySem.W.codeIn K cd_law_knots "_law_knots" = true) (k_law_knots : PySem.W.keepIn K (.ref f_law_knots) = true)
    (a_law_raw : PySem.W.nsIn K mainGlobals "_law_raw" = some (some (.ref f_law_raw))) (l_law_raw : K.lookup f_law_raw = some ⟨oc_law_raw, od_law_raw, .func (PySem.W.fnOf "_law_raw" "_law_raw" (defArgs s_law_raw) (defBody s_law_raw) (defScope s_law_raw) .none kV_law_raw dc_law_raw pm_law_raw an_law_raw cd_law_raw ct_law_raw), sl_law_raw⟩) (c_law_raw : PySem.W.codeIn K cd_law_raw "_law_raw" = true) (k_law_raw : PySem.W.keepIn K (.ref f_law_raw) = true)
    (a_law_value : PySem.W.nsIn K mainGlobals "_law_value" = some (some (.ref f_law_value))) (l_law_value : K.lookup f_law_value = some ⟨oc_law_value, od_law_value, .func (PySem.W.fnOf "_law_value" "_law_value" (defArgs s_law_value) (defBody s_law_value) (defScope s_law_value) .none kV_law_value dc_law_value pm_law_value an_law_value cd_law_value ct_law_value), sl_law_value⟩) (c_law_value : PySem.W.codeIn K cd_law_value "_law_value" = true) (k_law_value : PySem.W.keepIn K (.ref f_law_value) = true)
    (a_law_due : PySem.W.nsIn K mainGlobals "_law_due" = some (some (.ref f_law_due))) (l_law_due : K.lookup f_law_due = some ⟨oc_law_due, od_law_due, .func (PySem.W.fnOf "_law_due" "_law_due" (defArgs s_law_due) (defBody s_law_due) (defScope s_law_due) .none kV_law_due dc_law_due pm_law_due an_law_due cd_law_due ct_law_due), sl_law_due⟩) (c_law_due : PySem.W.codeIn K cd_law_due "_law_due" = true) (k_law_due : PySem.W.keepIn K (.ref f_law_due) = true)
    (a_law_alike : PySem.W.nsIn K mainGlobals "_law_alike" = some (some (.ref f_law_alike))) (l_law_alike : K.lookup f_law_alike = some ⟨oc_law_alike, od_law_alike, .func (PySem.W.fnOf "_law_alike" "_law_alike" (defArgs s_law_alike) (defBody s_law_alike) (defScope s_law_alike) .none kV_law_alike dc_law_alike pm_law_alike an_law_alike cd_law_alike ct_law_alike), sl_law_alike⟩) (c_law_alike : PySem.W.codeIn K cd_law_alike "_law_alike" = true) (k_law_alike : PySem.W.keepIn K (.ref f_law_alike) = true)
    (a_law_refused : PySem.W.nsIn K mainGlobals "_law_refused" = some (some (.ref f_law_refused))) (l_law_refused : K.lookup f_law_refused = some ⟨oc_law_refused, od_law_refused, .func (PySem.W.fnOf "_law_refused" "_law_refused" (defArgs s_law_refused) (defBody s_law_refused) (defScope s_law_refused) .none kV_law_refused dc_law_refused pm_law_refused an_law_refused cd_law_refused ct_law_refused), sl_law_refused⟩) (c_law_refused : PySem.W.codeIn K cd_law_refused "_law_refused" = true) (k_law_refused : PySem.W.keepIn K (.ref f_law_refused) = true)
    (a_law : PySem.W.nsIn K mainGlobals "law" = some (some (.ref f_law))) (l_law : K.lookup f_law = some ⟨oc_law, od_law, .func (PySem.W.fnOf "law" "law" (defArgs s_law) (defBody s_law) (defScope s_law) .none kV_law dc_law pm_law an_law cd_law ct_law), sl_law⟩) (c_law : PySem.W.codeIn K cd_law "law" = true) (k_law : PySem.W.keepIn K (.ref f_law) = true)
    (z_abs : PySem.W.nsIn K mainGlobals "abs" = some none)
    (z_all : PySem.W.nsIn K mainGlobals "all" = some none)
    (z_bool : PySem.W.nsIn K mainGlobals "bool" = some none)
    (z_enumerate : PySem.W.nsIn K mainGlobals "enumerate" = some none)
    (z_int : PySem.W.nsIn K mainGlobals "int" = some none)
    (z_isinstance : PySem.W.nsIn K mainGlobals "isinstance" = some none)
    (z_len : PySem.W.nsIn K mainGlobals "len" = some none)
    (z_list : PySem.W.nsIn K mainGlobals "list" = some none)
    (z_range : PySem.W.nsIn K mainGlobals "range" = some none)
    (z_tuple : PySem.W.nsIn K mainGlobals "tuple" = some none)
    (z_zip : PySem.W.nsIn K mainGlobals "zip" = some none)
    (e_GazeError : PySem.W.nsIn K mainGlobals "GazeError" = some (some (.ref C_GazeError)))
    (e_NoRatio : PySem.W.nsIn K mainGlobals "NoRatio" = some (some (.ref C_NoRatio)))
    (e_NoGauge : PySem.W.nsIn K mainGlobals "NoGauge" = some (some (.ref C_NoGauge)))
    (e_OffGauge : PySem.W.nsIn K mainGlobals "OffGauge" = some (some (.ref C_OffGauge)))
    (e_Eye : PySem.W.nsIn K mainGlobals "Eye" = some (some (.ref C_Eye)))
    (e_Gauged : PySem.W.nsIn K mainGlobals "Gauged" = some (some (.ref C_Gauged)))
    (e_Gauge : PySem.W.nsIn K mainGlobals "Gauge" = some (some (.ref C_Gauge)))
    (pg_Eye : PySem.W.plainGet K C_Eye Str.empty = true) (hd_Eye : PySem.W.hasDictIn K C_Eye = true) (po_Eye : PySem.W.plainOver K C_Eye = true) (sa_Eye : PySem.W.findIn K (.ref C_Eye) "__setattr__" = some (some (.builtin "object.__setattr__")))
    (no_Eye_drift : PySem.W.findIn K (.ref C_Eye) "drift" = some none)
    (no_Eye_since : PySem.W.findIn K (.ref C_Eye) "since" = some none)
    (fn_Eye_init__ : PySem.W.isFn K (.ref f_Eye_init__) = true)
    (mk_Eye : PySem.W.makesIn K C_Eye = true) (kc_Eye : PySem.W.keepIn K (.ref C_Eye) = true)
    (fn_Eye_slack : PySem.W.isFn K (.ref f_Eye_slack) = true)
    (fn_Eye_slackened : PySem.W.isFn K (.ref f_Eye_slackened) = true)
    (pg_Gauged : PySem.W.plainGet K C_Gauged Str.empty = true) (hd_Gauged : PySem.W.hasDictIn K C_Gauged = true) (po_Gauged : PySem.W.plainOver K C_Gauged = true) (sa_Gauged : PySem.W.findIn K (.ref C_Gauged) "__setattr__" = some (some (.builtin "object.__setattr__")))
    (no_Gauged_drift : PySem.W.findIn K (.ref C_Gauged) "drift" = some none)
    (no_Gauged_since : PySem.W.findIn K (.ref C_Gauged) "since" = some none)
    (no_Gauged_gauge : PySem.W.findIn K (.ref C_Gauged) "gauge" = some none)
    (no_Gauged_error : PySem.W.findIn K (.ref C_Gauged) "error" = some none)
    (fn_Gauged_init__ : PySem.W.isFn K (.ref f_Gauged_init__) = true)
    (mk_Gauged : PySem.W.makesIn K C_Gauged = true) (kc_Gauged : PySem.W.keepIn K (.ref C_Gauged) = true)
    (in_Gauged_slack : PySem.W.findIn K (.ref C_Gauged) "slack" = some (some (.ref f_Eye_slack)))
    (in_Gauged_slackened : PySem.W.findIn K (.ref C_Gauged) "slackened" = some (some (.ref f_Eye_slackened)))
    (fn_Gauged_seen : PySem.W.isFn K (.ref f_Gauged_seen) = true)
    (fn_Gauged_stretches : PySem.W.isFn K (.ref f_Gauged_stretches) = true)
    (pg_Gauge : PySem.W.plainGet K C_Gauge Str.empty = true) (hd_Gauge : PySem.W.hasDictIn K C_Gauge = true) (po_Gauge : PySem.W.plainOver K C_Gauge = true) (sa_Gauge : PySem.W.findIn K (.ref C_Gauge) "__setattr__" = some (some (.builtin "object.__setattr__")))
    (no_Gauge_knots : PySem.W.findIn K (.ref C_Gauge) "knots" = some none)
    (fn_Gauge_init__ : PySem.W.isFn K (.ref f_Gauge_init__) = true)
    (mk_Gauge : PySem.W.makesIn K C_Gauge = true) (kc_Gauge : PySem.W.keepIn K (.ref C_Gauge) = true)
    (fn_Gauge_forth : PySem.W.isFn K (.ref f_Gauge_forth) = true)
    (ga_Eye_init__ : PySem.W.specialIn K (.ref C_Eye) "__getattribute__" = some (some (.builtin "type.__getattribute__"))) (rd_Eye_init__ : PySem.W.readsIn K C_Eye (.type "type") = true) (fc_Eye_init__ : PySem.W.findCls K (.ref C_Eye) (.type "type") "__init__" = some (.val (.ref f_Eye_init__)))
    (x1_NoGauge : PySem.W.excIn K C_NoGauge [.type "ValueError", .type "Exception", .type "BaseException", .type "object"] "ValueError.__new__" = true)
    (x2_NoGauge : PySem.W.mroIn K C_NoGauge (.type "object") = some true)
    (x3_NoGauge : PySem.W.mroIn K C_NoGauge (.type "BaseException") = some true)
    (x4_NoGauge : PySem.W.findIn K (.ref C_NoGauge) "__getattribute__" = some (some (.builtin "BaseException.__getattribute__")))
    (x5_NoGauge : PySem.W.findIn K (.ref C_NoGauge) "__getattr__" = some none)
    (x6_NoGauge : PySem.W.findIn K (.ref C_NoGauge) "__class__" = some (some (.builtin "object.__class__")))
    (x1_OffGauge : PySem.W.excIn K C_OffGauge [.type "ValueError", .type "Exception", .type "BaseException", .type "object"] "ValueError.__new__" = true)
    (x2_OffGauge : PySem.W.mroIn K C_OffGauge (.type "object") = some true)
    (x3_OffGauge : PySem.W.mroIn K C_OffGauge (.type "BaseException") = some true)
    (x4_OffGauge : PySem.W.findIn K (.ref C_OffGauge) "__getattribute__" = some (some (.builtin "BaseException.__getattribute__")))
    (x5_OffGauge : PySem.W.findIn K (.ref C_OffGauge) "__getattr__" = some none)
    (x6_OffGauge : PySem.W.findIn K (.ref C_OffGauge) "__class__" = some (some (.builtin "object.__class__")))
    (g1_GazeError : PySem.W.clsIn K C_GazeError = some cd_GazeError)
    (g2_GazeError : PySem.W.typeIn K (.ref C_GazeError) = some (.type "type"))
    (g4_GazeError : PySem.W.subIn K (.ref C_GazeError) (.type "BaseException") = some true)
    (g3_OffGauge_GazeError : PySem.W.subIn K (.ref C_OffGauge) (.ref C_GazeError) = some true)
    (g1_OffGauge : PySem.W.clsIn K C_OffGauge = some cd_OffGauge)
    (g2_OffGauge : PySem.W.typeIn K (.ref C_OffGauge) = some (.type "type"))
    (g4_OffGauge : PySem.W.subIn K (.ref C_OffGauge) (.type "BaseException") = some true)
    (g3_OffGauge_OffGauge : PySem.W.subIn K (.ref C_OffGauge) (.ref C_OffGauge) = some true)
    (yis_OffGauge_OffGauge : PySem.W.kitOne K (.ref C_OffGauge) (.ref C_OffGauge) = some true)
    (yis_OffGauge_NoGauge : PySem.W.kitOne K (.ref C_OffGauge) (.ref C_NoGauge) = some false)
    : ∃ fd : FuncData, (∀ (s : Shared) (v : Value), BindsTo s fd ⟨[v], []⟩ [("_law_script", v)]) ∧ ∀ base : Heap, K.In base → base.Ns mainGlobals mg → FnOk l.prog w K mg base (CXX l.prog w) 11 fa fd ["_law_script"] (sp_law K) := by
  have e := hfa.symm.trans (PySem.W.mg_of X G a_law)
  cases e
  have F_greatest_divisor := fun_mk (st := s_greatest_divisor) l_greatest_divisor c_greatest_divisor k_greatest_divisor
  have b_greatest_divisor := F_greatest_divisor.binds (ps := ["one", "other"]) fun _ _ _ _ _ _ us hl => match us, hl with | [_, _], _ => rfl
  have F_ratio := fun_mk (st := s_ratio) l_ratio c_ratio k_ratio
  have b_ratio := F_ratio.binds (ps := ["top", "bottom"]) fun _ _ _ _ _ _ us hl => match us, hl with | [_, _], _ => rfl
  have F_plus := fun_mk (st := s_plus) l_plus c_plus k_plus
  have b_plus := F_plus.binds (ps := ["one", "other"]) fun _ _ _ _ _ _ us hl => match us, hl with | [_, _], _ => rfl
  have F_minus := fun_mk (st := s_minus) l_minus c_minus k_minus
  have b_minus := F_minus.binds (ps := ["one", "other"]) fun _ _ _ _ _ _ us hl => match us, hl with | [_, _], _ => rfl
  have F_times := fun_mk (st := s_times) l_times c_times k_times
  have b_times := F_times.binds (ps := ["one", "other"]) fun _ _ _ _ _ _ us hl => match us, hl with | [_, _], _ => rfl
  have F_under := fun_mk (st := s_under) l_under c_under k_under
  have b_under := F_under.binds (ps := ["one", "other"]) fun _ _ _ _ _ _ us hl => match us, hl with | [_, _], _ => rfl
  have F_floored := fun_mk (st := s_floored) l_floored c_floored k_floored
  have b_floored := F_floored.binds (ps := ["one"]) fun _ _ _ _ _ _ us hl => match us, hl with | [_], _ => rfl
  have F_raised := fun_mk (st := s_raised) l_raised c_raised k_raised
  have b_raised := F_raised.binds (ps := ["one"]) fun _ _ _ _ _ _ us hl => match us, hl with | [_], _ => rfl
  have F_widened := fun_mk (st := s_widened) l_widened c_widened k_widened
  have b_widened := F_widened.binds (ps := ["one", "by"]) fun _ _ _ _ _ _ us hl => match us, hl with | [_, _], _ => rfl
  have F_Eye_init__ := fun_mk (st := s_Eye_init__) l_Eye_init__ c_Eye_init__ k_Eye_init__
  have b_Eye_init__ := F_Eye_init__.binds (ps := ["self", "drift", "since"]) fun _ _ _ _ _ _ us hl => match us, hl with | [_, _, _], _ => rfl
  have F_Eye_slack := fun_mk (st := s_Eye_slack) l_Eye_slack c_Eye_slack k_Eye_slack
  have b_Eye_slack := F_Eye_slack.binds (ps := ["self", "turn"]) fun _ _ _ _ _ _ us hl => match us, hl with | [_, _], _ => rfl
  have F_Eye_slackened := fun_mk (st := s_Eye_slackened) l_Eye_slackened c_Eye_slackened k_Eye_slackened
  have b_Eye_slackened := F_Eye_slackened.binds (ps := ["self", "words"]) fun _ _ _ _ _ _ us hl => match us, hl with | [_, _], _ => rfl
  have F_forth_or_none := fun_mk (st := s_forth_or_none) l_forth_or_none c_forth_or_none k_forth_or_none
  have b_forth_or_none := F_forth_or_none.binds (ps := ["gauge", "raw"]) fun _ _ _ _ _ _ us hl => match us, hl with | [_, _], _ => rfl
  have F_Gauged_init__ := fun_mk (st := s_Gauged_init__) l_Gauged_init__ c_Gauged_init__ k_Gauged_init__
  have b_Gauged_init__ := F_Gauged_init__.binds (ps := ["self", "drift", "since", "gauge", "error"]) fun _ _ _ _ _ _ us hl => match us, hl with | [_, _, _, _, _], _ => rfl
  have F_Gauged_seen := fun_mk (st := s_Gauged_seen) l_Gauged_seen c_Gauged_seen k_Gauged_seen
  have b_Gauged_seen := F_Gauged_seen.binds (ps := ["self", "raw"]) fun _ _ _ _ _ _ us hl => match us, hl with | [_, _], _ => rfl
  have F_Gauged_stretches := fun_mk (st := s_Gauged_stretches) l_Gauged_stretches c_Gauged_stretches k_Gauged_stretches
  have b_Gauged_stretches := F_Gauged_stretches.binds (ps := ["self", "words"]) fun _ _ _ _ _ _ us hl => match us, hl with | [_, _], _ => rfl
  have F_is_rising := fun_mk (st := s_is_rising) l_is_rising c_is_rising k_is_rising
  have b_is_rising := F_is_rising.binds (ps := ["numbers"]) fun _ _ _ _ _ _ us hl => match us, hl with | [_], _ => rfl
  have F_on_line := fun_mk (st := s_on_line) l_on_line c_on_line k_on_line
  have b_on_line := F_on_line.binds (ps := ["start", "end", "one"]) fun _ _ _ _ _ _ us hl => match us, hl with | [_, _, _], _ => rfl
  have F_lies_between := fun_mk (st := s_lies_between) l_lies_between c_lies_between k_lies_between
  have b_lies_between := F_lies_between.binds (ps := ["start", "end", "one"]) fun _ _ _ _ _ _ us hl => match us, hl with | [_, _, _], _ => rfl
  have F_led := fun_mk (st := s_led) l_led c_led k_led
  have b_led := F_led.binds (ps := ["pairs", "one"]) fun _ _ _ _ _ _ us hl => match us, hl with | [_, _], _ => rfl
  have F_Gauge_init__ := fun_mk (st := s_Gauge_init__) l_Gauge_init__ c_Gauge_init__ k_Gauge_init__
  have b_Gauge_init__ := F_Gauge_init__.binds (ps := ["self", "knots"]) fun _ _ _ _ _ _ us hl => match us, hl with | [_, _], _ => rfl
  have F_Gauge_forth := fun_mk (st := s_Gauge_forth) l_Gauge_forth c_Gauge_forth k_Gauge_forth
  have b_Gauge_forth := F_Gauge_forth.binds (ps := ["self", "raw"]) fun _ _ _ _ _ _ us hl => match us, hl with | [_, _], _ => rfl
  have F_law_cell := fun_mk (st := s_law_cell) l_law_cell c_law_cell k_law_cell
  have b_law_cell := F_law_cell.binds (ps := ["_law_script", "_law_k"]) fun _ _ _ _ _ _ us hl => match us, hl with | [_, _], _ => rfl
  have F_law_whole := fun_mk (st := s_law_whole) l_law_whole c_law_whole k_law_whole
  have b_law_whole := F_law_whole.binds (ps := ["_law_found"]) fun _ _ _ _ _ _ us hl => match us, hl with | [_], _ => rfl
  have F_law_number := fun_mk (st := s_law_number) l_law_number c_law_number k_law_number
  have b_law_number := F_law_number.binds (ps := ["_law_cell_here"]) fun _ _ _ _ _ _ us hl => match us, hl with | [_], _ => rfl
  have F_law_step := fun_mk (st := s_law_step) l_law_step c_law_step k_law_step
  have b_law_step := F_law_step.binds (ps := ["_law_cell_here"]) fun _ _ _ _ _ _ us hl => match us, hl with | [_], _ => rfl
  have F_law_error := fun_mk (st := s_law_error) l_law_error c_law_error k_law_error
  have b_law_error := F_law_error.binds (ps := ["_law_cell_here"]) fun _ _ _ _ _ _ us hl => match us, hl with | [_], _ => rfl
  have F_law_knots := fun_mk (st := s_law_knots) l_law_knots c_law_knots k_law_knots
  have b_law_knots := F_law_knots.binds (ps := ["_law_script"]) fun _ _ _ _ _ _ us hl => match us, hl with | [_], _ => rfl
  have F_law_raw := fun_mk (st := s_law_raw) l_law_raw c_law_raw k_law_raw
  have b_law_raw := F_law_raw.binds (ps := ["_law_cell_here", "_law_knots_here"]) fun _ _ _ _ _ _ us hl => match us, hl with | [_, _], _ => rfl
  have F_law_value := fun_mk (st := s_law_value) l_law_value c_law_value k_law_value
  have b_law_value := F_law_value.binds (ps := ["_law_knots_here", "_law_raw_here", "_law_up"]) fun _ _ _ _ _ _ us hl => match us, hl with | [_, _, _], _ => rfl
  have F_law_due := fun_mk (st := s_law_due) l_law_due c_law_due k_law_due
  have b_law_due := F_law_due.binds (ps := ["_law_knots_here", "_law_words", "_law_error_here", "_law_slacks"]) fun _ _ _ _ _ _ us hl => match us, hl with | [_, _, _, _], _ => rfl
  have F_law_alike := fun_mk (st := s_law_alike) l_law_alike c_law_alike k_law_alike
  have b_law_alike := F_law_alike.binds (ps := ["_law_found", "_law_due_here"]) fun _ _ _ _ _ _ us hl => match us, hl with | [_, _], _ => rfl
  have F_law_refused := fun_mk (st := s_law_refused) l_law_refused c_law_refused k_law_refused
  have b_law_refused := F_law_refused.binds (ps := ["_law_eye", "_law_words"]) fun _ _ _ _ _ _ us hl => match us, hl with | [_, _], _ => rfl
  have F_law := fun_mk (st := s_law) l_law c_law k_law
  have b_law := F_law.binds (ps := ["_law_script"]) fun _ _ _ _ _ _ us hl => match us, hl with | [_], _ => rfl
  have T : ∃ T : Tx K mg, T.a_law = fa ∧ T.fd_law = PySem.W.fnOf "law" "law" (defArgs s_law) (defBody s_law) (defScope s_law) .none kV_law dc_law pm_law an_law cd_law ct_law := ⟨{ a_greatest_divisor := f_greatest_divisor, fd_greatest_divisor := _, F_greatest_divisor := F_greatest_divisor, b_greatest_divisor := b_greatest_divisor, m_greatest_divisor := PySem.W.mg_of X G a_greatest_divisor, a_ratio := f_ratio, fd_ratio := _, F_ratio := F_ratio, b_ratio := b_ratio, m_ratio := PySem.W.mg_of X G a_ratio, a_plus := f_plus, fd_plus := _, F_plus := F_plus, b_plus := b_plus, m_plus := PySem.W.mg_of X G a_plus, a_minus := f_minus, fd_minus := _, F_minus := F_minus, b_minus := b_minus, m_minus := PySem.W.mg_of X G a_minus, a_times := f_times, fd_times := _, F_times := F_times, b_times := b_times, m_times := PySem.W.mg_of X G a_times, a_under := f_under, fd_under := _, F_under := F_under, b_under := b_under, m_under := PySem.W.mg_of X G a_under, a_floored := f_floored, fd_floored := _, F_floored := F_floored, b_floored := b_floored, m_floored := PySem.W.mg_of X G a_floored, a_raised := f_raised, fd_raised := _, F_raised := F_raised, b_raised := b_raised, m_raised := PySem.W.mg_of X G a_raised, a_widened := f_widened, fd_widened := _, F_widened := F_widened, b_widened := b_widened, m_widened := PySem.W.mg_of X G a_widened, a_Eye_init__ := f_Eye_init__, fd_Eye_init__ := _, F_Eye_init__ := F_Eye_init__, b_Eye_init__ := b_Eye_init__, a_Eye_slack := f_Eye_slack, fd_Eye_slack := _, F_Eye_slack := F_Eye_slack, b_Eye_slack := b_Eye_slack, a_Eye_slackened := f_Eye_slackened, fd_Eye_slackened := _, F_Eye_slackened := F_Eye_slackened, b_Eye_slackened := b_Eye_slackened, a_forth_or_none := f_forth_or_none, fd_forth_or_none := _, F_forth_or_none := F_forth_or_none, b_forth_or_none := b_forth_or_none, m_forth_or_none := PySem.W.mg_of X G a_forth_or_none, a_Gauged_init__ := f_Gauged_init__, fd_Gauged_init__ := _, F_Gauged_init__ := F_Gauged_init__, b_Gauged_init__ := b_Gauged_init__, a_Gauged_seen := f_Gauged_seen, fd_Gauged_seen := _, F_Gauged_seen := F_Gauged_seen, b_Gauged_seen := b_Gauged_seen, a_Gauged_stretches := f_Gauged_stretches, fd_Gauged_stretches := _, F_Gauged_stretches := F_Gauged_stretches, b_Gauged_stretches := b_Gauged_stretches, a_is_rising := f_is_rising, fd_is_rising := _, F_is_rising := F_is_rising, b_is_rising := b_is_rising, m_is_rising := PySem.W.mg_of X G a_is_rising, a_on_line := f_on_line, fd_on_line := _, F_on_line := F_on_line, b_on_line := b_on_line, m_on_line := PySem.W.mg_of X G a_on_line, a_lies_between := f_lies_between, fd_lies_between := _, F_lies_between := F_lies_between, b_lies_between := b_lies_between, m_lies_between := PySem.W.mg_of X G a_lies_between, a_led := f_led, fd_led := _, F_led := F_led, b_led := b_led, m_led := PySem.W.mg_of X G a_led, a_Gauge_init__ := f_Gauge_init__, fd_Gauge_init__ := _, F_Gauge_init__ := F_Gauge_init__, b_Gauge_init__ := b_Gauge_init__, a_Gauge_forth := f_Gauge_forth, fd_Gauge_forth := _, F_Gauge_forth := F_Gauge_forth, b_Gauge_forth := b_Gauge_forth, a_law_cell := f_law_cell, fd_law_cell := _, F_law_cell := F_law_cell, b_law_cell := b_law_cell, m_law_cell := PySem.W.mg_of X G a_law_cell, a_law_whole := f_law_whole, fd_law_whole := _, F_law_whole := F_law_whole, b_law_whole := b_law_whole, m_law_whole := PySem.W.mg_of X G a_law_whole, a_law_number := f_law_number, fd_law_number := _, F_law_number := F_law_number, b_law_number := b_law_number, m_law_number := PySem.W.mg_of X G a_law_number, a_law_step := f_law_step, fd_law_step := _, F_law_step := F_law_step, b_law_step := b_law_step, m_law_step := PySem.W.mg_of X G a_law_step, a_law_error := f_law_error, fd_law_error := _, F_law_error := F_law_error, b_law_error := b_law_error, m_law_error := PySem.W.mg_of X G a_law_error, a_law_knots := f_law_knots, fd_law_knots := _, F_law_knots := F_law_knots, b_law_knots := b_law_knots, m_law_knots := PySem.W.mg_of X G a_law_knots, a_law_raw := f_law_raw, fd_law_raw := _, F_law_raw := F_law_raw, b_law_raw := b_law_raw, m_law_raw := PySem.W.mg_of X G a_law_raw, a_law_value := f_law_value, fd_law_value := _, F_law_value := F_law_value, b_law_value := b_law_value, m_law_value := PySem.W.mg_of X G a_law_value, a_law_due := f_law_due, fd_law_due := _, F_law_due := F_law_due, b_law_due := b_law_due, m_law_due := PySem.W.mg_of X G a_law_due, a_law_alike := f_law_alike, fd_law_alike := _, F_law_alike := F_law_alike, b_law_alike := b_law_alike, m_law_alike := PySem.W.mg_of X G a_law_alike, a_law_refused := f_law_refused, fd_law_refused := _, F_law_refused := F_law_refused, b_law_refused := b_law_refused, m_law_refused := PySem.W.mg_of X G a_law_refused, a_law := fa, fd_law := _, F_law := F_law, b_law := b_law, m_law := PySem.W.mg_of X G a_law, n_abs := PySem.W.mg_none_of X G z_abs, n_all := PySem.W.mg_none_of X G z_all, n_bool := PySem.W.mg_none_of X G z_bool, n_enumerate := PySem.W.mg_none_of X G z_enumerate, n_int := PySem.W.mg_none_of X G z_int, n_isinstance := PySem.W.mg_none_of X G z_isinstance, n_len := PySem.W.mg_none_of X G z_len, n_list := PySem.W.mg_none_of X G z_list, n_range := PySem.W.mg_none_of X G z_range, n_tuple := PySem.W.mg_none_of X G z_tuple, n_zip := PySem.W.mg_none_of X G z_zip, C_GazeError := C_GazeError, c_GazeError := PySem.W.mg_of X G e_GazeError, C_NoRatio := C_NoRatio, c_NoRatio := PySem.W.mg_of X G e_NoRatio, C_NoGauge := C_NoGauge, c_NoGauge := PySem.W.mg_of X G e_NoGauge, C_OffGauge := C_OffGauge, c_OffGauge := PySem.W.mg_of X G e_OffGauge, C_Eye := C_Eye, c_Eye := PySem.W.mg_of X G e_Eye, C_Gauged := C_Gauged, c_Gauged := PySem.W.mg_of X G e_Gauged, C_Gauge := C_Gauge, c_Gauge := PySem.W.mg_of X G e_Gauge, cl_Eye := ⟨pg_Eye, hd_Eye, po_Eye, sa_Eye⟩, no_Eye_drift := no_Eye_drift, no_Eye_since := no_Eye_since, mk_Eye := ⟨mk_Eye, a_Eye_init__, fn_Eye_init__, kc_Eye⟩, me_Eye_slack := ⟨a_Eye_slack, fn_Eye_slack, k_Eye_slack⟩, me_Eye_slackened := ⟨a_Eye_slackened, fn_Eye_slackened, k_Eye_slackened⟩, cl_Gauged := ⟨pg_Gauged, hd_Gauged, po_Gauged, sa_Gauged⟩, no_Gauged_drift := no_Gauged_drift, no_Gauged_since := no_Gauged_since, no_Gauged_gauge := no_Gauged_gauge, no_Gauged_error := no_Gauged_error, mk_Gauged := ⟨mk_Gauged, a_Gauged_init__, fn_Gauged_init__, kc_Gauged⟩, me_Gauged_slack := ⟨in_Gauged_slack, fn_Eye_slack, k_Eye_slack⟩, me_Gauged_slackened := ⟨in_Gauged_slackened, fn_Eye_slackened, k_Eye_slackened⟩, me_Gauged_seen := ⟨a_Gauged_seen, fn_Gauged_seen, k_Gauged_seen⟩, me_Gauged_stretches := ⟨a_Gauged_stretches, fn_Gauged_stretches, k_Gauged_stretches⟩, cl_Gauge := ⟨pg_Gauge, hd_Gauge, po_Gauge, sa_Gauge⟩, no_Gauge_knots := no_Gauge_knots, mk_Gauge := ⟨mk_Gauge, a_Gauge_init__, fn_Gauge_init__, kc_Gauge⟩, me_Gauge_forth := ⟨a_Gauge_forth, fn_Gauge_forth, k_Gauge_forth⟩, cf_Eye_init__ := ⟨ga_Eye_init__, rd_Eye_init__, fc_Eye_init__, k_Eye_init__⟩, xc_NoGauge := ⟨x1_NoGauge, x2_NoGauge, x3_NoGauge, x4_NoGauge, x5_NoGauge, x6_NoGauge⟩, xc_OffGauge := ⟨x1_OffGauge, x2_OffGauge, x3_OffGauge, x4_OffGauge, x5_OffGauge, x6_OffGauge⟩, mt_OffGauge_GazeError := exm_of g1_GazeError g2_GazeError g3_OffGauge_GazeError g4_GazeError, mt_OffGauge_OffGauge := exm_of g1_OffGauge g2_OffGauge g3_OffGauge_OffGauge g4_OffGauge, is_OffGauge_OffGauge := yis_OffGauge_OffGauge, is_OffGauge_NoGauge := yis_OffGauge_NoGauge }, rfl, rfl⟩
  obtain ⟨T, e1, e2⟩ := T
  refine ⟨PySem.W.fnOf "law" "law" (defArgs s_law) (defBody s_law) (defScope s_law) .none kV_law dc_law pm_law an_law cd_law ct_law, fun s v => .of_eq rfl, fun base _ _ => ?_⟩
  rw [← e1, ← e2]
  exact ok_law T
theorem walk {l : PySem.W.OpenLaw} {q : Program} {loose : List Str} {XP : (Str → Option Value) → Heap → Prop} {YP : World → Heap → Prop} {d : DefRec} {K : Params → PySem.W.Frag} (hn : l.most = some 63) (hdf : d.params.defaults = [])
    (hY : ∀ (w : World) (h : Heap), YP w h → (K w.params).In h)
    (F : ∀ (w : World) (mg : Str → Option Value) (fa : Addr) (h : Heap), (K w.params).In h → h.Ns mainGlobals mg → mg d.name = some (.ref fa) →
      ∃ fd : FuncData, (∀ (s : Shared) (u : Value), BindsTo s fd ⟨[u], []⟩ [("_law_script", u)]) ∧ ∀ base : Heap, (K w.params).In base → base.Ns mainGlobals mg → FnOk l.prog w (K w.params) mg base (CXX l.prog w) 11 fa fd ["_law_script"] (sp_law (K w.params))) :
    PySem.W.WalkO q loose XP YP l.row.toRowW d [] (fun f vs => PySem.call f vs) :=
  L2.walk_of (n := 63) (k := 11) (x := "_law_script") (CX := fun w => CXX l.prog w) (sp := fun w => sp_law (K w.params)) hn (by decide) hdf ⟨rfl, by decide, by decide⟩ hY F (fun _ _ a ns hl _ hS => ⟨a, ns, rfl, hS, hl, fun _ => rfl⟩) fun _ _ _ _ _ z => noCXX z
end K13
def PySem.W.Fast.tw1501885894987746433 : Unit := ()
def PySem.W.Fast.tw2835642763643238849 : Unit := ()
def PySem.W.Fast.tw12110796739710131301 : Unit := ()
def PySem.W.Fast.tw12241590781631289607 : Unit := ()
def PySem.W.Fast.tw7973103162777634505 : Unit := ()
def PySem.W.Fast.tw9314673727349703916 : Unit := ()
def PySem.W.Fast.tw5872184442916633550 : Unit := ()
def PySem.W.Fast.tw11345236670309056241 : Unit := ()
def PySem.W.Fast.tw10323863981093419923 : Unit := ()
def PySem.W.Fast.tw18022809444333225015 : Unit := ()
def PySem.W.Fast.tw6986618199781615484 : Unit := ()
def PySem.W.Fast.tw17824268263670695677 : Unit := ()
def PySem.W.Fast.tw8643629694196579069 : Unit := ()
open PySem PySem.W PyProof.Rows
set_option maxRecDepth 100000 in
set_option maxHeartbeats 0 in
theorem PySem.Challenge.cw_gaze_k13_words_of_a_gauged_eye_holds : PySem.Challenge.rw_gaze_k13_words_of_a_gauged_eye.Holds := by
  w_on; o_law; k_head; (case hw => w_witness2)
  k_fill
  refine K13.walk (l := PySem.Challenge.rw_gaze_k13_words_of_a_gauged_eye) rfl rfl (fun w h Y => PySem.W.kIn_of Y) ?F
  case F =>
    intro w mg fa h KX G hmg
    refine' K13.fin_mk KX G hmg ?a_greatest_divisor ?l_greatest_divisor ?c_greatest_divisor ?k_greatest_divisor ?a_ratio ?l_ratio ?c_ratio ?k_ratio ?a_plus ?l_plus ?c_plus ?k_plus ?a_minus ?l_minus ?c_minus ?k_minus ?a_times ?l_times ?c_times ?k_times ?a_under ?l_under ?c_under ?k_under ?a_floored ?l_floored ?c_floored ?k_floored ?a_raised ?l_raised ?c_raised ?k_raised ?a_widened ?l_widened ?c_widened ?k_widened ?a_Eye_init__ ?l_Eye_init__ ?c_Eye_init__ ?k_Eye_init__ ?a_Eye_slack ?l_Eye_slack ?c_Eye_slack ?k_Eye_slack ?a_Eye_slackened ?l_Eye_slackened ?c_Eye_slackened ?k_Eye_slackened ?a_forth_or_none ?l_forth_or_none ?c_forth_or_none ?k_forth_or_none ?a_Gauged_init__ ?l_Gauged_init__ ?c_Gauged_init__ ?k_Gauged_init__ ?a_Gauged_seen ?l_Gauged_seen ?c_Gauged_seen ?k_Gauged_seen ?a_Gauged_stretches ?l_Gauged_stretches ?c_Gauged_stretches ?k_Gauged_stretches ?a_is_rising ?l_is_rising ?c_is_rising ?k_is_rising ?a_on_line ?l_on_line ?c_on_line ?k_on_line ?a_lies_between ?l_lies_between ?c_lies_between ?k_lies_between ?a_led ?l_led ?c_led ?k_led ?a_Gauge_init__ ?l_Gauge_init__ ?c_Gauge_init__ ?k_Gauge_init__ ?a_Gauge_forth ?l_Gauge_forth ?c_Gauge_forth ?k_Gauge_forth ?a_law_cell ?l_law_cell ?c_law_cell ?k_law_cell ?a_law_whole ?l_law_whole ?c_law_whole ?k_law_whole ?a_law_number ?l_law_number ?c_law_number ?k_law_number ?a_law_step ?l_law_step ?c_law_step ?k_law_step ?a_law_error ?l_law_error ?c_law_error ?k_law_error ?a_law_knots ?l_law_knots ?c_law_knots ?k_law_knots ?a_law_raw ?l_law_raw ?c_law_raw ?k_law_raw ?a_law_value ?l_law_value ?c_law_value ?k_law_value ?a_law_due ?l_law_due ?c_law_due ?k_law_due ?a_law_alike ?l_law_alike ?c_law_alike ?k_law_alike ?a_law_refused ?l_law_refused ?c_law_refused ?k_law_refused ?a_law ?l_law ?c_law ?k_law ?z_abs ?z_all ?z_bool ?z_enumerate ?z_int ?z_isinstance ?z_len ?z_list ?z_range ?z_tuple ?z_zip ?e_GazeError ?e_NoRatio ?e_NoGauge ?e_OffGauge ?e_Eye ?e_Gauged ?e_Gauge ?pg_Eye ?hd_Eye ?po_Eye ?sa_Eye ?no_Eye_drift ?no_Eye_since ?fn_Eye_init__ ?mk_Eye ?kc_Eye ?fn_Eye_slack ?fn_Eye_slackened ?pg_Gauged ?hd_Gauged ?po_Gauged ?sa_Gauged ?no_Gauged_drift ?no_Gauged_since ?no_Gauged_gauge ?no_Gauged_error ?fn_Gauged_init__ ?mk_Gauged ?kc_Gauged ?in_Gauged_slack ?in_Gauged_slackened ?fn_Gauged_seen ?fn_Gauged_stretches ?pg_Gauge ?hd_Gauge ?po_Gauge ?sa_Gauge ?no_Gauge_knots ?fn_Gauge_init__ ?mk_Gauge ?kc_Gauge ?fn_Gauge_forth ?ga_Eye_init__ ?rd_Eye_init__ ?fc_Eye_init__ ?x1_NoGauge ?x2_NoGauge ?x3_NoGauge ?x4_NoGauge ?x5_NoGauge ?x6_NoGauge ?x1_OffGauge ?x2_OffGauge ?x3_OffGauge ?x4_OffGauge ?x5_OffGauge ?x6_OffGauge ?g1_GazeError ?g2_GazeError ?g4_GazeError ?g3_OffGauge_GazeError ?g1_OffGauge ?g2_OffGauge ?g4_OffGauge ?g3_OffGauge_OffGauge ?yis_OffGauge_OffGauge ?yis_OffGauge_NoGauge
    (case e_GazeError => k_is)
    (case e_NoRatio => k_is)
    (case e_NoGauge => k_is)
    (case e_OffGauge => k_is)
    (case e_Eye => k_is)
    (case e_Gauged => k_is)
    (case e_Gauge => k_is)
    (case a_greatest_divisor => k_is)
    (case l_greatest_divisor => k_is)
    (case c_greatest_divisor => k_is)
    (case k_greatest_divisor => k_is)
    (case a_ratio => k_is)
    (case l_ratio => k_is)
    (case c_ratio => k_is)
    (case k_ratio => k_is)
    (case a_plus => k_is)
    (case l_plus => k_is)
    (case c_plus => k_is)
    (case k_plus => k_is)
    (case a_minus => k_is)
    (case l_minus => k_is)
    (case c_minus => k_is)
    (case k_minus => k_is)
    (case a_times => k_is)
    (case l_times => k_is)
    (case c_times => k_is)
    (case k_times => k_is)
    (case a_under => k_is)
    (case l_under => k_is)
    (case c_under => k_is)
    (case k_under => k_is)
    (case a_floored => k_is)
    (case l_floored => k_is)
    (case c_floored => k_is)
    (case k_floored => k_is)
    (case a_raised => k_is)
    (case l_raised => k_is)
    (case c_raised => k_is)
    (case k_raised => k_is)
    (case a_widened => k_is)
    (case l_widened => k_is)
    (case c_widened => k_is)
    (case k_widened => k_is)
    (case a_Eye_init__ => k_is)
    (case l_Eye_init__ => k_is)
    (case c_Eye_init__ => k_is)
    (case k_Eye_init__ => k_is)
    (case a_Eye_slack => k_is)
    (case l_Eye_slack => k_is)
    (case c_Eye_slack => k_is)
    (case k_Eye_slack => k_is)
    (case a_Eye_slackened => k_is)
    (case l_Eye_slackened => k_is)
    (case c_Eye_slackened => k_is)
    (case k_Eye_slackened => k_is)
    (case a_forth_or_none => k_is)
    (case l_forth_or_none => k_is)
    (case c_forth_or_none => k_is)
    (case k_forth_or_none => k_is)
    (case a_Gauged_init__ => k_is)
    (case l_Gauged_init__ => k_is)
    (case c_Gauged_init__ => k_is)
    (case k_Gauged_init__ => k_is)
    (case a_Gauged_seen => k_is)
    (case l_Gauged_seen => k_is)
    (case c_Gauged_seen => k_is)
    (case k_Gauged_seen => k_is)
    (case a_Gauged_stretches => k_is)
    (case l_Gauged_stretches => k_is)
    (case c_Gauged_stretches => k_is)
    (case k_Gauged_stretches => k_is)
    (case a_is_rising => k_is)
    (case l_is_rising => k_is)
    (case c_is_rising => k_is)
    (case k_is_rising => k_is)
    (case a_on_line => k_is)
    (case l_on_line => k_is)
    (case c_on_line => k_is)
    (case k_on_line => k_is)
    (case a_lies_between => k_is)
    (case l_lies_between => k_is)
    (case c_lies_between => k_is)
    (case k_lies_between => k_is)
    (case a_led => k_is)
    (case l_led => k_is)
    (case c_led => k_is)
    (case k_led => k_is)
    (case a_Gauge_init__ => k_is)
    (case l_Gauge_init__ => k_is)
    (case c_Gauge_init__ => k_is)
    (case k_Gauge_init__ => k_is)
    (case a_Gauge_forth => k_is)
    (case l_Gauge_forth => k_is)
    (case c_Gauge_forth => k_is)
    (case k_Gauge_forth => k_is)
    (case a_law_cell => k_is)
    (case l_law_cell => k_is)
    (case c_law_cell => k_is)
    (case k_law_cell => k_is)
    (case a_law_whole => k_is)
    (case l_law_whole => k_is)
    (case c_law_whole => k_is)
    (case k_law_whole => k_is)
    (case a_law_number => k_is)
    (case l_law_number => k_is)
    (case c_law_number => k_is)
    (case k_law_number => k_is)
    (case a_law_step => k_is)
    (case l_law_step => k_is)
    (case c_law_step => k_is)
    (case k_law_step => k_is)
    (case a_law_error => k_is)
    (case l_law_error => k_is)
    (case c_law_error => k_is)
    (case k_law_error => k_is)
    (case a_law_knots => k_is)
    (case l_law_knots => k_is)
    (case c_law_knots => k_is)
    (case k_law_knots => k_is)
    (case a_law_raw => k_is)
    (case l_law_raw => k_is)
    (case c_law_raw => k_is)
    (case k_law_raw => k_is)
    (case a_law_value => k_is)
    (case l_law_value => k_is)
    (case c_law_value => k_is)
    (case k_law_value => k_is)
    (case a_law_due => k_is)
    (case l_law_due => k_is)
    (case c_law_due => k_is)
    (case k_law_due => k_is)
    (case a_law_alike => k_is)
    (case l_law_alike => k_is)
    (case c_law_alike => k_is)
    (case k_law_alike => k_is)
    (case a_law_refused => k_is)
    (case l_law_refused => k_is)
    (case c_law_refused => k_is)
    (case k_law_refused => k_is)
    (case a_law => k_is)
    (case l_law => k_is)
    (case c_law => k_is)
    (case k_law => k_is)
    (case z_abs => k_is)
    (case z_all => k_is)
    (case z_bool => k_is)
    (case z_enumerate => k_is)
    (case z_int => k_is)
    (case z_isinstance => k_is)
    (case z_len => k_is)
    (case z_list => k_is)
    (case z_range => k_is)
    (case z_tuple => k_is)
    (case z_zip => k_is)
    (case pg_Eye => k_is)
    (case hd_Eye => k_is)
    (case po_Eye => k_is)
    (case sa_Eye => k_is)
    (case no_Eye_drift => k_is)
    (case no_Eye_since => k_is)
    (case fn_Eye_init__ => k_is)
    (case mk_Eye => k_is)
    (case kc_Eye => k_is)
    (case fn_Eye_slack => k_is)
    (case fn_Eye_slackened => k_is)
    (case pg_Gauged => k_is)
    (case hd_Gauged => k_is)
    (case po_Gauged => k_is)
    (case sa_Gauged => k_is)
    (case no_Gauged_drift => k_is)
    (case no_Gauged_since => k_is)
    (case no_Gauged_gauge => k_is)
    (case no_Gauged_error => k_is)
    (case fn_Gauged_init__ => k_is)
    (case mk_Gauged => k_is)
    (case kc_Gauged => k_is)
    (case in_Gauged_slack => k_is)
    (case in_Gauged_slackened => k_is)
    (case fn_Gauged_seen => k_is)
    (case fn_Gauged_stretches => k_is)
    (case pg_Gauge => k_is)
    (case hd_Gauge => k_is)
    (case po_Gauge => k_is)
    (case sa_Gauge => k_is)
    (case no_Gauge_knots => k_is)
    (case fn_Gauge_init__ => k_is)
    (case mk_Gauge => k_is)
    (case kc_Gauge => k_is)
    (case fn_Gauge_forth => k_is)
    (case ga_Eye_init__ => k_is)
    (case rd_Eye_init__ => k_is)
    (case fc_Eye_init__ => k_is)
    (case x1_NoGauge => k_exc)
    (case x2_NoGauge => k_is)
    (case x3_NoGauge => k_is)
    (case x4_NoGauge => k_is)
    (case x5_NoGauge => k_is)
    (case x6_NoGauge => k_is)
    (case x1_OffGauge => k_exc)
    (case x2_OffGauge => k_is)
    (case x3_OffGauge => k_is)
    (case x4_OffGauge => k_is)
    (case x5_OffGauge => k_is)
    (case x6_OffGauge => k_is)
    (case g1_GazeError => k_is)
    (case g2_GazeError => k_is)
    (case g4_GazeError => k_is)
    (case g3_OffGauge_GazeError => k_is)
    (case g1_OffGauge => k_is)
    (case g2_OffGauge => k_is)
    (case g4_OffGauge => k_is)
    (case g3_OffGauge_OffGauge => k_is)
    (case yis_OffGauge_OffGauge => kit_is)
    (case yis_OffGauge_NoGauge => kit_is)
#print axioms PySem.Challenge.cw_gaze_k13_words_of_a_gauged_eye_holds
