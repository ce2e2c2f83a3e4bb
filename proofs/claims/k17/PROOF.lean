import PyProof.Rows.All
import Wide.All
import OpenK.AllK
import Wide.FinOn
import Lean
import PyProof.EqAt
import PyProof.EqKinds
import PyProof.TupleCall
import KE.KSortAsk
import KE.KSortTup
import KE.KRevIter
import KE.LcSums
import KE.KDictSum
import KE.KDictList
import PyProof.AttrMissHeap
import PySem.Challenge.RW_gaze_k17_deeds_on_a_board
set_option Elab.async false
set_option linter.all false
set_option maxRecDepth 100000
namespace L2
open PySem PySem.Spec PyProof.Rows
abbrev Key := Sum Int Str
def keyIs : Key → Value → Bool
  | .inl k, v => Value.isInt k v
  | .inr x, v => Value.isStrOf x v
def keyH (w : World) : Key → Int
  | .inl k => hashInt k
  | .inr x => hashStr w x
theorem keyIs_shape : ∀ {k : Key} {v : Value}, keyIs k v = true → (∃ i t, k = Sum.inl i ∧ v = Value.int i t) ∨ (∃ x t, k = Sum.inr x ∧ v = Value.str x t)
  | .inl i, v, h => by
    obtain ⟨t, e⟩ := Value.isInt_shape (k := i) (v := v) h
    exact .inl ⟨i, t, rfl, e⟩
  | .inr x, v, h => by
    obtain ⟨t, e⟩ := Value.isStrOf_shape (x := x) (v := v) h
    exact .inr ⟨x, t, rfl, e⟩
theorem keyIs_int (i : Int) (t : Tok) : keyIs (.inl i) (.int i t) = true := by simp [keyIs, Value.isInt]
theorem keyIs_str (x : Str) (t : Tok) : keyIs (.inr x) (.str x t) = true := by simp [keyIs, Value.isStrOf]
theorem key_ll (a b : Int) : decide ((Sum.inl a : Key) = Sum.inl b) = (a == b) := by
  by_cases e : a = b
  · subst e; simp
  · have h : ¬ (Sum.inl a : Key) = Sum.inl b := fun q => e (Sum.inl.inj q)
    rw [decide_eq_false h]
    exact (beq_eq_false_iff_ne.mpr e).symm
theorem key_rr (a b : Str) : decide ((Sum.inr a : Key) = Sum.inr b) = decide (a = b) := by
  by_cases e : a = b
  · subst e; simp
  · have h : ¬ (Sum.inr a : Key) = Sum.inr b := fun q => e (Sum.inr.inj q)
    rw [decide_eq_false h, decide_eq_false e]
theorem key_lr (a : Int) (b : Str) : decide ((Sum.inl a : Key) = Sum.inr b) = false := decide_eq_false (fun q => nomatch q)
theorem key_rl (a : Str) (b : Int) : decide ((Sum.inr a : Key) = Sum.inl b) = false := decide_eq_false (fun q => nomatch q)
def mixKind (prog : Program) (w : World) : PySem.KeyKind prog w Key where
  is := keyIs
  hash := keyH w
  inj := fun v a b ha hb => by
    rcases keyIs_shape ha with ⟨i, t, rfl, rfl⟩ | ⟨x, t, rfl, rfl⟩
    · rcases keyIs_shape hb with ⟨j, u, rfl, e⟩ | ⟨y, u, rfl, e⟩
      · injection e with e1 _; rw [e1]
      · exact nomatch e
    · rcases keyIs_shape hb with ⟨j, u, rfl, e⟩ | ⟨y, u, rfl, e⟩
      · exact nomatch e
      · injection e with e1 _; rw [e1]
  byValue := fun k v h => by
    rcases keyIs_shape h with ⟨i, t, rfl, rfl⟩ | ⟨x, t, rfl, rfl⟩ <;> rfl
  pyHash := fun hv h => by
    rcases keyIs_shape hv with ⟨i, t, rfl, rfl⟩ | ⟨x, t, rfl, rfl⟩
    · exact wpAny_pyHash_int h
    · exact wpAny_pyHash_str h
  eqBool := fun hu hv h => by
    rcases keyIs_shape hu with ⟨i, t, rfl, rfl⟩ | ⟨x, t, rfl, rfl⟩
    · rcases keyIs_shape hv with ⟨j, u, rfl, rfl⟩ | ⟨y, u, rfl, rfl⟩
      · rw [key_ll] at h; exact wpAny_eqBool_int h
      · rw [key_lr] at h; exact SeqAt.EqAt.int_str i t y u _ _ _ _ h
    · rcases keyIs_shape hv with ⟨j, u, rfl, rfl⟩ | ⟨y, u, rfl, rfl⟩
      · rw [key_rl] at h; exact SeqAt.EqAt.str_int x t j u _ _ _ _ h
      · rw [key_rr] at h; exact wpAny_eqBool_str h
  «strs» := fun k x t v h => by
    rcases keyIs_shape h with ⟨i, u, rfl, e⟩ | ⟨y, u, rfl, e⟩
    · exact nomatch e
    · injection e with e1 _
      subst e1
      cases v <;> rfl
theorem mixKind_int (prog : Program) (w : World) (i : Int) (t : Tok) : (mixKind prog w).is (.inl i) (.int i t) = true := keyIs_int i t
theorem mixKind_str (prog : Program) (w : World) (x : Str) (t : Tok) : (mixKind prog w).is (.inr x) (.str x t) = true := keyIs_str x t
end L2
namespace L2
open PySem PySem.Spec PyProof.Rows
inductive V where
  | non | bl (b : Bool) | int (i : Int) | str (x : Str) | byt (b : Array UInt8) | flt (b : UInt64) | ref (a : Addr) | ty (n : String)
  deriving DecidableEq
def RelV : V → Value → Prop
  | .non, u => u = Value.none
  | .bl b, u => u = Value.bool b
  | .int i, u => ∃ t, u = Value.int i t
  | .str x, u => ∃ t, u = Value.str x t
  | .byt b, u => ∃ t, u = Value.bytes b t
  | .flt b, u => ∃ t, u = Value.float b t
  | .ref a, u => u = Value.ref a
  | .ty n, u => u = Value.type n
abbrev Vals : List V → List Value → Prop := Paired RelV
theorem Vals.length {xs : List V} {us : List Value} (r : Vals xs us) : xs.length = us.length := Paired.length r
theorem Vals.get : ∀ {xs : List V} {us : List Value} {i : Nat} {x : V}, Vals xs us → xs[i]? = some x → ∃ u, us[i]? = some u ∧ RelV x u
  | _, _, _, _, .nil, e => by simp at e
  | _, _, 0, _, .cons r _, e => by simp at e; subst e; exact ⟨_, rfl, r⟩
  | _, _, i + 1, x, .cons _ t, e => by
    obtain ⟨u, h1, h2⟩ := Vals.get (i := i) (x := x) t (by simpa using e)
    exact ⟨u, by simpa using h1, h2⟩
theorem Vals.set {x : V} {u : Value} (r : RelV x u) : ∀ {xs : List V} {us : List Value} (i : Nat), Vals xs us → Vals (xs.set i x) (us.set i u)
  | _, _, _, .nil => .nil
  | _, _, 0, .cons _ t => .cons r t
  | _, _, i + 1, .cons q t => .cons q (Vals.set r i t)
theorem Vals.append : ∀ {xs ys : List V} {us ws : List Value}, Vals xs us → Vals ys ws → Vals (xs ++ ys) (us ++ ws)
  | _, _, _, _, .nil, s => s
  | _, _, _, _, .cons r t, s => .cons r (Vals.append t s)
theorem Vals.take : ∀ {xs : List V} {us : List Value} (n : Nat), Vals xs us → Vals (xs.take n) (us.take n)
  | _, _, 0, _ => .nil
  | _, _, _ + 1, .nil => .nil
  | _, _, n + 1, .cons r t => .cons r (Vals.take n t)
theorem Vals.drop : ∀ {xs : List V} {us : List Value} (n : Nat), Vals xs us → Vals (xs.drop n) (us.drop n)
  | _, _, 0, r => r
  | _, _, _ + 1, .nil => .nil
  | _, _, n + 1, .cons _ t => Vals.drop n t
def RelO : Option V → Option Value → Prop
  | some v, some u => RelV v u
  | none, none => True
  | _, _ => False
def KV {κ : Type} : List (κ × V) → List (κ × Value) → Prop := Paired fun (p : κ × V) (q : κ × Value) => p.1 = q.1 ∧ RelV p.2 q.2
def kV : Key → V
  | .inl i => .int i
  | .inr x => .str x
inductive HO where
  | lst (xs : List V)
  | tup (xs : List V)
  | dK (kvs : List (Key × V)) | dT (kvs : List (List Key × V))
  | set (S : Int → Bool) (n : Nat)
  | ins (C dx : Addr) (fs : List (Str × V))
  | own (x : Addr)
  | xd (fs : List (Str × V))
  | met (f x : Addr)
  | rng (lo hi : Int)
  | frz (o : Obj) (u : HO)
  | tbl (ps : Array Value)
  | ext (φ : Heap → Prop)
abbrev Hp := Addr → Option HO
def upd (H : Hp) (a : Addr) (o : HO) : Hp := fun b => if b = a then some o else H b
theorem upd_same {H : Hp} {a : Addr} {o : HO} : upd H a o a = some o := by unfold upd; rw [if_pos rfl]
theorem upd_ne {H : Hp} {a b : Addr} {o : HO} (h : b ≠ a) : upd H a o b = H b := by unfold upd; rw [if_neg h]
theorem upd_upd {H : Hp} {a : Addr} {o u : HO} : upd (upd H a o) a u = upd H a u := by
  funext b; unfold upd; split <;> rfl
theorem ne_of {H : Hp} {a b : Addr} {o u : HO} (h : H a = some o) (h' : H b = some u) (d : o ≠ u) : a ≠ b := by
  intro e; subst e; rw [h] at h'; exact d (Option.some.inj h')
theorem ne_of_none {H : Hp} {a b : Addr} {o : HO} (h : H a = some o) (h' : H b = none) : a ≠ b := by
  intro e; subst e; rw [h] at h'; cases h'
section
variable (P : Program) (w : World)
def ObjOk (H : Hp) (h : Heap) (a : Addr) : HO → Prop
  | .lst xs => xs.length ≤ sizeLine ∧ ∃ (its : List Value) (n : Nat), Vals xs its ∧ h.get? a = some { cls := .type "list", data := .seq its.toArray n }
  | .tup xs => xs.length ≤ sizeLine ∧ ∃ its : List Value, Vals xs its ∧ IsTup h a its.toArray
  | .dK kvs => kvs.length ≤ sizeLine ∧ (a == sysModules) = false ∧ ∃ vs, KV kvs vs ∧ h.DictOf (mixKind P w) a vs
  | .dT kvs => kvs.length ≤ sizeLine ∧ (a == sysModules) = false ∧ ∃ xs : List (List Key × Addr × Value),
      Paired (fun (p : List Key × V) (q : List Key × Addr × Value) => p.1 = q.1 ∧ H q.2.1 = some (.tup (p.1.map kV)) ∧ RelV p.2 q.2.2) kvs xs ∧
      ∃ o es ep, h.get? a = some o ∧ o.ExactDict ∧ o.data = .dict es ep ∧ es.toList = xs.map (entryOfKey (tupleKind (mixKind P w))) ∧ (xs.map (·.1)).Nodup
  | .set S n => h.SetOf (intKind P w) a S n
  | .ins C dx fs => H dx = some (.own a) ∧ fs.length ≤ 1000 ∧ dx ≠ a ∧ h.get? a = some (PySem.W.instObj C dx) ∧
      ∃ mA, h.Ns1 dx mA ∧ (∀ f, RelO (fs.lookup f) (mA f)) ∧ PySem.Within mA (fs.map (·.1))
  | .own _ => ∃ o, h.get? a = some o
  | .xd fs => ∃ mA, h.Ns1 a mA ∧ ∀ f, RelO (fs.lookup f) (mA f)
  | .rng lo hi => ∃ t u v, h.get? a = some { cls := .type "range", data := .fields #[.int lo t, .int hi u, .int 1 v] }
  | .frz o u => h.get? a = some o ∧ ObjOk H h a u
  | .tbl ps => h.get? a = some { cls := .none, data := .fields ps }
  | .met f x => h.get? a = some (PySem.W.methodObj (.ref f) (.ref x))
  | .ext φ => φ h ∧ (∃ o, h.get? a = some o) ∧ ∀ h1 h2 : Heap, φ h1 → (∀ o, h1.get? a = some o → h2.get? a = some o) → φ h2
def HOk (H : Hp) (h : Heap) : Prop := ∀ a o, H a = some o → ObjOk P w H h a o
end
section
variable {P : Program} {w : World} {H H' : Hp} {h h' : Heap} {a : Addr} {o : HO}
theorem ObjOk.lt (x : ObjOk P w H h a o) : a < h.objs.size := by
  cases o with
  | lst xs => obtain ⟨_, _, _, _, e⟩ := x; exact Heap.lt_size e
  | tup xs => obtain ⟨_, _, _, p⟩ := x; exact p.lt
  | dK kvs => obtain ⟨_, _, _, _, o, _, _, e, _⟩ := x; exact Heap.lt_size e
  | dT kvs => obtain ⟨_, _, _, _, o, _, _, e, _⟩ := x; exact Heap.lt_size e
  | set S n => obtain ⟨o, _, _, _, e, _⟩ := x; exact Heap.lt_size e
  | ins C dx fs => obtain ⟨_, _, _, e, _⟩ := x; exact Heap.lt_size e
  | own y => obtain ⟨_, e⟩ := x; exact Heap.lt_size e
  | xd fs => obtain ⟨_, ⟨_, _, _, e, _⟩, _⟩ := x; exact Heap.lt_size e
  | rng lo hi => obtain ⟨_, _, _, e⟩ := x; exact Heap.lt_size e
  | frz ob u => obtain ⟨e, _⟩ := x; exact Heap.lt_size e
  | tbl ps => exact Heap.lt_size (show h.get? a = some _ from x)
  | met f y => exact Heap.lt_size (show h.get? a = some _ from x)
  | ext φ => obtain ⟨_, ⟨_, e⟩, _⟩ := x; exact Heap.lt_size e
theorem Paired.mapP {α β : Type} {F G : α → β → Prop} : ∀ {l₁ : List α} {l₂ : List β}, Paired F l₁ l₂ → (∀ a b, F a b → G a b) → Paired G l₁ l₂
  | _, _, .nil, _ => .nil
  | _, _, .cons r t, f => .cons (f _ _ r) (Paired.mapP t f)
theorem ObjOk.stay (x : ObjOk P w H h a o) (k : ∀ b u, (b = a ∨ H b = some (.own a)) → h.get? b = some u → h'.get? b = some u)
    (ho : ∀ b, H b = some (.own a) → H' b = some (.own a)) (ht : ∀ b xs, H b = some (.tup xs) → H' b = some (.tup xs)) : ObjOk P w H' h' a o := by
  induction o with
  | lst xs => obtain ⟨z, its, n, r, e⟩ := x; exact ⟨z, its, n, r, k _ _ (.inl rfl) e⟩
  | tup xs => obtain ⟨z, its, r, ob, e, c⟩ := x; exact ⟨z, its, r, ob, k _ _ (.inl rfl) e, c⟩
  | dK kvs => obtain ⟨z, y, vs, r, ob, es, ep, e, c⟩ := x; exact ⟨z, y, vs, r, ob, es, ep, k _ _ (.inl rfl) e, c⟩
  | dT kvs =>
    obtain ⟨z, y, xs, r, ob, es, ep, e, c⟩ := x
    exact ⟨z, y, xs, Paired.mapP r fun p q z => ⟨z.1, ht _ _ z.2.1, z.2.2⟩, ob, es, ep, k _ _ (.inl rfl) e, c⟩
  | set S n => obtain ⟨ob, es, ep, t, e, c⟩ := x; exact ⟨ob, es, ep, t, k _ _ (.inl rfl) e, c⟩
  | ins C dx fs =>
    obtain ⟨d, z, ne, e, mA, ⟨od, es, ep, e2, c⟩, r⟩ := x
    exact ⟨ho _ d, z, ne, k _ _ (.inl rfl) e, mA, ⟨od, es, ep, k _ _ (.inr d) e2, c⟩, r⟩
  | own y => obtain ⟨ob, e⟩ := x; exact ⟨ob, k _ _ (.inl rfl) e⟩
  | xd fs => obtain ⟨mA, ⟨od, es, ep, e, c⟩, r⟩ := x; exact ⟨mA, ⟨od, es, ep, k _ _ (.inl rfl) e, c⟩, r⟩
  | rng lo hi => obtain ⟨t, u, v, e⟩ := x; exact ⟨t, u, v, k _ _ (.inl rfl) e⟩
  | frz ob u ih => obtain ⟨e, q⟩ := x; exact ⟨k _ _ (.inl rfl) e, ih q⟩
  | tbl ps =>
    have e : h.get? a = some { cls := .none, data := .fields ps } := x
    show h'.get? a = some { cls := .none, data := .fields ps }
    exact k a _ (.inl rfl) e
  | met f y =>
    have e : h.get? a = some (PySem.W.methodObj (.ref f) (.ref y)) := x
    show h'.get? a = some (PySem.W.methodObj (.ref f) (.ref y))
    exact k a _ (.inl rfl) e
  | ext φ => obtain ⟨p, ⟨o, e⟩, st⟩ := x; exact ⟨st _ _ p fun o q => k _ _ (.inl rfl) q, ⟨o, k _ _ (.inl rfl) e⟩, st⟩
theorem HOk.lt (x : HOk P w H h) (e : H a = some o) : a < h.objs.size := (x a o e).lt
theorem HOk.fresh (x : HOk P w H h) (e : h.objs.size ≤ a) : H a = none := by
  cases q : H a with
  | none => rfl
  | some u => exact absurd (Nat.lt_of_lt_of_le (x.lt q) e) (Nat.lt_irrefl _)
theorem HOk.kept (x : HOk P w H h) (k : ∀ b u, h.get? b = some u → h'.get? b = some u) : HOk P w H h' := fun a o e =>
  (x a o e).stay (fun b u _ q => k b u q) (fun _ q => q) fun _ _ q => q
theorem HOk.laid (x : HOk P w H h) (k : ∀ b u, h.get? b = some u → h'.get? b = some u) (hp : h.objs.size ≤ a) (new : ObjOk P w (upd H a o) h' a o) : HOk P w (upd H a o) h' := fun b u e => by
  have hn := x.fresh hp
  by_cases hb : b = a
  · subst hb; rw [upd_same] at e; cases e; exact new
  · rw [upd_ne hb] at e
    exact (x b u e).stay (fun c v _ q => k c v q) (fun c q => by rw [upd_ne (ne_of_none q hn)]; exact q) fun c xs q => by rw [upd_ne (ne_of_none q hn)]; exact q
end
def Rd (H : Hp) (a : Addr) (u : HO) : Prop := H a = some u ∨ ∃ o, H a = some (.frz o u)
theorem Rd.of {H : Hp} {a : Addr} {u : HO} (h : H a = some u) : Rd H a u := .inl h
theorem Rd.ok {P : Program} {w : World} {H : Hp} {h : Heap} {a : Addr} {u : HO} (r : Rd H a u) (x : HOk P w H h) : ObjOk P w H h a u := by
  rcases r with r | ⟨o, r⟩
  · exact x a u r
  · obtain ⟨_, q⟩ := x a _ r
    exact q
def Mut : Option HO → Prop
  | some (.lst _) => True
  | some (.dK _) => True
  | some (.dT _) => True
  | some (.set _ _) => True
  | some (.ins _ _ _) => True
  | some (.ext _) => True
  | _ => False
section
variable {P : Program} {w : World} {H : Hp} {h h' : Heap} {x e : Addr} {o' : HO}
theorem HOk.write (ok : HOk P w H h) (mu : Mut (H x)) (he : e = x ∨ H e = some (.own x)) (k : ∀ b u, b ≠ e → h.get? b = some u → h'.get? b = some u) (heo : ∃ u, h'.get? e = some u)
    (new : ObjOk P w (upd H x o') h' x o') : HOk P w (upd H x o') h' := fun b u q => by
  have nown : ∀ c y, H c = some (.own y) → c ≠ x := fun c y r z => by subst z; rw [r] at mu; exact mu
  have ntup : ∀ c xs, H c = some (.tup xs) → c ≠ x := fun c xs r z => by subst z; rw [r] at mu; exact mu
  by_cases hb : b = x
  · subst hb; rw [upd_same] at q; cases q; exact new
  · rw [upd_ne hb] at q
    by_cases hbe : b = e
    · have q' : H b = some (.own x) := by
        rcases he with z | z
        · exact absurd (hbe.trans z) hb
        · rw [hbe]; exact z
      rw [q] at q'; cases q'
      obtain ⟨v, hv⟩ := heo
      exact ⟨v, by rw [hbe]; exact hv⟩
    · refine (ok b u q).stay (fun c v hc r => k c v ?_ r) (fun c r => by rw [upd_ne (nown c b r)]; exact r) fun c xs r => by rw [upd_ne (ntup c xs r)]; exact r
      rcases hc with rfl | hc
      · exact hbe
      · rintro rfl
        rcases he with z | z
        · exact nown c b hc z
        · rw [hc] at z; cases z; exact hb rfl
end
structure Un (fs ex : List Addr) (H H' : Hp) (h h' : Heap) : Prop where
  keep : ∀ b o, h.get? b = some o → H b = none → b ∉ fs → b ∉ ex → h'.get? b = some o
  slot : ∀ b o, h.get? b = some o → H b = none → b ∈ fs → b ∉ ex → ∃ sl, h'.get? b = some { o with slots := sl }
  free : ∀ b o, h.get? b = some o → H b = none → b ∉ ex → H' b = none
  there : ∀ b o, h.get? b = some o → b ∉ ex → ∃ o', h'.get? b = some o'
  tups : ∀ b xs, H b = some (.tup xs) → H' b = some (.tup xs)
  frzs : ∀ b o u, H b = some (.frz o u) → H' b = some (.frz o u)
  tbls : ∀ b ps, H b = some (.tbl ps) → ∃ more, H' b = some (.tbl (ps ++ more))
section
variable {fs fs' ex ex' : List Addr} {H H1 H2 : Hp} {h h1 h2 h' : Heap} {a x e : Addr} {o : HO}
theorem Un.any (u : Un fs ex H H1 h h1) {b : Addr} {ob : Obj} (q : h.get? b = some ob) (n : H b = none) (hx : b ∉ ex) : ∃ sl, h1.get? b = some { ob with slots := sl } := by
  by_cases hb : b ∈ fs
  · exact u.slot b ob q n hb hx
  · exact ⟨ob.slots, u.keep b ob q n hb hx⟩
theorem Un.trans (a : Un fs ex H H1 h h1) (b : Un fs ex H1 H2 h1 h2) : Un fs ex H H2 h h2 where
  keep := fun c ob q n hc hx => b.keep c ob (a.keep c ob q n hc hx) (a.free c ob q n hx) hc hx
  slot := fun c ob q n hc hx => by
    obtain ⟨sl, e1⟩ := a.slot c ob q n hc hx
    obtain ⟨sl', e2⟩ := b.slot c _ e1 (a.free c ob q n hx) hc hx
    exact ⟨sl', e2⟩
  free := fun c ob q n hx => by
    obtain ⟨o', e1⟩ := a.there c ob q hx
    exact b.free c o' e1 (a.free c ob q n hx) hx
  there := fun c ob q hx => by
    obtain ⟨o', e1⟩ := a.there c ob q hx
    exact b.there c o' e1 hx
  tups := fun c xs q => b.tups c xs (a.tups c xs q)
  frzs := fun c ob xs q => b.frzs c ob xs (a.frzs c ob xs q)
  tbls := fun c ps q => by
    obtain ⟨m1, e1⟩ := a.tbls c ps q
    obtain ⟨m2, e2⟩ := b.tbls c _ e1
    exact ⟨m1 ++ m2, by rw [e2, Array.append_assoc]⟩
theorem Un.kept (k : ∀ b u, h.get? b = some u → h'.get? b = some u) : Un fs ex H H h h' :=
  ⟨fun b ob q _ _ _ => k b ob q, fun b ob q _ _ _ => ⟨ob.slots, k b ob q⟩, fun _ _ _ n _ => n, fun b ob q _ => ⟨ob, k b ob q⟩, fun _ _ q => q, fun _ _ _ q => q, fun _ ps q => ⟨#[], by rw [q]; simp⟩⟩
theorem Un.refl : Un fs ex H H h h := Un.kept fun _ _ q => q
theorem Un.laid (k : ∀ b u, h.get? b = some u → h'.get? b = some u) (hp : h.objs.size ≤ a) (hn : H a = none) : Un fs ex H (upd H a o) h h' where
  keep := fun b u q _ _ _ => k b u q
  slot := fun b u q _ _ _ => ⟨u.slots, k b u q⟩
  free := fun b u q n _ => by rw [upd_ne (Nat.ne_of_lt (Nat.lt_of_lt_of_le (Heap.lt_size q) hp))]; exact n
  there := fun b u q _ => ⟨u, k b u q⟩
  tups := fun b xs q => by rw [upd_ne (ne_of_none q hn)]; exact q
  frzs := fun b u xs q => by rw [upd_ne (ne_of_none q hn)]; exact q
  tbls := fun b ps q => ⟨#[], by rw [upd_ne (ne_of_none q hn), q]; simp⟩
theorem Un.write (mu : Mut (H x)) (he : e = x ∨ H e = some (.own x)) (k : ∀ b u, b ≠ e → h.get? b = some u → h'.get? b = some u) (heo : ∃ u, h'.get? e = some u) : Un fs ex H (upd H x o) h h' := by
  have hx : ∀ b, H b = none → b ≠ x := fun b n z => by subst z; rw [n] at mu; exact mu
  have hb : ∀ b, H b = none → b ≠ e := fun b n z => by
    subst z
    rcases he with r | r
    · exact hx b n r
    · rw [n] at r; cases r
  have hm : ∀ b u, H b = some u → ¬ Mut (some u) → b ≠ x := fun b u q nm z => by subst z; rw [q] at mu; exact nm mu
  refine ⟨fun b u q n _ _ => k b u (hb b n) q, fun b u q n _ _ => ⟨u.slots, k b u (hb b n) q⟩, fun b u q n _ => by rw [upd_ne (hx b n)]; exact n, fun b u q _ => ?_,
    fun b xs q => by rw [upd_ne (hm b _ q fun z => z)]; exact q, fun b u xs q => by rw [upd_ne (hm b _ q fun z => z)]; exact q, fun b ps q => ⟨#[], by rw [upd_ne (hm b _ q fun z => z), q]; simp⟩⟩
  by_cases hbe : b = e
  · subst hbe; exact heo
  · exact ⟨u, k b u hbe q⟩
end
def trk (h : Heap) (H : Hp) : List Addr := (List.range h.objs.size).filter fun a => (H a).isSome
def hidT (h : Heap) (H : Hp) : Heap := PySem.W.hideAll h (trk h H)
theorem hidT_size (h : Heap) (H : Hp) : (hidT h H).objs.size = h.objs.size := PySem.W.hideAll_size _ _
theorem hidT_get {h : Heap} {H : Hp} {b : Addr} {o : Obj} (e : h.get? b = some o) (n : H b = none) : (hidT h H).get? b = some o :=
  PySem.W.hideAll_get _ e fun hm => by
    have q : (H b).isSome = true := (List.mem_filter.mp hm).2
    rw [n] at q; simp at q
theorem of_hidT {h : Heap} {H : Hp} {b : Addr} {o : Obj} (e : (hidT h H).get? b = some o) : h.get? b = some o ∧ H b = none := by
  have e' : h.get? b = some o := PySem.W.of_hideAll (trk h H) e
  refine ⟨e', ?_⟩
  cases q : H b with
  | none => rfl
  | some x =>
    have hm : b ∈ trk h H := List.mem_filter.mpr ⟨List.mem_range.mpr (Heap.lt_size e'), by simp [q]⟩
    have z : (hidT h H).get? b = none := PySem.W.hideAll_none (trk h H) hm
    rw [z] at e; cases e
def allNews (g h : Heap) (L : Addr) : List (Addr × Obj) := (List.range h.objs.size).filterMap fun a => if a = L ∨ (g.get? a).isSome = true then none else (h.get? a).map fun o => (a, o)
def rest (g h : Heap) (L d : Addr) : List (Addr × Obj) := (allNews g h L).filter fun p => decide (p.1 ≠ d)
end L2
namespace L2
open PySem PySem.Spec PyProof.Rows
structure Mod (K : PySem.W.Frag) (mg : Str → Option Value) (base : Heap) : Prop where
  kin : K.In base
  glob : base.Ns mainGlobals mg
  blt : ∃ mb, base.Ns builtinsNs mb ∧ ∀ x : Str, x ≠ "__name__" → mb x = bootBuiltins x
  nolimit : base.NoLimit
structure Cx where
  prog : Program
  w : World
  K : PySem.W.Frag
  mg : Str → Option Value
  base : Heap
  A : Around
  N : List Str
  s₀ : Shared
  H₀ : Hp
  env : Env
  outer : List Env
  stack : List Env
  ex : List Addr
  fn : Str → Bool
  calm : Bool
  pn : List (Addr × Obj)
  xe : Value → Shared → Prop
def frs (l : List Env) : List Addr := l.filterMap (·.frame)
abbrev Cx.fs (X : Cx) : List Addr := frs X.outer
def Vis (sc : Scope) (x : Str) : Prop := sc.names.lookup x = some .local ∨ sc.names.lookup x = some .cell ∨ sc.names.lookup x = some .free
def Loc (sc : Scope) (x : Str) : Prop := sc.names.lookup x = some .local ∨ sc.names.lookup x = some .cell
def Look (env : Env) (h : Heap) (m : Str → Option Value) (x : Str) (u : Value) : Prop :=
  (env.kindOf x = some .local ∧ m x = some u) ∨ ((env.kindOf x = some .cell ∨ env.kindOf x = some .free) ∧ ∃ c, env.cells.lookup x = some c ∧ h.IsCell c (some u))
structure Cx.Ok (X : Cx) : Prop where
  mod : Mod X.K X.mg X.base
  kind : X.env.scope.kind = .function
  glob : X.env.globals = mainGlobals
  blt : X.env.builtins = builtinsNs
  above : X.s₀.heap.objs.size ≤ X.env.locals
  inj : ∀ x y c, X.env.cells.lookup x = some c → X.env.cells.lookup y = some c → x = y
  has : ∀ x, (X.env.kindOf x = some .cell ∨ X.env.kindOf x = some .free) → ∃ c, X.env.cells.lookup x = some c
  cab : ∀ x c, X.fn x = true → X.env.cells.lookup x = some c → X.s₀.heap.objs.size ≤ c
  hd : X.calm = true → X.A.handled = none
  frames : X.A.frames = some X.stack
  stk : X.stack = X.outer ∨ (X.stack = X.env :: X.outer ∧ X.env.frame = some X.env.locals)
  exf : ∀ b ∈ X.ex, b ≠ X.env.locals ∧ ∀ x c, X.env.cells.lookup x = some c → c ≠ b
  bs : ∀ b o, X.base.get? b = some o → X.s₀.heap.get? b = some o ∧ X.H₀ b = none
  bsz : X.base.objs.size ≤ X.s₀.heap.objs.size
  noex : ∀ b o, X.base.get? b = some o → b ∉ X.ex
  exfs : ∀ b ∈ X.ex, b ∉ X.fs
  funs : X.s₀.heap.FunFrames X.base X.outer
  frf : ∀ b ∈ X.fs, X.H₀ b = none
structure Inv (X : Cx) (pins : List (Addr × Obj)) (σ : List (Option V)) (H : Hp) (s : Shared) : Prop where
  ok : X.Ok
  os : s.os = X.s₀.os
  bare : AllBare s.gens
  base : Un X.fs X.ex X.H₀ H X.s₀.heap s.heap
  loc : ∃ m, s.heap.Ns X.env.locals m ∧ ∀ (i : Nat) (x : Str) (v : V), X.N[i]? = some x → σ[i]? = some (some v) → Vis X.env.scope x → ∃ u, RelV v u ∧ Look X.env s.heap m x u
  cell : ∀ x c, X.env.cells.lookup x = some c → ∃ v, s.heap.IsCell c v
  free : H X.env.locals = none
  freeC : ∀ x c, X.env.cells.lookup x = some c → H c = none
  pin : ∀ p ∈ X.pn ++ pins, s.heap.get? p.1 = some p.2 ∧ H p.1 = none ∧ p.1 ≠ X.env.locals ∧ p.1 ∉ X.fs ∧ ∀ v, p.2.data ≠ .cell v
  hok : HOk X.prog X.w H s.heap
  len : σ.length = X.N.length
section
variable {X : Cx} {pins : List (Addr × Obj)} {σ : List (Option V)} {H H' : Hp} {s : Shared} {h' : Heap}
theorem Cx.Ok.nofr (ok : X.Ok) {b : Addr} {o : Obj} (e : X.base.get? b = some o) : b ∉ X.fs := fun hb => by
  have := (ok.funs.mem hb).1
  rw [e] at this; cases this
theorem Inv.bs (I : Inv X pins σ H s) : ∀ b o, X.base.get? b = some o → s.heap.get? b = some o ∧ H b = none := fun b o e =>
  ⟨I.base.keep b o (I.ok.bs b o e).1 (I.ok.bs b o e).2 (I.ok.nofr e) (I.ok.noex b o e), I.base.free b o (I.ok.bs b o e).1 (I.ok.bs b o e).2 (I.ok.noex b o e)⟩
theorem Inv.bk (I : Inv X pins σ H s) : ∀ b o, X.base.get? b = some o → s.heap.get? b = some o := fun b o e => (I.bs b o e).1
theorem Inv.mod (I : Inv X pins σ H s) : Mod X.K X.mg X.base := I.ok.mod
theorem Inv.kIn (I : Inv X pins σ H s) : X.K.In s.heap := I.ok.mod.kin.keeps I.bk
theorem Inv.fr (I : Inv X pins σ H s) : ∃ m, Fr X.base X.env.locals s.heap m :=
  let ⟨m, hn, _⟩ := I.loc
  ⟨m, hn, I.bk, Nat.le_trans I.ok.bsz I.ok.above⟩
theorem Inv.lt (I : Inv X pins σ H s) : X.env.locals < s.heap.objs.size := let ⟨_, hn, _⟩ := I.loc; hn.lt
theorem Inv.sz (I : Inv X pins σ H s) : X.s₀.heap.objs.size ≤ s.heap.objs.size := Nat.le_trans I.ok.above (Nat.le_of_lt I.lt)
theorem Inv.nofs (I : Inv X pins σ H s) {a : Addr} (h : s.heap.objs.size ≤ a) : a ∉ X.fs := fun hb => by
  obtain ⟨_, o, ho, _⟩ := I.ok.funs.mem hb
  exact absurd (Nat.lt_of_lt_of_le (Heap.lt_size ho) (Nat.le_trans I.sz h)) (Nat.lt_irrefl _)
theorem Inv.cne (I : Inv X pins σ H s) : ∀ x c, X.env.cells.lookup x = some c → c ≠ X.env.locals := fun x c e z => by
  obtain ⟨v, o, ho, hd⟩ := I.cell x c e
  obtain ⟨m, ⟨o', es, ep, ho', hd', _⟩, _⟩ := I.loc
  rw [z, ho'] at ho; cases ho; rw [hd'] at hd; cases hd
theorem Inv.funs (I : Inv X pins σ H s) : s.heap.FunFrames X.base X.outer := by
  have all : ∀ (l : List Env), (∀ b ∈ frs l, b ∈ X.fs) → X.s₀.heap.FunFrames X.base l → s.heap.FunFrames X.base l := by
    intro l
    induction l with
    | nil => intro _ _; trivial
    | cons env r ih =>
      intro hs hl
      obtain ⟨hk, ⟨L, o, hf, hn, ho, hd⟩, hr⟩ := hl
      have hL : L ∈ X.fs := hs L (by unfold frs; rw [List.filterMap_cons, hf]; exact List.mem_cons_self)
      obtain ⟨sl, e⟩ := I.base.slot L o ho (I.ok.frf L hL) hL fun z => I.ok.exfs L z hL
      exact ⟨hk, ⟨L, _, hf, hn, e, hd⟩, ih (fun b hb => hs b (by unfold frs; rw [List.filterMap_cons, hf]; exact List.mem_cons_of_mem _ hb)) hr⟩
  exact all X.outer (fun _ hb => hb) I.ok.funs
theorem Inv.stack (I : Inv X pins σ H s) : s.heap.FunFrames X.base X.stack := by
  rcases I.ok.stk with e | ⟨e, hf⟩
  · rw [e]; exact I.funs
  · rw [e]
    obtain ⟨m, hn, _⟩ := I.loc
    refine .cons (by rw [I.ok.kind]; decide) hf hn ?_ I.funs
    exact Heap.get?_none_of_le (Nat.le_trans I.ok.bsz I.ok.above)
theorem Inv.stkSub (I : Inv X pins σ H s) : ∀ b ∈ frs X.stack, b ∈ X.env.locals :: X.fs := fun b hb => by
  rcases I.ok.stk with e | ⟨e, hf⟩
  · rw [e] at hb; exact List.mem_cons_of_mem _ hb
  · rw [e] at hb
    unfold frs at hb
    rw [List.filterMap_cons, hf] at hb
    exact hb
theorem Inv.stkFree (I : Inv X pins σ H s) : ∀ b ∈ frs X.stack, H b = none := fun b hb => by
  rcases List.mem_cons.mp (I.stkSub b hb) with e | hb
  · rw [e]; exact I.free
  · obtain ⟨_, o, ho, _⟩ := I.ok.funs.mem hb
    exact I.base.free b o ho (I.ok.frf b hb) fun z => I.ok.exfs b z hb
theorem Inv.step {g' : Array GenState} {t' : Nat} {d' : Drawn} {ch : List Addr} (I : Inv X pins σ H s)
    (hch : ∀ b ∈ ch, (b ∈ X.ex ∨ X.s₀.heap.objs.size ≤ b) ∧ b ≠ X.env.locals ∧ (∀ x c, X.env.cells.lookup x = some c → c ≠ b) ∧ ∀ p ∈ X.pn ++ pins, p.1 ≠ b)
    (keep : ∀ b o, b ≠ X.env.locals → b ∉ X.fs → b ∉ ch → s.heap.get? b = some o → H b = none → h'.get? b = some o)
    (slot : ∀ b o, b ≠ X.env.locals → b ∈ X.fs → b ∉ ch → s.heap.get? b = some o → H b = none → ∃ sl, h'.get? b = some { o with slots := sl }) (free : ∀ b o, b ∉ ch → s.heap.get? b = some o → H b = none → H' b = none)
    (there : ∀ b o, b ∉ ch → s.heap.get? b = some o → ∃ o', h'.get? b = some o')
    (tups : ∀ b xs, H b = some (.tup xs) → H' b = some (.tup xs)) (frzs : ∀ b o u, H b = some (.frz o u) → H' b = some (.frz o u)) (tbls : ∀ b ps, H b = some (.tbl ps) → ∃ more, H' b = some (.tbl (ps ++ more)))
    (ns : ∀ m, s.heap.Ns X.env.locals m → h'.Ns X.env.locals m) (hok : HOk X.prog X.w H' h') (hg : AllBare g') :
    Inv X pins σ H' { s with heap := h', gens := g', drawn := d', toks := t' } := by
  have neL : ∀ b o, X.s₀.heap.get? b = some o → b ≠ X.env.locals := fun b o e => Nat.ne_of_lt (Nat.lt_of_lt_of_le (Heap.lt_size e) I.ok.above)
  have neC : ∀ b o, X.s₀.heap.get? b = some o → b ∉ X.ex → b ∉ ch := fun b o e hx hb => by
    rcases (hch b hb).1 with z | z
    · exact hx z
    · exact absurd (Nat.lt_of_lt_of_le (Heap.lt_size e) z) (Nat.lt_irrefl _)
  have cellK : ∀ x c, X.env.cells.lookup x = some c → ∀ v, s.heap.IsCell c v → h'.IsCell c v := fun x c e v ⟨o, ho, hd⟩ => by
    have nch : c ∉ ch := fun z => (hch c z).2.2.1 x c e rfl
    by_cases hc : c ∈ X.fs
    · obtain ⟨sl, q⟩ := slot c o (I.cne x c e) hc nch ho (I.freeC x c e)
      exact ⟨_, q, hd⟩
    · exact ⟨o, keep c o (I.cne x c e) hc nch ho (I.freeC x c e), hd⟩
  refine ⟨I.ok, I.os, hg, ⟨fun b o e n hb hx => ?_, fun b o e n hb hx => ?_, fun b o e n hx => ?_, fun b o e hx => ?_, fun b xs e => tups b xs (I.base.tups b xs e), fun b o xs e => frzs b o xs (I.base.frzs b o xs e), fun b ps e => ?_⟩, ?_, fun x c e => ?_, ?_, fun x c e => ?_, fun p hp => ?_, hok, I.len⟩
  · exact keep b o (neL b o e) hb (neC b o e hx) (I.base.keep b o e n hb hx) (I.base.free b o e n hx)
  · obtain ⟨sl, e1⟩ := I.base.slot b o e n hb hx
    obtain ⟨sl', e2⟩ := slot b _ (neL b o e) hb (neC b o e hx) e1 (I.base.free b o e n hx)
    exact ⟨sl', e2⟩
  · obtain ⟨o', e1⟩ := I.base.there b o e hx
    exact free b o' (neC b o e hx) e1 (I.base.free b o e n hx)
  · obtain ⟨o', e1⟩ := I.base.there b o e hx
    exact there b o' (neC b o e hx) e1
  · obtain ⟨m1, e1⟩ := I.base.tbls b ps e
    obtain ⟨m2, e2⟩ := tbls b _ e1
    exact ⟨m1 ++ m2, by rw [e2, Array.append_assoc]⟩
  · obtain ⟨m, hn, hl⟩ := I.loc
    refine ⟨m, ns m hn, fun i x v e1 e2 e3 => ?_⟩
    obtain ⟨u, r, l⟩ := hl i x v e1 e2 e3
    refine ⟨u, r, ?_⟩
    rcases l with l | ⟨k, c, e, z⟩
    · exact .inl l
    · exact .inr ⟨k, c, e, cellK x c e _ z⟩
  · obtain ⟨v, z⟩ := I.cell x c e
    exact ⟨v, cellK x c e v z⟩
  · obtain ⟨m, ⟨o, _, _, ho, _⟩, _⟩ := I.loc
    exact free _ o (fun z => (hch _ z).2.1 rfl) ho I.free
  · obtain ⟨v, o, ho, hd⟩ := I.cell x c e
    exact free c o (fun z => (hch c z).2.2.1 x c e rfl) ho (I.freeC x c e)
  · obtain ⟨e, n, ne, nf, d⟩ := I.pin p hp
    have nch : p.1 ∉ ch := fun z => (hch p.1 z).2.2.2 p hp rfl
    exact ⟨keep p.1 p.2 ne nf nch e n, free p.1 p.2 nch e n, ne, nf, d⟩
theorem Inv.un {t' : Nat} (I : Inv X pins σ H s) (u : Un X.fs [] H H' s.heap h') (hok : HOk X.prog X.w H' h') : Inv X pins σ H' { s with heap := h', toks := t' } := by
  obtain ⟨m, ⟨o, es, ep, ho, r⟩, _⟩ := id I.loc
  obtain ⟨sl, hL⟩ := u.any ho I.free (by simp)
  exact I.step (g' := s.gens) (d' := s.drawn) (ch := []) (fun _ z => nomatch z) (fun b o _ hb _ e n => u.keep b o e n hb (by simp)) (fun b o _ hb _ e n => u.slot b o e n hb (by simp)) (fun b o _ e n => u.free b o e n (by simp)) (fun b o _ e => u.there b o e (by simp)) u.tups u.frzs u.tbls (fun m' hm => by
    obtain ⟨o', es', ep', ho', r'⟩ := hm
    rw [ho] at ho'; cases ho'
    exact ⟨_, es', ep', hL, r'⟩) hok I.bare
theorem Inv.call {g' : Array GenState} {t' : Nat} {d' : Drawn} {ch : List Addr} (I : Inv X pins σ H s) (u : Un (frs X.stack) ch H H' s.heap h') (hok : HOk X.prog X.w H' h') (hg : AllBare g')
    (hch : ∀ b ∈ ch, (b ∈ X.ex ∨ X.s₀.heap.objs.size ≤ b) ∧ b ≠ X.env.locals ∧ (∀ x c, X.env.cells.lookup x = some c → c ≠ b) ∧ ∀ p ∈ X.pn ++ pins, p.1 ≠ b) :
    Inv X pins σ H' { s with heap := h', gens := g', drawn := d', toks := t' } := by
  obtain ⟨m, ⟨o, es, ep, ho, r⟩, _⟩ := id I.loc
  obtain ⟨sl, hL⟩ := u.any ho I.free fun z => (hch _ z).2.1 rfl
  exact I.step (ch := ch) hch (fun b o hL hb hc e n => u.keep b o e n (fun z => (List.mem_cons.mp (I.stkSub b z)).elim hL hb) hc) (fun b o _ _ hc e n => u.any e n hc) (fun b o hc e n => u.free b o e n hc) (fun b o hc e => u.there b o e hc) u.tups u.frzs u.tbls (fun m' hm => by
    obtain ⟨o', es', ep', ho', r'⟩ := hm
    rw [ho] at ho'; cases ho'
    exact ⟨_, es', ep', hL, r'⟩) hok hg
theorem Inv.turned {t' : Nat} {it : Addr} (I : Inv X pins σ H s) (k : ∀ b o, b ≠ it → s.heap.get? b = some o → h'.get? b = some o) (hn : H it = none) (hL : it ≠ X.env.locals)
    (h1 : it ∈ X.ex ∨ X.s₀.heap.objs.size ≤ it) (h2 : ∀ x c, X.env.cells.lookup x = some c → c ≠ it) (h3 : ∀ p ∈ X.pn ++ pins, p.1 ≠ it) : Inv X pins σ H { s with heap := h', toks := t' } := by
  have nit : ∀ b u, H b = some u → b ≠ it := fun b u e z => by rw [z, hn] at e; cases e
  refine I.step (g' := s.gens) (d' := s.drawn) (ch := [it]) (fun b hb => ?_) (fun b o _ _ hc e _ => k b o (fun z => hc (by simp [z])) e) (fun b o _ _ hc e _ => ⟨o.slots, k b o (fun z => hc (by simp [z])) e⟩) (fun _ _ _ _ n => n)
    (fun b o hc e => ⟨o, k b o (fun z => hc (by simp [z])) e⟩) (fun _ _ e => e) (fun _ _ _ e => e) (fun b ps e => ⟨#[], by rw [e]; simp⟩) (fun m hm => ?_) (fun b u e => ?_) I.bare
  · have e : b = it := by simpa using hb
    subst e
    exact ⟨h1, hL, h2, h3⟩
  · obtain ⟨o, es, ep, ho, r⟩ := hm
    exact ⟨o, es, ep, k _ o (Ne.symm hL) ho, r⟩
  · refine (I.hok b u e).stay (fun c v hc q => k c v ?_ q) (fun _ q => q) fun _ _ q => q
    rcases hc with z | z
    · rw [z]; exact nit b u e
    · exact nit c _ z
theorem Inv.tok (I : Inv X pins σ H s) (t : Nat) : Inv X pins σ H { s with toks := t } := I.un (h' := s.heap) (t' := t) Un.refl I.hok
theorem Inv.kept {t' : Nat} (I : Inv X pins σ H s) (k : ∀ b u, s.heap.get? b = some u → h'.get? b = some u) : Inv X pins σ H { s with heap := h', toks := t' } := I.un (Un.kept k) (I.hok.kept k)
theorem Inv.laid {a : Addr} {o : HO} {t' : Nat} (I : Inv X pins σ H s) (k : ∀ b u, s.heap.get? b = some u → h'.get? b = some u) (hp : s.heap.objs.size ≤ a) (new : ObjOk X.prog X.w (upd H a o) h' a o) :
    Inv X pins σ (upd H a o) { s with heap := h', toks := t' } := I.un (Un.laid k hp (I.hok.fresh hp)) (I.hok.laid k hp new)
theorem Inv.write {x e : Addr} {o : HO} {t' : Nat} (I : Inv X pins σ H s) (mu : Mut (H x)) (he : e = x ∨ H e = some (.own x)) (k : ∀ b u, b ≠ e → s.heap.get? b = some u → h'.get? b = some u) (heo : ∃ u, h'.get? e = some u)
    (new : ObjOk X.prog X.w (upd H x o) h' x o) : Inv X pins σ (upd H x o) { s with heap := h', toks := t' } := I.un (Un.write mu he k heo) (I.hok.write mu he k heo new)
theorem Inv.weak {σ' : List (Option V)} (I : Inv X pins σ H s) (hl : σ'.length = σ.length) (w : ∀ (i : Nat) v, σ'[i]? = some (some v) → σ[i]? = some (some v)) : Inv X pins σ' H s :=
  ⟨I.ok, I.os, I.bare, I.base, let ⟨m, hn, hl'⟩ := I.loc; ⟨m, hn, fun i x v e1 e2 e3 => hl' i x v e1 (w i v e2) e3⟩, I.cell, I.free, I.freeC, I.pin, I.hok, hl.trans I.len⟩
theorem Inv.pins_of {pins' : List (Addr × Obj)} (I : Inv X pins σ H s) (h : ∀ p ∈ pins', s.heap.get? p.1 = some p.2 ∧ H p.1 = none ∧ p.1 ≠ X.env.locals ∧ p.1 ∉ X.fs ∧ ∀ v, p.2.data ≠ .cell v) : Inv X pins' σ H s :=
  ⟨I.ok, I.os, I.bare, I.base, I.loc, I.cell, I.free, I.freeC, fun p hp => (List.mem_append.mp hp).elim (fun z => I.pin p (List.mem_append_left _ z)) (h p), I.hok, I.len⟩
theorem nodup_ix {N : List Str} (hN : N.Nodup) {i j : Nat} {x : Str} (a : N[i]? = some x) (b : N[j]? = some x) : i = j := by
  obtain ⟨h1, e1⟩ := List.getElem?_eq_some_iff.mp a
  obtain ⟨h2, e2⟩ := List.getElem?_eq_some_iff.mp b
  exact (List.getElem_inj hN).mp (e1.trans e2.symm)
theorem store_ok2 {M : Model} {A : Around} {E : Value → Shared → Prop} {i : Nat} {x : Str} {v : V} {u : Value} {Q : Unit → Shared → Prop} (I : Inv X pins σ H s) (hN : X.N.Nodup) (hi : X.N[i]? = some x) (hx : Loc X.env.scope x) (r : RelV v u)
    (h : ∀ s', Inv X pins (σ.set i (some v)) H s' → (∃ a, Heap.SameBut a s.heap s'.heap ∧ (a = X.env.locals ∨ X.env.cells.lookup x = some a)) → Q () s') (hf : X.fn x = true ∨ X.env.scope.names.lookup x = some .local := by first | exact .inl rfl | exact .inr rfl | assumption) : wpAny M A (storeName X.env x u) Q E s := by
  obtain ⟨m, hn, hl⟩ := id I.loc
  have hcls : (X.env.scope.kind == .class || (X.env.scope.kind == .module && X.env.locals != X.env.globals)) = false := by rw [I.ok.kind]; rfl
  have hiσ : i < σ.length := by rw [I.len]; exact (List.getElem?_eq_some_iff.mp hi).1
  have cne := I.cne
  have tracked : ∀ {a : Addr} {h' : Heap}, (∃ o, s.heap.get? a = some o ∧ H a = none) → Heap.SameBut a s.heap h' → HOk X.prog X.w H h' := fun {a h'} ha hs b ob e => by
    obtain ⟨_, _, hfree⟩ := ha
    refine (I.hok b ob e).stay (fun c w' hc q => (hs.2 c ?_).trans q) (fun _ q => q) fun _ _ q => q
    rintro rfl
    rcases hc with rfl | hc
    · rw [hfree] at e; cases e
    · rw [hfree] at hc; cases hc
  rcases hx with hk | hk
  · refine wpAny_storeName_local hk hn (fun h' hn' hs => ?_) hcls
    obtain ⟨oL, _, _, hoL, _⟩ := id hn
    refine h _ ⟨I.ok, I.os, I.bare, ⟨fun b o e n hb hx => ?_, fun b o e n hb hx => ?_, I.base.free, fun b o e hx => ?_, I.base.tups, I.base.frzs, I.base.tbls⟩, ⟨_, hn', fun j y v' e1 e2 e3 => ?_⟩, fun y c e => ?_, I.free, I.freeC, fun p hp => ?_, tracked ⟨oL, hoL, I.free⟩ hs, by simpa using I.len⟩ ⟨_, hs, .inl rfl⟩
    · exact (hs.2 b (Nat.ne_of_lt (Nat.lt_of_lt_of_le (Heap.lt_size e) I.ok.above))).trans (I.base.keep b o e n hb hx)
    · obtain ⟨sl, e1⟩ := I.base.slot b o e n hb hx
      exact ⟨sl, (hs.2 b (Nat.ne_of_lt (Nat.lt_of_lt_of_le (Heap.lt_size e) I.ok.above))).trans e1⟩
    · obtain ⟨o', e1⟩ := I.base.there b o e hx
      exact ⟨o', (hs.2 b (Nat.ne_of_lt (Nat.lt_of_lt_of_le (Heap.lt_size e) I.ok.above))).trans e1⟩
    · by_cases hj : j = i
      · subst hj
        rw [hi] at e1; cases e1
        rw [List.getElem?_set_self hiσ] at e2
        cases e2
        exact ⟨u, r, .inl ⟨hk, by simp⟩⟩
      · rw [List.getElem?_set_ne (Ne.symm hj)] at e2
        obtain ⟨u', r', q⟩ := hl j y v' e1 e2 e3
        refine ⟨u', r', ?_⟩
        rcases q with ⟨k, e⟩ | ⟨k, c, e, z⟩
        · refine .inl ⟨k, ?_⟩
          have : y ≠ x := fun e => hj (nodup_ix hN e1 (e ▸ hi))
          simp [this, e]
        · exact .inr ⟨k, c, e, z.sameBut hs (cne y c e)⟩
    · obtain ⟨w', z⟩ := I.cell y c e
      exact ⟨w', z.sameBut hs (cne y c e)⟩
    · obtain ⟨e, n, ne, nf, d⟩ := I.pin p hp
      exact ⟨(hs.2 p.1 ne).trans e, n, ne, nf, d⟩
  · have hfn : X.fn x = true := by
      rcases hf with z | z
      · exact z
      · rw [z] at hk; cases hk
    obtain ⟨c, hc⟩ := I.ok.has x (.inl hk)
    obtain ⟨w', z⟩ := I.cell x c hc
    refine wpAny_storeName_cell I.ok.kind hk hc z (fun h' hc' hs => ?_)
    obtain ⟨oc, hoc, hocd⟩ := id z
    refine h { s with heap := h' } ⟨I.ok, I.os, I.bare, ⟨fun b o e n hb hx => ?_, fun b o e n hb hx => ?_, I.base.free, fun b o e hx => ?_, I.base.tups, I.base.frzs, I.base.tbls⟩, ⟨m, hn.sameBut hs (Ne.symm (cne x c hc)), fun j y v' e1 e2 e3 => ?_⟩, fun y c' e => ?_, I.free, I.freeC, fun p hp => ?_, tracked ⟨oc, hoc, I.freeC x c hc⟩ hs, by simpa using I.len⟩ ⟨c, hs, .inr hc⟩
    · exact (hs.2 b (Nat.ne_of_lt (Nat.lt_of_lt_of_le (Heap.lt_size e) (I.ok.cab x c hfn hc)))).trans (I.base.keep b o e n hb hx)
    · obtain ⟨sl, e1⟩ := I.base.slot b o e n hb hx
      exact ⟨sl, (hs.2 b (Nat.ne_of_lt (Nat.lt_of_lt_of_le (Heap.lt_size e) (I.ok.cab x c hfn hc)))).trans e1⟩
    · obtain ⟨o', e1⟩ := I.base.there b o e hx
      exact ⟨o', (hs.2 b (Nat.ne_of_lt (Nat.lt_of_lt_of_le (Heap.lt_size e) (I.ok.cab x c hfn hc)))).trans e1⟩
    · by_cases hj : j = i
      · subst hj
        rw [hi] at e1; cases e1
        rw [List.getElem?_set_self hiσ] at e2
        cases e2
        exact ⟨u, r, .inr ⟨.inl hk, c, hc, hc'⟩⟩
      · rw [List.getElem?_set_ne (Ne.symm hj)] at e2
        obtain ⟨u', r', q⟩ := hl j y v' e1 e2 e3
        refine ⟨u', r', ?_⟩
        rcases q with q | ⟨k, c', e, z'⟩
        · exact .inl q
        · refine .inr ⟨k, c', e, z'.sameBut hs ?_⟩
          rintro rfl
          exact hj (nodup_ix hN e1 (I.ok.inj _ _ _ e hc ▸ hi))
    · by_cases hcc : c' = c
      · subst hcc; exact ⟨_, hc'⟩
      · obtain ⟨w2, z2⟩ := I.cell y c' e
        exact ⟨w2, z2.sameBut hs hcc⟩
    · obtain ⟨e, n, ne, nf, d⟩ := I.pin p hp
      refine ⟨(hs.2 p.1 ?_).trans e, n, ne, nf, d⟩
      intro q
      rw [q, hoc] at e
      have q' : oc = p.2 := Option.some.inj e
      exact d w' (by rw [← q']; exact hocd)
theorem store_ok {M : Model} {A : Around} {E : Value → Shared → Prop} {i : Nat} {x : Str} {v : V} {u : Value} {Q : Unit → Shared → Prop} (I : Inv X pins σ H s) (hN : X.N.Nodup) (hi : X.N[i]? = some x) (hx : Loc X.env.scope x) (r : RelV v u)
    (h : ∀ s', Inv X pins (σ.set i (some v)) H s' → Q () s') (hf : X.fn x = true ∨ X.env.scope.names.lookup x = some .local := by first | exact .inl rfl | exact .inr rfl | assumption) : wpAny M A (storeName X.env x u) Q E s :=
  store_ok2 I hN hi hx r (fun s' I' _ => h s' I') hf
theorem Inv.call' {s' : Shared} {ch : List Addr} (I : Inv X pins σ H s) (ho : s'.os = s.os) (u : Un (frs X.stack) ch H H' s.heap s'.heap) (hok : HOk X.prog X.w H' s'.heap) (hg : AllBare s'.gens)
    (hch : ∀ b ∈ ch, (b ∈ X.ex ∨ X.s₀.heap.objs.size ≤ b) ∧ b ≠ X.env.locals ∧ (∀ x c, X.env.cells.lookup x = some c → c ≠ b) ∧ ∀ p ∈ X.pn ++ pins, p.1 ≠ b) : Inv X pins σ H' s' := by
  obtain ⟨h', g', d', t', o'⟩ := s'
  have e : o' = s.os := ho
  subst e
  exact I.call (g' := g') (t' := t') (d' := d') u hok hg hch
end
abbrev XK := Value → Option Addr → Hp → Prop
abbrev St := List (Option V)
abbrev VK := V → Hp → Prop
abbrev TE := St → Hp → VK → Prop
abbrev TT := St → Hp → (Bool → Hp → Prop) → Prop
abbrev TA := St → Hp → (List V → Hp → Prop) → Prop
structure Ends where
  nx : St → Hp → Prop
  rt : VK
  bk : St → Hp → Prop := fun _ _ => False
  ct : St → Hp → Prop := fun _ _ => False
abbrev TS := Ends → St → Hp → Prop
def EP (X : Cx) (pins : List (Addr × Obj)) (σ : St) (Q : VK) (u : Value) (s' : Shared) : Prop := ∃ v H', Inv X pins σ H' s' ∧ RelV v u ∧ Q v H'
def TP (X : Cx) (pins : List (Addr × Obj)) (σ : St) (Q : Bool → Hp → Prop) (b : Bool) (s' : Shared) : Prop := ∃ H', Inv X pins σ H' s' ∧ Q b H'
def AP (X : Cx) (pins : List (Addr × Obj)) (σ : St) (Q : List V → Hp → Prop) (us : List Value) (s' : Shared) : Prop := ∃ vs H', Inv X pins σ H' s' ∧ Vals vs us ∧ Q vs H'
def SP (X : Cx) (pins : List (Addr × Obj)) (D : Ends) (f : Flow) (s' : Shared) : Prop :=
  match f with
  | .next => ∃ σ' H', Inv X pins σ' H' s' ∧ D.nx σ' H'
  | .brk => ∃ σ' H', Inv X pins σ' H' s' ∧ D.bk σ' H'
  | .cont => ∃ σ' H', Inv X pins σ' H' s' ∧ D.ct σ' H'
  | .ret u => ∃ v σ' H', Inv X pins σ' H' s' ∧ RelV v u ∧ D.rt v H'
def PE (X : Cx) (e : Expr) (t : TE) : Prop :=
  ∀ (pins : List (Addr × Obj)) (s : Shared) (σ : St) (H : Hp) (Q : VK), Inv X pins σ H s → t σ H Q → wpAny (model X.prog X.w) X.A (eval e X.env) (EP X pins σ Q) X.xe s
def PT (X : Cx) (e : Expr) (t : TT) : Prop :=
  ∀ (pins : List (Addr × Obj)) (s : Shared) (σ : St) (H : Hp) (Q : Bool → Hp → Prop), Inv X pins σ H s → t σ H Q → wpAny (model X.prog X.w) X.A (isTrue e X.env (eval e X.env)) (TP X pins σ Q) X.xe s
def PW (X : Cx) (e : Expr) (t : TT) : Prop :=
  ∀ (whole : Sem Value) (pins : List (Addr × Obj)) (s : Shared) (σ : St) (H : Hp) (Q : Bool → Hp → Prop), Inv X pins σ H s → t σ H Q → wpAny (model X.prog X.w) X.A (isTrue e X.env whole) (TP X pins σ Q) X.xe s
theorem PW.pt {X : Cx} {e : Expr} {t : TT} (h : PW X e t) : PT X e t := h _
def PA (X : Cx) (es : List Expr) (t : TA) : Prop :=
  ∀ (pos : Pos) (pins : List (Addr × Obj)) (s : Shared) (σ : St) (H : Hp) (Q : List V → Hp → Prop), Inv X pins σ H s → t σ H Q → wpAny (model X.prog X.w) X.A (spliced (backTo pos (starEach es X.env))) (AP X pins σ Q) X.xe s
def PS (X : Cx) (st : Stmt) (t : TS) : Prop :=
  ∀ (pins : List (Addr × Obj)) (s : Shared) (σ : St) (H : Hp) (D : Ends), Inv X pins σ H s → t D σ H → wpAny (model X.prog X.w) X.A (exec st X.env) (SP X pins D) X.xe s
def PSs (X : Cx) (st : List Stmt) (t : TS) : Prop :=
  ∀ (pins : List (Addr × Obj)) (s : Shared) (σ : St) (H : Hp) (D : Ends), Inv X pins σ H s → t D σ H → wpAny (model X.prog X.w) X.A (execs st X.env) (SP X pins D) X.xe s
theorem thn {α : Type} {t : Sem α} {Q Q' : α → Shared → Prop} {M : Model} {A : Around} {E : Value → Shared → Prop} {s : Shared} (h : wpAny M A t Q E s) (hQ : ∀ a s, Q a s → Q' a s) : wpAny M A t Q' E s := wpAny_mono h hQ fun _ _ x => x
end L2
namespace L2
open PySem PySem.Spec PyProof.Rows
section
variable {X : Cx}
def tVar (i : Nat) : TE := fun σ H Q => ∃ v, σ[i]? = some (some v) ∧ Q v H
def tC (v : V) : TE := fun _ H Q => Q v H
theorem pe_var {i : Nat} {x : Str} {pos : Pos} (hN : X.N[i]? = some x) (hv : Vis X.env.scope x) (hd : (x == ("__debug__" : Str)) = false := by decide) (hcd : (x == ("__classdict__" : Str)) = false := by decide) : PE X (.Name x pos) (tVar i) := by
  intro pins s σ H Q I h
  obtain ⟨v, e, h⟩ := h
  obtain ⟨m, hn, hl⟩ := I.loc
  obtain ⟨u, r, l⟩ := hl i x v hN e hv
  have fin : EP X pins σ Q u s := ⟨v, H, I, r, h⟩
  rcases l with ⟨hk, hm⟩ | ⟨hk, c, hc, hcell⟩
  · exact wpAny_Name (wpAny_loadName_local I.ok.kind hk hn hm fin) hd
  · rcases hk with hk | hk
    · exact wpAny_Name (wpAny_loadName_cell I.ok.kind hk hc hcell fin) hd
    · exact wpAny_Name (wpAny_loadName_free I.ok.kind hk hc hcell fin hcd) hd
theorem pe_int {i j pos} : PE X (.Constant (.int i) j pos) (tC (.int i)) := fun _ _ _ H _ I h => wpAny_Constant_int ⟨.int i, H, I.tok _, ⟨_, rfl⟩, h⟩
theorem pe_bl {b j pos} : PE X (.Constant (.bool b) j pos) (tC (.bl b)) := fun _ _ _ H _ I h => Constant_bool ⟨.bl b, H, I, rfl, h⟩
theorem pe_non {j pos} : PE X (.Constant .none j pos) (tC .non) := fun _ _ _ H _ I h => Constant_none ⟨.non, H, I, rfl, h⟩
theorem pe_str {x j pos} : PE X (.Constant (.str x) j pos) (tC (.str x)) := fun _ _ _ H _ I h => Calls.Constant_str ⟨.str x, H, I.tok _, ⟨_, rfl⟩, h⟩
def Gl (X : Cx) (x : Str) : Prop := X.env.kindOf x = some .globalImplicit
theorem ld_glob {E : Value → Shared → Prop} {pins : List (Addr × Obj)} {s : Shared} {σ : St} {H : Hp} {x : Str} {u : Value} {pos : Pos} {Q : Value → Shared → Prop} (I : Inv X pins σ H s) (hg : Gl X x) (hm : X.mg x = some u) (h : Q u s)
    (hd : (x == ("__debug__" : Str)) = false := by decide) : wpAny (model X.prog X.w) X.A (eval (.Name x pos) X.env) Q E s :=
  Calls.Name_function_global I.ok.kind hg (Calls.loadGlobal_global (by rw [I.ok.glob]; exact I.mod.glob.keeps I.bk) hm h) hd
theorem ld_blt {E : Value → Shared → Prop} {pins : List (Addr × Obj)} {s : Shared} {σ : St} {H : Hp} {x : Str} {u : Value} {pos : Pos} {Q : Value → Shared → Prop} (I : Inv X pins σ H s) (hg : Gl X x) (hm : X.mg x = none) (hv : bootBuiltins x = some u) (h : Q u s)
    (hn : x ≠ "__name__" := by decide) (hd : (x == ("__debug__" : Str)) = false := by decide) : wpAny (model X.prog X.w) X.A (eval (.Name x pos) X.env) Q E s := by
  obtain ⟨mb, h1, h2⟩ := I.mod.blt
  exact Calls.Name_function_global I.ok.kind hg (Calls.loadGlobal_builtin (by rw [I.ok.glob]; exact I.mod.glob.keeps I.bk) hm (by rw [I.ok.blt]; exact h1.keeps I.bk) ((h2 x hn).trans hv) h) hd
theorem pe_glob {x : Str} {v : V} {u : Value} {pos : Pos} (hg : Gl X x) (hm : X.mg x = some u) (r : RelV v u) (hd : (x == ("__debug__" : Str)) = false := by decide) : PE X (.Name x pos) (tC v) :=
  fun _ _ _ H _ I h => ld_glob I hg hm ⟨v, H, I, r, h⟩ hd
theorem pe_bltn {x : Str} {v : V} {u : Value} {pos : Pos} (hg : Gl X x) (hm : X.mg x = none) (hv : bootBuiltins x = some u) (r : RelV v u) (hn : x ≠ "__name__" := by decide) (hd : (x == ("__debug__" : Str)) = false := by decide) : PE X (.Name x pos) (tC v) :=
  fun _ _ _ H _ I h => ld_blt I hg hm hv ⟨v, H, I, r, h⟩ hn hd
variable {a b : Expr} {ta tb : TE} {pos : Pos}
def PC (X : Cx) (op : CmpOp) (a b : Expr) (t : TE) : Prop :=
  ∀ (pins : List (Addr × Obj)) (s : Shared) (σ : St) (H : Hp) (Q : VK), Inv X pins σ H s → t σ H Q →
    wpAny (model X.prog X.w) X.A (eval a X.env) (fun v s₁ => wpAny (model X.prog X.w) X.A (eval b X.env) (fun u s₂ => wpAny (model X.prog X.w) X.A (compareOp op v u) (EP X pins σ Q) X.xe s₂) X.xe s₁) X.xe s
theorem nobehind (b : Expr) {op : CmpOp} (h : op ≠ .In) (h2 : op ≠ .NotIn) : behindInMarks op b = false := by
  have e1 : (op == CmpOp.In) = false := by cases op <;> first | rfl | exact absurd rfl h
  have e2 : (op == CmpOp.NotIn) = false := by cases op <;> first | rfl | exact absurd rfl h2
  cases b <;> simp [behindInMarks, e1, e2]
def tIsN (ta : TE) : TE := fun σ H Q => ta σ H fun x H1 => Q (.bl (decide (x = .non))) H1
def tNotN (ta : TE) : TE := fun σ H Q => ta σ H fun x H1 => Q (.bl (!decide (x = .non))) H1
theorem RelV.none_iff {x : V} {v : Value} (r : RelV x v) : (v == Value.none) = decide (x = .non) := by
  cases x with
  | non => cases r; rfl
  | bl _ => cases r; rfl
  | int _ => obtain ⟨t, rfl⟩ := r; rfl
  | str _ => obtain ⟨t, rfl⟩ := r; rfl
  | byt _ => obtain ⟨t, rfl⟩ := r; rfl
  | flt _ => obtain ⟨t, rfl⟩ := r; rfl
  | ref _ => cases r; rfl
  | ty _ => cases r; rfl
theorem pc_isN {j pos'} (ha : PE X a ta) : PC X .Is a (.Constant .none j pos') (tIsN ta) := by
  intro pins s σ H Q I h
  refine thn (ha pins s σ H _ I h) fun v s1 ⟨x, H1, I1, r1, q1⟩ => ?_
  exact Constant_none (is_none_gen ⟨.bl _, H1, I1, by rw [r1.none_iff]; rfl, q1⟩)
theorem pc_notN {j pos'} (ha : PE X a ta) : PC X .IsNot a (.Constant .none j pos') (tNotN ta) := by
  intro pins s σ H Q I h
  refine thn (ha pins s σ H _ I h) fun v s1 ⟨x, H1, I1, r1, q1⟩ => ?_
  exact Constant_none (isnot_none_gen ⟨.bl _, H1, I1, by rw [r1.none_iff]; rfl, q1⟩)
def tB (t : TE) : TT := fun σ H Q => t σ H fun x H1 => ∃ c, x = .bl c ∧ Q c H1
theorem pe_cmp {op : CmpOp} {t : TE} (h : PC X op a b t) (h1 : behindInMarks op b = false := by first | exact nobehind _ (by decide) (by decide) | rfl) : PE X (.Compare a [op] [b] pos) t := fun pins s σ H Q I hw => wpAny_Compare1 (h pins s σ H Q I hw) h1
theorem pt_cmp {op : CmpOp} {t : TE} (h : PC X op a b t) (h1 : behindInMarks op b = false := by first | exact nobehind _ (by decide) (by decide) | rfl) : PT X (.Compare a [op] [b] pos) (tB t) := by
  intro pins s σ H Q I hw
  refine wpAny_isTrue_Compare1 (thn (h pins s σ H _ I hw) fun v s1 h1 => thn h1 fun u s2 h2 => thn h2 fun c s3 ⟨x, H1, I1, r1, q1⟩ => ?_) h1
  obtain ⟨d, rfl, q⟩ := q1
  cases r1
  exact wpAny_truthy_bool ⟨H1, I1, q⟩
theorem pt_val {e : Expr} {t : TE} (h : PE X e t) (he : ∀ whole, isTrue e X.env whole = (do let v ← whole; standAt e.pos; holding [v] (truthy v)) := by intro _; rfl) : PT X e (tB t) := by
  intro pins s σ H Q I hw
  refine isTrue_plain (thn (h pins s σ H _ I hw) fun v s1 ⟨x, H1, I1, r1, q1⟩ => ?_) (he _)
  obtain ⟨d, rfl, q⟩ := q1
  cases r1
  exact wpAny_truthy_bool ⟨H1, I1, q⟩
variable {tA tB' : TT} {rest : List Expr}
def tAnd (t u : TT) : TT := fun σ H Q => t σ H fun c H1 => if c = true then u σ H1 Q else Q false H1
def tOr (t u : TT) : TT := fun σ H Q => t σ H fun c H1 => if c = true then Q true H1 else u σ H1 Q
def tNot (t : TT) : TT := fun σ H Q => t σ H fun c H1 => Q (!c) H1
theorem pw_and1 (ha : PT X a tA) : PW X (.BoolOp .And [a] pos) tA := by
  intro wh pins s σ H Q I h
  refine isTrue_and (thn (ha pins s σ H Q I h) fun c s1 e => ?_)
  cases c with
  | true => exact isTrue_and_nil e
  | false => exact e
theorem pw_or1 (ha : PT X a tA) : PW X (.BoolOp .Or [a] pos) tA := by
  intro wh pins s σ H Q I h
  refine isTrue_or (thn (ha pins s σ H Q I h) fun c s1 e => ?_)
  cases c with
  | false => exact isTrue_or_nil e
  | true => exact e
theorem pw_and (ha : PT X a tA) (hb : PW X (.BoolOp .And (b :: rest) pos) tB') : PW X (.BoolOp .And (a :: b :: rest) pos) (tAnd tA tB') := by
  intro wh pins s σ H Q I h
  refine isTrue_and (thn (ha pins s σ H _ I h) fun c s1 ⟨H1, I1, q1⟩ => ?_)
  cases c with
  | true => exact hb wh pins s1 σ H1 Q I1 q1
  | false => exact ⟨H1, I1, q1⟩
theorem pw_or (ha : PT X a tA) (hb : PW X (.BoolOp .Or (b :: rest) pos) tB') : PW X (.BoolOp .Or (a :: b :: rest) pos) (tOr tA tB') := by
  intro wh pins s σ H Q I h
  refine isTrue_or (thn (ha pins s σ H _ I h) fun c s1 ⟨H1, I1, q1⟩ => ?_)
  cases c with
  | true => exact ⟨H1, I1, q1⟩
  | false => exact hb wh pins s1 σ H1 Q I1 q1
theorem pt_not (ha : PT X a tA) : PT X (.UnaryOp .Not a pos) (tNot tA) := by
  intro pins s σ H Q I h
  exact isTrue_not (ha pins s σ H (fun c H1 => Q (!c) H1) I h)
def tAndV (ta tb : TE) : TE := fun σ H Q => ta σ H fun x H1 => ∃ c, x = .bl c ∧ if c = true then tb σ H1 Q else Q (.bl false) H1
def tOrV (ta tb : TE) : TE := fun σ H Q => ta σ H fun x H1 => ∃ c, x = .bl c ∧ if c = true then Q (.bl true) H1 else tb σ H1 Q
def tNotV (ta : TE) : TE := fun σ H Q => ta σ H fun x H1 => ∃ c, x = .bl c ∧ Q (.bl (!c)) H1
theorem pe_one {op} {t : TE} (h : PE X a t) : PE X (.BoolOp op [a] pos) t := fun pins s σ H Q I hw => BoolOp_one (h pins s σ H Q I hw)
theorem pe_and (ha : PE X a ta) (hb : PE X (.BoolOp .And (b :: rest) pos) tb) : PE X (.BoolOp .And (a :: b :: rest) pos) (tAndV ta tb) := by
  intro pins s σ H Q I h
  refine BoolOp_and (thn (ha pins s σ H _ I h) fun v s1 ⟨x, H1, I1, r1, q1⟩ => ?_)
  obtain ⟨c, rfl, q1⟩ := q1
  cases r1
  refine wpAny_truthy_bool ?_
  cases c with
  | true => exact hb pins s1 σ H1 Q I1 q1
  | false => exact ⟨.bl false, H1, I1, rfl, q1⟩
theorem pe_or (ha : PE X a ta) (hb : PE X (.BoolOp .Or (b :: rest) pos) tb) : PE X (.BoolOp .Or (a :: b :: rest) pos) (tOrV ta tb) := by
  intro pins s σ H Q I h
  refine BoolOp_or (thn (ha pins s σ H _ I h) fun v s1 ⟨x, H1, I1, r1, q1⟩ => ?_)
  obtain ⟨c, rfl, q1⟩ := q1
  cases r1
  refine wpAny_truthy_bool ?_
  cases c with
  | false => exact hb pins s1 σ H1 Q I1 q1
  | true => exact ⟨.bl true, H1, I1, rfl, q1⟩
theorem pe_not (ha : PE X a ta) : PE X (.UnaryOp .Not a pos) (tNotV ta) := by
  intro pins s σ H Q I h
  refine UnaryOp_ (thn (ha pins s σ H _ I h) fun v s1 ⟨x, H1, I1, r1, q1⟩ => ?_)
  obtain ⟨c, rfl, q1⟩ := q1
  cases r1
  exact not_of (wpAny_truthy_bool ⟨.bl (!c), H1, I1, rfl, q1⟩)
def tIf (t : TT) (ta tb : TE) : TE := fun σ H Q => t σ H fun c H1 => if c = true then ta σ H1 Q else tb σ H1 Q
theorem pe_ifExp {c : Expr} (hc : PT X c tA) (ha : PE X a ta) (hb : PE X b tb) : PE X (.IfExp c a b pos) (tIf tA ta tb) := by
  intro pins s σ H Q I h
  refine wpAny_IfExp (thn (hc pins s σ H _ I h) fun d s1 ⟨H1, I1, q1⟩ => ?_)
  cases d with
  | true => exact ha pins s1 σ H1 Q I1 q1
  | false => exact hb pins s1 σ H1 Q I1 q1
end
end L2
namespace L2
open PySem PySem.Spec PyProof.Rows
def SqL (K : PySem.W.Frag) (H : Hp) (a : Addr) (xs : List V) : Prop :=
  Rd H a (.lst xs) ∨
    ∃ (o : Obj) (its : Array Value) (n : Nat), K.lookup a = some o ∧ o.cls = .type "list" ∧ o.dict = none ∧ o.data = .seq its n ∧ its.size ≤ sizeLine ∧ Vals xs its.toList
def SqT (K : PySem.W.Frag) (H : Hp) (a : Addr) (xs : List V) : Prop :=
  Rd H a (.tup xs) ∨
    ∃ (o : Obj) (its : Array Value) (n : Nat), K.lookup a = some o ∧ o.cls = .type "tuple" ∧ o.data = .seq its n ∧ its.size ≤ sizeLine ∧ Vals xs its.toList
def absV : Value → Option V
  | .none => some .non
  | .bool b => some (.bl b)
  | .int i _ => some (.int i)
  | .str x _ => some (.str x)
  | .bytes b _ => some (.byt b)
  | .float b _ => some (.flt b)
  | .ref a => some (.ref a)
  | .type n => some (.ty n)
  | _ => none
theorem RelV.abs {x : V} {u : Value} (r : RelV x u) : absV u = some x := by
  cases x with
  | non => cases r; rfl
  | bl _ => cases r; rfl
  | int _ => obtain ⟨t, rfl⟩ := r; rfl
  | str _ => obtain ⟨t, rfl⟩ := r; rfl
  | byt _ => obtain ⟨t, rfl⟩ := r; rfl
  | flt _ => obtain ⟨t, rfl⟩ := r; rfl
  | ref _ => cases r; rfl
  | ty _ => cases r; rfl
theorem RelV.inj {x y : V} {u : Value} (r : RelV x u) (q : RelV y u) : x = y := Option.some.inj (r.abs.symm.trans q.abs)
theorem Vals.inj : ∀ {xs ys : List V} {us : List Value}, Vals xs us → Vals ys us → xs = ys
  | _, _, _, .nil, .nil => rfl
  | _, _, _, .cons r t, .cons r' t' => by rw [r.inj r', Vals.inj t t']
section
variable {X : Cx} {pins : List (Addr × Obj)} {σ : St} {H : Hp} {s : Shared} {a : Addr} {xs ys : List V}
theorem SqL.of {K : PySem.W.Frag} (h : H a = some (.lst xs)) : SqL K H a xs := .inl (.inl h)
theorem SqT.of {K : PySem.W.Frag} (h : H a = some (.tup xs)) : SqT K H a xs := .inl (.inl h)
theorem Inv.list (I : Inv X pins σ H s) (h : SqL X.K H a xs) : ∃ its : List Value, Vals xs its ∧ PlainL s.heap a its.toArray ∧ xs.length ≤ sizeLine := by
  rcases h with h | ⟨o, its, n, hk, hc, hd, hs, hz, r⟩
  · obtain ⟨z, its, n, r, e⟩ := h.ok I.hok
    exact ⟨its, r, ⟨_, n, e, rfl, rfl, rfl⟩, z⟩
  · refine ⟨its.toList, r, ⟨o, n, I.kIn a o hk, hc, hd, by simpa using hs⟩, ?_⟩
    have e := r.length
    simp only [Array.length_toList] at e
    omega
theorem Inv.tuple (I : Inv X pins σ H s) (h : SqT X.K H a xs) : ∃ its : List Value, Vals xs its ∧ IsTup s.heap a its.toArray ∧ xs.length ≤ sizeLine := by
  rcases h with h | ⟨o, its, n, hk, hc, hs, hz, r⟩
  · obtain ⟨z, its, r, p⟩ := h.ok I.hok
    exact ⟨its, r, p, z⟩
  · refine ⟨its.toList, r, ⟨o, I.kIn a o hk, hc, n, by simpa using hs⟩, ?_⟩
    have e := r.length
    simp only [Array.length_toList] at e
    omega
theorem Inv.list_inj (I : Inv X pins σ H s) (h : SqL X.K H a xs) (h' : SqL X.K H a ys) : xs = ys := by
  obtain ⟨its, r, ⟨o, n, e, _, _, d⟩, _⟩ := I.list h
  obtain ⟨its', r', ⟨o', n', e', _, _, d'⟩, _⟩ := I.list h'
  rw [e] at e'; cases e'
  rw [d] at d'
  injection d' with d1 _
  have : its = its' := by simpa using congrArg Array.toList d1
  subst this
  exact r.inj r'
theorem Inv.tuple_inj (I : Inv X pins σ H s) (h : SqT X.K H a xs) (h' : SqT X.K H a ys) : xs = ys := by
  obtain ⟨its, r, ⟨o, e, _, n, d⟩, _⟩ := I.tuple h
  obtain ⟨its', r', ⟨o', e', _, n', d'⟩, _⟩ := I.tuple h'
  rw [e] at e'; cases e'
  rw [d] at d'
  injection d' with d1 _
  have : its = its' := by simpa using congrArg Array.toList d1
  subst this
  exact r.inj r'
end
abbrev Cx.wish (X : Cx) (E : Value → Shared → Prop) : Cx := { X with xe := E }
abbrev Cx.nox (X : Cx) : Cx := X.wish fun _ _ => False
theorem Cx.Ok.wish {X : Cx} (ok : X.Ok) (E : Value → Shared → Prop) : (X.wish E).Ok :=
  ⟨ok.mod, ok.kind, ok.glob, ok.blt, ok.above, ok.inj, ok.has, ok.cab, ok.hd, ok.frames, ok.stk, ok.exf, ok.bs, ok.bsz, ok.noex, ok.exfs, ok.funs, ok.frf⟩
theorem Cx.Ok.unwish {X : Cx} {E : Value → Shared → Prop} (ok : (X.wish E).Ok) : X.Ok :=
  ⟨ok.mod, ok.kind, ok.glob, ok.blt, ok.above, ok.inj, ok.has, ok.cab, ok.hd, ok.frames, ok.stk, ok.exf, ok.bs, ok.bsz, ok.noex, ok.exfs, ok.funs, ok.frf⟩
section
variable {X : Cx} {pins : List (Addr × Obj)} {σ : St} {H : Hp} {s : Shared} {E : Value → Shared → Prop}
theorem Inv.wish (I : Inv X pins σ H s) (E : Value → Shared → Prop) : Inv (X.wish E) pins σ H s := ⟨I.ok.wish E, I.os, I.bare, I.base, I.loc, I.cell, I.free, I.freeC, I.pin, I.hok, I.len⟩
theorem Inv.unwish (I : Inv (X.wish E) pins σ H s) : Inv X pins σ H s := ⟨I.ok.unwish, I.os, I.bare, I.base, I.loc, I.cell, I.free, I.freeC, I.pin, I.hok, I.len⟩
theorem SP.unwish {D : Ends} {f : Flow} {s' : Shared} (h : SP (X.wish E) pins D f s') : SP X pins D f s' := by
  cases f with
  | next => obtain ⟨σ', H', I, q⟩ := h; exact ⟨σ', H', I.unwish, q⟩
  | brk => obtain ⟨σ', H', I, q⟩ := h; exact ⟨σ', H', I.unwish, q⟩
  | cont => obtain ⟨σ', H', I, q⟩ := h; exact ⟨σ', H', I.unwish, q⟩
  | ret u => obtain ⟨v, σ', H', I, r, q⟩ := h; exact ⟨v, σ', H', I.unwish, r, q⟩
theorem PE.nox {e : Expr} {t : TE} (h : PE X.nox e t) : PE X e t := fun pins s σ H Q I hw =>
  wpAny_mono (h pins s σ H Q (I.wish _) hw) (fun _ _ ⟨v, H', I', r, q⟩ => ⟨v, H', I'.unwish, r, q⟩) fun _ _ z => False.elim z
theorem PT.nox {e : Expr} {t : TT} (h : PT X.nox e t) : PT X e t := fun pins s σ H Q I hw =>
  wpAny_mono (h pins s σ H Q (I.wish _) hw) (fun _ _ ⟨H', I', q⟩ => ⟨H', I'.unwish, q⟩) fun _ _ z => False.elim z
theorem PSs.nox {st : List Stmt} {t : TS} (h : PSs X.nox st t) : PSs X st t := fun pins s σ H D I hw =>
  wpAny_mono (h pins s σ H D (I.wish _) hw) (fun _ _ q => q.unwish) fun _ _ z => False.elim z
end
section
variable {X : Cx} {st : Stmt} {rest : List Stmt} {t u : TS} {e : Expr} {te : TE} {pos : Pos}
def tNext : TS := fun D σ H => D.nx σ H
def tSeq (t u : TS) : TS := fun D σ H => t { D with nx := u D } σ H
theorem pss_nil : PSs X [] tNext := fun _ _ σ H _ I h => wpAny_execs_nil ⟨σ, H, I, h⟩
theorem pss_cons (h1 : PS X st t) (h2 : PSs X rest u) : PSs X (st :: rest) (tSeq t u) := by
  intro pins s σ H D I h
  refine wpAny_execs_cons (thn (h1 pins s σ H { D with nx := u D } I h) fun f s1 q => ?_)
  cases f with
  | next =>
    obtain ⟨σ', H', I', q⟩ := q
    exact h2 pins s1 σ' H' D I' q
  | ret v => exact q
  | brk => exact q
  | cont => exact q
theorem pss_one (h1 : PS X st t) : PSs X [st] t := by
  intro pins s σ H D I h
  refine wpAny_execs_cons (thn (h1 pins s σ H D I h) fun f s1 q => ?_)
  cases f with
  | next => exact wpAny_execs_nil q
  | ret v => exact q
  | brk => exact q
  | cont => exact q
theorem Inv.quiet {pins : List (Addr × Obj)} {σ : St} {H : Hp} {s : Shared} (I : Inv X pins σ H s) : interactive X.env = false := by simp [interactive, I.ok.kind]
def tDrop (te : TE) : TS := fun D σ H => te σ H fun _ H1 => D.nx σ H1
theorem ps_expr (he : PE X e te) (hs : swapsWith e none pos.line X.env = pure false := by rfl) : PS X (.Expr e pos) (tDrop te) := by
  intro pins s σ H D I h
  exact wpAny_Expr_any (thn (he pins s σ H _ I h) fun v s1 ⟨x, H1, I1, r1, q1⟩ => ⟨σ, H1, I1, q1⟩) I.quiet hs
def tRet (te : TE) : TS := fun D σ H => te σ H D.rt
theorem ps_ret (he : PE X e te) : PS X (.Return (some e) pos) (tRet te) := by
  intro pins s σ H D I h
  exact wpAny_Return_some (thn (he pins s σ H _ I h) fun v s1 ⟨x, H1, I1, r1, q1⟩ => ⟨x, σ, H1, I1, r1, q1⟩)
def tIfS (c : TT) (t u : TS) : TS := fun D σ H => c σ H fun b H1 => if b = true then t D σ H1 else u D σ H1
theorem ps_if {c : Expr} {a b : List Stmt} {tc : TT} (hc : PT X c tc) (ha : PSs X a t) (hb : PSs X b u) : PS X (.If c a b pos) (tIfS tc t u) := by
  intro pins s σ H D I h
  refine wpAny_If (thn (hc pins s σ H _ I h) fun d s1 ⟨H1, I1, q1⟩ => ?_)
  cases d with
  | true => exact ha pins s1 σ H1 D I1 q1
  | false => exact hb pins s1 σ H1 D I1 q1
end
abbrev TG := V → St → Hp → (St → Hp → Prop) → Prop
abbrev TGs := List V → St → Hp → (St → Hp → Prop) → Prop
def PG (X : Cx) (target : Expr) (t : TG) : Prop :=
  ∀ (pins : List (Addr × Obj)) (s : Shared) (σ : St) (H : Hp) (v : V) (u : Value) (Q : St → Hp → Prop), Inv X pins σ H s → RelV v u → t v σ H Q →
    wpAny (model X.prog X.w) X.A (assign target X.env u) (fun _ s' => ∃ σ' H', Inv X pins σ' H' s' ∧ Q σ' H') X.xe s
def PGs (X : Cx) (ts : List Expr) (t : TGs) : Prop :=
  ∀ (pins : List (Addr × Obj)) (s : Shared) (σ : St) (H : Hp) (vs : List V) (us : List Value) (Q : St → Hp → Prop), Inv X pins σ H s → Vals vs us → t vs σ H Q →
    wpAny (model X.prog X.w) X.A (assignInOrder ((assignEach ts X.env).map (·.2)) us) (fun _ s' => ∃ σ' H', Inv X pins σ' H' s' ∧ Q σ' H') X.xe s
abbrev TSet := V → V → V → Hp → (Hp → Prop) → Prop
section
variable {X : Cx} {pos : Pos}
def gName (i : Nat) : TG := fun v σ H Q => Q (σ.set i (some v)) H
theorem pg_name {i : Nat} {x : Str} (hN : X.N.Nodup) (hi : X.N[i]? = some x) (hx : Loc X.env.scope x) (hf : X.fn x = true ∨ X.env.scope.names.lookup x = some .local := by first | exact .inl rfl | exact .inr rfl | assumption) : PG X (.Name x pos) (gName i) := by
  intro pins s σ H v u Q I r h
  exact wpAny_assign_Name (store_ok I hN hi hx r (fun s' I' => ⟨_, H, I', h⟩) hf)
def gNil : TGs := fun vs σ H Q => vs = [] ∧ Q σ H
def gCons (t : TG) (u : TGs) : TGs := fun vs σ H Q => ∃ v r, vs = v :: r ∧ t v σ H fun σ' H' => u r σ' H' Q
theorem pgs_nil : PGs X [] gNil := by
  intro pins s σ H vs us Q I r h
  obtain ⟨e, h⟩ := h
  subst e
  cases r
  exact assignInOrder_nil ⟨σ, H, I, h⟩
theorem pgs_cons {e : Expr} {es : List Expr} {t : TG} {u : TGs} (h1 : PG X e t) (h2 : PGs X es u)
    (hs : (assignEach (e :: es) X.env).map (·.2) = assign e X.env :: (assignEach es X.env).map (·.2) := by rfl) : PGs X (e :: es) (gCons t u) := by
  intro pins s σ H vs us Q I r h
  obtain ⟨v, vr, e1, h⟩ := h
  subst e1
  cases r with
  | cons r rr =>
    rw [hs]
    refine assignInOrder_cons (thn (h1 pins s σ H _ _ _ I r h) fun _ s1 ⟨σ1, H1, I1, q1⟩ => ?_)
    exact h2 pins s1 σ1 H1 _ _ Q I1 rr q1
def gTup (K : PySem.W.Frag) (n : Nat) (t : TGs) : TG := fun v σ H Q => ∃ a xs, v = .ref a ∧ SqT K H a xs ∧ xs.length = n ∧ t xs σ H Q
theorem pg_tup {es : List Expr} {k : Nat} {t : TGs} {n : Nat} (hc : X.calm = true) (h : PGs X es t)
    (hn : (assignEach es X.env).length = n := by rfl) (hst : (assignEach es X.env).findIdx? (·.1) = none := by rfl) : PG X (.Tuple es k pos) (gTup X.K n t) := by
  intro pins s σ H v u Q I r hw
  obtain ⟨a, xs, e1, hq, hl, hw⟩ := hw
  subst e1
  cases r
  obtain ⟨its, rv, ht, hz⟩ := I.tuple hq
  refine assign_Tuple_tuple (I.ok.hd hc) ht (by simp [hn, ← hl, rv.length]) hst fun h' hx => ?_
  have I1 : Inv X pins σ H { s with heap := h' } := I.kept (t' := s.toks) fun b o e => hx b o (Nat.ne_of_lt (Heap.lt_size e)) e
  exact h pins _ σ H xs _ Q I1 (by simpa using rv) hw
def gSub (to ti : TE) (t : TSet) : TG := fun v σ H Q => to σ H fun o H1 => ti σ H1 fun i H2 => t o i v H2 fun H3 => Q σ H3
def tAsg (te : TE) (g : TG) : TS := fun D σ H => te σ H fun x H1 => g x σ H1 D.nx
theorem ps_set {i : Nat} {x : Str} {e : Expr} {te : TE} {pos' : Pos} (hN : X.N.Nodup) (hi : X.N[i]? = some x) (hx : Loc X.env.scope x) (he : PE X e te) (hs : swapsWith e (some (.Name x pos')) pos.line X.env = pure false := by rfl) (hf : X.fn x = true ∨ X.env.scope.names.lookup x = some .local := by first | exact .inl rfl | exact .inr rfl | assumption) :
    PS X (.Assign [.Name x pos'] e pos) (tAsg te (gName i)) := by
  intro pins s σ H D I h
  refine wpAny_Assign_Name (thn (he pins s σ H _ I h) fun v s1 ⟨y, H1, I1, r1, q1⟩ => ?_) hs
  exact store_ok I1 hN hi hx r1 (fun s2 I2 => ⟨_, H1, I2, q1⟩) hf
end
section
variable {X : Cx} {pos : Pos}
end
structure It where
  go : Nat → Hp → Prop
  yld : Nat → Hp → V → Hp → Prop
  stop : Nat → Hp → Prop
def FpOk (X : Cx) (pins : List (Addr × Obj)) (H : Hp) (b : Addr) : Prop :=
  H b = none ∧ b ≠ X.env.locals ∧ b ∉ X.fs ∧ (b ∈ X.ex ∨ X.s₀.heap.objs.size ≤ b) ∧ (∀ x c, X.env.cells.lookup x = some c → c ≠ b) ∧ ∀ p ∈ X.pn ++ pins, p.1 ≠ b
theorem Inv.fpOk {X : Cx} {pins : List (Addr × Obj)} {σ : St} {H H' : Hp} {s : Shared} {b : Addr} (I : Inv X pins σ H s) (hb : s.heap.objs.size ≤ b) (hn : H' b = none) : FpOk X pins H' b := by
  refine ⟨hn, Nat.ne_of_gt (Nat.lt_of_lt_of_le I.lt hb), I.nofs hb, .inr (Nat.le_trans I.sz hb), fun x c e z => ?_, fun p hp z => ?_⟩
  · obtain ⟨v, q⟩ := I.cell x c e
    exact absurd (Nat.lt_of_lt_of_le q.lt (by rw [z]; exact hb)) (Nat.lt_irrefl _)
  · exact absurd (Nat.lt_of_lt_of_le (Heap.lt_size (I.pin p hp).1) (by rw [z]; exact hb)) (Nat.lt_irrefl _)
structure Turn (P : Program) (w : World) (K : PySem.W.Frag) (tg : Expr) (J : It) (fp : List Addr) (it : Addr) (tn : Nat → Heap → Prop) : Prop where
  mem : it ∈ fp
  obj : ∀ i h, tn i h → ∀ b ∈ fp, ∃ o, h.get? b = some o ∧ ∀ v, o.data ≠ .cell v
  keep : ∀ i h h', tn i h → (∀ b ∈ fp, ∀ o, h.get? b = some o → h'.get? b = some o) → tn i h'
  item : ∀ (X : Cx), X.prog = P → X.w = w → X.K = K → X.calm = true → ∀ (i : Nat) (pins : List (Addr × Obj)) (s : Shared) (σ : St) (H : Hp) (E : Value → Shared → Prop), Inv X pins σ H s → (∀ b ∈ fp, FpOk X pins H b) → tn i s.heap → J.go i H →
    wpAny (model P w) X.A (pyNext (.ref it)) (fun r s1 => ∃ u, r = some u ∧
      wpAny (model P w) X.A (letOwnedTupleGo tg (.ref it) u) (fun _ s2 => ∃ x H', Inv X pins σ H' s2 ∧ RelV x u ∧ J.yld i H x H' ∧ tn (i + 1) s2.heap ∧ ∀ b ∈ fp, H' b = none) E s1) E s
  done : ∀ (X : Cx), X.prog = P → X.w = w → X.K = K → X.calm = true → ∀ (i : Nat) (pins : List (Addr × Obj)) (s : Shared) (σ : St) (H : Hp) (E : Value → Shared → Prop), Inv X pins σ H s → (∀ b ∈ fp, FpOk X pins H b) → tn i s.heap → J.stop i H →
    wpAny (model P w) X.A (pyNext (.ref it)) (fun r s1 => r = none ∧ Inv X pins σ H s1) E s
  self : ∀ (A : Around) (i : Nat) (s : Shared) (Q : Value → Shared → Prop) (E : Value → Shared → Prop), tn i s.heap → Q (.ref it) s → wpAny (model P w) A (pyIter (.ref it)) Q E s
abbrev TI := St → Hp → (It → Hp → Prop) → Prop
def PIE (X : Cx) (pins : List (Addr × Obj)) (σ : St) (tg : Expr) (R : It → Hp → Prop) (itv : Value) (s2 : Shared) : Prop :=
  ∃ (it : Addr) (fp : List Addr) (tn : Nat → Heap → Prop) (J : It) (H' : Hp), itv = .ref it ∧ Inv X pins σ H' s2 ∧ Turn X.prog X.w X.K tg J fp it tn ∧ tn 0 s2.heap ∧ (∀ b ∈ fp, FpOk X pins H' b) ∧ R J H'
def PI (X : Cx) (tg iter : Expr) (wi : TI) : Prop :=
  ∀ (pins : List (Addr × Obj)) (s : Shared) (σ : St) (H : Hp) (R : It → Hp → Prop), Inv X pins σ H s → wi σ H R →
    wpAny (model X.prog X.w) X.A (eval iter X.env) (fun v s1 => wpAny (model X.prog X.w) X.A (pyIter v) (PIE X pins σ tg R) X.xe s1) X.xe s
theorem go_of {M : Model} {A : Around} {E : Value → Shared → Prop} {s : Shared} {tg : Expr} {it : Addr} {u : Value} {o : Obj} {n : String} {vs : Array Value} {Q : Unit → Shared → Prop} (ho : s.heap.get? it = some o) (hc : o.cls = .type n) (hd : o.data = .fields vs)
    (hn : ["enumerate", "zip", "dict_itemiterator", "dict_reverseitemiterator", "odict_iterator", "itertools.zip_longest", "itertools.pairwise"].contains n = false) (hQ : Q () s) : wpAny M A (letOwnedTupleGo tg (.ref it) u) Q E s := by
  unfold letOwnedTupleGo
  cases tg <;> first
    | exact wpAny_pure hQ
    | (cases u <;> first
        | exact wpAny_pure hQ
        | (refine wpAny_bind (wpAny_load ho ?_)
           rw [hc, hd]
           show wpAny M A (if (["enumerate", "zip", "dict_itemiterator", "dict_reverseitemiterator", "odict_iterator", "itertools.zip_longest", "itertools.pairwise"].contains n && vs[0]? == some (rawInt _)) = true then _ else _) Q E s
           rw [if_neg (by intro h; rw [hn, Bool.false_and] at h; cases h)]
           exact wpAny_pure hQ))
def Itl (K : PySem.W.Frag) (a : Addr) : It :=
  ⟨fun i H => ∃ xs x, SqL K H a xs ∧ xs[i]? = some x, fun i H x H' => H' = H ∧ ∀ xs, SqL K H a xs → xs[i]? = some x, fun i H => ∃ xs, SqL K H a xs ∧ xs.length ≤ i⟩
def Itt (K : PySem.W.Frag) (a : Addr) : It :=
  ⟨fun i H => ∃ xs x, SqT K H a xs ∧ xs[i]? = some x, fun i H x H' => H' = H ∧ ∀ xs, SqT K H a xs → xs[i]? = some x, fun i H => ∃ xs, SqT K H a xs ∧ xs.length ≤ i⟩
def Itr (lo : Int) (n : Nat) : It := ⟨fun i _ => i < n, fun i H x H' => H' = H ∧ x = .int (lo + i), fun i _ => n ≤ i⟩
theorem turn_list {P : Program} {w : World} {K : PySem.W.Frag} {tg : Expr} (a it : Addr) : Turn P w K tg (Itl K a) [it] it (fun i h => h.IsListIter it a i) where
  mem := by simp
  obj := fun i h st b hb => by
    have e : b = it := by simpa using hb
    subst e
    obtain ⟨o, e, c, d⟩ := st
    exact ⟨o, e, fun v z => by rw [d] at z; cases z⟩
  keep := fun i h h' st k => st.at fun o e => k it (by simp) o e
  item := by
    intro X hP hw hK hc i pins s σ H E I hf st hg
    subst hP hw hK
    obtain ⟨xs, x, hq, hx⟩ := hg
    obtain ⟨its, rv, p, hz⟩ := I.list hq
    obtain ⟨u, hu, ru⟩ := rv.get hx
    obtain ⟨f0, f1, f2, f3, f4, f5⟩ := hf it (by simp)
    refine wpAny_pyNext_list_item st p.isList (x := u) (by simpa using hu) fun h' st' sb => ?_
    have I1 : Inv X pins σ H { s with heap := h' } := I.turned (t' := s.toks) (fun b o hb e => (sb.2 b hb).trans e) f0 f1 f3 f4 f5
    obtain ⟨o, e, c, d⟩ := id st'
    exact ⟨u, rfl, go_of (s := { s with heap := h' }) e c d (by decide) ⟨x, H, I1, ru, ⟨rfl, fun ys hy => by rw [I.list_inj hy hq]; exact hx⟩, st', fun b hb => (hf b hb).1⟩⟩
  done := by
    intro X hP hw hK hc i pins s σ H E I hf st hg
    subst hP hw hK
    obtain ⟨xs, hq, hx⟩ := hg
    obtain ⟨its, rv, p, hz⟩ := I.list hq
    obtain ⟨f0, f1, f2, f3, f4, f5⟩ := hf it (by simp)
    have hl := rv.length
    exact wpAny_pyNext_list_end (I.ok.hd hc) st p.isList (by simp; omega) fun h' eb => ⟨rfl, I.turned (t' := s.toks) (fun b o hb e => eb b o hb e) f0 f1 f3 f4 f5⟩
  self := fun _ _ _ _ _ st h => wpAny_pyIter_listiter st h
theorem turn_tuple {P : Program} {w : World} {K : PySem.W.Frag} {tg : Expr} (a it : Addr) : Turn P w K tg (Itt K a) [it] it (fun i h => h.IsTupleIter it a i) where
  mem := by simp
  obj := fun i h st b hb => by
    have e : b = it := by simpa using hb
    subst e
    obtain ⟨o, e, c, d⟩ := st
    exact ⟨o, e, fun v z => by rw [d] at z; cases z⟩
  keep := fun i h h' st k => st.at fun o e => k it (by simp) o e
  item := by
    intro X hP hw hK hc i pins s σ H E I hf st hg
    subst hP hw hK
    obtain ⟨xs, x, hq, hx⟩ := hg
    obtain ⟨its, rv, p, hz⟩ := I.tuple hq
    obtain ⟨u, hu, ru⟩ := rv.get hx
    obtain ⟨f0, f1, f2, f3, f4, f5⟩ := hf it (by simp)
    refine wpAny_pyNext_tuple_item st (show s.heap.IsTuple a its.toArray from p) (x := u) (by simpa using hu) fun h' st' sb => ?_
    have I1 : Inv X pins σ H { s with heap := h' } := I.turned (t' := s.toks) (fun b o hb e => (sb.2 b hb).trans e) f0 f1 f3 f4 f5
    obtain ⟨o, e, c, d⟩ := id st'
    exact ⟨u, rfl, go_of (s := { s with heap := h' }) e c d (by decide) ⟨x, H, I1, ru, ⟨rfl, fun ys hy => by rw [I.tuple_inj hy hq]; exact hx⟩, st', fun b hb => (hf b hb).1⟩⟩
  done := by
    intro X hP hw hK hc i pins s σ H E I hf st hg
    subst hP hw hK
    obtain ⟨xs, hq, hx⟩ := hg
    obtain ⟨its, rv, p, hz⟩ := I.tuple hq
    obtain ⟨f0, f1, f2, f3, f4, f5⟩ := hf it (by simp)
    have hl := rv.length
    exact wpAny_pyNext_tuple_end (I.ok.hd hc) st (show s.heap.IsTuple a its.toArray from p) (by simp; omega) fun h' eb => ⟨rfl, I.turned (t' := s.toks) (fun b o hb e => eb b o hb e) f0 f1 f3 f4 f5⟩
  self := fun _ _ _ _ _ st h => wpAny_pyIter_tupleiter st h
theorem turn_range {P : Program} {w : World} {K : PySem.W.Frag} {tg : Expr} (it : Addr) (lo : Int) (n : Nat) : Turn P w K tg (Itr lo n) [it] it (fun i h => IsRangeIter h it (lo + (i : Nat) * 1) ((n : Int) - (i : Nat)) 1) where
  mem := by simp
  obj := fun i h st b hb => by
    have e : b = it := by simpa using hb
    subst e
    exact ⟨_, st, fun v z => by
      have z' : Data.fields _ = Data.cell v := z
      cases z'⟩
  keep := fun i h h' st k => k it (by simp) _ st
  item := by
    intro X hP hw hK hc i pins s σ H E I hf st hg
    subst hP hw hK
    obtain ⟨f0, f1, f2, f3, f4, f5⟩ := hf it (by simp)
    have W := Walks.range (prog := X.prog) (w := X.w) (I.ok.hd hc) it lo 1 n
    refine W.item i s _ _ hg st fun v h' tk hv st' kk => ?_
    obtain ⟨t, rfl⟩ := hv
    have I1 : Inv X pins σ H { s with heap := h', toks := tk } := I.turned (fun b o hb e => kk b o (by simpa using hb) e) f0 f1 f3 f4 f5
    refine ⟨_, rfl, go_of (s := { s with heap := h', toks := tk }) (n := "range_iterator") st' rfl rfl (by decide) ⟨.int (lo + i), H, I1, ⟨t, ?_⟩, ⟨rfl, rfl⟩, st', fun b hb => (hf b hb).1⟩⟩
    rw [Int.mul_one]
  done := by
    intro X hP hw hK hc i pins s σ H E I hf st hg
    subst hP hw hK
    obtain ⟨f0, f1, f2, f3, f4, f5⟩ := hf it (by simp)
    exact wpAny_pyNext_range_end (I.ok.hd hc) st (by have : n ≤ i := hg; omega) fun h' eb => ⟨rfl, I.turned (t' := s.toks) (fun b o hb e => eb b o hb e) f0 f1 f3 f4 f5⟩
  self := fun _ _ _ _ _ st h => wpAny_pyIter_rangeiter st h
end L2
namespace L2
open PySem PySem.Spec PyProof.Rows
section
variable {X : Cx} {tg : Expr}
def iList (K : PySem.W.Frag) (tl : TE) : TI := fun σ H R => tl σ H fun x H1 => ∃ a, x = .ref a ∧ (∃ xs, SqL K H1 a xs) ∧ R (Itl K a) H1
def iTup (K : PySem.W.Frag) (tl : TE) : TI := fun σ H R => tl σ H fun x H1 => ∃ a, x = .ref a ∧ (∃ xs, SqT K H1 a xs) ∧ R (Itt K a) H1
theorem pi_list {l : Expr} {tl : TE} (hl : PE X l tl) : PI X tg l (iList X.K tl) := by
  intro pins s σ H R I h
  refine thn (hl pins s σ H _ I h) fun v s1 ⟨x, H1, I1, r1, q1⟩ => ?_
  obtain ⟨a, e, ⟨xs, hq⟩, q⟩ := q1
  subst e
  cases r1
  obtain ⟨its, rv, p, hz⟩ := I1.list hq
  refine wpAny_pyIter_list p.isList ?_
  refine ⟨s1.heap.objs.size, [s1.heap.objs.size], _, _, H1, rfl, I1.kept (t' := s1.toks) fun b o e => Heap.get?_push_of_some _ e, turn_list a _, ⟨_, Heap.get?_push_size _ rfl, rfl, rfl⟩, fun b hb => ?_, q⟩
  have e : b = s1.heap.objs.size := by simpa using hb
  subst e
  exact I1.fpOk (Nat.le_refl _) (I1.hok.fresh (Nat.le_refl _))
theorem pi_tup {l : Expr} {tl : TE} (hl : PE X l tl) : PI X tg l (iTup X.K tl) := by
  intro pins s σ H R I h
  refine thn (hl pins s σ H _ I h) fun v s1 ⟨x, H1, I1, r1, q1⟩ => ?_
  obtain ⟨a, e, ⟨xs, hq⟩, q⟩ := q1
  subst e
  cases r1
  obtain ⟨its, rv, p, hz⟩ := I1.tuple hq
  refine wpAny_pyIter_tuple (show s1.heap.IsTuple a its.toArray from p) ?_
  refine ⟨s1.heap.objs.size, [s1.heap.objs.size], _, _, H1, rfl, I1.kept (t' := s1.toks) fun b o e => Heap.get?_push_of_some _ e, turn_tuple a _, ⟨_, Heap.get?_push_size _ rfl, rfl, rfl⟩, fun b hb => ?_, q⟩
  have e : b = s1.heap.objs.size := by simpa using hb
  subst e
  exact I1.fpOk (Nat.le_refl _) (I1.hok.fresh (Nat.le_refl _))
theorem range_it {pins : List (Addr × Obj)} {σ : St} {H : Hp} {s : Shared} {R : It → Hp → Prop} {E : Value → Shared → Prop} {lo hi : Int} {t u v : Tok} {tk : Nat} (I : Inv X pins σ H s) (h1 : -(2 ^ 62) ≤ lo) (h2 : lo < 2 ^ 62) (h3 : -(2 ^ 62) ≤ hi) (h4 : hi < 2 ^ 62)
    (q : R (Itr lo (hi - lo).toNat) H) : wpAny (model X.prog X.w) X.A (pyIter (.ref s.heap.objs.size)) (PIE X pins σ tg R) E { s with heap := s.heap.push { cls := .type "range", data := .fields #[.int lo t, .int hi u, .int 1 v] }, toks := tk } := by
  refine wpAny_pyIter_range (IsRange.new ..) (small_one h1 h2 h3 h4) ?_
  have I1 : Inv X pins σ H { s with heap := s.heap.push { cls := .type "range", data := .fields #[.int lo t, .int hi u, .int 1 v] }, toks := tk } := I.kept fun b o e => Heap.get?_push_of_some _ e
  refine ⟨(s.heap.push { cls := .type "range", data := .fields #[.int lo t, .int hi u, .int 1 v] }).objs.size, [(s.heap.push { cls := .type "range", data := .fields #[.int lo t, .int hi u, .int 1 v] }).objs.size], _, _, H, rfl,
    I1.kept (t' := tk) fun b o e => Heap.get?_push_of_some _ e, turn_range _ lo (hi - lo).toNat, ?_, fun b hb => ?_, q⟩
  · have e1 : lo + ((0 : Nat) : Int) * 1 = lo := by simp
    have e2 : (((hi - lo).toNat : Nat) : Int) - ((0 : Nat) : Int) = Builtin.Range.rangeSize lo hi 1 := by rw [rangeSize_one]; split <;> omega
    show IsRangeIter _ _ (lo + ((0 : Nat) : Int) * 1) ((((hi - lo).toNat : Nat) : Int) - ((0 : Nat) : Int)) 1
    rw [e1, e2]
    exact Heap.get?_push_size _ rfl
  · have e : b = (s.heap.push { cls := .type "range", data := .fields #[.int lo t, .int hi u, .int 1 v] }).objs.size := by simpa using hb
    subst e
    exact I1.fpOk (Nat.le_refl _) (I1.hok.fresh (Nat.le_refl _))
def iRng1 (ta : TA) : TI := fun σ H R => ta σ H fun vs H1 => ∃ j : Int, vs = [.int j] ∧ -(2 ^ 62) ≤ j ∧ j < 2 ^ 62 ∧ R (Itr 0 j.toNat) H1
def iRng2 (ta : TA) : TI := fun σ H R => ta σ H fun vs H1 => ∃ i j : Int, vs = [.int i, .int j] ∧ (-(2 ^ 62) ≤ i ∧ i < 2 ^ 62 ∧ -(2 ^ 62) ≤ j ∧ j < 2 ^ 62) ∧ R (Itr i (j - i).toNat) H1
theorem pi_range1 {a : Expr} {ta : TA} {p pos : Pos} (hg : Gl X "range") (hm : X.mg "range" = none) (ha : PA X [a] ta) (hs : starEach [a] X.env = [(false, eval a X.env)] := by rfl) : PI X tg (.Call (.Name "range" p) [a] [] pos) (iRng1 ta) := by
  intro pins s σ H R I h
  refine Call_ (ld_blt I hg hm boot_range (PyProof.Rows.callWith_type1 (thn (ha pos pins s σ H _ I h) fun us s1 ⟨vs, H1, I1, r1, q1⟩ => ?_) hs rfl))
  obtain ⟨j, e, q1, q2, q⟩ := q1
  subst e
  cases r1 with
  | cons r rr =>
    cases rr
    obtain ⟨t, rfl⟩ := r
    exact call_range_1 (range_it I1 (by omega) (by omega) q1 q2 (by simpa using q))
def tFor (wi : TI) (g : TG) (tb : TS) : TS := fun D σ H => wi σ H fun J H1 => ∃ W : Nat → Nat → St → Hp → Prop, (∃ m, W 0 m σ H1) ∧ ∀ i m σ H, W i m σ H →
  (J.stop i H ∧ D.nx σ H) ∨ (J.go i H ∧ ∃ N : St → Hp → Prop, (∀ σ' H', N σ' H' → ∃ m', m' < m ∧ W (i + 1) m' σ' H') ∧ ∀ x H', J.yld i H x H' → g x σ H' fun σ2 H2 => tb { D with nx := N, ct := N, bk := D.nx } σ2 H2)
def pinsAt (fp : List Addr) (h : Heap) : List (Addr × Obj) := fp.filterMap fun b => (h.get? b).map fun o => (b, o)
theorem mem_pinsAt {fp : List Addr} {h : Heap} {b : Addr} {o : Obj} (hb : b ∈ fp) (e : h.get? b = some o) : (b, o) ∈ pinsAt fp h := List.mem_filterMap.mpr ⟨b, hb, by rw [e]; rfl⟩
theorem of_pinsAt {fp : List Addr} {h : Heap} {p : Addr × Obj} (hp : p ∈ pinsAt fp h) : p.1 ∈ fp ∧ h.get? p.1 = some p.2 := by
  obtain ⟨b, hb, e⟩ := List.mem_filterMap.mp hp
  cases q : h.get? b with
  | none => rw [q] at e; cases e
  | some o =>
    rw [q] at e
    have e' : (b, o) = p := Option.some.inj e
    subst e'
    exact ⟨hb, q⟩
theorem Inv.pinned {pins : List (Addr × Obj)} {σ : St} {H : Hp} {s : Shared} {fp : List Addr} (I : Inv X pins σ H s) (hf : ∀ b ∈ fp, FpOk X pins H b) (ho : ∀ b ∈ fp, ∃ o, s.heap.get? b = some o ∧ ∀ v, o.data ≠ .cell v) : Inv X (pins ++ pinsAt fp s.heap) σ H s :=
  I.pins_of fun p hp => (List.mem_append.mp hp).elim (fun z => I.pin p (List.mem_append_right _ z)) fun z => by
    obtain ⟨hb, e⟩ := of_pinsAt z
    obtain ⟨f0, f1, f2, _⟩ := hf p.1 hb
    obtain ⟨o, e', d⟩ := ho p.1 hb
    rw [e] at e'; cases e'
    exact ⟨e, f0, f1, f2, d⟩
theorem Inv.unpinned {pins pl : List (Addr × Obj)} {σ : St} {H : Hp} {s : Shared} (I : Inv X (pins ++ pl) σ H s) : Inv X pins σ H s := I.pins_of fun p hp => I.pin p (List.mem_append_right _ (List.mem_append_left _ hp))
theorem ps_for {iter : Expr} {body : List Stmt} {wi : TI} {g : TG} {tb : TS} {pos : Pos} (hp : PassesOwn (model X.prog X.w) X.A X.env X.xe) (hc : X.calm = true) (hi : PI X tg iter wi) (hg : PG X tg g) (hb : PSs X body tb)
    (hs : ∀ x, foldedSetIterable iter X.env x = pure x := by intro _; rfl) : PS X (.For tg iter body [] pos) (tFor wi g tb) := by
  intro pins s σ H D I h
  refine wpAny_For (thn (hi pins s σ H _ I h) fun v s1 h1 => thn h1 fun itv s2 h2 => ?_) hs
  obtain ⟨it, fp, tn, J, H2, e, I2, T, st2, f2, W, ⟨m0, w0⟩, turn⟩ := h2
  subst e
  have stat : ∀ {H' : Hp}, (∀ b ∈ fp, H' b = none) → ∀ b ∈ fp, FpOk X pins H' b := fun hn b hb => ⟨hn b hb, (f2 b hb).2⟩
  refine codeAny_forLoop_any (fun n s' => ∃ i σ' H', Inv X pins σ' H' s' ∧ tn i s'.heap ∧ (∀ b ∈ fp, H' b = none) ∧ W i n σ' H') ?_ m0 ⟨0, σ, H2, I2, st2, fun b hb => (f2 b hb).1, w0⟩
  rintro n s3 ⟨i, σ3, H3, I3, st3, fr3, w3⟩
  rcases turn i n σ3 H3 w3 with ⟨stop, qn⟩ | ⟨go, N, hN, step⟩
  · refine wpAny_passesOwn hp (thn (T.done X rfl rfl rfl hc i pins s3 σ3 H3 X.xe I3 (stat fr3) st3 stop) fun r s4 ⟨hr, I4⟩ => ?_)
    subst hr
    exact wpAny_execs_nil ⟨σ3, H3, I4, qn⟩
  · refine wpAny_passesOwn hp (thn (T.item X rfl rfl rfl hc i pins s3 σ3 H3 X.xe I3 (stat fr3) st3 go) fun r s4 ⟨u, hr, h4⟩ => ?_)
    subst hr
    refine wpAny_passesOwn hp (thn h4 fun _ s5 ⟨x, H5, I5, r5, y5, st5, fr5⟩ => ?_)
    have I5' := I5.pinned (stat fr5) (T.obj _ _ st5)
    refine wpAny_passesOwn hp (thn (hg _ s5 σ3 H5 x u _ I5' r5 (step x H5 y5)) fun _ s6 ⟨σ6, H6, I6, q6⟩ => ?_)
    refine wpAny_passesOwn hp (thn (hb _ s6 σ6 H6 _ I6 q6) fun f s7 q7 => ?_)
    have again : ∀ {σ7 : St} {H7 : Hp}, Inv X (pins ++ pinsAt fp s5.heap) σ7 H7 s7 → N σ7 H7 → ∃ m, m < n ∧ ∃ i σ' H', Inv X pins σ' H' s7 ∧ tn i s7.heap ∧ (∀ b ∈ fp, H' b = none) ∧ W i m σ' H' := fun {σ7 H7} I7 n7 => by
      obtain ⟨m', hm, w7⟩ := hN σ7 H7 n7
      refine ⟨m', hm, i + 1, σ7, H7, I7.unpinned, T.keep _ _ _ st5 fun b hb o e => (I7.pin (b, o) (List.mem_append_right _ (List.mem_append_right _ (mem_pinsAt hb e)))).1, fun b hb => ?_, w7⟩
      obtain ⟨o, e, d⟩ := T.obj _ _ st5 b hb
      exact (I7.pin (b, o) (List.mem_append_right _ (List.mem_append_right _ (mem_pinsAt hb e)))).2.1
    cases f with
    | next => obtain ⟨σ7, H7, I7, n7⟩ := q7; exact again I7 n7
    | cont => obtain ⟨σ7, H7, I7, n7⟩ := q7; exact again I7 n7
    | brk => obtain ⟨σ7, H7, I7, q7⟩ := q7; exact ⟨σ7, H7, I7.unpinned, q7⟩
    | ret v => obtain ⟨x7, σ7, H7, I7, r7, q7⟩ := q7; exact ⟨x7, σ7, H7, I7.unpinned, r7, q7⟩
end
theorem for_list {K : PySem.W.Frag} {a : Addr} {xs : List V} {g : TG} {tb : TS} {D : Ends} {σ : St} {H : Hp} (Pv : Nat → St → Hp → Prop) (h0 : Pv 0 σ H) (hl : ∀ i σ H, i ≤ xs.length → Pv i σ H → SqL K H a xs)
    (hs : ∀ i x σ H, xs[i]? = some x → Pv i σ H → g x σ H fun σ2 H2 => tb { D with nx := Pv (i + 1), ct := Pv (i + 1), bk := D.nx } σ2 H2) (hd : ∀ σ H, Pv xs.length σ H → D.nx σ H) :
    ∃ W : Nat → Nat → St → Hp → Prop, (∃ m, W 0 m σ H) ∧ ∀ i m σ H, W i m σ H →
      ((Itl K a).stop i H ∧ D.nx σ H) ∨ ((Itl K a).go i H ∧ ∃ N : St → Hp → Prop, (∀ σ' H', N σ' H' → ∃ m', m' < m ∧ W (i + 1) m' σ' H') ∧ ∀ x H', (Itl K a).yld i H x H' → g x σ H' fun σ2 H2 => tb { D with nx := N, ct := N, bk := D.nx } σ2 H2) := by
  refine ⟨fun i m σ H => m = xs.length - i ∧ i ≤ xs.length ∧ Pv i σ H, ⟨xs.length, by simp, Nat.zero_le _, h0⟩, ?_⟩
  rintro i m σ H ⟨rfl, hi, p⟩
  have q := hl i σ H hi p
  by_cases hlt : i < xs.length
  · refine .inr ⟨⟨xs, xs[i], q, by simp [hlt]⟩, Pv (i + 1), fun σ' H' p' => ⟨xs.length - (i + 1), by omega, rfl, hlt, p'⟩, fun x H' y => ?_⟩
    obtain ⟨e, y⟩ := y
    subst e
    exact hs i x σ _ (y xs q) p
  · have e : i = xs.length := by omega
    subst e
    exact .inl ⟨⟨xs, q, Nat.le_refl _⟩, hd σ H p⟩
theorem for_range {lo : Int} {n : Nat} {g : TG} {tb : TS} {D : Ends} {σ : St} {H : Hp} (Pv : Nat → St → Hp → Prop) (h0 : Pv 0 σ H)
    (hs : ∀ i σ H, i < n → Pv i σ H → g (.int (lo + i)) σ H fun σ2 H2 => tb { D with nx := Pv (i + 1), ct := Pv (i + 1), bk := D.nx } σ2 H2) (hd : ∀ σ H, Pv n σ H → D.nx σ H) :
    ∃ W : Nat → Nat → St → Hp → Prop, (∃ m, W 0 m σ H) ∧ ∀ i m σ H, W i m σ H →
      ((Itr lo n).stop i H ∧ D.nx σ H) ∨ ((Itr lo n).go i H ∧ ∃ N : St → Hp → Prop, (∀ σ' H', N σ' H' → ∃ m', m' < m ∧ W (i + 1) m' σ' H') ∧ ∀ x H', (Itr lo n).yld i H x H' → g x σ H' fun σ2 H2 => tb { D with nx := N, ct := N, bk := D.nx } σ2 H2) := by
  refine ⟨fun i m σ H => m = n - i ∧ i ≤ n ∧ Pv i σ H, ⟨n, by simp, Nat.zero_le _, h0⟩, ?_⟩
  rintro i m σ H ⟨rfl, hi, p⟩
  by_cases hlt : i < n
  · refine .inr ⟨hlt, Pv (i + 1), fun σ' H' p' => ⟨n - (i + 1), by omega, rfl, hlt, p'⟩, fun x H' y => ?_⟩
    obtain ⟨e, y⟩ := y
    subst e y
    exact hs i σ _ hlt p
  · have e : i = n := by omega
    subst e
    exact .inl ⟨Nat.le_refl _, hd σ H p⟩
end L2
namespace L2
open PySem PySem.Spec PyProof.Rows
abbrev R2 := V → V → Hp → VK → Prop
def OpR (X : Cx) (f : Value → Value → Sem Value) (r : R2) : Prop :=
  ∀ (pins : List (Addr × Obj)) (s : Shared) (σ : St) (H : Hp) (x y : V) (v u : Value) (Q : VK), Inv X pins σ H s → RelV x v → RelV y u → r x y H Q →
    wpAny (model X.prog X.w) X.A (f v u) (EP X pins σ Q) X.xe s
def UnR (X : Cx) (f : Value → Sem Value) (r : V → Hp → VK → Prop) : Prop :=
  ∀ (pins : List (Addr × Obj)) (s : Shared) (σ : St) (H : Hp) (x : V) (v : Value) (Q : VK), Inv X pins σ H s → RelV x v → r x H Q →
    wpAny (model X.prog X.w) X.A (f v) (EP X pins σ Q) X.xe s
def CallR (X : Cx) (f : Value) (r : List V → Hp → VK → Prop) : Prop :=
  ∀ (pins : List (Addr × Obj)) (s : Shared) (σ : St) (H : Hp) (xs : List V) (us : List Value) (Q : VK), Inv X pins σ H s → Vals xs us → r xs H Q →
    wpAny (model X.prog X.w) X.A (call f us) (EP X pins σ Q) X.xe s
def tOp (r : R2) (ta tb : TE) : TE := fun σ H Q => ta σ H fun x H1 => tb σ H1 fun y H2 => r x y H2 Q
def tUn (r : V → Hp → VK → Prop) (ta : TE) : TE := fun σ H Q => ta σ H fun x H1 => r x H1 Q
def rI (C : Int → Int → Prop) (g : Int → Int → V) : R2 := fun x y H Q => ∃ i j, x = .int i ∧ y = .int j ∧ C i j ∧ Q (g i j) H
def rI0 (g : Int → Int → V) : R2 := fun x y H Q => ∃ i j, x = .int i ∧ y = .int j ∧ Q (g i j) H
def rU (g : Int → V) : V → Hp → VK → Prop := fun x H Q => ∃ i, x = .int i ∧ Q (g i) H
section
variable {X : Cx} {a b c : Expr} {ta tb tc : TE} {pos : Pos}
theorem binT (ha : PE X a ta) (hb : PE X b tb) {pins : List (Addr × Obj)} {s : Shared} {σ : St} {H : Hp} {R : V → V → Hp → Prop} (I : Inv X pins σ H s)
    (h : ta σ H fun x H1 => tb σ H1 fun y H2 => R x y H2) {Q : Value → Shared → Prop} {f : Value → Value → Sem Value}
    (hf : ∀ v u s2 x y H2, Inv X pins σ H2 s2 → RelV x v → RelV y u → R x y H2 → wpAny (model X.prog X.w) X.A (f v u) Q X.xe s2) :
    wpAny (model X.prog X.w) X.A (eval a X.env) (fun v s₁ => wpAny (model X.prog X.w) X.A (eval b X.env) (fun u s₂ => wpAny (model X.prog X.w) X.A (f v u) Q X.xe s₂) X.xe s₁) X.xe s := by
  refine thn (ha pins s σ H _ I h) fun v s1 ⟨x, H1, I1, r1, q1⟩ => ?_
  refine thn (hb pins s1 σ H1 _ I1 q1) fun u s2 ⟨y, H2, I2, r2, q2⟩ => ?_
  exact hf v u s2 x y H2 I2 r1 r2 q2
theorem pe_op {op : Operator} {r : R2} (ho : OpR X (binaryOp op) r) (ha : PE X a ta) (hb : PE X b tb) : PE X (.BinOp a op b pos) (tOp r ta tb) := by
  intro pins s σ H Q I h
  exact wpAny_BinOp (binT ha hb I h fun v u s2 x y H2 I2 rx ry q => ho pins s2 σ H2 x y v u Q I2 rx ry q)
theorem pe_un {op : UnaryOp} {r : V → Hp → VK → Prop} (ho : UnR X (unaryOp op) r) (ha : PE X a ta) : PE X (.UnaryOp op a pos) (tUn r ta) := by
  intro pins s σ H Q I h
  exact UnaryOp_ (thn (ha pins s σ H _ I h) fun v s1 ⟨x, H1, I1, r1, q1⟩ => ho pins s1 σ H1 x v Q I1 r1 q1)
theorem opI {f : Value → Value → Sem Value} {C : Int → Int → Prop} {g : Int → Int → Int}
    (rule : ∀ (i j : Int) (t u : Tok) (s : Shared) (Q : Value → Shared → Prop) (E : Value → Shared → Prop), C i j → Q (.int (g i j) s.toks) { s with toks := s.toks + 1 } → wpAny (model X.prog X.w) X.A (f (.int i t) (.int j u)) Q E s) :
    OpR X f (rI C fun i j => .int (g i j)) := by
  intro pins s σ H x y v u Q I rx ry h
  obtain ⟨i, j, rfl, rfl, hc, q⟩ := h
  obtain ⟨t, rfl⟩ := rx
  obtain ⟨t', rfl⟩ := ry
  exact rule i j t t' s _ _ hc ⟨.int (g i j), H, I.tok _, ⟨_, rfl⟩, q⟩
theorem opI0 {f : Value → Value → Sem Value} {g : Int → Int → Int}
    (rule : ∀ (i j : Int) (t u : Tok) (s : Shared) (Q : Value → Shared → Prop) (E : Value → Shared → Prop), Q (.int (g i j) s.toks) { s with toks := s.toks + 1 } → wpAny (model X.prog X.w) X.A (f (.int i t) (.int j u)) Q E s) :
    OpR X f (rI0 fun i j => .int (g i j)) := by
  intro pins s σ H x y v u Q I rx ry h
  obtain ⟨i, j, rfl, rfl, q⟩ := h
  obtain ⟨t, rfl⟩ := rx
  obtain ⟨t', rfl⟩ := ry
  exact rule i j t t' s _ _ ⟨.int (g i j), H, I.tok _, ⟨_, rfl⟩, q⟩
theorem opB0 {f : Value → Value → Sem Value} {g : Int → Int → Bool}
    (rule : ∀ (i j : Int) (t u : Tok) (s : Shared) (Q : Value → Shared → Prop) (E : Value → Shared → Prop), Q (.bool (g i j)) s → wpAny (model X.prog X.w) X.A (f (.int i t) (.int j u)) Q E s) :
    OpR X f (rI0 fun i j => .bl (g i j)) := by
  intro pins s σ H x y v u Q I rx ry h
  obtain ⟨i, j, rfl, rfl, q⟩ := h
  obtain ⟨t, rfl⟩ := rx
  obtain ⟨t', rfl⟩ := ry
  exact rule i j t t' s _ _ ⟨.bl (g i j), H, I, rfl, q⟩
def CPow (i j : Int) : Prop := 0 ≤ j ∧ j ≤ 1000000 ∧ i.natAbs < 2 ^ 64
def CMul (i j : Int) : Prop := (-(2 ^ 64) < i ∧ i < 2 ^ 64) ∨ (-(2 ^ 64) < j ∧ j < 2 ^ 64)
theorem CMul.ok {i j : Int} (h : CMul i j) : IntMulOk i j := by
  rcases h with ⟨h1, h2⟩ | ⟨h1, h2⟩
  · exact .of_left (intBits_le_64 h1 h2)
  · exact .of_right (intBits_le_64 h1 h2)
theorem op_add : OpR X (binaryOp .Add) (rI0 fun i j => .int (i + j)) := opI0 fun _ _ _ _ _ _ _ q => add_int q
theorem op_sub : OpR X (binaryOp .Sub) (rI0 fun i j => .int (i - j)) := opI0 fun _ _ _ _ _ _ _ q => sub_int q
theorem op_mod : OpR X (binaryOp .Mod) (rI (fun _ j => 0 < j) fun i j => .int (i % j)) := opI fun i j _ _ _ _ _ hc q => by
  have h1 : (0 : Int) < j := hc
  exact mod_int' (by omega) (by rw [Int.fmod_eq_emod_of_nonneg i (by omega)]; exact q)
theorem op_pow : OpR X (binaryOp .Pow) (rI CPow fun i j => .int (i ^ j.toNat)) := opI fun _ _ _ _ _ _ _ hc q => pow_int_small hc.1 hc.2.1 hc.2.2 q
theorem unI {f : Value → Sem Value} {g : Int → Int}
    (rule : ∀ (i : Int) (t : Tok) (s : Shared) (Q : Value → Shared → Prop) (E : Value → Shared → Prop), Q (.int (g i) s.toks) { s with toks := s.toks + 1 } → wpAny (model X.prog X.w) X.A (f (.int i t)) Q E s) :
    UnR X f (rU fun i => .int (g i)) := by
  intro pins s σ H x v Q I rx h
  obtain ⟨i, rfl, q⟩ := h
  obtain ⟨t, rfl⟩ := rx
  exact rule i t s _ _ ⟨.int (g i), H, I.tok _, ⟨_, rfl⟩, q⟩
theorem un_neg : UnR X (unaryOp .USub) (rU fun i => .int (-i)) := unI fun _ _ _ _ _ q => neg_int q
end
def scal : V → V → Bool
  | .non, .non => true | .non, .int _ => true | .int _, .non => true | .non, .bl _ => true | .bl _, .non => true | .non, .str _ => true | .str _, .non => true
  | .int _, .int _ => true | .bl _, .bl _ => true | .str _, .str _ => true | .byt _, .byt _ => true
  | .int _, .str _ => true | .str _, .int _ => true | .bl _, .str _ => true | .str _, .bl _ => true
  | _, _ => false
def rEq : R2 := fun x y H Q => scal x y = true ∧ Q (.bl (decide (x = y))) H
def rNe : R2 := fun x y H Q => scal x y = true ∧ Q (.bl (!decide (x = y))) H
theorem dec_int {i j : Int} : decide (V.int i = V.int j) = (i == j) := by
  rw [Bool.eq_iff_iff]
  simp
theorem dec_bl {i j : Bool} : decide (V.bl i = V.bl j) = (i == j) := by
  rw [Bool.eq_iff_iff]
  simp
theorem dec_str {i j : Str} : decide (V.str i = V.str j) = (i == j) := by
  rw [Bool.eq_iff_iff]
  simp
theorem dec_byt {i j : Array UInt8} : decide (V.byt i = V.byt j) = (i.toList == j.toList) := by
  rw [Bool.eq_iff_iff]
  cases i
  cases j
  simp
section
variable {X : Cx} {a b c : Expr} {ta tb tc : TE} {pos : Pos}
theorem fin_bl {pins : List (Addr × Obj)} {σ : St} {H : Hp} {s : Shared} {Q : VK} {k k' : Bool} (I : Inv X pins σ H s) (q : Q (.bl k) H) (e : k = k') : EP X pins σ Q (.bool k') s := by
  subst e
  exact ⟨.bl k, H, I, rfl, q⟩
theorem op_eq : OpR X (compareOp .Eq) rEq := by
  intro pins s σ H x y v u Q I rx ry h
  obtain ⟨hs, q⟩ := h
  cases x with
  | non =>
    cases rx
    cases y with
    | non => cases ry; exact PySem.EqNone.eq_none_none (fin_bl I q (by simp))
    | bl j => cases ry; exact PySem.EqNone.eq_none_bool (fin_bl I q (by simp))
    | int j => obtain ⟨t', rfl⟩ := ry; exact PySem.EqNone.eq_none_int (fin_bl I q (by simp))
    | str j => obtain ⟨t', rfl⟩ := ry; exact PySem.EqNone.eq_none_str (fin_bl I q (by simp))
    | _ => exact absurd (show false = true from hs) Bool.false_ne_true
  | bl i =>
    cases rx
    cases y with
    | non => cases ry; exact PySem.EqNone.eq_bool_none (fin_bl I q (by simp))
    | bl j => cases ry; exact eq_bool (fin_bl I q dec_bl)
    | str j => obtain ⟨t', rfl⟩ := ry; exact PySem.EqMixed.eq_bool_str (fin_bl I q (by simp))
    | _ => exact absurd (show false = true from hs) Bool.false_ne_true
  | int i =>
    obtain ⟨t, rfl⟩ := rx
    cases y with
    | non => cases ry; exact PySem.EqNone.eq_int_none (fin_bl I q (by simp))
    | int j => obtain ⟨t', rfl⟩ := ry; exact eq_int (fin_bl I q dec_int)
    | str j => obtain ⟨t', rfl⟩ := ry; exact PySem.EqMixed.eq_int_str (fin_bl I q (by simp))
    | _ => exact absurd (show false = true from hs) Bool.false_ne_true
  | str i =>
    obtain ⟨t, rfl⟩ := rx
    cases y with
    | non => cases ry; exact PySem.EqNone.eq_str_none (fin_bl I q (by simp))
    | bl j => cases ry; exact PySem.EqMixed.eq_str_bool (fin_bl I q (by simp))
    | int j => obtain ⟨t', rfl⟩ := ry; exact PySem.EqMixed.eq_str_int (fin_bl I q (by simp))
    | str j => obtain ⟨t', rfl⟩ := ry; exact eq_str (fin_bl I q dec_str)
    | _ => exact absurd (show false = true from hs) Bool.false_ne_true
  | byt i =>
    obtain ⟨t, rfl⟩ := rx
    cases y with
    | byt j => obtain ⟨t', rfl⟩ := ry; exact PySem.W.eq_bytes (fin_bl I q dec_byt)
    | _ => exact absurd (show false = true from hs) Bool.false_ne_true
  | _ => cases y <;> exact absurd (show false = true from hs) Bool.false_ne_true
theorem op_ne : OpR X (compareOp .NotEq) rNe := by
  intro pins s σ H x y v u Q I rx ry h
  obtain ⟨hs, q⟩ := h
  cases x with
  | non =>
    cases rx
    cases y with
    | non => cases ry; exact PySem.EqNone.ne_none_none (fin_bl I q (by simp))
    | bl j => cases ry; exact PySem.EqNone.ne_none_bool (fin_bl I q (by simp))
    | int j => obtain ⟨t', rfl⟩ := ry; exact PySem.EqNone.ne_none_int (fin_bl I q (by simp))
    | str j => obtain ⟨t', rfl⟩ := ry; exact PySem.EqNone.ne_none_str (fin_bl I q (by simp))
    | _ => exact absurd (show false = true from hs) Bool.false_ne_true
  | bl i =>
    cases rx
    cases y with
    | non => cases ry; exact PySem.EqNone.ne_bool_none (fin_bl I q (by simp))
    | bl j => cases ry; exact ne_bool (fin_bl I q (congrArg not dec_bl))
    | str j => obtain ⟨t', rfl⟩ := ry; exact PySem.EqMixed.ne_bool_str (fin_bl I q (by simp))
    | _ => exact absurd (show false = true from hs) Bool.false_ne_true
  | int i =>
    obtain ⟨t, rfl⟩ := rx
    cases y with
    | non => cases ry; exact PySem.EqNone.ne_int_none (fin_bl I q (by simp))
    | int j => obtain ⟨t', rfl⟩ := ry; exact ne_int (fin_bl I q (congrArg not dec_int))
    | str j => obtain ⟨t', rfl⟩ := ry; exact PySem.EqMixed.ne_int_str (fin_bl I q (by simp))
    | _ => exact absurd (show false = true from hs) Bool.false_ne_true
  | str i =>
    obtain ⟨t, rfl⟩ := rx
    cases y with
    | non => cases ry; exact PySem.EqNone.ne_str_none (fin_bl I q (by simp))
    | bl j => cases ry; exact PySem.EqMixed.ne_str_bool (fin_bl I q (by simp))
    | int j => obtain ⟨t', rfl⟩ := ry; exact PySem.EqMixed.ne_str_int (fin_bl I q (by simp))
    | str j => obtain ⟨t', rfl⟩ := ry; exact ne_str (fin_bl I q (congrArg not dec_str))
    | _ => exact absurd (show false = true from hs) Bool.false_ne_true
  | byt i =>
    obtain ⟨t, rfl⟩ := rx
    cases y with
    | byt j => obtain ⟨t', rfl⟩ := ry; exact PySem.W.ne_bytes (fin_bl I q (congrArg not dec_byt))
    | _ => exact absurd (show false = true from hs) Bool.false_ne_true
  | _ => cases y <;> exact absurd (show false = true from hs) Bool.false_ne_true
theorem op_lt : OpR X (compareOp .Lt) (rI0 fun i j => .bl (decide (i < j))) := opB0 fun _ _ _ _ _ _ _ q => lt_int q
theorem op_le : OpR X (compareOp .LtE) (rI0 fun i j => .bl (decide (i ≤ j))) := opB0 fun _ _ _ _ _ _ _ q => le_int q
theorem op_gt : OpR X (compareOp .Gt) (rI0 fun i j => .bl (decide (j < i))) := opB0 fun _ _ _ _ _ _ _ q => gt_int q
theorem nomark (b : Expr) {op : CmpOp} (h : op ≠ .In := by decide) (h2 : op ≠ .NotIn := by decide) : behindInMarks op b = false := by
  have e1 : (op == CmpOp.In) = false := by cases op <;> first | rfl | exact absurd rfl h
  have e2 : (op == CmpOp.NotIn) = false := by cases op <;> first | rfl | exact absurd rfl h2
  cases b <;> simp [behindInMarks, e1, e2]
theorem pe_cmpR {op : CmpOp} {r : R2} (ho : OpR X (compareOp op) r) (ha : PE X a ta) (hb : PE X b tb) (hm : behindInMarks op b = false) : PE X (.Compare a [op] [b] pos) (tOp r ta tb) := by
  intro pins s σ H Q I h
  exact wpAny_Compare1 (binT ha hb I h fun v u s2 x y H2 I2 rx ry q => ho pins s2 σ H2 x y v u Q I2 rx ry q) hm
def tTest (t : TE) : TT := fun σ H Q => t σ H fun x H' => ∃ k, x = .bl k ∧ Q k H'
theorem pt_cmpR {op : CmpOp} {r : R2} (ho : OpR X (compareOp op) r) (ha : PE X a ta) (hb : PE X b tb) (hm : behindInMarks op b = false) : PT X (.Compare a [op] [b] pos) (tTest (tOp r ta tb)) := by
  intro pins s σ H Q I h
  refine wpAny_isTrue_Compare1 (thn (ha pins s σ H _ I h) fun v s1 ⟨x, H1, I1, r1, q1⟩ => thn (hb pins s1 σ H1 _ I1 q1) fun u s2 ⟨y, H2, I2, r2, q2⟩ =>
    thn (ho pins s2 σ H2 x y v u _ I2 r1 r2 q2) fun c s3 ⟨z, H3, I3, r3, k, e, q3⟩ => ?_) hm
  subst e
  cases r3
  exact wpAny_truthy_bool ⟨H3, I3, q3⟩
def tChain (r r' : R2) (ta tb tc : TE) : TE := fun σ H Q => ta σ H fun x H1 => tb σ H1 fun y H2 => r x y H2 fun z H3 => ∃ k, z = .bl k ∧
  (if k = true then tc σ H3 fun w' H4 => r' y w' H4 Q else Q (.bl false) H3)
theorem pe_chain {op op' : CmpOp} {r r' : R2} (ho : OpR X (compareOp op) r) (ho' : OpR X (compareOp op') r') (ha : PE X a ta) (hb : PE X b tb) (hc : PE X c tc)
    (hm : lastMarks [op, op'] [b, c] = false := by with_unfolding_all rfl) : PE X (.Compare a [op, op'] [b, c] pos) (tChain r r' ta tb tc) := by
  intro pins s σ H Q I h
  refine Compare_chain (thn (ha pins s σ H _ I h) fun v s1 ⟨x, H1, I1, r1, q1⟩ => chain_link (thn (hb pins s1 σ H1 _ I1 q1) fun u s2 ⟨y, H2, I2, r2, q2⟩ =>
    thn (ho pins s2 σ H2 x y v u _ I2 r1 r2 q2) fun d s3 ⟨z, H3, I3, r3, k, e, q3⟩ => ?_)) hm
  subst e
  cases r3
  refine wpAny_truthy_bool ?_
  cases k with
  | false => exact ite_ff ⟨.bl false, H3, I3, rfl, q3⟩
  | true => exact ite_tt (chain_last (thn (hc pins s3 σ H3 _ I3 q3) fun w' s4 ⟨z', H4, I4, r4, q4⟩ => ho' pins s4 σ H4 y z' u w' Q I4 r2 r4 q4))
theorem pt_chain {op op' : CmpOp} {r r' : R2} (ho : OpR X (compareOp op) r) (ho' : OpR X (compareOp op') r') (ha : PE X a ta) (hb : PE X b tb) (hc : PE X c tc)
    (hm : lastMarks [op, op'] [b, c] = false := by with_unfolding_all rfl) : PT X (.Compare a [op, op'] [b, c] pos) (tTest (tChain r r' ta tb tc)) := by
  intro pins s σ H Q I h
  refine isTrue_chain (thn (ha pins s σ H _ I h) fun v s1 ⟨x, H1, I1, r1, q1⟩ => test_link (thn (hb pins s1 σ H1 _ I1 q1) fun u s2 ⟨y, H2, I2, r2, q2⟩ =>
    thn (ho pins s2 σ H2 x y v u _ I2 r1 r2 q2) fun d s3 ⟨z, H3, I3, r3, k, e, q3⟩ => ?_)) hm
  subst e
  cases r3
  refine wpAny_truthy_bool ?_
  cases k with
  | false =>
    obtain ⟨k', e', q'⟩ := q3
    cases e'
    exact ite_ff ⟨H3, I3, q'⟩
  | true =>
    refine ite_tt (test_last (thn (hc pins s3 σ H3 _ I3 q3) fun w' s4 ⟨z', H4, I4, r4, q4⟩ => thn (ho' pins s4 σ H4 y z' u w' _ I4 r2 r4 q4) fun d' s5 ⟨z2, H5, I5, r5, k2, e2, q5⟩ => ?_))
    subst e2
    cases r5
    exact wpAny_truthy_bool ⟨H5, I5, q5⟩
theorem line63 : (sizeLine : Nat) < 2 ^ 63 := by rw [sizeLine_eq]; decide
theorem vals1 {x : V} {us : List Value} (r : Vals [x] us) : ∃ u, us = [u] ∧ RelV x u := by
  cases r with
  | cons r1 r2 => cases r2; exact ⟨_, rfl, r1⟩
theorem vals2 {x y : V} {us : List Value} (r : Vals [x, y] us) : ∃ u w', us = [u, w'] ∧ RelV x u ∧ RelV y w' := by
  cases r with
  | cons r1 r2 =>
    cases r2 with
    | cons r3 r4 => cases r4; exact ⟨_, _, rfl, r1, r3⟩
theorem call_min2 (hc : X.calm = true) : CallR X (.builtin "min") (fun xs H Q => ∃ i j, xs = [.int i, .int j] ∧ Q (.int (if j < i then j else i)) H) := by
  intro pins s σ H xs us Q I r h
  obtain ⟨i, j, rfl, q⟩ := h
  obtain ⟨u, w', rfl, ⟨t, rfl⟩, ⟨t', rfl⟩⟩ := vals2 r
  refine min_two_ints (I.ok.hd hc) fun h' tk k => ⟨_, H, I.kept k, ?_, q⟩
  by_cases hj : j < i
  · rw [if_pos hj, if_pos hj]; exact ⟨_, rfl⟩
  · rw [if_neg hj, if_neg hj]; exact ⟨_, rfl⟩
def LenV (K : PySem.W.Frag) (x : V) (H : Hp) (n : Nat) : Prop :=
  match x with
  | .str y => y.length ≤ sizeLine ∧ n = y.length
  | .byt y => y.size ≤ sizeLine ∧ n = y.size
  | .ref p => (∃ xs, SqL K H p xs ∧ n = xs.length) ∨ ∃ xs, SqT K H p xs ∧ n = xs.length
  | _ => False
theorem call_len : CallR X (.builtin "len") (fun xs H Q => ∃ x n, xs = [x] ∧ LenV X.K x H n ∧ Q (.int n) H) := by
  intro pins s σ H xs us Q I r h
  obtain ⟨x, n, rfl, e, q⟩ := h
  obtain ⟨u, rfl, rx⟩ := vals1 r
  have hl := line63
  have hs : sizeLine = 16777216 := sizeLine_eq
  cases x with
  | str y =>
    obtain ⟨t, rfl⟩ := rx
    obtain ⟨hy, e'⟩ : y.length ≤ sizeLine ∧ n = y.length := e
    subst e'
    exact len_str (by omega) ⟨.int _, H, I.tok _, ⟨_, rfl⟩, q⟩
  | byt y =>
    obtain ⟨t, rfl⟩ := rx
    obtain ⟨hy, e'⟩ : y.size ≤ sizeLine ∧ n = y.size := e
    subst e'
    exact PySem.W.len_bytes (by omega) ⟨.int _, H, I.tok _, ⟨_, rfl⟩, q⟩
  | ref p =>
    cases rx
    have e' : (∃ xs, SqL X.K H p xs ∧ n = xs.length) ∨ ∃ xs, SqT X.K H p xs ∧ n = xs.length := e
    rcases e' with ⟨xs, hx, e'⟩ | ⟨xs, hx, e'⟩
    · subst e'
      obtain ⟨its, r', pl, hz⟩ := I.list hx
      have hlen := r'.length
      exact Calls.call_len_list pl.isList (by simp only [List.size_toArray]; omega) ⟨.int xs.length, H, I.tok _, ⟨_, by simp only [List.size_toArray]; rw [hlen]⟩, q⟩
    · subst e'
      obtain ⟨its, r', pl, hz⟩ := I.tuple hx
      have hlen := r'.length
      exact len_tuple pl (by simp only [List.size_toArray]; omega) ⟨.int xs.length, H, I.tok _, ⟨_, by simp only [List.size_toArray]; rw [hlen]⟩, q⟩
  | _ => exact (show False from e).elim
end
end L2
namespace L2
open PySem PySem.Spec PyProof.Rows
structure ObjM (h : Heap) (x dx C : Addr) (mA : Str → Option Value) : Prop where
  obj : h.get? x = some (PySem.W.instObj C dx)
  ns : h.Ns1 dx mA
  ne : dx ≠ x
theorem lookIn_ns {h : Heap} {dx : Addr} {mA : Str → Option Value} (n : h.Ns1 dx mA) : ∃ od, h.get? dx = some od ∧ ∀ name, PySem.W.lookIn name od = some (mA name) := by
  obtain ⟨o, es, ep, ho, hd, hk, _, hm⟩ := n
  refine ⟨o, ho, fun name => ?_⟩
  have e := hm name
  unfold nsFind findBy at e
  rw [← Array.find?_toList] at e
  unfold PySem.W.lookIn
  rw [hd]
  dsimp only
  split
  · rename_i y q
    rw [q] at e
    exact congrArg some e
  · rename_i q
    rw [q] at e
    have a : es.toList.any (·.refKey) = false := by
      rw [List.any_eq_false]
      intro y hy
      obtain ⟨z, t, hkey⟩ := hk y (Array.mem_toList_iff.mp hy)
      simp [DictEntry.refKey, hkey]
    have a' : ¬ es.toList.any (·.refKey) = true := by rw [a]; exact Bool.false_ne_true
    rw [if_neg a']
    exact congrArg some e
theorem ObjM.look {h : Heap} {x dx C : Addr} {mA : Str → Option Value} (I : ObjM h x dx C mA) : ∃ od, PySem.W.InstAt h x (PySem.W.instObj C dx) C (some od) ∧ ∀ name, PySem.W.lookIn name od = some (mA name) :=
  let ⟨od, ho, hl⟩ := lookIn_ns I.ns
  ⟨od, ⟨I.obj, rfl, rfl, ho⟩, hl⟩
section
variable {prog : Program} {w : World} {A : Around} {E : Value → Shared → Prop} {s : Shared} {K : PySem.W.Frag} {x dx C f : Addr} {mA : Str → Option Value} {name : Str} {v : Value}
theorem get_map {expr : Bool} {Q : Value → Shared → Prop} (X : K.In s.heap) (I : ObjM s.heap x dx C mA) (hg : PySem.W.plainGet K C name = true) (hh : PySem.W.hasDictIn K C = true)
    (ha : PySem.W.findIn K (.ref C) name = some none) (hv : mA name = some v) (hv' : PySem.W.handedIn v = true) (h : Q v { s with toks := s.toks + 1 }) :
    wpAny (model prog w) A (getAttr (.ref x) name expr) Q E s := by
  obtain ⟨od, J, hl⟩ := I.look
  exact PySem.W.get_value X J (PySem.W.plainGet_of hg).1 (PySem.W.findObj_own hh ha rfl (by rw [hl, hv])) hv' h
theorem get_meth {pl : Sem Bool} {Q : Value × List Value → Shared → Prop} (X : K.In s.heap) (I : ObjM s.heap x dx C mA) (hg : PySem.W.plainGet K C name = true)
    (hf : PySem.W.findIn K (.ref C) name = some (some (.ref f))) (ht : PySem.W.isFn K (.ref f) = true) (hv : mA name = none) (h : Q (.ref f, [.ref x]) s) :
    wpAny (model prog w) A (getMethod (.ref x) name pl) Q E s := by
  obtain ⟨od, J, hl⟩ := I.look
  exact PySem.W.method_fn X J (PySem.W.plainGet_of hg).1 (PySem.W.plainGet_of hg).2 hf (beq_iff_eq.mp ht) (by show (PySem.W.lookIn name od).map (·.isSome) = some false; rw [hl, hv]; rfl) h
theorem set_map {ns : List Str} {Q : Unit → Shared → Prop} (X : K.In s.heap) (I : ObjM s.heap x dx C mA)
    (hs : PySem.W.findIn K (.ref C) "__setattr__" = some (some (.builtin "object.__setattr__"))) (hp : PySem.W.plainOver K C = true) (ht : PySem.W.takerIn K C name = some none) (hh : PySem.W.hasDictIn K C = true)
    (hw : PySem.Within mA ns) (hsz : ns.length ≤ sizeLine)
    (h : ∀ h', ObjM h' x dx C (fun y => if y = name then some v else mA y) → Heap.SameBut dx s.heap h' → Q () { s with heap := h', toks := s.toks + 2 }) :
    wpAny (model prog w) A (setAttr (.ref x) name v) Q E s := by
  obtain ⟨od, J, hl⟩ := I.look
  refine PySem.W.set_plain X J hs (PySem.W.osa_open (s := { s with toks := s.toks + 1 }) (r := none) X J hp ht fun b => ?_)
  obtain ⟨cd, hc, hd'⟩ := PySem.W.any_some hh
  have hx : s.heap.get? x = some ⟨.ref C, some dx, .plain, #[]⟩ := I.obj
  refine wpAny_bind (wpAny_pure (wpAny_bind (wpAny_bind (wpAny_loadPart hx (wpAny_bind (PySem.W.Looks.here (s := { s with toks := s.toks + 1 }) (PySem.W.looks_clsIn X hc) ?_))))))
  rw [hd']
  refine wpAny_pure (a := some dx) (wpAny_bind (wpAny_pure (wpAny_bind ?_)))
  refine wpAny_nsSet1 (s := { s with toks := s.toks + 1 }) I.ns fun h' hn2 hs2 => ?_
  obtain ⟨oD, esD, epD, hoD, hdD, hcD⟩ := hn2.count (PySem.Within.cons name v hw)
  refine wpAny_bind (wpAny_lookBehind hoD (by rw [hdD]; exact pastItsLine_dict (Nat.le_trans hcD (by rw [List.length_cons]; omega))) ?_)
  exact wpAny_pure (h _ ⟨(hs2.2 _ (Ne.symm I.ne)).trans I.obj, hn2, I.ne⟩ hs2)
theorem make_map {R : Result → Shared → Prop} {vs : List Value} {kw : List (Str × Value)} (X : K.In s.heap) (hm : PySem.W.makesIn K C = true)
    (hi : PySem.W.findIn K (.ref C) "__init__" = some (some (.ref f))) (hf : PySem.W.typeIn K (.ref f) = some (.type "function"))
    (h : codeAny (model prog w) (A.under (.builtin "type.__call__" ⟨.ref C :: vs, kw⟩)) (.call (.ref f) ⟨.ref (s.heap.objs.size + 1) :: vs, kw⟩) (PySem.W.InitBack (s.heap.objs.size + 1) R)
      { s with heap := (s.heap.push PySem.W.emptyDict).push (PySem.W.instObj C s.heap.objs.size) }) :
    codeAny (model prog w) A (.call (.ref C) ⟨vs, kw⟩) R s := by
  obtain ⟨hh, g, d, t, os⟩ := s
  exact PySem.W.make_core (PySem.W.makes_of X hm) (PySem.W.looks_findIn X hi) (fun self => PySem.W.bind_fn X self hf) (.inl rfl) h
end
def putF (f : Str) (v : V) : List (Str × V) → List (Str × V)
  | [] => [(f, v)]
  | (g, x) :: r => if g = f then (g, v) :: r else (g, x) :: putF f v r
theorem lookup_putF (f g : Str) (v : V) : ∀ fs : List (Str × V), (putF f v fs).lookup g = if g = f then some v else fs.lookup g
  | [] => by
    show List.lookup g [(f, v)] = _
    by_cases h : g = f
    · have hb : (g == f) = true := beq_iff_eq.mpr h
      simp only [List.lookup, hb, if_pos h]
    · have hb : (g == f) = false := beq_eq_false_iff_ne.mpr h
      simp only [List.lookup, hb, if_neg h]
  | (k, x) :: r => by
    have ih := lookup_putF f g v r
    rw [show putF f v ((k, x) :: r) = (if k = f then (k, v) :: r else (k, x) :: putF f v r) from rfl]
    by_cases hk : k = f
    · rw [if_pos hk]
      by_cases h : g = k
      · have hb : (g == k) = true := beq_iff_eq.mpr h
        simp only [List.lookup, hb, if_pos (h.trans hk)]
      · have hb : (g == k) = false := beq_eq_false_iff_ne.mpr h
        simp only [List.lookup, hb, if_neg (fun e : g = f => h (e.trans hk.symm))]
    · rw [if_neg hk]
      by_cases h : g = k
      · have hb : (g == k) = true := beq_iff_eq.mpr h
        simp only [List.lookup, hb, if_neg (fun e : g = f => hk (h.symm.trans e))]
      · have hb : (g == k) = false := beq_eq_false_iff_ne.mpr h
        simp only [List.lookup, hb]
        exact ih
theorem keys_putF (f : Str) (v : V) : ∀ fs : List (Str × V), f ∈ (putF f v fs).map (·.1) ∧ ∀ g, g ∈ fs.map (·.1) → g ∈ (putF f v fs).map (·.1)
  | [] => ⟨by simp [putF], fun g h => by simp at h⟩
  | (k, x) :: r => by
    obtain ⟨i1, i2⟩ := keys_putF f v r
    rw [show putF f v ((k, x) :: r) = (if k = f then (k, v) :: r else (k, x) :: putF f v r) from rfl]
    by_cases hk : k = f
    · rw [if_pos hk]
      subst hk
      exact ⟨by simp, fun g h => by simpa using h⟩
    · rw [if_neg hk]
      refine ⟨?_, fun g h => ?_⟩
      · rw [List.map_cons]
        exact List.mem_cons_of_mem _ i1
      · rw [List.map_cons] at h ⊢
        rcases List.mem_cons.mp h with e | e
        · exact List.mem_cons.mpr (.inl e)
        · exact List.mem_cons_of_mem _ (i2 g e)
theorem length_putF (f : Str) (v : V) : ∀ fs : List (Str × V), (putF f v fs).length ≤ fs.length + 1
  | [] => by simp [putF]
  | (k, x) :: r => by
    have ih := length_putF f v r
    rw [show putF f v ((k, x) :: r) = (if k = f then (k, v) :: r else (k, x) :: putF f v r) from rfl]
    by_cases hk : k = f
    · rw [if_pos hk, List.length_cons, List.length_cons]; omega
    · rw [if_neg hk, List.length_cons, List.length_cons]; omega
theorem RelO.some_of {v : V} {o : Option Value} (r : RelO (some v) o) : ∃ u, o = some u ∧ RelV v u := by
  cases o with
  | none => exact (show False from r).elim
  | some u => exact ⟨u, rfl, r⟩
theorem RelO.none_of {o : Option Value} (r : RelO none o) : o = none := by
  cases o with
  | none => rfl
  | some u => exact (show False from r).elim
theorem handed_of {v : V} {u : Value} (r : RelV v u) : PySem.W.handedIn u = true := by
  cases v with
  | non => cases (show u = Value.none from r); rfl
  | bl b => cases (show u = Value.bool b from r); rfl
  | int i => obtain ⟨t, e⟩ := (show ∃ t, u = Value.int i t from r); cases e; rfl
  | str x => obtain ⟨t, e⟩ := (show ∃ t, u = Value.str x t from r); cases e; rfl
  | byt b => obtain ⟨t, e⟩ := (show ∃ t, u = Value.bytes b t from r); cases e; rfl
  | flt b => obtain ⟨t, e⟩ := (show ∃ t, u = Value.float b t from r); cases e; rfl
  | ref a => cases (show u = Value.ref a from r); rfl
  | ty n => cases (show u = Value.type n from r); rfl
section
variable {P : Program} {w : World} {H H' : Hp} {h h' : Heap} {a C dx : Addr} {fs fs' : List (Str × V)}
theorem ins_get (hok : HOk P w H h) (e : H a = some (.ins C dx fs)) : ∃ mA, ObjM h a dx C mA ∧ (∀ f, RelO (fs.lookup f) (mA f)) ∧ PySem.Within mA (fs.map (·.1)) ∧ fs.length ≤ 1000 ∧ H dx = some (.own a) := by
  obtain ⟨d, z, ne, ob, mA, n, r, q⟩ := (show ObjOk P w H h a (.ins C dx fs) from hok a _ e)
  exact ⟨mA, ⟨ob, n, ne⟩, r, q, z, d⟩
end
structure Cls (K : PySem.W.Frag) (C : Addr) : Prop where
  pg : PySem.W.plainGet K C Str.empty = true
  hd : PySem.W.hasDictIn K C = true
  po : PySem.W.plainOver K C = true
  sa : PySem.W.findIn K (.ref C) "__setattr__" = some (some (.builtin "object.__setattr__"))
theorem Cls.get {K : PySem.W.Frag} {C : Addr} (c : Cls K C) (f : Str) : PySem.W.plainGet K C f = true := c.pg
def NoAttr (K : PySem.W.Frag) (C : Addr) (f : Str) : Prop := PySem.W.findIn K (.ref C) f = some none
theorem NoAttr.taker {K : PySem.W.Frag} {C : Addr} {f : Str} (n : NoAttr K C f) : PySem.W.takerIn K C f = some none := by
  unfold PySem.W.takerIn
  rw [show PySem.W.findIn K (.ref C) f = some none from n]
  rfl
structure Meth (K : PySem.W.Frag) (C : Addr) (m : Str) (f : Addr) : Prop where
  at_ : PySem.W.findIn K (.ref C) m = some (some (.ref f))
  fn : PySem.W.isFn K (.ref f) = true
  kp : PySem.W.keepIn K (.ref f) = true
section
variable {X : Cx} {pins : List (Addr × Obj)} {σ : St} {H : Hp} {s : Shared} {a C dx : Addr} {fs : List (Str × V)} {f : Str} {v : V} {A : Around} {E : Value → Shared → Prop}
theorem getattr_ok {b : Bool} {Q : Value → Shared → Prop} (I : Inv X pins σ H s) (e : H a = some (.ins C dx fs)) (c : Cls X.K C) (n : NoAttr X.K C f) (l : fs.lookup f = some v)
    (h : ∀ u s', Inv X pins σ H s' → RelV v u → Q u s') : wpAny (model X.prog X.w) A (getAttr (.ref a) f b) Q E s := by
  obtain ⟨mA, O, r, _, _, _⟩ := ins_get I.hok e
  obtain ⟨u, hu, ru⟩ := RelO.some_of (v := v) (o := mA f) (by rw [← l]; exact r f)
  exact get_map I.kIn O (c.get f) c.hd n hu (handed_of ru) (h u _ (I.tok _) ru)
theorem getmeth_ok {m : Str} {g : Addr} {pl : Sem Bool} {Q : Value × List Value → Shared → Prop} (I : Inv X pins σ H s) (e : H a = some (.ins C dx fs)) (c : Cls X.K C) (k : Meth X.K C m g) (l : fs.lookup m = none)
    (h : Q (.ref g, [.ref a]) s) : wpAny (model X.prog X.w) A (getMethod (.ref a) m pl) Q E s := by
  obtain ⟨mA, O, r, _, _, _⟩ := ins_get I.hok e
  have hn : mA m = none := RelO.none_of (by rw [← l]; exact r m)
  exact get_meth I.kIn O (c.get m) k.at_ k.fn hn h
theorem setattr_ok {y : V} {u : Value} {Q : Unit → Shared → Prop} (I : Inv X pins σ H s) (e : H a = some (.ins C dx fs)) (c : Cls X.K C) (n : NoAttr X.K C f) (hl : fs.length < 1000) (ry : RelV y u)
    (h : ∀ s', Inv X pins σ (upd H a (.ins C dx (putF f y fs))) s' → Q () s') : wpAny (model X.prog X.w) A (setAttr (.ref a) f u) Q E s := by
  obtain ⟨mA, O, r, wi, _, ho⟩ := ins_get I.hok e
  have hz : (fs.map (·.1)).length ≤ sizeLine := by rw [List.length_map, sizeLine_eq]; omega
  refine set_map I.kIn O c.sa c.po n.taker c.hd wi hz fun h' O' sb => h _ ?_
  have hd : ∃ o, h'.get? dx = some o := let ⟨o, _, _, e', _⟩ := O'.ns; ⟨o, e'⟩
  refine I.write (x := a) (e := dx) (by rw [e]; exact True.intro) (.inr ho) (fun b q hb z => (sb.2 b hb).trans z) hd ?_
  refine ⟨by rw [upd_ne O.ne]; exact ho, ?_, O.ne, O'.obj, _, O'.ns, fun g => ?_, fun g hg => ?_⟩
  · have := length_putF f y fs; omega
  · show RelO ((putF f y fs).lookup g) (if g = f then some u else mA g)
    rw [lookup_putF]
    by_cases q : g = f
    · rw [if_pos q, if_pos q]; exact ry
    · rw [if_neg q, if_neg q]; exact r g
  · by_cases q : g = f
    · rw [q]; exact (keys_putF f y fs).1
    · refine (keys_putF f y fs).2 g (wi g fun z => hg ?_)
      show (if g = f then some u else mA g) = none
      rw [if_neg q]; exact z
theorem Inv.made (I : Inv X pins σ H s) : Inv X pins σ (upd (upd H s.heap.objs.size (.own (s.heap.objs.size + 1))) (s.heap.objs.size + 1) (.ins C s.heap.objs.size []))
    { s with heap := (s.heap.push PySem.W.emptyDict).push (PySem.W.instObj C s.heap.objs.size) } := by
  have e1 : (s.heap.push PySem.W.emptyDict).get? s.heap.objs.size = some PySem.W.emptyDict := Heap.get?_push_size s.heap rfl
  have e2 : ((s.heap.push PySem.W.emptyDict).push (PySem.W.instObj C s.heap.objs.size)).get? (s.heap.objs.size + 1) = some (PySem.W.instObj C s.heap.objs.size) := by
    have := Heap.get?_push_size (s.heap.push PySem.W.emptyDict) (o := PySem.W.instObj C s.heap.objs.size) rfl
    rwa [Heap.size_push] at this
  have e3 : (s.heap.push PySem.W.emptyDict).Ns s.heap.objs.size (fun _ => none) := ⟨PySem.W.emptyDict, #[], _, e1, rfl, (fun e he => absurd he (by simp)), fun _ => rfl⟩
  have I1 := I.laid (a := s.heap.objs.size) (o := .own (s.heap.objs.size + 1)) (h' := s.heap.push PySem.W.emptyDict) (t' := s.toks) (fun b u q => Heap.get?_push_of_some _ q) (Nat.le_refl _) ⟨_, e1⟩
  refine I1.laid (a := s.heap.objs.size + 1) (o := .ins C s.heap.objs.size []) (t' := s.toks) (fun b u q => Heap.get?_push_of_some _ q) (Nat.le_of_eq (Heap.size_push _ _)) ?_
  have ne : s.heap.objs.size ≠ s.heap.objs.size + 1 := Nat.ne_of_lt (Nat.lt_succ_self _)
  refine ⟨by rw [upd_ne ne, upd_same], Nat.zero_le _, ne, e2, fun _ => none, (Heap.Ns1.of_empty e3).at fun o q => Heap.get?_push_of_some _ q, fun _ => True.intro, fun y hy => absurd rfl hy⟩
theorem attr_of {prog : Program} {w : World} {env : Env} {e : Expr} {f : Str} {pos : Pos} {s : Shared} {Q : Value → Shared → Prop} (hb : attributeBase e f env (eval e env) = eval e env)
    (h : wpAny (model prog w) A (eval e env) (fun o s₁ => wpAny (model prog w) A (getAttr o f true) Q E s₁) E s) : wpAny (model prog w) A (eval (.Attribute e f pos) env) Q E s :=
  Attribute_any_ h (by rw [arm_eval_Attribute, hb])
end
def tFld (K : PySem.W.Frag) (ta : TE) (f : Str) : TE := fun σ H Q => ta σ H fun x H1 => ∃ a C dx fs v, x = .ref a ∧ H1 a = some (.ins C dx fs) ∧ Cls K C ∧ NoAttr K C f ∧ fs.lookup f = some v ∧ Q v H1
def sFld (K : PySem.W.Frag) (ta tv : TE) (f : Str) : TS := fun D σ H => tv σ H fun y H1 => ta σ H1 fun x H2 => ∃ a C dx fs, x = .ref a ∧ H2 a = some (.ins C dx fs) ∧ Cls K C ∧ NoAttr K C f ∧ fs.length < 1000 ∧
  D.nx σ (upd H2 a (.ins C dx (putF f y fs)))
section
variable {X : Cx} {o e value : Expr} {f : Str} {pos pos' tpos : Pos} {ta tv : TE}
theorem pe_fld (he : PE X e ta) (hb : attributeBase e f X.env (eval e X.env) = eval e X.env) : PE X (.Attribute e f pos) (tFld X.K ta f) := by
  intro pins s σ H Q I h
  refine attr_of hb (thn (he pins s σ H _ I h) fun u s1 ⟨x, H1, I1, rx, a, C, dx, fs, v, ex, ea, c, n, l, q⟩ => ?_)
  subst ex
  obtain rfl : u = Value.ref a := rx
  exact getattr_ok I1 ea c n l fun u' s2 I2 ru => ⟨v, H1, I2, ru, q⟩
theorem ps_fld (ha : PE X o ta) (hv : PE X value tv) (hs : swapsWith value (some (.Attribute o f pos')) pos.line X.env = pure false) : PS X (.Assign [.Attribute o f pos'] value pos) (sFld X.K ta tv f) := by
  intro pins s σ H D I h
  refine plainObj_wpAny_Assign_Attribute (thn (hv pins s σ H _ I h) fun u s1 ⟨y, H1, I1, ry, q⟩ => thn (ha pins s1 σ H1 _ I1 q) fun ov s2 ⟨x, H2, I2, rx, a, C, dx, fs, ex, ea, c, n, l, q2⟩ => ?_) hs
  subst ex
  obtain rfl : ov = Value.ref a := rx
  exact setattr_ok I2 ea c n l ry fun s3 I3 => ⟨σ, _, I3, q2⟩
end
section
variable {X : Cx} {pins : List (Addr × Obj)} {σ : St} {H : Hp} {s : Shared} {A : Around} {E : Value → Shared → Prop} {Q : Value → Shared → Prop} {c : Value} {b : Bool}
inductive TyOf (K : PySem.W.Frag) (H : Hp) : V → Value → Prop where
  | non : TyOf K H .non (.type "NoneType")
  | bl (x : Bool) : TyOf K H (.bl x) (.type "bool")
  | int (i : Int) : TyOf K H (.int i) (.type "int")
  | str (x : Str) : TyOf K H (.str x) (.type "str")
  | flt (x : UInt64) : TyOf K H (.flt x) (.type "float")
  | lst {a : Addr} {xs : List V} (e : H a = some (.lst xs)) : TyOf K H (.ref a) (.type "list")
  | frz {a : Addr} {o : Obj} {xs : List V} (e : H a = some (.frz o (.lst xs))) : TyOf K H (.ref a) (.type "list")
  | tup {a : Addr} {xs : List V} (e : H a = some (.tup xs)) : TyOf K H (.ref a) (.type "tuple")
  | dK {a : Addr} {kvs : List (Key × V)} (e : H a = some (.dK kvs)) : TyOf K H (.ref a) (.type "dict")
  | dT {a : Addr} {kvs : List (List Key × V)} (e : H a = some (.dT kvs)) : TyOf K H (.ref a) (.type "dict")
  | ins {a C dx : Addr} {fs : List (Str × V)} (e : H a = some (.ins C dx fs)) (cl : Cls K C) (ha : PySem.W.findIn K (.ref C) "__class__" = some (some (.builtin "object.__class__")))
      (hn : PySem.W.specialIn K (.builtin "object.__class__") "__get__" = some (some (.builtin "getset_descriptor.__get__"))) (htk : PySem.W.takesIn K (.builtin "object.__class__") = some true)
      (hm : PySem.W.mroIn K C (.type "object") = some true) : TyOf K H (.ref a) (.ref C)
theorem isinst_ok {x : V} {u t : Value} (I : Inv X pins σ H s) (rx : RelV x u) (ty : TyOf X.K H x t) (e : PySem.W.kitOne X.K t c = some b) (h : ∀ tk, Q (.bool b) { s with toks := tk }) :
    wpAny (model X.prog X.w) A (call (.builtin "isinstance") [u, c]) Q E s := by
  cases ty with
  | non => cases (show u = Value.none from rx); exact PySem.W.kia_one PySem.W.kitx_none I.kIn True.intro e (fun z => nomatch z) h
  | bl y => cases (show u = Value.bool y from rx); exact PySem.W.kia_one PySem.W.kitx_bool I.kIn True.intro e (fun z => nomatch z) h
  | int i => obtain ⟨t, q⟩ := (show ∃ t, u = Value.int i t from rx); cases q; exact PySem.W.kia_one PySem.W.kitx_int I.kIn True.intro e (fun z => nomatch z) h
  | str y => obtain ⟨t, q⟩ := (show ∃ t, u = Value.str y t from rx); cases q; exact PySem.W.kia_one PySem.W.kitx_str I.kIn True.intro e (fun z => nomatch z) h
  | flt y => obtain ⟨t, q⟩ := (show ∃ t, u = Value.float y t from rx); cases q; exact PySem.W.kia_one PySem.W.kitx_float I.kIn True.intro e (fun z => nomatch z) h
  | @lst a xs ea =>
    cases (show u = Value.ref a from rx)
    obtain ⟨_, _, n, _, h1⟩ := (show ObjOk X.prog X.w H s.heap a (.lst xs) from I.hok a _ ea)
    exact PySem.W.kia_one PySem.W.kitx_list I.kIn ⟨_, h1, rfl⟩ e (fun z => nomatch z) h
  | @frz a ob xs ea =>
    cases (show u = Value.ref a from rx)
    obtain ⟨_, _, _, n, _, h1⟩ := (show ObjOk X.prog X.w H s.heap a (.frz ob (.lst xs)) from I.hok a _ ea)
    exact PySem.W.kia_one PySem.W.kitx_list I.kIn ⟨_, h1, rfl⟩ e (fun z => nomatch z) h
  | @tup a xs ea =>
    cases (show u = Value.ref a from rx)
    obtain ⟨_, _, _, p⟩ := (show ObjOk X.prog X.w H s.heap a (.tup xs) from I.hok a _ ea)
    obtain ⟨o, h1, h2, _⟩ := p
    exact PySem.W.kia_one PySem.W.kitx_tuple I.kIn ⟨o, h1, h2⟩ e (fun z => nomatch z) h
  | @dK a kvs ea =>
    cases (show u = Value.ref a from rx)
    obtain ⟨_, _, vs, _, p⟩ := (show ObjOk X.prog X.w H s.heap a (.dK kvs) from I.hok a _ ea)
    obtain ⟨o, es, ep, h1, h2, _⟩ := p
    exact PySem.W.kia_one PySem.W.kitx_dict I.kIn ⟨o, h1, h2.1⟩ e (fun z => nomatch z) h
  | @dT a kvs ea =>
    cases (show u = Value.ref a from rx)
    obtain ⟨_, _, xs, _, o, es, ep, h1, h2, _⟩ := (show ObjOk X.prog X.w H s.heap a (.dT kvs) from I.hok a _ ea)
    exact PySem.W.kia_one PySem.W.kitx_dict I.kIn ⟨o, h1, h2.1⟩ e (fun z => nomatch z) h
  | @ins a C dx fs ea cl ha hn htk hm =>
    cases (show u = Value.ref a from rx)
    obtain ⟨mA, O, _⟩ := ins_get I.hok ea
    obtain ⟨od, J, _⟩ := O.look
    exact PySem.W.kia_one (PySem.W.kitx_own (cl.get _) cl.hd ha hn htk hm) I.kIn J e (fun z => nomatch z) h
end
end L2
namespace L2
open PySem PySem.Spec PyProof.Rows
structure Room (k : Nat) (A : Around) : Prop where
  hd : A.handled = none
  dp : A.depth + 3 * k + 5 < recursionLimit
  un : A.units + 16 * k + 200 < cLine
theorem Room.mono {j k : Nat} {A : Around} (r : Room k A) (h : j ≤ k) : Room j A := ⟨r.hd, by have := r.dp; omega, by have := r.un; omega⟩
theorem Room.deeper {k : Nat} {A : Around} (r : Room (k + 1) A) (env : Env) : Room k (A.deeper env) :=
  ⟨r.hd, by have := r.dp; show A.depth + 1 + 3 * k + 5 < _; omega, by have := r.un; show A.units + 3 + 16 * k + 200 < _; omega⟩
theorem make_depth {A : Around} {C : Addr} {us : List Value} {kw : List (Str × Value)} : (A.under (.builtin "type.__call__" ⟨.ref C :: us, kw⟩)).depth = A.depth + 1 := by
  first | rfl | simp [Around.under, Code.weight, Code.isCreation, Code.isGuard, Code.isCaller, Code.frames, Code.isFrame, guardIds]
theorem make_units {A : Around} {C : Addr} {us : List Value} {kw : List (Str × Value)} : (A.under (.builtin "type.__call__" ⟨.ref C :: us, kw⟩)).units = A.units + 1 := by
  first | rfl | simp [Around.under, Code.cUnits, Code.frames, Code.isFrame]
theorem Room.make {k : Nat} {A : Around} (r : Room (k + 1) A) (C : Addr) (us : List Value) (kw : List (Str × Value)) : Room k (A.under (.builtin "type.__call__" ⟨.ref C :: us, kw⟩)) :=
  ⟨r.hd, by have := r.dp; rw [make_depth]; omega, by have := r.un; rw [make_units]; omega⟩
theorem Room.depth {k : Nat} {A : Around} (r : Room k A) : A.depth < recursionLimit := by have := r.dp; omega
theorem Room.units {k : Nat} {A : Around} (r : Room k A) : A.units + 64 < cLine := by have := r.un; omega
def tNil : TA := fun _ H Q => Q [] H
def tCons (ta : TE) (tr : TA) : TA := fun σ H Q => ta σ H fun x H1 => tr σ H1 fun xs H2 => Q (x :: xs) H2
section
variable {X : Cx} {e : Expr} {es : List Expr} {te : TE} {t : TA} {pos : Pos}
theorem pa_nil : PA X [] tNil := fun _ _ _ _ H Q I h => Calls.spliced_nil ⟨[], H, I, .nil, h⟩
theorem pa_cons (ha : PE X e te) (hr : PA X es t) (hs : starEach (e :: es) X.env = (false, eval e X.env) :: starEach es X.env := by rfl) : PA X (e :: es) (tCons te t) := by
  intro pos pins s σ H Q I h
  rw [hs]
  show wpAny _ _ (spliced ((false, eval e X.env) :: backTo pos (starEach es X.env))) _ _ s
  refine Calls.spliced_cons (thn (ha pins s σ H _ I h) fun u s1 ⟨x, H1, I1, r1, q1⟩ => ?_)
  exact thn (hr pos pins s1 σ H1 _ I1 q1) fun us s2 ⟨xs, H2, I2, r2, q2⟩ => ⟨x :: xs, H2, I2, .cons r1 r2, q2⟩
def tTup (t : TA) : TE := fun σ H Q => t σ H fun xs H1 => xs.length ≤ sizeLine ∧ ∀ p, H1 p = none → Q (.ref p) (upd H1 p (.tup xs))
def tLst (t : TA) : TE := fun σ H Q => t σ H fun xs H1 => xs.length ≤ sizeLine ∧ ∀ p, H1 p = none → Q (.ref p) (upd H1 p (.lst xs))
theorem pe_tup {x1} (h : PA X es t) : PE X (.Tuple es x1 pos) (tTup t) := by
  intro pins s σ H Q I hq
  refine wpAny_Tuple_spliced (thn (h pos pins s σ H _ I hq) fun us s1 ⟨xs, H1, I1, r, z, q⟩ => ⟨by rw [← r.length]; exact z, ?_⟩)
  have hf : H1 s1.heap.objs.size = none := I1.hok.fresh (Nat.le_refl _)
  refine ⟨.ref s1.heap.objs.size, upd H1 s1.heap.objs.size (.tup xs), I1.laid (t' := s1.toks) (fun b u e => Heap.get?_push_of_some _ e) (Nat.le_refl _) ?_, rfl, q _ hf⟩
  exact ⟨z, us, r, ⟨_, Heap.get?_push_size _ rfl, rfl, _, rfl⟩⟩
theorem pe_lst (h : PA X es t) : PE X (.List es pos) (tLst t) := by
  intro pins s σ H Q I hq
  refine wpAny_List_spliced (thn (h pos pins s σ H _ I hq) fun us s1 ⟨xs, H1, I1, r, z, q⟩ => ⟨by rw [← r.length]; exact z, ?_⟩)
  have hf : H1 s1.heap.objs.size = none := I1.hok.fresh (Nat.le_refl _)
  refine ⟨.ref s1.heap.objs.size, upd H1 s1.heap.objs.size (.lst xs), I1.laid (t' := s1.toks) (fun b u e => Heap.get?_push_of_some _ e) (Nat.le_refl _) ?_, rfl, q _ hf⟩
  exact ⟨z, us, 0, r, Heap.get?_push_size _ rfl⟩
end
abbrev Sp := List V → Hp → VK → XK → Prop
abbrev CXT := List Env → Hp → Shared → XK → Value → Shared → Prop
structure Env0 (P : Program) (w : World) (K : PySem.W.Frag) (mg : Str → Option Value) (base : Heap) (A : Around) (outer : List Env) (s : Shared) (H : Hp) : Prop where
  frames : A.frames = some outer
  mod : Mod K mg base
  bs : ∀ b o, base.get? b = some o → s.heap.get? b = some o ∧ H b = none
  bsz : base.objs.size ≤ s.heap.objs.size
  funs : s.heap.FunFrames base outer
  frf : ∀ b ∈ frs outer, H b = none
  hok : HOk P w H s.heap
  bare : AllBare s.gens
def CE (outer : List Env) (P : Program) (w : World) (H : Hp) (s : Shared) (Q : VK) (u : Value) (s' : Shared) : Prop :=
  ∃ v H', s'.os = s.os ∧ AllBare s'.gens ∧ Un (frs outer) [] H H' s.heap s'.heap ∧ HOk P w H' s'.heap ∧ RelV v u ∧ Q v H'
def CR (CX : CXT) (outer : List Env) (P : Program) (w : World) (H : Hp) (s : Shared) (Q : VK) (E : XK) (r : Result) (s' : Shared) : Prop :=
  match r with
  | .ok (.ret u) => CE outer P w H s Q u s'
  | .ok _ => False
  | .error e => CX outer H s E e s'
structure FnOk (P : Program) (w : World) (K : PySem.W.Frag) (mg : Str → Option Value) (base : Heap) (CX : CXT) (k : Nat) (f : Addr) (fd : FuncData) (ps : List Str) (sp : Sp) : Prop where
  len : ∀ vs H Q E, sp vs H Q E → vs.length = ps.length
  run : ∀ (A : Around) (outer : List Env) (s : Shared) (H : Hp) (args : Args) (us : List Value) (vs : List V) (Q : VK) (E : XK), Room k A → Env0 P w K mg base A outer s H → BindsTo s fd args (ps.zip us) → Vals vs us → sp vs H Q E →
    codeAny (model P w) A (.call (.ref f) args) (CR CX outer P w H s Q E) s
theorem Env0.make {P : Program} {w : World} {K : PySem.W.Frag} {mg : Str → Option Value} {base : Heap} {A : Around} {outer : List Env} {s : Shared} {H : Hp} (e : Env0 P w K mg base A outer s H) (C : Addr) (us : List Value) (kw : List (Str × Value)) :
    Env0 P w K mg base (A.under (.builtin "type.__call__" ⟨.ref C :: us, kw⟩)) outer s H := ⟨by first | exact e.frames | (simpa [Around.under, Code.envs, Code.isFrame, pushEnvs] using e.frames), e.mod, e.bs, e.bsz, e.funs, e.frf, e.hok, e.bare⟩
section
variable {X : Cx} {pins : List (Addr × Obj)} {σ : St} {H : Hp} {s s' : Shared}
theorem Inv.env0 (I : Inv X pins σ H s) : Env0 X.prog X.w X.K X.mg X.base X.A X.stack s H :=
  ⟨I.ok.frames, I.ok.mod, I.bs, Nat.le_trans I.ok.bsz I.sz, I.stack, I.stkFree, I.hok, I.bare⟩
theorem Inv.after {Q : VK} {u : Value} (I : Inv X pins σ H s) (h : CE X.stack X.prog X.w H s Q u s') : EP X pins σ Q u s' := by
  obtain ⟨v, H', os, bare, un, hok, r, q⟩ := h
  obtain ⟨hh, g, d, t, os'⟩ := s'
  obtain rfl : os' = s.os := os
  exact ⟨v, H', I.call (h' := hh) (g' := g) (d' := d) (t' := t) (ch := []) un hok bare (fun b z => absurd z (by simp)), r, q⟩
end
def tCall (sp : Sp) (dvs : List V) (E : XK) (t : TA) : TE := fun σ H Q => t σ H fun vs H1 => sp (vs ++ dvs) H1 Q E
def tMeth (C : Addr) (m : Str) (sp : Sp) (dvs : List V) (E : XK) (ta : TE) (t : TA) : TE := fun σ H Q => ta σ H fun x H1 => ∃ a dx fs, x = .ref a ∧ H1 a = some (.ins C dx fs) ∧ fs.lookup m = none ∧
  t σ H1 fun vs H2 => sp (x :: (vs ++ dvs)) H2 Q E
def tMake (C : Addr) (sp : Sp) (dvs : List V) (E : XK) (t : TA) : TE := fun σ H Q => t σ H fun vs H1 => ∀ x dx, H1 x = none → H1 dx = none → dx ≠ x →
  sp (.ref x :: (vs ++ dvs)) (upd (upd H1 dx (.own x)) x (.ins C dx [])) (fun v H2 => v = .non ∧ Q (.ref x) H2) E
def Binds (K : PySem.W.Frag) (fd : FuncData) (ps : List Str) (ds : List Value) : Prop :=
  ∀ (s : Shared) (us : List Value), K.In s.heap → (us ++ ds).length = ps.length → BindsTo s fd ⟨us, []⟩ (ps.zip (us ++ ds))
theorem Binds.all {K : PySem.W.Frag} {fd : FuncData} {ps : List Str} (h : ∀ us : List Value, us.length = ps.length → bindArgs fd ⟨us, []⟩ = pure (ps.zip us)) : Binds K fd ps [] := fun s us _ hl => by
  rw [List.append_nil] at hl ⊢
  exact .of_eq (h us hl)
def Passes (CX : CXT) (X : Cx) (E : XK) : Prop := ∀ (pins : List (Addr × Obj)) (σ : St) (H : Hp) (s : Shared) (e : Value) (s' : Shared), Inv X pins σ H s → CX X.stack H s E e s' → X.xe e s'
section
variable {X : Cx} {CX : CXT} {k : Nat} {f C : Addr} {fd : FuncData} {ps : List Str} {sp : Sp} {dvs : List V} {ds : List Value} {E : XK} {x m : Str} {p pos apos : Pos} {e o : Expr} {es : List Expr} {ta : TE} {t : TA}
theorem run_fn {pins : List (Addr × Obj)} {σ : St} {H : Hp} {s : Shared} {Q : VK} {us : List Value} {vs : List V} (F : FnOk X.prog X.w X.K X.mg X.base CX k f fd ps sp) (hr : Room k X.A) (hb : Binds X.K fd ps ds) (hd : Vals dvs ds) (hx : Passes CX X E)
    (I : Inv X pins σ H s) (r : Vals vs us) (h : sp (vs ++ dvs) H Q E) : wpAny (model X.prog X.w) X.A (call (.ref f) us) (EP X pins σ Q) X.xe s := by
  have r2 : Vals (vs ++ dvs) (us ++ ds) := r.append hd
  have hl : (us ++ ds).length = ps.length := by rw [← r2.length]; exact F.len _ _ _ _ h
  refine wpAny_call (codeAny_mono (F.run X.A X.stack s H ⟨us, []⟩ (us ++ ds) (vs ++ dvs) Q E hr I.env0 (hb s us I.kIn hl) r2 h) fun r s' hq => ?_)
  cases r with
  | error e => exact hx pins σ H s e s' I hq
  | ok fl =>
    cases fl with
    | ret u => exact I.after hq
    | next => exact False.elim hq
    | brk => exact False.elim hq
    | cont => exact False.elim hq
theorem pe_call (F : FnOk X.prog X.w X.K X.mg X.base CX k f fd ps sp) (hr : Room k X.A) (hg : Gl X x) (hm : X.mg x = some (.ref f)) (hk : PySem.W.keepIn X.K (.ref f) = true) (hb : Binds X.K fd ps ds) (hd : Vals dvs ds) (hx : Passes CX X E)
    (ha : PA X (e :: es) t) (hdb : (x == ("__debug__" : Str)) = false := by decide) (he : starEach (e :: es) X.env = (false, eval e X.env) :: starEach es X.env := by rfl) (hpl : (backTo pos (starEach es X.env)).any (·.1) = false := by rfl) :
    PE X (.Call (.Name x p) (e :: es) [] pos) (tCall sp dvs E t) := by
  intro pins s σ H Q I h
  refine wpAny_Call_Name_kw (ld_glob I hg hm ?_ hdb)
  refine PySem.W.callWith_K (h₀ := X.base) I.ok.mod.kin hk (thn (ha pos pins s σ H _ I h) fun us s1 ⟨vs, H1, I1, r, q⟩ => ⟨I1.kIn, ?_⟩) he hpl
  exact run_fn F hr hb hd hx I1 r q
theorem pe_meth {pl : Sem Bool} (he : PE X o ta) (c : Cls X.K C) (hm : Meth X.K C m f) (F : FnOk X.prog X.w X.K X.mg X.base CX k f fd ps sp) (hr : Room k X.A) (hb : Binds X.K fd ps ds) (hd : Vals dvs ds) (hx : Passes CX X E) (ha : PA X (e :: es) t)
    (hst : starEach (e :: es) X.env = (false, eval e X.env) :: starEach es X.env := by rfl) (hpl : (backTo pos (starEach es X.env)).any (·.1) = false := by rfl)
    (ht : eval (.Call (.Attribute o m apos) (e :: es) [] pos) X.env = (do
      let ov ← eval o X.env
      standAt apos.atName
      let (f, first) ← holding [ov] (getMethod ov m pl)
      callWith pos f first (backTo pos (starEach (e :: es) X.env)) (backToKw pos (keywordEach [] X.env))) := by rfl) :
    PE X (.Call (.Attribute o m apos) (e :: es) [] pos) (tMeth C m sp dvs E ta t) := by
  intro pins s σ H Q I h
  refine PySem.W.methodCall_KW (pl := pl) (thn (he pins s σ H _ I h) fun u s1 ⟨x, H1, I1, rx, a, dx, fs, ex, ea, l, q⟩ => ?_) ht
  subst ex
  obtain rfl : u = Value.ref a := rx
  refine getmeth_ok I1 ea c hm l ?_
  refine PySem.W.callWith_K (first := [.ref a]) (h₀ := X.base) I.ok.mod.kin hm.kp (thn (ha pos pins s1 σ H1 _ I1 q) fun us s2 ⟨vs, H2, I2, r, q2⟩ => ⟨I2.kIn, ?_⟩) hst hpl
  exact run_fn (us := .ref a :: us) (vs := .ref a :: vs) F hr hb hd hx I2 (.cons rfl r) q2
theorem pe_meth0 {pl : Sem Bool} (he : PE X o ta) (c : Cls X.K C) (hm : Meth X.K C m f) (F : FnOk X.prog X.w X.K X.mg X.base CX k f fd ps sp) (hr : Room k X.A) (hb : Binds X.K fd ps ds) (hd : Vals dvs ds) (hx : Passes CX X E)
    (ht : eval (.Call (.Attribute o m apos) [] [] pos) X.env = (do
      let ov ← eval o X.env
      standAt apos.atName
      let (f, first) ← holding [ov] (getMethod ov m pl)
      callWith pos f first (backTo pos (starEach [] X.env)) (backToKw pos (keywordEach [] X.env))) := by rfl) :
    PE X (.Call (.Attribute o m apos) [] [] pos) (tMeth C m sp dvs E ta tNil) := by
  intro pins s σ H Q I h
  refine PySem.W.methodCall_KW (pl := pl) (thn (he pins s σ H _ I h) fun u s1 ⟨x, H1, I1, rx, a, dx, fs, ex, ea, l, q⟩ => ?_) ht
  subst ex
  obtain rfl : u = Value.ref a := rx
  refine getmeth_ok I1 ea c hm l ?_
  exact PySem.W.callWith_K0 (first := [.ref a]) I1.kIn hm.kp (run_fn (us := [.ref a]) (vs := [.ref a]) F hr hb hd hx I1 (.cons rfl .nil) q)
structure Mk (K : PySem.W.Frag) (C f : Addr) : Prop where
  makes : PySem.W.makesIn K C = true
  init : PySem.W.findIn K (.ref C) "__init__" = some (some (.ref f))
  fn : PySem.W.isFn K (.ref f) = true
  kp : PySem.W.keepIn K (.ref C) = true
theorem run_make {pins : List (Addr × Obj)} {σ : St} {H : Hp} {s : Shared} {Q : VK} {us : List Value} {vs : List V} (M : Mk X.K C f) (F : FnOk X.prog X.w X.K X.mg X.base CX k f fd ps sp) (hr : Room (k + 1) X.A) (hb : Binds X.K fd ps ds) (hd : Vals dvs ds)
    (hx : Passes CX X E) (I : Inv X pins σ H s) (r : Vals vs us)
    (h : ∀ x dx, H x = none → H dx = none → dx ≠ x → sp (.ref x :: (vs ++ dvs)) (upd (upd H dx (.own x)) x (.ins C dx [])) (fun v H2 => v = .non ∧ Q (.ref x) H2) E) :
    wpAny (model X.prog X.w) X.A (call (.ref C) us) (EP X pins σ Q) X.xe s := by
  have hq := h (s.heap.objs.size + 1) s.heap.objs.size (I.hok.fresh (Nat.le_succ _)) (I.hok.fresh (Nat.le_refl _)) (Nat.ne_of_lt (Nat.lt_succ_self _))
  have I2 := Inv.made (C := C) I
  have r2 : Vals (V.ref (s.heap.objs.size + 1) :: (vs ++ dvs)) (Value.ref (s.heap.objs.size + 1) :: (us ++ ds)) := .cons rfl (r.append hd)
  have hl : (Value.ref (s.heap.objs.size + 1) :: us ++ ds).length = ps.length := by
    have e := r2.length
    rw [F.len _ _ _ _ hq] at e
    exact e.symm
  refine wpAny_call (make_map (f := f) I.kIn M.makes M.init (beq_iff_eq.mp M.fn) (codeAny_mono (F.run _ X.stack _ _ ⟨Value.ref (s.heap.objs.size + 1) :: us, []⟩ (Value.ref (s.heap.objs.size + 1) :: (us ++ ds)) _ _ E (hr.make C us [])
    (I2.env0.make C us []) (hb _ (Value.ref (s.heap.objs.size + 1) :: us) I2.kIn hl) r2 hq) fun r s' hq' => ?_))
  cases r with
  | error e => exact hx pins σ _ _ e s' I2 hq'
  | ok fl =>
    cases fl with
    | ret u =>
      obtain ⟨v, H', I3, rv, ev, q3⟩ := I2.after hq'
      subst ev
      exact ⟨rv, ⟨V.ref (s.heap.objs.size + 1), H', I3, rfl, q3⟩⟩
    | next => exact False.elim hq'
    | brk => exact False.elim hq'
    | cont => exact False.elim hq'
theorem pe_make (M : Mk X.K C f) (F : FnOk X.prog X.w X.K X.mg X.base CX k f fd ps sp) (hr : Room (k + 1) X.A) (hg : Gl X x) (hm : X.mg x = some (.ref C)) (hb : Binds X.K fd ps ds) (hd : Vals dvs ds) (hx : Passes CX X E)
    (ha : PA X (e :: es) t) (hdb : (x == ("__debug__" : Str)) = false := by decide) (he : starEach (e :: es) X.env = (false, eval e X.env) :: starEach es X.env := by rfl) (hpl : (backTo pos (starEach es X.env)).any (·.1) = false := by rfl) :
    PE X (.Call (.Name x p) (e :: es) [] pos) (tMake C sp dvs E t) := by
  intro pins s σ H Q I h
  refine wpAny_Call_Name_kw (ld_glob I hg hm ?_ hdb)
  refine PySem.W.callWith_K (h₀ := X.base) I.ok.mod.kin M.kp (thn (ha pos pins s σ H _ I h) fun us s1 ⟨vs, H1, I1, r, q⟩ => ⟨I1.kIn, ?_⟩) he hpl
  exact run_make M F hr hb hd hx I1 r q
end
section
variable {X : Cx} {CX : CXT} {k : Nat} {f C : Addr} {fd : FuncData} {ps ks : List Str} {sp : Sp} {E : XK} {x m : Str} {p pos apos kpos : Pos} {e o : Expr} {es : List Expr} {kws : List Keyword} {te ta : TE} {t tk : TA} {nm : Option Str}
variable {g : List Value → List Value → List Value} {gV : List V → List V → List V}
end
structure FnScope (N P : List Str) (sc : Scope) : Prop where
  kind : sc.kind = .function
  co : sc.isCoroutine = false
  gen : sc.isGenerator = false
  nd : N.Nodup
  pre : N.take P.length = P
  par : ∀ x ∈ P, sc.names.lookup x = some .local ∨ sc.names.lookup x = some .cell
  nofree : ∀ y ∈ sc.names, y.2 ≠ .free
theorem bindL_out {kindOf : Str → Option NameKind} {x : Str} : ∀ {binds : List (Str × Value)} {m : Str → Option Value}, (∀ v, (x, v) ∉ binds) → bindL kindOf binds m x = m x
  | [], _, _ => rfl
  | (n, v) :: r, m, h => by
    unfold bindL
    rw [bindL_out fun w hw => h w (List.mem_cons_of_mem _ hw)]
    split
    · have : x ≠ n := by rintro rfl; exact h v List.mem_cons_self
      simp [this]
    · rfl
theorem bindC_out {kindOf : Str → Option NameKind} {x : Str} : ∀ {binds : List (Str × Value)} {m : Str → Option Value}, (∀ v, (x, v) ∉ binds) → bindC kindOf binds m x = m x
  | [], _, _ => rfl
  | (n, v) :: r, m, h => by
    unfold bindC
    rw [bindC_out fun w hw => h w (List.mem_cons_of_mem _ hw)]
    split
    · rfl
    · have : x ≠ n := by rintro rfl; exact h v List.mem_cons_self
      simp [this]
theorem bindL_get {kindOf : Str → Option NameKind} {x : Str} {v : Value} : ∀ {P : List Str} {vs : List Value} {i : Nat} {m : Str → Option Value}, P.Nodup → P[i]? = some x → vs[i]? = some v → kindOf x = some .local →
    bindL kindOf (P.zip vs) m x = some v
  | [], _, _, _, _, h, _, _ => by simp at h
  | _ :: _, [], _, _, _, _, h, _ => by simp at h
  | p :: P, w :: vs, 0, m, nd, h1, h2, hk => by
    simp at h1 h2; subst h1; subst h2
    show bindL kindOf ((p, w) :: P.zip vs) m p = _
    unfold bindL
    rw [bindL_out fun v hv => (List.nodup_cons.mp nd).1 (List.of_mem_zip hv).1, if_pos hk]
    simp
  | p :: P, w :: vs, i + 1, m, nd, h1, h2, hk => by
    show bindL kindOf ((p, w) :: P.zip vs) m x = _
    unfold bindL
    exact bindL_get (i := i) (List.nodup_cons.mp nd).2 (by simpa using h1) (by simpa using h2) hk
theorem bindC_get {kindOf : Str → Option NameKind} {x : Str} {v : Value} : ∀ {P : List Str} {vs : List Value} {i : Nat} {m : Str → Option Value}, P.Nodup → P[i]? = some x → vs[i]? = some v → kindOf x ≠ some .local →
    bindC kindOf (P.zip vs) m x = some v
  | [], _, _, _, _, h, _, _ => by simp at h
  | _ :: _, [], _, _, _, _, h, _ => by simp at h
  | p :: P, w :: vs, 0, m, nd, h1, h2, hk => by
    simp at h1 h2; subst h1; subst h2
    show bindC kindOf ((p, w) :: P.zip vs) m p = _
    unfold bindC
    rw [bindC_out fun v hv => (List.nodup_cons.mp nd).1 (List.of_mem_zip hv).1, if_neg hk]
    simp
  | p :: P, w :: vs, i + 1, m, nd, h1, h2, hk => by
    show bindC kindOf ((p, w) :: P.zip vs) m x = _
    unfold bindC
    exact bindC_get (i := i) (List.nodup_cons.mp nd).2 (by simpa using h1) (by simpa using h2) hk
def start (N : List Str) (vs : List V) : St := vs.map some ++ List.replicate (N.length - vs.length) none
def cxOf (CX : CXT) (P : Program) (w : World) (K : PySem.W.Frag) (mg : Str → Option Value) (base : Heap) (N : List Str) (qual : Str) (scope : Scope) (f : Addr) (cd : Value) (A : Around) (outer : List Env) (s : Shared) (H : Hp) (E : XK) : Cx where
  prog := P
  w := w
  K := K
  mg := mg
  base := base
  A := A.deeper (envOfC qual scope s.heap.objs.size f cd)
  N := N
  s₀ := s
  H₀ := H
  env := envOfC qual scope s.heap.objs.size f cd
  outer := outer
  stack := envOfC qual scope s.heap.objs.size f cd :: outer
  ex := []
  calm := true
  fn := fun _ => true
  pn := []
  xe := fun e s' => wpAny (model P w) (A.deeper (envOfC qual scope s.heap.objs.size f cd)) (leaving (envOfC qual scope s.heap.objs.size f cd) e) (fun _ s'' => CX outer H s E e s'') (fun e' s'' => CX outer H s E e' s'') s'
theorem cell_has {sc : Scope} {n : Nat} {x : Str} (h : sc.names.lookup x = some .cell) : ∃ c, (cellsFrom n sc.names []).lookup x = some c := by
  have q := PySem.W.cellsFrom_some sc.names n [] (.inl h)
  exact Option.isSome_iff_exists.mp q
theorem inv_start {CX : CXT} {P : Program} {w : World} {K : PySem.W.Frag} {mg : Str → Option Value} {base : Heap} {N ps : List Str} {qual : Str} {scope : Scope} {f : Addr} {cd : Value} {A : Around} {outer : List Env} {s s1 : Shared} {H : Hp} {E : XK} {us : List Value} {vs : List V}
    (S : FnScope N ps scope) (hd : A.handled = none) (e0 : Env0 P w K mg base A outer s H) (hl : vs.length = ps.length) (r : Vals vs us)
    (x : InCallC s s.heap.objs.size (bindL (envOfC qual scope s.heap.objs.size f cd).kindOf (ps.zip us) fun _ => none) (cellsFrom (s.heap.objs.size + 1) scope.names []) (bindC (envOfC qual scope s.heap.objs.size f cd).kindOf (ps.zip us) fun _ => none) s1) :
    Inv (cxOf CX P w K mg base N qual scope f cd A outer s H E) [] (start N vs) H s1 := by
  have hpl : ps.length ≤ N.length := by have := congrArg List.length S.pre; rw [List.length_take] at this; omega
  obtain ⟨h1, tk, rfl, hk⟩ := x.done
  have noA : ∀ b : Addr, b ∉ (cxOf CX P w K mg base N qual scope f cd A outer s H E).ex := fun b z => absurd (show b ∈ ([] : List Addr) from z) (by simp)
  refine ⟨⟨e0.mod, S.kind, rfl, rfl, Nat.le_refl _, fun y z c h1 h2 => ?_, fun y hy => ?_, fun y c _ h => ?_, fun _ => hd, Around.frames_deeper e0.frames, .inr ⟨rfl, rfl⟩, fun b z => absurd z (noA b), e0.bs, e0.bsz, fun b _ _ => noA b, fun b z => absurd z (noA b), e0.funs, e0.frf⟩,
    rfl, e0.bare, Un.kept hk, ⟨_, x.toInCall.ns, fun i y v h1 h2 h3 => ?_⟩, fun y c h => ⟨_, x.cell y c h⟩, e0.hok.fresh (Nat.le_refl _), fun y c h => ?_, fun p hp => absurd (show p ∈ ([] : List (Addr × Obj)) from hp) (by simp), e0.hok.kept hk, ?_⟩
  · exact name_of_addr x.apart (PySem.mem_of_lookup h1) (PySem.mem_of_lookup h2)
  · have hy : scope.names.lookup y = some .cell ∨ scope.names.lookup y = some .free := hy
    rcases hy with hy | hy
    · exact cell_has hy
    · exact absurd rfl (S.nofree _ (PySem.mem_of_lookup hy))
  · exact Nat.le_of_lt (x.above y c (PySem.mem_of_lookup h))
  · have hi : i < vs.length := by
      unfold start at h2
      by_cases hi : i < vs.length
      · exact hi
      · rw [List.getElem?_append_right (by simpa using hi)] at h2
        rw [List.getElem?_replicate] at h2
        split at h2 <;> cases h2
    have ha : vs[i]? = some v := by
      unfold start at h2
      rw [List.getElem?_append_left (by simpa using hi), List.getElem?_map] at h2
      cases e : vs[i]? with
      | none => rw [e] at h2; cases h2
      | some a => rw [e] at h2; cases h2; rfl
    obtain ⟨u, hu, rv⟩ := r.get ha
    have hp : ps[i]? = some y := by
      rw [← S.pre, List.getElem?_take_of_lt (by omega)]; exact h1
    have ndP : ps.Nodup := by rw [← S.pre]; exact S.nd.sublist (List.take_sublist _ _)
    refine ⟨u, rv, ?_⟩
    rcases S.par y (List.mem_of_getElem? hp) with k | k
    · exact .inl ⟨k, bindL_get ndP hp hu k⟩
    · obtain ⟨c, e⟩ := cell_has (n := s.heap.objs.size + 1) k
      refine .inr ⟨.inl k, c, e, ?_⟩
      have q := x.cell y c e
      rw [bindC_get ndP hp hu (by show scope.names.lookup y ≠ _; rw [k]; decide)] at q
      exact q
  · exact e0.hok.fresh (Nat.le_of_lt (x.above y c (PySem.mem_of_lookup h)))
  · unfold start
    show _ = N.length
    rw [List.length_append, List.length_map, List.length_replicate]
    omega
theorem fn_of {CX : CXT} {P : Program} {w : World} {K : PySem.W.Frag} {mg : Str → Option Value} {base : Heap} {k : Nat} {f : Addr} {name qual : Str} {params : Arguments} {body : List Stmt} {scope : Scope} {dV kV doc pm cdv ct oc : Value} {an od : Option Addr}
    {osl : Array (Option Value)} {N ps : List Str} {sp : Sp} (lk : K.lookup f = some ⟨oc, od, .func (PySem.W.fnOf name qual params body scope dV kV doc pm an cdv ct), osl⟩) (hcd : PySem.W.codeIn K cdv qual = true) (S : FnScope N ps scope)
    (len : ∀ vs H Q E, sp vs H Q E → vs.length = ps.length)
    (hbody : ∀ (A : Around) (outer : List Env) (s : Shared) (H : Hp) (vs : List V) (Q : VK) (E : XK), Room k (A.deeper (envOfC qual scope s.heap.objs.size f cdv)) → sp vs H Q E →
      ∃ t, PSs (cxOf CX P w K mg base N qual scope f cdv A outer s H E) body t ∧ t { nx := fun _ H' => Q .non H', rt := Q } (start N vs) H) :
    FnOk P w K mg base CX (k + 1) f (PySem.W.fnOf name qual params body scope dV kV doc pm an cdv ct) ps sp := by
  refine ⟨len, fun A outer s H args us vs Q E hr e0 hb r hsp => ?_⟩
  have hl := len _ _ _ _ hsp
  have KX : K.In s.heap := e0.mod.kin.keeps fun b o e => (e0.bs b o e).1
  have lim : s.heap.NoLimit := e0.mod.nolimit.keeps fun b o e => (e0.bs b o e).1
  have hkind : ∀ y ∈ ps.zip us, scope.names.lookup y.1 = some .local ∨ (scope.names.lookup y.1 = some .cell ∧ ((cellsFrom (s.heap.objs.size + 1) scope.names []).lookup y.1).isSome = true) := fun ⟨n, v⟩ hy => by
    rcases S.par n (List.of_mem_zip hy).1 with q | q
    · exact .inl q
    · exact .inr ⟨q, PySem.W.cellsFrom_some _ _ _ (.inl q)⟩
  refine codeAny_call_function hr.depth (KX _ _ lk) rfl S.co S.gen rfl (PySem.W.codeRec_of KX hcd) (hb _ _ _ _ ?_)
  refine wpAny_newFunctionEnv_cells S.kind hkind fun env he s1 x => ?_
  subst he
  refine ⟨lim.keeps x.toInCall.keep, codeAny_func ?_⟩
  obtain ⟨t, ht, hq⟩ := hbody A outer s H vs Q E (hr.deeper _) hsp
  have I : Inv (cxOf CX P w K mg base N qual scope f cdv A outer s H E) [] (start N vs) H s1 := inv_start S hr.hd e0 hl r x
  refine wpAny_mono (ht [] s1 (start N vs) H _ I hq) (fun fl s' hs => ?_) fun e s' hs => hs
  have fin : ∀ {σ' : St} {H' : Hp} {v : V} {u : Value}, Inv (cxOf CX P w K mg base N qual scope f cdv A outer s H E) [] σ' H' s' → RelV v u → Q v H' → CE outer P w H s Q u s' :=
    fun {σ' H' v u} J rv q => ⟨v, H', J.os, J.bare, J.base, J.hok, rv, q⟩
  cases fl with
  | ret u =>
    obtain ⟨v, σ', H', J, rv, q⟩ := hs
    exact fin J rv q
  | next =>
    obtain ⟨σ', H', J, q⟩ := hs
    exact fin (v := V.non) (u := Value.none) J rfl q
  | brk =>
    obtain ⟨_, _, _, q⟩ := hs
    exact False.elim q
  | cont =>
    obtain ⟨_, _, _, q⟩ := hs
    exact False.elim q
end L2
namespace L2
open PySem PySem.Spec PyProof.Rows
section
variable {X : Cx} {x : Str} {p pos : Pos} {e : Expr} {es : List Expr} {t : TA} {id T : String} {r : List V → Hp → VK → Prop}
def tCB (r : List V → Hp → VK → Prop) (t : TA) : TE := fun σ H Q => t σ H fun vs H1 => r vs H1 Q
theorem pe_callB (hc : CallR X (.builtin id) r) (hg : Gl X x) (hm : X.mg x = none) (hv : bootBuiltins x = some (.builtin id)) (ha : PA X (e :: es) t) (hn : x ≠ "__name__" := by decide) (hdb : (x == ("__debug__" : Str)) = false := by decide)
    (he : starEach (e :: es) X.env = (false, eval e X.env) :: starEach es X.env := by rfl) (hpl : (backTo pos (starEach es X.env)).any (·.1) = false := by rfl) : PE X (.Call (.Name x p) (e :: es) [] pos) (tCB r t) := by
  intro pins s σ H Q I h
  refine wpAny_Call_Name_kw (ld_blt I hg hm hv ?_ hn hdb)
  exact PyProof.Rows.callWith_builtin1 (thn (ha pos pins s σ H _ I h) fun us s1 ⟨vs, H1, I1, r1, q1⟩ => hc pins s1 σ H1 vs us Q I1 r1 q1) he hpl
theorem pe_callTy (hc : CallR X (.type T) r) (hg : Gl X x) (hm : X.mg x = none) (hv : bootBuiltins x = some (.type T)) (ha : PA X (e :: es) t) (hn : x ≠ "__name__" := by decide) (hdb : (x == ("__debug__" : Str)) = false := by decide)
    (he : starEach (e :: es) X.env = (false, eval e X.env) :: starEach es X.env := by rfl) (hpl : (backTo pos (starEach es X.env)).any (·.1) = false := by rfl) : PE X (.Call (.Name x p) (e :: es) [] pos) (tCB r t) := by
  intro pins s σ H Q I h
  refine wpAny_Call_Name_kw (ld_blt I hg hm hv ?_ hn hdb)
  exact PyProof.Rows.callWith_type1 (thn (ha pos pins s σ H _ I h) fun us s1 ⟨vs, H1, I1, r1, q1⟩ => hc pins s1 σ H1 vs us Q I1 r1 q1) he hpl
end
end L2
namespace HT
open PySem PyProof.Rows
def lexLt : List Int → List Int → Bool
  | [], [] => false
  | [], _ :: _ => true
  | _ :: _, [] => false
  | x :: xs, y :: ys => if x = y then lexLt xs ys else decide (x < y)
theorem lexLt_cons (x y : Int) (xs ys : List Int) : lexLt (x :: xs) (y :: ys) = if x = y then lexLt xs ys else decide (x < y) := rfl
section
open PySem.SeqAt
open PySem.AutoSeq1 (wpAny_loadPart')
open PySem.MeetsSeq PySem.MeetsSeq2 PySem.MeetsSeq3
end
section
variable {prog : Program} {w : World} {A : Around} {E : Value → Shared → Prop} {s : Shared}
theorem cat_tup {t b : Addr} {vs ws : List Value} {Q : Value → Shared → Prop} (ht : IsTup s.heap t vs.toArray) (hb : IsTup s.heap b ws.toArray) (hv : vs ≠ [])
    (h1 : ws = [] → Q (.ref t) s) (h2 : ws ≠ [] → Q (.ref s.heap.objs.size) { s with heap := s.heap.push { cls := .type "tuple", data := .seq (vs ++ ws).toArray } })
    (hsz : vs.length + ws.length ≤ sizeLine) : wpAny (model prog w) A (binaryOp .Add (.ref t) (.ref b)) Q E s := by
  obtain ⟨⟨cls, dd, data, sl⟩, ho, hc, n, hd⟩ := id ht
  obtain ⟨⟨cls2, dd2, data2, sl2⟩, ho2, hc2, n2, hd2⟩ := id hb
  simp only at hc hd hc2 hd2
  subst hc hd hc2 hd2
  have e : vs.toArray ++ ws.toArray = (vs ++ ws).toArray := by simp
  by_cases hw : ws = []
  · exact concat_meets ⟨_, ho, rfl⟩ ⟨_, ho2, rfl⟩ noFill_tuple_add seq_tuple_add PySem.F.slot_tuple_add PySem.F.entry_tuple_add (PySem.F.args_tuple_add_2 _ _)
      (tuple_addW1 t b vs.toArray ws.toArray n n2 dd dd2 sl sl2 (by simpa using hv) (by simp [hw])) ⟨ho, ho2, h1 hw⟩
  · refine concat_meets ⟨_, ho, rfl⟩ ⟨_, ho2, rfl⟩ noFill_tuple_add seq_tuple_add PySem.F.slot_tuple_add PySem.F.entry_tuple_add (PySem.F.args_tuple_add_2 _ _)
      (tuple_addW2 t b vs.toArray ws.toArray n n2 dd dd2 sl sl2 (by simpa using hv) (by simpa using hw) (by rw [List.size_toArray, List.size_toArray]; exact hsz)) ⟨ho, ho2, ?_⟩
    rw [e]
    exact h2 hw
def sIx (n d : Nat) : Option Int → Nat
  | none => d
  | some v => if v < 0 then (v + (n : Int)).toNat else min v.toNat n
theorem sIx_none (n d : Nat) : sIx n d none = d := rfl
theorem sIx_nat (n d k : Nat) : sIx n d (some (k : Int)) = min k n := by
  show (if (k : Int) < 0 then ((k : Int) + (n : Int)).toNat else min (k : Int).toNat n) = min k n
  rw [if_neg (by omega), Int.toNat_natCast]
end
end HT
namespace L2
open PySem PySem.Spec PyProof.Rows
abbrev TO := St → Hp → (Option Int → Hp → Prop) → Prop
def PO (X : Cx) (e : Option Expr) (t : TO) : Prop :=
  ∀ (pins : List (Addr × Obj)) (s : Shared) (σ : St) (H : Hp) (Q : Option Int → Hp → Prop), Inv X pins σ H s → t σ H Q →
    wpAny (model X.prog X.w) X.A (evalPart e X.env) (fun u s' => ∃ o H', Inv X pins σ H' s' ∧ IsPart u o ∧ Q o H') X.xe s
def tNoPart : TO := fun _ H Q => Q none H
def tPart (t : TE) : TO := fun σ H Q => t σ H fun x H1 => ∃ i, x = .int i ∧ Q (some i) H1
theorem intsAre_of {ns : List Int} : ∀ {us : List Value}, Vals (ns.map V.int) us → IntsAre us ns := by
  induction ns with
  | nil => intro us r; rw [List.map_nil] at r; cases r; exact .nil
  | cons n ns ih =>
    intro us r
    rw [List.map_cons] at r
    cases r with
    | cons r1 r2 =>
      obtain ⟨t, e⟩ := r1
      subst e
      exact .cons n t (ih r2)
section
variable {X : Cx} {e : Expr} {te : TE} {lo hi : Option Expr} {tl th : TO} {pos p2 : Pos}
theorem po_none : PO X none tNoPart := by
  intro pins s σ H Q I h
  rw [evalPart_none]
  exact wpAny_pure ⟨none, H, I, .none, h⟩
theorem po_some (h : PE X e te) : PO X (some e) (tPart te) := by
  intro pins s σ H Q I hw
  rw [evalPart_some]
  refine thn (h pins s σ H _ I hw) fun u s1 ⟨x, H1, I1, r1, q1⟩ => ?_
  obtain ⟨i, rfl, q⟩ := q1
  obtain ⟨t, rfl⟩ := r1
  exact ⟨some i, H1, I1, .int i t, q⟩
def SlR (X : Cx) (r : V → Option Int → Option Int → Hp → VK → Prop) : Prop :=
  ∀ (pins : List (Addr × Obj)) (s : Shared) (σ : St) (H : Hp) (x : V) (v vl vu : Value) (lo hi : Option Int) (sl : Addr) (Q : VK), Inv X pins σ H s → RelV x v → s.heap.IsSliceOf sl vl vu .none → IsPart vl lo → IsPart vu hi → r x lo hi H Q →
    ∃ T id, typeLookup (.type T) "__getitem__" = pure (some (.builtin id)) ∧ s.TypeIs v T ∧ wpAny (model X.prog X.w) X.A (getItem v (.ref sl)) (EP X pins σ Q) X.xe s
def tSl (r : V → Option Int → Option Int → Hp → VK → Prop) (te : TE) (tl th : TO) : TE := fun σ H Q => te σ H fun x H1 => tl σ H1 fun l H2 => th σ H2 fun u H3 => r x l u H3 Q
theorem pe_slice {r : V → Option Int → Option Int → Hp → VK → Prop} (hr : SlR X r) (he : PE X e te) (hl : PO X lo tl) (hu : PO X hi th) : PE X (.Subscript e (.Slice lo hi none p2) pos) (tSl r te tl th) := by
  intro pins s σ H Q I h
  refine Subscript_ (thn (he pins s σ H _ I h) fun v s1 ⟨x, H1, I1, r1, q1⟩ => ?_)
  refine wpAny_Slice (thn (hl pins s1 σ H1 _ I1 q1) fun vl s2 ⟨l, H2, I2, pl, q2⟩ => thn (hu pins s2 σ H2 _ I2 q2) fun vu s3 ⟨u, H3, I3, pu, q3⟩ => ?_)
  rw [evalPart_none]
  refine wpAny_pure ?_
  have I4 : Inv X pins σ H3 { s3 with heap := s3.heap.push { cls := .type "slice", data := .fields #[vl, vu, .none] } } := I3.kept (t' := s3.toks) fun b ob q => Heap.get?_push_of_some _ q
  obtain ⟨T, id, hT, ht, hg⟩ := hr pins { s3 with heap := s3.heap.push { cls := .type "slice", data := .fields #[vl, vu, .none] } } σ H3 x v vl vu l u s3.heap.objs.size Q I4 r1 (Heap.IsSliceOf.new ..) pl pu q3
  show wpAny (model X.prog X.w) X.A (subscriptTail e (.Slice lo hi none p2) v (.ref s3.heap.objs.size)) (EP X pins σ Q) X.xe { s3 with heap := s3.heap.push { cls := .type "slice", data := .fields #[vl, vu, .none] } }
  exact tail_any (ops := [.ref s3.heap.objs.size, v]) ht hT hg (by with_unfolding_all rfl)
def cutV (xs : List V) (lo hi : Option Int) : List V := (xs.drop (HT.sIx xs.length 0 lo)).take (HT.sIx xs.length xs.length hi - HT.sIx xs.length 0 lo)
theorem cutV_length (xs : List V) (lo hi : Option Int) : (cutV xs lo hi).length ≤ xs.length := by
  unfold cutV
  rw [List.length_take, List.length_drop]
  omega
def rCatT (K : PySem.W.Frag) : R2 := fun x y H Q => ∃ a b xs ys, x = .ref a ∧ y = .ref b ∧ SqT K H a xs ∧ SqT K H b ys ∧ xs ≠ [] ∧ xs.length + ys.length ≤ sizeLine ∧
  (ys = [] → Q (.ref a) H) ∧ (ys ≠ [] → ∀ p, H p = none → Q (.ref p) (upd H p (.tup (xs ++ ys))))
theorem Vals.nil_iff {xs : List V} {us : List Value} (r : Vals xs us) : us = [] ↔ xs = [] := by
  cases r with
  | nil => simp
  | cons _ _ => simp
theorem op_catT : OpR X (binaryOp .Add) (rCatT X.K) := by
  intro pins s σ H x y v u Q I rx ry h
  obtain ⟨a, b, xs, ys, rfl, rfl, ha, hb, hx, hz, q1, q2⟩ := h
  cases rx
  cases ry
  obtain ⟨its, r1, p1, _⟩ := I.tuple ha
  obtain ⟨its2, r2, p2, _⟩ := I.tuple hb
  refine HT.cat_tup p1 p2 (fun z => hx (r1.nil_iff.mp z)) (fun z => ⟨.ref a, H, I, rfl, q1 (r2.nil_iff.mp z)⟩) (fun z => ?_) (by rw [← r1.length, ← r2.length]; exact hz)
  refine ⟨.ref s.heap.objs.size, _, I.laid (t' := s.toks) (o := .tup (xs ++ ys)) (fun b ob q => Heap.get?_push_of_some _ q) (Nat.le_refl _) ?_, rfl, q2 (fun w => z (r2.nil_iff.mpr w)) _ (I.hok.fresh (Nat.le_refl _))⟩
  exact ⟨by rw [List.length_append]; exact hz, _, r1.append r2, IsTup.new _ _⟩
end
end L2
namespace L2
open PySem PySem.Spec PyProof.Rows
def ixN (n : Nat) (i : Int) : Option Nat := if 0 ≤ i then (if i < n then some i.toNat else none) else if -(n : Int) ≤ i then some (i + n).toNat else none
def atI {α : Type} (xs : List α) (i : Int) : Option α := (ixN xs.length i).bind fun j => xs[j]?
theorem ixN_seq {n : Nat} {i : Int} {j : Nat} (h : ixN n i = some j) : seqIndex? i n = some j ∧ j < n ∧ -(n : Int) ≤ i ∧ i < n := by
  unfold ixN at h
  by_cases h0 : 0 ≤ i
  · rw [if_pos h0] at h
    by_cases h1 : i < n
    · rw [if_pos h1] at h
      have e : i.toNat = j := Option.some.inj h
      exact ⟨by rw [seqIndex_of h0 h1, e], by omega, by omega, h1⟩
    · rw [if_neg h1] at h; cases h
  · rw [if_neg h0] at h
    by_cases h1 : -(n : Int) ≤ i
    · rw [if_pos h1] at h
      have e : (i + n).toNat = j := Option.some.inj h
      exact ⟨by rw [seqIndex_neg (by omega) h1, e], by omega, h1, by omega⟩
    · rw [if_neg h1] at h; cases h
theorem atI_get {α : Type} {xs : List α} {i : Int} {v : α} (h : atI xs i = some v) : ∃ j, seqIndex? i xs.length = some j ∧ xs[j]? = some v ∧ j < xs.length ∧ -(xs.length : Int) ≤ i ∧ i < xs.length := by
  unfold atI at h
  cases e : ixN xs.length i with
  | none => rw [e] at h; cases h
  | some j =>
    rw [e] at h
    obtain ⟨h1, h2, h3, h4⟩ := ixN_seq e
    exact ⟨j, h1, h, h2, h3, h4⟩
theorem atI_nat {α : Type} {xs : List α} {j : Nat} {v : α} (h : xs[j]? = some v) : atI xs (j : Int) = some v := by
  have hj : j < xs.length := (List.getElem?_eq_some_iff.mp h).1
  have e : ixN xs.length (j : Int) = some j := by
    unfold ixN
    rw [if_pos (by omega), if_pos (by omega)]; simp
  unfold atI; rw [e]; exact h
def PlainIx (b : Expr) : Prop := ∀ o i, subscripted b false o i = operate [o, i] (getItem o i)
def IxR (X : Cx) (r : R2) : Prop :=
  ∀ (value slice : Expr) (pins : List (Addr × Obj)) (s : Shared) (σ : St) (H : Hp) (x y : V) (v u : Value) (Q : VK), Inv X pins σ H s → RelV x v → RelV y u → r x y H Q →
    subscripted slice false v u = operate [v, u] (getItem v u) → wpAny (model X.prog X.w) X.A (subscriptTail value slice v u) (EP X pins σ Q) X.xe s
def MtR (X : Cx) (id : String) (r : V → List V → Hp → VK → Prop) : Prop :=
  ∀ (pins : List (Addr × Obj)) (s : Shared) (σ : St) (H : Hp) (x : V) (xs : List V) (v : Value) (us : List Value) (Q : VK), Inv X pins σ H s → RelV x v → Vals xs us → r x xs H Q →
    wpAny (model X.prog X.w) X.A (call (.builtin id) (v :: us)) (EP X pins σ Q) X.xe s
section
variable {X : Cx} {a b : Expr} {ta tb : TE} {pos : Pos}
theorem IxR.or {r r' : R2} (h : IxR X r) (h' : IxR X r') : IxR X (fun x y H Q => r x y H Q ∨ r' x y H Q) := by
  intro value slice pins s σ H x y v u Q I rx ry q hs
  rcases q with q | q
  · exact h value slice pins s σ H x y v u Q I rx ry q hs
  · exact h' value slice pins s σ H x y v u Q I rx ry q hs
theorem pe_ix {r : R2} (hr : IxR X r) (ha : PE X a ta) (hb : PE X b tb) (hs : PlainIx b) : PE X (.Subscript a b pos) (tOp r ta tb) := by
  intro pins s σ H Q I h
  exact Subscript_ (binT ha hb I h fun v u s2 x y H2 I2 rx ry q => hr a b pins s2 σ H2 x y v u Q I2 rx ry q (hs _ _))
def rIxL (K : PySem.W.Frag) : R2 := fun x y H Q => ∃ p xs i v, x = .ref p ∧ y = .int i ∧ SqL K H p xs ∧ atI xs i = some v ∧ Q v H
def rIxT (K : PySem.W.Frag) : R2 := fun x y H Q => ∃ p xs i v, x = .ref p ∧ y = .int i ∧ SqT K H p xs ∧ atI xs i = some v ∧ Q v H
def rIxS : R2 := fun x y H Q => ∃ z i c, x = .str z ∧ y = .int i ∧ z.length ≤ sizeLine ∧ atI z.cps.toList i = some c ∧ Q (.str ⟨#[c]⟩) H
theorem ix_list : IxR X (rIxL X.K) := by
  intro value slice pins s σ H x y v u Q I rx ry h hs
  obtain ⟨p, xs, i, z, rfl, rfl, hq, he, q⟩ := h
  cases rx
  obtain ⟨t, rfl⟩ := ry
  obtain ⟨its, r, pl, hz⟩ := I.list hq
  obtain ⟨j, h1, h2, h3, h4, h5⟩ := atI_get he
  obtain ⟨w, ew, rw'⟩ := r.get h2
  have hl := r.length
  have hn := line63
  have fin : EP X pins σ Q w s := ⟨z, H, I, rw', q⟩
  by_cases h0 : 0 ≤ i
  · have hj : i.toNat = j := by
      rw [seqIndex_of h0 h5] at h1
      exact Option.some.inj h1
    exact item_listR pl.isList h0 (by omega) (by rw [hj]; simpa using ew) fin hs
  · have hj : (i + (its.toArray.size : Int)).toNat = j := by
      rw [seqIndex_neg (by omega) h4] at h1
      rw [List.size_toArray, ← hl]
      exact Option.some.inj h1
    exact subscriptTail_builtinR (x := w) pl.isList.typeIs slot_list_getitem.lookup
      (wpAny_getItem_list_neg (Q := fun r s' => r = w ∧ EP X pins σ Q r s') pl.isList (by omega) (by rw [List.size_toArray] <;> omega) (by omega) (by rw [hj]; simpa using ew) ⟨rfl, fin⟩) hs
theorem ix_tup : IxR X (rIxT X.K) := by
  intro value slice pins s σ H x y v u Q I rx ry h hs
  obtain ⟨p, xs, i, z, rfl, rfl, hq, he, q⟩ := h
  cases rx
  obtain ⟨t, rfl⟩ := ry
  obtain ⟨its, r, pl, hz⟩ := I.tuple hq
  obtain ⟨j, h1, h2, h3, h4, h5⟩ := atI_get he
  obtain ⟨w, ew, rw'⟩ := r.get h2
  have hl := r.length
  have hn := line63
  have fin : EP X pins σ Q w s := ⟨z, H, I, rw', q⟩
  exact subscriptTail_builtinR (x := w) pl.typeIs slot_tuple_getitem.lookup
    (getItem_tuple (j := j) (Q := fun r s' => r = w ∧ EP X pins σ Q r s') pl (by omega) (by omega) (by rw [List.size_toArray, ← hl]; exact h1) (by simpa using ew) ⟨rfl, fin⟩) hs
theorem ix_str : IxR X rIxS := by
  intro value slice pins s σ H x y v u Q I rx ry h hs
  obtain ⟨z, i, c, rfl, rfl, hz, he, q⟩ := h
  obtain ⟨t, rfl⟩ := rx
  obtain ⟨t', rfl⟩ := ry
  obtain ⟨j, h1, h2, h3, h4, h5⟩ := atI_get he
  have hl : z.cps.toList.length = z.length := by simp [Str.length]
  rw [hl] at h1 h4 h5
  have hn := line63
  exact tail_any (typeIs_str s z t) slot_str_getitem.lookup (getItem_str (c := c) (by
    have e1 : decide (i < -(2 ^ 63 : Int)) = false := decide_eq_false (by omega)
    have e2 : decide (i ≥ 2 ^ 63) = false := decide_eq_false (by omega)
    rw [e1, e2, Bool.or_false]) (by rw [h1]; simpa using h2) ⟨.str ⟨#[c]⟩, H, I.tok _, ⟨_, rfl⟩, q⟩) hs
def rIx (K : PySem.W.Frag) : R2 := fun x y H Q => rIxL K x y H Q ∨ rIxT K x y H Q ∨ rIxS x y H Q
theorem ix_seq : IxR X (rIx X.K) := ix_list.or (ix_tup.or ix_str)
theorem Inv.lst {pins : List (Addr × Obj)} {σ : St} {H : Hp} {s : Shared} {p : Addr} {xs : List V} (I : Inv X pins σ H s) (h : H p = some (.lst xs)) :
    ∃ (its : List Value) (n : Nat), Vals xs its ∧ s.heap.get? p = some { cls := .type "list", data := .seq its.toArray n } ∧ xs.length ≤ sizeLine := by
  obtain ⟨z, its, n, r, e⟩ := I.hok p _ h
  exact ⟨its, n, r, e, z⟩
def rSetL : V → V → V → Hp → (Hp → Prop) → Prop := fun o i v H Q => ∃ p xs k j, o = .ref p ∧ i = .int k ∧ H p = some (.lst xs) ∧ ixN xs.length k = some j ∧ Q (upd H p (.lst (xs.set j v)))
theorem slice_bounds (lo hi : Option Int) (n : Nat) : (sliceBounds lo hi none n).1 = ((HT.sIx n 0 lo : Nat) : Int) ∧ (sliceBounds lo hi none n).2.1 = ((HT.sIx n n hi : Nat) : Int) ∧ (sliceBounds lo hi none n).2.2 = 1 := by
  refine ⟨?_, ?_, rfl⟩
  · cases lo with
    | none => simp [sliceBounds, HT.sIx]
    | some i =>
      simp only [sliceBounds, HT.sIx, Option.getD_none, show (1 : Int) > 0 by decide, if_true]
      by_cases h : i < 0
      · simp only [h, if_true] <;> omega
      · simp only [h, if_false] <;> omega
  · cases hi with
    | none => simp [sliceBounds, HT.sIx]
    | some i =>
      simp only [sliceBounds, HT.sIx, Option.getD_none, show (1 : Int) > 0 by decide, if_true]
      by_cases h : i < 0
      · simp only [h, if_true] <;> omega
      · simp only [h, if_false] <;> omega
theorem slicePick_cut (its : List Value) (lo hi : Option Int) : slicePick its.toArray lo hi none = ((its.drop (HT.sIx its.length 0 lo)).take (HT.sIx its.length its.length hi - HT.sIx its.length 0 lo)).toArray := by
  obtain ⟨h1, h2, h3⟩ := slice_bounds lo hi its.toArray.size
  unfold slicePick
  rw [h1, h2, h3]
  simp only [sliceRange_one, pick_run, List.size_toArray] <;> rfl
def rSlL (K : PySem.W.Frag) : V → Option Int → Option Int → Hp → VK → Prop := fun x lo hi H Q => ∃ a xs, x = .ref a ∧ SqL K H a xs ∧ ∀ p, H p = none → Q (.ref p) (upd H p (.lst (cutV xs lo hi)))
theorem sl_list : SlR X (rSlL X.K) := by
  intro pins s σ H x v vl vu lo hi sl Q I rx hs pl pu h
  obtain ⟨a, xs, rfl, hx, q⟩ := h
  cases rx
  obtain ⟨its, r, ht, hz⟩ := I.list hx
  have hlen := r.length
  refine ⟨"list", _, slot_list_getitem.lookup, ht.isList.typeIs, ?_⟩
  refine wpAny_getItem_list_slice ht.isList hs pl pu .none (by simp) ?_ (by rw [List.size_toArray] <;> omega)
  rw [slicePick_cut, ← hlen]
  refine ⟨.ref s.heap.objs.size, _, I.laid (t' := s.toks) (o := .lst (cutV xs lo hi)) (fun b ob q => Heap.get?_push_of_some _ q) (Nat.le_refl _) ?_, rfl, q _ (I.hok.fresh (Nat.le_refl _))⟩
  exact ⟨Nat.le_trans (cutV_length xs lo hi) hz, _, 0, (r.drop (HT.sIx xs.length 0 lo)).take (HT.sIx xs.length xs.length hi - HT.sIx xs.length 0 lo), Heap.get?_push_size _ rfl⟩
theorem call_list_of : CallR X (.type "list") (fun xs H Q => ∃ p ys, xs = [.ref p] ∧ (SqL X.K H p ys ∨ SqT X.K H p ys) ∧ ∀ l, H l = none → Q (.ref l) (upd H l (.lst ys))) := by
  intro pins s σ H xs us Q I r h
  obtain ⟨p, ys, rfl, hq, q⟩ := h
  obtain ⟨u, rfl, rx⟩ := vals1 r
  cases rx
  have fin : ∀ (its : List Value), Vals ys its → ys.length ≤ sizeLine → ∀ (h' : Heap) (c' : Nat), (∀ b o', s.heap.get? b = some o' → h'.get? b = some o') →
      h'.get? s.heap.objs.size = some { cls := .type "list", dict := none, data := .seq its.toArray c', slots := #[] } → EP X pins σ Q (.ref s.heap.objs.size) { s with heap := h' } := fun its r' hz h' c' kp e =>
    ⟨.ref s.heap.objs.size, _, I.laid (t' := s.toks) kp (Nat.le_refl _) (show ObjOk X.prog X.w _ h' _ (.lst ys) from ⟨hz, its, c', r', e⟩), rfl, q _ (I.hok.fresh (Nat.le_refl _))⟩
  rcases hq with hq | hq
  · obtain ⟨its, r', pl, hz⟩ := I.list hq
    have hlen := r'.length
    obtain ⟨o, ho, hc, n, hd⟩ := pl.isList
    exact call_list_seq p (.inl rfl) ho hc hd (fun h' c' kp e => fin its r' hz h' c' kp e) (by simp only [List.size_toArray] <;> omega)
  · obtain ⟨its, r', pl, hz⟩ := I.tuple hq
    have hlen := r'.length
    obtain ⟨o, ho, hc, n, hd⟩ := pl
    exact call_list_seq p (.inr rfl) ho hc hd (fun h' c' kp e => fin its r' hz h' c' kp e) (by simp only [List.size_toArray] <;> omega)
def tyV (K : PySem.W.Frag) (T : String) (x : V) (H : Hp) : Prop := match x with
  | .str _ => T = "str"
  | .int _ => T = "int"
  | .ref p => (T = "list" ∧ ∃ xs, SqL K H p xs) ∨ (T = "tuple" ∧ ∃ o, K.lookup p = some o ∧ o.cls = .type "tuple" ∧ o.dict = none) ∨
      (T = "dict" ∧ ((∃ kvs, H p = some (.dK kvs)) ∨ ∃ kvs, H p = some (.dT kvs))) ∨ (T = "set" ∧ ∃ S n, H p = some (.set S n))
  | _ => False
theorem tyV_is {pins : List (Addr × Obj)} {σ : St} {H : Hp} {s : Shared} {T : String} {x : V} {v : Value} (I : Inv X pins σ H s) (r : RelV x v) (ty : tyV X.K T x H) :
    s.TypeIs v T ∧ ∀ a, v = .ref a → ∃ ob, s.heap.get? a = some ob ∧ ob.dict = none := by
  cases x with
  | str z =>
    obtain ⟨t, rfl⟩ := r
    cases (show T = "str" from ty)
    exact ⟨typeIs_str s z t, fun _ e => nomatch e⟩
  | int i =>
    obtain ⟨t, rfl⟩ := r
    cases (show T = "int" from ty)
    exact ⟨typeIs_int s i t, fun _ e => nomatch e⟩
  | ref p =>
    cases r
    rcases ty with ⟨rfl, xs, hq⟩ | ⟨rfl, o, hk, hc, hd⟩ | ⟨rfl, hk⟩ | ⟨rfl, S, n, hk⟩
    · obtain ⟨its, _, pl, _⟩ := I.list hq
      refine ⟨pl.isList.typeIs, fun a e => ?_⟩
      cases e
      obtain ⟨o, n, e, c, hd, _⟩ := pl
      exact ⟨o, e, hd⟩
    · refine ⟨⟨o, I.kIn p o hk, hc⟩, fun a e => ?_⟩
      cases e
      exact ⟨o, I.kIn _ o hk, hd⟩
    · have z : ∃ o, s.heap.get? p = some o ∧ o.ExactDict := by
        rcases hk with ⟨kvs, hk⟩ | ⟨kvs, hk⟩
        · obtain ⟨_, _, _, _, o, _, _, e, ex, _⟩ := I.hok p _ hk
          exact ⟨o, e, ex⟩
        · obtain ⟨_, _, _, _, o, _, _, e, ex, _⟩ := I.hok p _ hk
          exact ⟨o, e, ex⟩
      obtain ⟨o, e, ex⟩ := z
      refine ⟨⟨o, e, ex.1⟩, fun a e2 => ?_⟩
      cases e2
      exact ⟨o, e, ex.2.1⟩
    · obtain ⟨o, _, _, _, e, ex, _⟩ := I.hok p _ hk
      refine ⟨⟨o, e, ex.1⟩, fun a e2 => ?_⟩
      cases e2
      exact ⟨o, e, ex.2.1⟩
  | _ => exact False.elim ty
def tBM0 (K : PySem.W.Frag) (T : String) (r : V → List V → Hp → VK → Prop) (to : TE) : TE := fun σ H Q => to σ H fun x H1 => tyV K T x H1 ∧ r x [] H1 Q
def tBM (K : PySem.W.Frag) (T : String) (r : V → List V → Hp → VK → Prop) (to : TE) (t : TA) : TE := fun σ H Q => to σ H fun x H1 => tyV K T x H1 ∧ t σ H1 fun xs H2 => r x xs H2 Q
variable {o e : Expr} {es : List Expr} {to : TE} {t : TA} {name : Str} {apos cpos : Pos} {T id : String} {r : V → List V → Hp → VK → Prop}
theorem pe_bm0 (pa : PlainAttrs T) (slot : Slot T name id) (hty : typeOf (.builtin id) = pure (.type "method_descriptor")) (hm : MtR X id r) (ho : PE X o to)
    (hbase : attributeBase o name X.env (eval o X.env) = eval o X.env := by rfl) (hline : (apos.endLine == cpos.line) = true := by rfl) : PE X (.Call (.Attribute o name apos) [] [] cpos) (tBM0 X.K T r to) := by
  intro pins s σ H Q I h
  refine wpAny_Call_method0_late hbase hline (thn (ho pins s σ H _ I h) fun v s1 ⟨x, H1, I1, r1, ty, q1⟩ => ?_)
  obtain ⟨h1, h2⟩ := tyV_is I1 r1 ty
  exact ⟨T, id, pa, slot, hty, h1, h2, Calls.callWith_builtin rfl (PySem.evalArgs_none (hm pins s1 σ H1 x [] v [] Q I1 r1 .nil q1))⟩
theorem pe_bm (pa : PlainAttrs T) (slot : Slot T name id) (hty : typeOf (.builtin id) = pure (.type "method_descriptor")) (hm : MtR X id r) (ho : PE X o to) (ha : PA X (e :: es) t)
    (hbase : attributeBase o name X.env (eval o X.env) = eval o X.env := by rfl)
    (hfew : ((backTo cpos (starEach (e :: es) X.env)).all (fun x => !x.1) && (backToKw cpos (keywordEach [] X.env)).all (fun x => x.1.isSome)
      && decide ((e :: es).length + ([] : List Keyword).length + (if ([] : List Keyword).isEmpty then 0 else 1) < 30)) = true := by rfl)
    (hline : (apos.endLine == cpos.line) = true := by rfl) (hs : starEach (e :: es) X.env = (false, eval e X.env) :: starEach es X.env := by rfl) (hplain : (backTo cpos (starEach es X.env)).any (·.1) = false := by rfl) :
    PE X (.Call (.Attribute o name apos) (e :: es) [] cpos) (tBM X.K T r to t) := by
  intro pins s σ H Q I h
  refine wpAny_Call_method_late hbase hfew hline rfl (thn (ho pins s σ H _ I h) fun v s1 ⟨x, H1, I1, r1, ty, q1⟩ => ?_)
  obtain ⟨h1, h2⟩ := tyV_is I1 r1 ty
  refine ⟨T, id, pa, slot, hty, h1, h2, ?_⟩
  have hA := ha cpos pins s1 σ H1 _ I1 q1
  rw [hs] at hA ⊢
  refine Calls.callWith_builtin (by show (false || (backTo cpos (starEach es X.env)).any (·.1)) = false; rw [hplain] <;> rfl) (Calls.evalArgs_plain ?_)
  exact thn hA fun us s2 ⟨vs, H2, I2, r2, q2⟩ => hm pins s2 σ H2 x vs v us Q I2 r1 r2 q2
end
end L2
namespace L2
open PySem PySem.Spec PyProof.Rows
def MtM (X : Cx) (id : String) (r : V → List V → Hp → VK → Prop) : Prop :=
  ∀ (pins : List (Addr × Obj)) (s : Shared) (σ : St) (H : Hp) (x : V) (xs : List V) (v : Value) (us : List Value) (Q : VK), Inv X pins σ H s → RelV x v → Vals xs us → r x xs H Q →
    wpAny (model X.prog X.w) X.A (call (.builtin id) (v :: us)) (EP X pins σ Q) X.xe s
theorem Vals.one : ∀ {x : V} {us : List Value}, Vals [x] us → ∃ u, us = [u] ∧ RelV x u
  | _, _, .cons r .nil => ⟨_, rfl, r⟩
theorem Vals.zero : ∀ {us : List Value}, Vals [] us → us = []
  | _, .nil => rfl
theorem Vals.reverse {xs : List V} {us : List Value} (h : Vals xs us) : Vals xs.reverse us.reverse := by
  induction h with
  | nil => exact .nil
  | cons r t ih => rw [List.reverse_cons, List.reverse_cons]; exact Vals.append ih (.cons r .nil)
section
variable {X : Cx} {pins : List (Addr × Obj)} {σ : St} {H : Hp} {s : Shared} {l b : Addr} {xs ys zs : List V}
theorem Inv.lset {its its' : List Value} {n : Nat} {f : Array Value → Array Value} {t' : Nat} (I : Inv X pins σ H s) (hH : H l = some (.lst xs))
    (e : s.heap.get? l = some { cls := .type "list", data := .seq its.toArray n }) (hf : f its.toArray = its'.toArray) (hv : Vals ys its') (hz : ys.length ≤ sizeLine) :
    Inv X pins σ (upd H l (.lst ys)) { s with heap := s.heap.update l (Obj.mapSeq f), toks := t' } := by
  have q := PySem.IsL.update e f
  rw [hf] at q
  refine I.write (x := l) (e := l) (by rw [hH]; exact trivial) (.inl rfl) (fun b' u hb hu => (Heap.get?_update_other s.heap (Obj.mapSeq f) (Ne.symm hb)).trans hu) ⟨_, q⟩ ?_
  exact ⟨hz, its', _, hv, q⟩
theorem Inv.lnew {its : List Value} {t' : Nat} (I : Inv X pins σ H s) (hv : Vals ys its) (hz : ys.length ≤ sizeLine) :
    Inv X pins σ (upd H s.heap.objs.size (.lst ys)) { s with heap := s.heap.push { cls := .type "list", data := .seq its.toArray }, toks := t' } :=
  I.laid (fun _ _ q => Heap.get?_push_of_some _ q) (Nat.le_refl _) ⟨hz, its, 0, hv, Heap.get?_push_size _ rfl⟩
theorem Inv.fresh (I : Inv X pins σ H s) : H s.heap.objs.size = none := I.hok.fresh (Nat.le_refl _)
theorem Inv.lstM (I : Inv X pins σ H s) (hH : H l = some (.lst xs)) : xs.length ≤ sizeLine ∧ ∃ (its : List Value) (n : Nat), Vals xs its ∧ xs.length = its.length ∧ s.heap.get? l = some { cls := .type "list", data := .seq its.toArray n } := by
  obtain ⟨z, its, n, r, e⟩ := I.hok l _ hH
  exact ⟨z, its, n, r, r.length, e⟩
end
section
variable {X : Cx}
def rAppend : V → List V → Hp → VK → Prop := fun x vs H Q => ∃ l xs y, x = .ref l ∧ vs = [y] ∧ H l = some (.lst xs) ∧ xs.length < sizeLine ∧ Q .non (upd H l (.lst (xs ++ [y])))
theorem mt_append : MtM X "list.append" rAppend := by
  intro pins s σ H x vs v us Q I rx rv h
  obtain ⟨l, xs, y, rfl, rfl, hH, hz, q⟩ := h
  cases rx
  obtain ⟨u, rfl, ru⟩ := rv.one
  obtain ⟨z, its, n, r, hl, e⟩ := I.lstM hH
  refine call_meets F.slot_list_append ⟨_, e, rfl⟩ F.entry_list_append (F.args_list_append_2 _ _) (PySem.list_append l its.toArray n u (by rw [List.size_toArray]; omega)) ⟨e, ?_⟩
  refine ⟨.non, _, I.lset (its' := its ++ [u]) hH e (by simp) (r.append (.cons ru .nil)) ?_, rfl, q⟩
  rw [List.length_append, List.length_singleton]
  omega
def rExtend : V → List V → Hp → VK → Prop := fun x vs H Q => ∃ l b xs zs, x = .ref l ∧ vs = [.ref b] ∧ H l = some (.lst xs) ∧ H b = some (.lst zs) ∧ xs.length + zs.length ≤ sizeLine ∧ Q .non (upd H l (.lst (xs ++ zs)))
def rClear : V → List V → Hp → VK → Prop := fun x vs H Q => ∃ l xs, x = .ref l ∧ vs = [] ∧ H l = some (.lst xs) ∧ Q .non (upd H l (.lst []))
theorem mt_clear : MtM X "list.clear" rClear := by
  intro pins s σ H x vs v us Q I rx rv h
  obtain ⟨l, xs, rfl, rfl, hH, q⟩ := h
  cases rx
  have hus := rv.zero
  subst hus
  obtain ⟨z, its, n, r, hl, e⟩ := I.lstM hH
  refine call_meets F.slot_list_clear ⟨_, e, rfl⟩ F.entry_list_clear (F.args_list_clear_1 _) (AutoSeq1.list_clear_list_0 l its.toArray n (by rw [List.size_toArray]; omega)) ⟨e, ?_⟩
  exact ⟨.non, _, I.lset (its' := []) (ys := []) hH e rfl .nil (Nat.zero_le _), rfl, q⟩
def rCat : R2 := fun x y H Q => ∃ l b xs zs, x = .ref l ∧ y = .ref b ∧ H l = some (.lst xs) ∧ H b = some (.lst zs) ∧ xs.length + zs.length ≤ sizeLine ∧ ∀ p, H p = none → Q (.ref p) (upd H p (.lst (xs ++ zs)))
theorem op_cat : OpR X (binaryOp .Add) rCat := by
  intro pins s σ H x y v u Q I rx ry h
  obtain ⟨l, b, xs, zs, rfl, rfl, hH, hB, hz, q⟩ := h
  cases rx
  cases ry
  obtain ⟨z, its, n, r, hl, e⟩ := I.lstM hH
  obtain ⟨z2, its2, n2, r2, hl2, e2⟩ := I.lstM hB
  refine PySem.P.add_list e e2 ?_ (by rw [List.size_toArray, List.size_toArray]; omega)
  have ea : its.toArray ++ its2.toArray = (its ++ its2).toArray := by simp
  rw [ea]
  exact ⟨.ref _, _, I.lnew (t' := s.toks) (r.append r2) (by rw [List.length_append]; omega), rfl, q _ I.fresh⟩
end
section
variable {prog : Program} {w : World} {A : Around} {E : Value → Shared → Prop} {s : Shared}
set_option maxRecDepth 100000 in
end
section
variable {X : Cx}
end
end L2
namespace Att
open PySem PySem.W PySem.Calls PyProof.Rows
theorem ints_of_wellAll {P : Params} {h : Heap} : ∀ (ns : List Int) (vs : List Value), WellAll P h vs (ns.map WData.int) → IntsAre vs ns := by
  intro ns
  induction ns with
  | nil =>
    intro vs w
    rw [List.map_nil] at w
    cases w
    exact .nil
  | cons n ns ih =>
    intro vs w
    rw [List.map_cons] at w
    cases w with
    | cons a b =>
      cases a
      exact .cons _ _ (ih _ b)
theorem script_of {l : OpenLaw} {n : Nat} (hn : l.most = some n) {P : Params} {h : Heap} {args : List WData} {vals : List Value}
    (hpre : l.row.toRowW.claim.pre args = true) (hwl : WellAll P h vals args) :
    ∃ a vs ns, vals = [Value.ref a] ∧ args = [WData.list (ns.map WData.int)] ∧ h.get? a = some { cls := .type "list", data := .seq vs.toArray } ∧ IntsAre vs ns ∧ ns.length ≤ n := by
  have hsh : WShape.hasAll [] args [.list .int] = true := (pre_splitW hpre).1
  have hc : l.pre.holds [] { args := args } = true := (pre_splitW hpre).2
  obtain ⟨d, r, rfl, h1, h2⟩ := hasAllW_cons hsh
  obtain rfl := hasAllW_nil h2
  obtain ⟨xs, rfl, h3⟩ := hasW_list h1
  obtain ⟨ns, rfl⟩ := items_int h3
  have hlen : ns.length ≤ n := by
    unfold OpenLaw.pre at hc
    have h4 : (WTm.not (.lt (.lit (.int (n : Int))) (.len (.arg 0)))).holds [] { args := [.list (ns.map .int)] } = true := by
      have h4 := (holds_andW hc).1
      rw [hn] at h4
      exact h4
    have h5 := condW_of h4 (w_not (w_lt w_lit (w_len_list (w_arg rfl))))
    rw [List.length_map] at h5
    refine Nat.le_of_not_lt fun q => ?_
    have q' : (n : Int) < ((ns.length : Nat) : Int) := by omega
    first
      | (rw [decide_eq_true q'] at h5; exact absurd h5 (by decide))
      | (simp at h5; omega)
  cases hwl with
  | cons w1 w2 =>
    cases w2
    cases w1 with
    | list ho hall => exact ⟨_, _, ns, rfl, rfl, ho, ints_of_wellAll ns _ hall, hlen⟩
theorem post_true (l : OpenLaw) (args : List WData) : l.row.toRowW.claim.post args (.bool true) args = true :=
  postW_of (r := l.row.toRowW) (X := (true == true))
    (show WShape.has [] (.bool true) .bool = true by first | rfl | decide | simp [WShape.has, WShape.arms, WShape.armsAll])
    (show (WTm.eq .res (.lit (.bool true))).value [] { args := args, res := some (.bool true), after := args } = some (.bool (true == true)) from w_eq_bool (w_res rfl) w_lit) rfl
theorem attach_call {l : OpenLaw} {n : Nat} {q : Program} {loose : List Str} {XP : (Str → Option Value) → Heap → Prop} {YP : World → Heap → Prop} {d : DefRec}
    (hn : l.most = some n) (hdf : d.params.defaults = [])
    (call : ∀ (w : World) (s₀ s₁ : Shared) (mg mb : Str → Option Value) (fa : Addr) (o : Obj) (pm cd doc : Value) (a : Addr) (vs : List Value) (ns : List Int),
      Ground q loose [] XP w s₀ mg mb s₁.heap → YP w s₁.heap →
      s₁.heap.get? fa = some o → o.data = .func (docDef d.name d.params d.body d.scope pm cd doc) → s₁.heap.CodeRec cd d.name → mg d.name = some (.ref fa) →
      s₁.heap.get? a = some { cls := .type "list", data := .seq vs.toArray } → IntsAre vs ns → ns.length ≤ n → s₁.gens = #[] →
      codeAny (model l.prog w) callerA (.call (.ref fa) ⟨[.ref a], []⟩) (fun r s' => r = .ok (.ret (.bool true)) ∧ OldK s₁.heap s'.heap ∧ s'.os = s₁.os ∧ AllBare s'.gens) s₁) :
    WalkO q loose XP YP l.row.toRowW d [] (fun f vs => PySem.call f vs) := by
  intro w s₀ s₁ mg mb G Y fa o pm cd doc dV kV ho hd hcd hD hmg hg args vals as hpre hlay hrd hwl hlo
  obtain rfl : dV = .none := Dflts.none hD hdf
  obtain rfl : kV = .none := Dflts.noKw hD
  obtain ⟨a, vs, ns, rfl, rfl, hobj, hints, hlen⟩ := script_of hn hpre hwl
  refine enter_call (codeAny_mono (call w s₀ s₁ mg mb fa o pm cd doc a vs ns G Y ho (fd_plain hd) hcd hmg hobj hints hlen hg) fun r s' hq => ?_)
  obtain ⟨rfl, h2, h3, h4⟩ := hq
  exact ⟨.inl ⟨.bool true, .bool true, [], rfl, fun _ => rfl, .bool true, post_true l _, fun _ => ⟨List.Pairwise.nil, fun _ hm => (nomatch hm)⟩⟩, h2, h3, h4⟩
section
variable {prog : Program} {w : World} {A : Around} {E : Value → Shared → Prop} {s : Shared} {K : Frag}
end
end Att
namespace L2
open PySem PySem.Spec PyProof.Rows
theorem vals_ints : ∀ {vs : List Value} {ns : List Int}, IntsAre vs ns → Vals (ns.map V.int) vs
  | _, _, .nil => .nil
  | _, _, .cons n t h => .cons ⟨t, rfl⟩ (vals_ints h)
def Only (H : Hp) : Prop := ∀ b, H b = none ∨ ∃ o xs, H b = some (.frz o (.lst xs))
theorem law_call {P : Program} {w : World} {K : PySem.W.Frag} {mg mb : Str → Option Value} {CX : CXT} {k : Nat} {fa a : Addr} {fd : FuncData} {x : Str} {sp : Sp} {s₁ : Shared} {vs : List Value} {ns : List Int}
    (KX : K.In s₁.heap) (hns : s₁.heap.Ns mainGlobals mg) (hb : s₁.heap.Ns builtinsNs mb) (hbb : ∀ x : Str, x ≠ "__name__" → mb x = bootBuiltins x) (hlim : s₁.heap.NoLimit) (hg : s₁.gens = #[])
    (ha : s₁.heap.get? a = some { cls := .type "list", data := .seq vs.toArray }) (hi : IntsAre vs ns) (hl : ns.length ≤ sizeLine) (hr : Room k callerA)
    (F : ∀ base : Heap, K.In base → base.Ns mainGlobals mg → FnOk P w K mg base CX k fa fd [x] sp) (hbind : ∀ (s : Shared) (u : Value), BindsTo s fd ⟨[u], []⟩ [(x, u)])
    (hsp : ∀ H : Hp, Only H → SqL K H a (ns.map V.int) → sp [.ref a] H (fun v _ => v = .bl true) fun _ _ _ => False)
    (hCX : ∀ H e s', CX [] H s₁ (fun _ _ _ => False) e s' → False) :
    codeAny (model P w) callerA (.call (.ref fa) ⟨[.ref a], []⟩) (fun r s' => r = .ok (.ret (.bool true)) ∧ OldK s₁.heap s'.heap ∧ s'.os = s₁.os ∧ AllBare s'.gens) s₁ := by
  have rv := vals_ints hi
  have lenV := hi.length
  have core : ∀ H : Hp, Only H → SqL K H a (ns.map V.int) → HOk P w H s₁.heap → (∀ b, H b ≠ none → b = a) → (H a ≠ none → K.lookup a = none) →
      codeAny (model P w) callerA (.call (.ref fa) ⟨[.ref a], []⟩) (fun r s' => r = .ok (.ret (.bool true)) ∧ OldK s₁.heap s'.heap ∧ s'.os = s₁.os ∧ AllBare s'.gens) s₁ := by
    intro H hO hS hok hA hK
    have base_of : ∀ {b : Addr} {o : Obj}, s₁.heap.get? b = some o → H b = none → (hidT s₁.heap H).get? b = some o := fun e n => hidT_get e n
    have noA : ∀ {b : Addr} {o : Obj} {es : Array DictEntry} {ep : Nat}, s₁.heap.get? b = some o → o.data = .dict es ep → H b = none := fun {b o es ep} e d => by
      cases q : H b with
      | none => rfl
      | some u =>
        have e' : b = a := hA b (by rw [q]; simp)
        subst e'
        rw [ha] at e; cases e
        have d' : Data.seq vs.toArray _ = Data.dict es ep := d
        cases d'
    have nsK : ∀ {b : Addr} {m : Str → Option Value}, s₁.heap.Ns b m → (hidT s₁.heap H).Ns b m := fun {b m} ⟨o, es, ep, e, d, r⟩ => ⟨o, es, ep, base_of e (noA e d), d, r⟩
    have hKb : K.In (hidT s₁.heap H) := fun b o e => base_of (KX b o e) (by
      cases q : H b with
      | none => rfl
      | some u =>
        have e' : b = a := hA b (by rw [q]; simp)
        subst e'
        rw [hK (by rw [q]; simp)] at e; cases e)
    have hM : Mod K mg (hidT s₁.heap H) := ⟨hKb, nsK hns, ⟨mb, nsK hb, hbb⟩, let ⟨mc, h1, h2⟩ := hlim; ⟨mc, nsK h1, h2⟩⟩
    have e0 : Env0 P w K mg (hidT s₁.heap H) callerA [] s₁ H := ⟨rfl, hM, fun b o e => of_hidT e, Nat.le_of_eq (hidT_size _ _), trivial, fun b hb => absurd (show b ∈ ([] : List Addr) from hb) (by simp), hok, .of_eq hg⟩
    refine codeAny_mono ((F _ hKb (nsK hns)).run callerA [] s₁ H ⟨[.ref a], []⟩ [.ref a] [.ref a] _ _ hr e0 (hbind s₁ (.ref a)) (.cons rfl .nil) (hsp H hO hS)) fun r s' h => ?_
    cases r with
    | error e => exact (hCX H e s' h).elim
    | ok fl =>
      cases fl with
      | next => exact False.elim h
      | brk => exact False.elim h
      | cont => exact False.elim h
      | ret u =>
        obtain ⟨v, H', os, bare, un, hok', r', q⟩ := h
        have q' : v = .bl true := q
        subst q'
        obtain rfl : u = Value.bool true := r'
        refine ⟨rfl, OldK.of_keep fun b o e => ?_, os, bare⟩
        cases q : H b with
        | none => exact un.keep b o e q (by intro z; exact absurd (show b ∈ ([] : List Addr) from z) (by simp)) (by simp)
        | some u =>
          rcases hO b with z | ⟨ob, xs, z⟩
          · rw [q] at z; cases z
          · have z2 := un.frzs b ob _ z
            obtain ⟨e1, _⟩ := hok b _ z
            obtain ⟨e2, _⟩ := hok' b _ z2
            rw [e] at e1; cases e1
            exact e2
  cases hk : K.lookup a with
  | some o =>
    have e := KX a o hk
    rw [ha] at e
    cases e
    refine core (fun _ => none) (fun _ => .inl rfl) (.inr ⟨_, vs.toArray, _, hk, rfl, rfl, rfl, by rw [List.size_toArray, lenV]; exact hl, by simpa using rv⟩) (fun b u z => by have z' : (none : Option HO) = some u := z; cases z') (fun b z => absurd rfl z) fun z => absurd rfl z
  | none =>
    refine core (fun b => if b = a then some (.frz { cls := .type "list", data := .seq vs.toArray } (.lst (ns.map V.int))) else none) (fun b => ?_) (.inl (.inr ⟨{ cls := .type "list", data := .seq vs.toArray }, if_pos rfl⟩)) (fun b u z => ?_) (fun b z => ?_) fun _ => hk
    · by_cases hb : b = a
      · exact .inr ⟨_, _, if_pos hb⟩
      · exact .inl (if_neg hb)
    · by_cases hb : b = a
      · have z' := (if_pos hb).symm.trans z
        cases z'
        subst hb
        exact ⟨ha, by rw [List.length_map]; exact hl, vs, _, rv, ha⟩
      · have z' := (if_neg hb).symm.trans z
        cases z'
    · by_cases hb : b = a
      · exact hb
      · exact absurd (if_neg hb) z
end L2
namespace L2
open PySem PySem.Spec PyProof.Rows
theorem walk_of {l : PySem.W.OpenLaw} {n k : Nat} {q : Program} {loose : List Str} {XP : (Str → Option Value) → Heap → Prop} {YP : World → Heap → Prop} {d : DefRec} {K : Params → PySem.W.Frag} {CX : World → CXT} {sp : World → Sp} {x : Str}
    (hn : l.most = some n) (hn2 : n ≤ sizeLine) (hdf : d.params.defaults = []) (hr : Room k callerA)
    (hY : ∀ (w : World) (h : Heap), YP w h → (K w.params).In h)
    (F : ∀ (w : World) (mg : Str → Option Value) (fa : Addr) (h : Heap), (K w.params).In h → h.Ns mainGlobals mg → mg d.name = some (.ref fa) →
      ∃ fd : FuncData, (∀ (s : Shared) (u : Value), BindsTo s fd ⟨[u], []⟩ [(x, u)]) ∧
        ∀ base : Heap, (K w.params).In base → base.Ns mainGlobals mg → FnOk l.prog w (K w.params) mg base (CX w) k fa fd [x] (sp w))
    (hsp : ∀ (w : World) (H : Hp) (a : Addr) (ns : List Int), ns.length ≤ n → Only H → SqL (K w.params) H a (ns.map V.int) → sp w [.ref a] H (fun v _ => v = .bl true) fun _ _ _ => False)
    (hCX : ∀ (w : World) (H : Hp) (s : Shared) (e : Value) (s' : Shared), CX w [] H s (fun _ _ _ => False) e s' → False) :
    PySem.W.WalkO q loose XP YP l.row.toRowW d [] (fun f vs => PySem.call f vs) := by
  refine Att.attach_call hn hdf fun w s₀ s₁ mg mb fa o pm cd doc a vs ns G Y ho hd hcd hmg hobj hints hlen hg => ?_
  have KX := hY w _ Y
  obtain ⟨fd, hb, hF⟩ := F w mg fa _ KX G.T.g hmg
  exact law_call KX G.T.g G.T.b G.T.builtins G.T.nolimit hg hobj hints (Nat.le_trans hlen hn2) hr hF hb (fun H hO hS => hsp w H a ns hlen hO hS) fun H e s' => hCX w H s₁ e s'
end L2
namespace L2
open PySem PySem.Spec PyProof.Rows
def inClass (s : Stmt) (j : Nat) : Stmt := match s with
  | .ClassDef _ _ _ body _ _ _ _ _ _ _ => body.getD j (.Pass ⟨0, 0, 0, 0⟩)
  | _ => .Pass ⟨0, 0, 0, 0⟩
def defArgs (s : Stmt) : Arguments := match s with
  | .FunctionDef _ a _ _ _ _ _ _ _ _ => a
  | _ => { posonlyargs := [], args := [], vararg := none, kwonlyargs := [], kw_defaults := [], kwarg := none, defaults := [] }
def defBody (s : Stmt) : List Stmt := match s with
  | .FunctionDef _ _ b _ _ _ _ _ _ _ => b
  | _ => []
def defScope (s : Stmt) : Scope := match s with
  | .FunctionDef _ _ _ _ _ _ sc _ _ _ => sc
  | _ => { kind := .function, names := [], isGenerator := false, isCoroutine := false }
abbrev CX0 : CXT := fun _ _ _ _ _ _ => False
abbrev E0 : XK := fun _ _ _ => False
structure Fun (K : PySem.W.Frag) (x qual : Str) (st : Stmt) (f : Addr) (fd : FuncData) : Prop where
  ex : ∃ (oc : Value) (od : Option Addr) (kV doc pm : Value) (an : Option Addr) (cdv ct : Value) (osl : Array (Option Value)),
    fd = PySem.W.fnOf x qual (defArgs st) (defBody st) (defScope st) .none kV doc pm an cdv ct ∧ K.lookup f = some ⟨oc, od, .func fd, osl⟩ ∧ PySem.W.codeIn K cdv qual = true
  kp : PySem.W.keepIn K (.ref f) = true
section
variable {P : Program} {w : World} {K : PySem.W.Frag} {mg : Str → Option Value} {base : Heap}
theorem Fun.ok {x qual : Str} {st : Stmt} {f : Addr} {fd : FuncData} {N ps : List Str} {k : Nat} {sp : Sp} (F : Fun K x qual st f fd) (S : FnScope N ps (defScope st)) (len : ∀ vs H Q E, sp vs H Q E → vs.length = ps.length)
    (hbody : ∀ (cdv : Value) (A : Around) (outer : List Env) (s : Shared) (H : Hp) (vs : List V) (Q : VK) (E : XK), Room k (A.deeper (envOfC qual (defScope st) s.heap.objs.size f cdv)) → sp vs H Q E →
      ∃ t, PSs (cxOf CX0 P w K mg base N qual (defScope st) f cdv A outer s H E).nox (defBody st) t ∧ t { nx := fun _ H' => Q .non H', rt := Q } (start N vs) H) : FnOk P w K mg base CX0 (k + 1) f fd ps sp := by
  obtain ⟨oc, od, kV, doc, pm, an, cdv, ct, osl, rfl, lk, hcd⟩ := F.ex
  refine fn_of lk hcd S len fun A outer s H vs Q E hr hsp => ?_
  obtain ⟨t, h, q⟩ := hbody cdv A outer s H vs Q E hr hsp
  exact ⟨t, h.nox, q⟩
theorem Fun.binds {x qual : Str} {st : Stmt} {f : Addr} {fd : FuncData} {ps : List Str} (F : Fun K x qual st f fd)
    (h : ∀ (kV doc pm : Value) (an : Option Addr) (cdv ct : Value) (us : List Value), us.length = ps.length → bindArgs (PySem.W.fnOf x qual (defArgs st) (defBody st) (defScope st) .none kV doc pm an cdv ct) ⟨us, []⟩ = pure (ps.zip us)) : Binds K fd ps [] := by
  obtain ⟨oc, od, kV, doc, pm, an, cdv, ct, osl, rfl, lk, hcd⟩ := F.ex
  exact .all (h kV doc pm an cdv ct)
theorem fun_mk {x qual : Str} {st : Stmt} {f : Addr} {oc : Value} {od an : Option Addr} {osl : Array (Option Value)} {kV doc pm cdv ct : Value} (l : K.lookup f = some ⟨oc, od, .func (PySem.W.fnOf x qual (defArgs st) (defBody st) (defScope st) .none kV doc pm an cdv ct), osl⟩)
    (c : PySem.W.codeIn K cdv qual = true) (k : PySem.W.keepIn K (.ref f) = true) : Fun K x qual st f (PySem.W.fnOf x qual (defArgs st) (defBody st) (defScope st) .none kV doc pm an cdv ct) := ⟨⟨oc, od, kV, doc, pm, an, cdv, ct, osl, rfl, l, c⟩, k⟩
end
theorem hu_of {A : Around} {k : Nat} (hr : Room k A) : A.units + 1 < cLine := Nat.lt_of_le_of_lt (Nat.add_le_add_left (by decide : 1 ≤ 64) _) hr.units
section
variable {X : Cx}
theorem pv (i : Nat) {x : Str} {pos : Pos} (hN : X.N[i]? = some x := by rfl) (hv : Vis X.env.scope x := by first | exact Or.inl rfl | exact Or.inr (Or.inl rfl) | exact Or.inr (Or.inr rfl)) (hd : (x == ("__debug__" : Str)) = false := by decide)
    (hcd : (x == ("__classdict__" : Str)) = false := by decide) : PE X (.Name x pos) (tVar i) := pe_var hN hv hd hcd
end
def Same (H H' : Hp) : Prop := ∀ b o, H b = some o → H' b = some o
theorem Same.refl (H : Hp) : Same H H := fun _ _ h => h
theorem Same.trans {H H1 H2 : Hp} (a : Same H H1) (b : Same H1 H2) : Same H H2 := fun c o h => b c o (a c o h)
theorem Same.free {H H' : Hp} (e : Same H H') {l : Addr} (h : H' l = Option.none) : H l = Option.none := by
  cases q : H l with
  | none => rfl
  | some o =>
    rw [e l o q] at h
    cases h
theorem Same.seq {K : PySem.W.Frag} {H H' : Hp} {a : Addr} {xs : List V} (e : Same H H') (h : SqL K H a xs) : SqL K H' a xs := by
  rcases h with (h | ⟨o, h⟩) | h
  · exact .inl (.inl (e _ _ h))
  · exact .inl (.inr ⟨o, e _ _ h⟩)
  · exact .inr h
end L2
set_option Elab.async false
set_option linter.all false
set_option maxRecDepth 100000
namespace L2
open PySem PySem.Spec PyProof.Rows
section
variable {κ : Type} [DecidableEq κ]
def valV (kvs : List (κ × V)) (k : κ) : Option V := (kvs.find? fun kv => decide (kv.1 = k)).map (·.2)
def putK (kvs : List (κ × V)) (k : κ) (v : V) : List (κ × V) :=
  if (kvs.any fun kv => decide (kv.1 = k)) = true then kvs.map (fun kv => if kv.1 = k then (kv.1, v) else kv) else kvs ++ [(k, v)]
def dropK (kvs : List (κ × V)) (k : κ) : List (κ × V) := kvs.filter fun kv => decide (kv.1 ≠ k)
theorem valV_pos {p : κ × V} {r : List (κ × V)} {k : κ} (e : p.1 = k) : valV (p :: r) k = some p.2 := by simp [valV, List.find?_cons, e]
theorem valV_neg {p : κ × V} {r : List (κ × V)} {k : κ} (e : ¬ p.1 = k) : valV (p :: r) k = valV r k := by simp [valV, List.find?_cons, e]
theorem valV_any (k : κ) : ∀ kvs : List (κ × V), (kvs.any fun kv => decide (kv.1 = k)) = (valV kvs k).isSome
  | [] => rfl
  | p :: r => by
    rw [List.any_cons]
    by_cases e : p.1 = k
    · simp only [valV_pos e, decide_eq_true e, Bool.true_or, Option.isSome_some]
    · rw [valV_neg e, decide_eq_false e, Bool.false_or]; exact valV_any k r
theorem length_putK (kvs : List (κ × V)) (k : κ) (v : V) : (putK kvs k v).length ≤ kvs.length + 1 := by
  unfold putK
  split
  · rw [List.length_map]; omega
  · rw [List.length_append, List.length_cons, List.length_nil]; omega
theorem RelO.isSome_eq {o : Option V} {u : Option Value} (r : RelO o u) : o.isSome = u.isSome := by
  cases o with
  | none => cases u with
    | none => rfl
    | some _ => exact (show False from r).elim
  | some _ => cases u with
    | none => exact (show False from r).elim
    | some _ => rfl
theorem RelO.getD {o : Option V} {u : Option Value} {d : V} {d' : Value} (r : RelO o u) (rd : RelV d d') : RelV (o.getD d) (u.getD d') := by
  cases o with
  | none => cases u with
    | none => exact rd
    | some _ => exact (show False from r).elim
  | some _ => cases u with
    | none => exact (show False from r).elim
    | some _ => exact r
theorem KV.val {kvs : List (κ × V)} {vs : List (κ × Value)} (r : KV kvs vs) (k : κ) : RelO (valV kvs k) (valueAt vs k) := by
  unfold KV at r
  induction r with
  | nil => exact True.intro
  | @cons p q ps qs h t ih =>
    obtain ⟨h1, h2⟩ := h
    by_cases e : p.1 = k
    · have e' : q.1 = k := h1.symm.trans e
      have b : valueAt (q :: qs) k = some q.2 := by simp [valueAt, List.find?_cons, e']
      rw [valV_pos e, b]; exact h2
    · have e' : ¬ q.1 = k := fun z => e (h1.trans z)
      have b : valueAt (q :: qs) k = valueAt qs k := by simp [valueAt, List.find?_cons, e']
      rw [valV_neg e, b]; exact ih
theorem KV.any {kvs : List (κ × V)} {vs : List (κ × Value)} (r : KV kvs vs) (k : κ) : (kvs.any fun kv => decide (kv.1 = k)) = vs.any fun kv => decide (kv.1 = k) := by
  unfold KV at r
  induction r with
  | nil => rfl
  | cons h t ih => rw [List.any_cons, List.any_cons, ih, h.1]
theorem KV.repl {kvs : List (κ × V)} {vs : List (κ × Value)} (r : KV kvs vs) (k : κ) {y : V} {u : Value} (ry : RelV y u) :
    KV (kvs.map fun kv => if kv.1 = k then (kv.1, y) else kv) (vs.map fun kv => if kv.1 = k then (kv.1, u) else kv) := by
  unfold KV at r ⊢
  induction r with
  | nil => exact .nil
  | @cons p q ps qs h t ih =>
    rw [List.map_cons, List.map_cons]
    refine .cons ?_ ih
    obtain ⟨h1, h2⟩ := h
    by_cases e : p.1 = k
    · rw [if_pos e, if_pos (h1.symm.trans e)]; exact ⟨h1, ry⟩
    · rw [if_neg e, if_neg (fun z => e (h1.trans z))]; exact ⟨h1, h2⟩
theorem KV.put {kvs : List (κ × V)} {vs : List (κ × Value)} (r : KV kvs vs) (k : κ) {y : V} {u : Value} (ry : RelV y u) : KV (putK kvs k y) (stored vs k u) := by
  unfold putK stored
  rw [r.any k]
  by_cases e : (vs.any fun kv => decide (kv.1 = k)) = true
  · rw [if_pos e, if_pos e]; exact r.repl k ry
  · rw [if_neg e, if_neg e]; exact Paired.snoc r ⟨rfl, ry⟩
theorem KV.drop {kvs : List (κ × V)} {vs : List (κ × Value)} (r : KV kvs vs) (k : κ) : KV (dropK kvs k) (without vs k) := by
  unfold KV at r ⊢
  unfold dropK without
  induction r with
  | nil => exact .nil
  | @cons p q ps qs h t ih =>
    obtain ⟨h1, h2⟩ := h
    rw [List.filter_cons, List.filter_cons]
    by_cases e : p.1 = k
    · have a : ¬ decide (p.1 ≠ k) = true := by simp [e]
      have b : ¬ decide (q.1 ≠ k) = true := by simp [h1.symm.trans e]
      rw [if_neg a, if_neg b]; exact ih
    · have e' : ¬ q.1 = k := fun z => e (h1.trans z)
      have a : decide (p.1 ≠ k) = true := by simp [e]
      have b : decide (q.1 ≠ k) = true := by simp [e']
      rw [if_pos a, if_pos b]; exact .cons ⟨h1, h2⟩ ih
theorem KV.length {kvs : List (κ × V)} {vs : List (κ × Value)} (r : KV kvs vs) : kvs.length = vs.length := Paired.length r
theorem dropK_le (kvs : List (κ × V)) (k : κ) : (dropK kvs k).length ≤ kvs.length := List.length_filter_le _ _
end
theorem kV_is {P : Program} {w : World} {k : Key} {u : Value} (r : RelV (kV k) u) : (mixKind P w).is k u = true := by
  cases k with
  | inl i => obtain ⟨t, e⟩ := (show ∃ t, u = Value.int i t from r); subst e; exact mixKind_int P w i t
  | inr x => obtain ⟨t, e⟩ := (show ∃ t, u = Value.str x t from r); subst e; exact mixKind_str P w x t
theorem items_are {P : Program} {w : World} : ∀ {ks : List Key} {us : List Value}, Vals (ks.map kV) us → ItemsAre (mixKind P w) ks us
  | [], _, r => by rw [List.map_nil] at r; cases r; exact .nil
  | k :: ks, _, r => by
    rw [List.map_cons] at r
    cases r with
    | cons h t => exact .cons (kV_is h) (items_are t)
abbrev KT (H : Hp) : List (List Key × V) → List (List Key × Addr × Value) → Prop := Paired fun p q => p.1 = q.1 ∧ H q.2.1 = some (.tup (p.1.map kV)) ∧ RelV p.2 q.2.2
theorem KT.val {H : Hp} {kvs : List (List Key × V)} {xs : List (List Key × Addr × Value)} (r : KT H kvs xs) (k : List Key) : RelO (valV kvs k) ((atKey xs k).map (·.2)) := by
  induction r with
  | nil => exact True.intro
  | @cons p q ps qs h t ih =>
    obtain ⟨h1, _, h2⟩ := h
    by_cases e : p.1 = k
    · have e' : q.1 = k := h1.symm.trans e
      have b : atKey (q :: qs) k = some q.2 := by simp [atKey, List.find?_cons, e']
      rw [valV_pos e, b]; exact h2
    · have e' : ¬ q.1 = k := fun z => e (h1.trans z)
      have b : atKey (q :: qs) k = atKey qs k := by simp [atKey, List.find?_cons, e']
      rw [valV_neg e, b]; exact ih
theorem KT.repl {H : Hp} {kvs : List (List Key × V)} {xs : List (List Key × Addr × Value)} (r : KT H kvs xs) (k : List Key) {y : V} {u : Value} (ry : RelV y u) :
    KT H (kvs.map fun kv => if kv.1 = k then (kv.1, y) else kv) (xs.map (putAt k u)) := by
  induction r with
  | nil => exact .nil
  | @cons p q ps qs h t ih =>
    rw [List.map_cons, List.map_cons]
    refine .cons ?_ ih
    obtain ⟨h1, h2, h3⟩ := h
    unfold putAt
    by_cases e : p.1 = k
    · rw [if_pos e, if_pos (h1.symm.trans e)]; exact ⟨h1, h2, ry⟩
    · rw [if_neg e, if_neg (fun z => e (h1.trans z))]; exact ⟨h1, h2, h3⟩
theorem KT.put {H : Hp} {kvs : List (List Key × V)} {xs : List (List Key × Addr × Value)} (r : KT H kvs xs) (k : List Key) {b : Addr} {y : V} {u : Value} (hb : H b = some (.tup (k.map kV))) (ry : RelV y u) :
    KT H (putK kvs k y) (storedH xs k b u) := by
  have e : (kvs.any fun kv => decide (kv.1 = k)) = (atKey xs k).isSome := by
    rw [valV_any, (r.val k).isSome_eq, Option.isSome_map]
  unfold putK storedH
  rw [e]
  by_cases q : (atKey xs k).isSome = true
  · rw [if_pos q, if_pos q]; exact r.repl k ry
  · rw [if_neg q, if_neg q]; exact Paired.snoc r ⟨rfl, hb, ry⟩
theorem KT.keeps {H H' : Hp} {kvs : List (List Key × V)} {xs : List (List Key × Addr × Value)} (r : KT H kvs xs) (ht : ∀ b ys, H b = some (.tup ys) → H' b = some (.tup ys)) : KT H' kvs xs :=
  Paired.mapP r fun _ _ z => ⟨z.1, ht _ _ z.2.1, z.2.2⟩
section
variable {P : Program} {w : World} {H : Hp} {h : Heap} {a : Addr}
theorem rd_of {u : HO} (ok : HOk P w H h) (e : Rd H a u) : ObjOk P w H h a u := e.ok ok
theorem dk_rd {kvs : List (Key × V)} (ok : HOk P w H h) (e : Rd H a (.dK kvs)) : kvs.length ≤ sizeLine ∧ (a == sysModules) = false ∧ ∃ vs, KV kvs vs ∧ h.DictOf (mixKind P w) a vs :=
  show ObjOk P w H h a (.dK kvs) from rd_of ok e
theorem dk_of {kvs : List (Key × V)} (ok : HOk P w H h) (e : H a = some (.dK kvs)) : kvs.length ≤ sizeLine ∧ (a == sysModules) = false ∧ ∃ vs, KV kvs vs ∧ h.DictOf (mixKind P w) a vs := dk_rd ok (.inl e)
theorem key_of {ks : List Key} (ok : HOk P w H h) (e : H a = some (.tup (ks.map kV))) : (tupleKind (mixKind P w)).is h ks a := by
  obtain ⟨_, its, r, o, h1, h2, n, h3⟩ := (show ObjOk P w H h a (.tup (ks.map kV)) from ok a _ e)
  exact ⟨o, its.toArray, n, h1, h2, h3, by simpa using items_are r⟩
theorem dt_rd {kvs : List (List Key × V)} (ok : HOk P w H h) (e : Rd H a (.dT kvs)) : kvs.length ≤ sizeLine ∧ (a == sysModules) = false ∧
    ∃ xs, KT H kvs xs ∧ h.DictOfH (tupleKind (mixKind P w)) a xs := by
  obtain ⟨z, y, xs, r, o, es, ep, h1, h2, h3, h4, h5⟩ := (show ObjOk P w H h a (.dT kvs) from rd_of ok e)
  refine ⟨z, y, xs, r, o, es, ep, h1, h2, h3, h4, fun x hx => ?_, h5⟩
  have all : ∀ {l : List (List Key × V)} {m : List (List Key × Addr × Value)}, KT H l m → ∀ x ∈ m, (tupleKind (mixKind P w)).is h x.1 x.2.1 := by
    intro l m q
    induction q with
    | nil => intro x hx; exact nomatch hx
    | @cons p q ps qs hq t ih =>
      intro x hx
      rcases List.mem_cons.mp hx with e | hx
      · subst e
        exact key_of ok (by rw [← hq.1]; exact hq.2.1)
      · exact ih x hx
  exact all r x hx
theorem dt_of {kvs : List (List Key × V)} (ok : HOk P w H h) (e : H a = some (.dT kvs)) : kvs.length ≤ sizeLine ∧ (a == sysModules) = false ∧
    ∃ xs, KT H kvs xs ∧ h.DictOfH (tupleKind (mixKind P w)) a xs := dt_rd ok (.inl e)
end
def DGet (H : Hp) (a : Addr) (y : V) (r : Option V) : Prop :=
  (∃ kvs k, Rd H a (.dK kvs) ∧ y = kV k ∧ r = valV kvs k) ∨ ∃ kvs k b, Rd H a (.dT kvs) ∧ y = .ref b ∧ H b = some (.tup (k.map kV)) ∧ r = valV kvs k
def DPut (H : Hp) (a : Addr) (y v : V) (H' : Hp) : Prop :=
  (∃ kvs k, H a = some (.dK kvs) ∧ y = kV k ∧ kvs.length < sizeLine ∧ H' = upd H a (.dK (putK kvs k v))) ∨
  ∃ kvs k b, H a = some (.dT kvs) ∧ y = .ref b ∧ H b = some (.tup (k.map kV)) ∧ kvs.length < sizeLine ∧ H' = upd H a (.dT (putK kvs k v))
theorem DGet.k {H : Hp} {a : Addr} {kvs : List (Key × V)} {k : Key} (e : H a = some (.dK kvs)) : DGet H a (kV k) (valV kvs k) := .inl ⟨kvs, k, .inl e, rfl, rfl⟩
theorem DGet.t {H : Hp} {a b : Addr} {kvs : List (List Key × V)} {k : List Key} (e : H a = some (.dT kvs)) (eb : H b = some (.tup (k.map kV))) : DGet H a (.ref b) (valV kvs k) := .inr ⟨kvs, k, b, .inl e, rfl, eb, rfl⟩
theorem DPut.k {H : Hp} {a : Addr} {kvs : List (Key × V)} {k : Key} {v : V} (e : H a = some (.dK kvs)) (hl : kvs.length < sizeLine) : DPut H a (kV k) v (upd H a (.dK (putK kvs k v))) := .inl ⟨kvs, k, e, rfl, hl, rfl⟩
theorem DPut.t {H : Hp} {a b : Addr} {kvs : List (List Key × V)} {k : List Key} {v : V} (e : H a = some (.dT kvs)) (eb : H b = some (.tup (k.map kV))) (hl : kvs.length < sizeLine) :
    DPut H a (.ref b) v (upd H a (.dT (putK kvs k v))) := .inr ⟨kvs, k, b, e, rfl, eb, hl, rfl⟩
section
variable {X : Cx} {pins : List (Addr × Obj)} {σ : St} {H : Hp} {s : Shared} {a : Addr} {y v : V} {u r : Value} {o : Option V} {A : Around} {E : Value → Shared → Prop}
theorem Inv.big (I : Inv X pins σ H s) : sysModules < s.heap.objs.size := by
  have h : mainGlobals < s.heap.objs.size := (I.mod.glob.keeps I.bk).lt
  exact Nat.lt_trans (by decide) h
theorem d_getItem {Q : Value → Shared → Prop} (hu : A.units + 1 < cLine) (I : Inv X pins σ H s) (g : DGet H a y (some v)) (ry : RelV y u) (h : ∀ w' s', Inv X pins σ H s' → RelV v w' → Q w' s') :
    wpAny (model X.prog X.w) A (getItem (.ref a) u) Q E s := by
  rcases g with ⟨kvs, k, e, ey, l⟩ | ⟨kvs, k, b, e, ey, eb, l⟩
  · subst ey
    obtain ⟨z, hd, vs, rel, dd⟩ := dk_rd I.hok e
    obtain ⟨w', hw, rw'⟩ := RelO.some_of (v := v) (o := valueAt vs k) (by rw [l]; exact rel.val k)
    exact wpAny_getItem_of (kV_is ry) dd.mapOf hw (h w' _ (I.tok _) rw')
  · subst ey
    cases (show u = Value.ref b from ry)
    obtain ⟨z, hd, xs, rel, dd⟩ := dt_rd I.hok e
    obtain ⟨w', hw, rw'⟩ := RelO.some_of (v := v) (o := (atKey xs k).map (·.2)) (by rw [l]; exact rel.val k)
    obtain ⟨p, hp, hp2⟩ := Option.map_eq_some_iff.mp hw
    refine wpAny_getItem_heap (tupleKind_room_in1 hu) (key_of I.hok eb) dd hp ?_
    rw [hp2]
    exact h w' _ (I.tok _) rw'
theorem d_in {Q : Value → Shared → Prop} (hu : A.units + 1 < cLine) (I : Inv X pins σ H s) (g : DGet H a y o) (ry : RelV y u) (h : ∀ s', Inv X pins σ H s' → Q (.bool o.isSome) s') :
    wpAny (model X.prog X.w) A (compareOp .In u (.ref a)) Q E s := by
  rcases g with ⟨kvs, k, e, ey, l⟩ | ⟨kvs, k, b, e, ey, eb, l⟩
  · subst ey
    obtain ⟨z, hd, vs, rel, dd⟩ := dk_rd I.hok e
    refine wpAny_in_of (kV_is ry) hd dd.mapOf ?_
    rw [← (rel.val k).isSome_eq, ← l]
    exact h _ (I.tok _)
  · subst ey
    cases (show u = Value.ref b from ry)
    obtain ⟨z, hd, xs, rel, dd⟩ := dt_rd I.hok e
    refine wpAny_in_heap (tupleKind_room_in1 hu) (key_of I.hok eb) hd dd ?_
    have q := (rel.val k).isSome_eq
    rw [Option.isSome_map] at q
    rw [← q, ← l]
    exact h _ (I.tok _)
theorem d_notIn {Q : Value → Shared → Prop} (hu : A.units + 1 < cLine) (I : Inv X pins σ H s) (g : DGet H a y o) (ry : RelV y u) (h : ∀ s', Inv X pins σ H s' → Q (.bool (!o.isSome)) s') :
    wpAny (model X.prog X.w) A (compareOp .NotIn u (.ref a)) Q E s := by
  rcases g with ⟨kvs, k, e, ey, l⟩ | ⟨kvs, k, b, e, ey, eb, l⟩
  · subst ey
    obtain ⟨z, hd, vs, rel, dd⟩ := dk_rd I.hok e
    refine wpAny_notIn_of (kV_is ry) hd dd.mapOf ?_
    rw [← (rel.val k).isSome_eq, ← l]
    exact h _ (I.tok _)
  · subst ey
    cases (show u = Value.ref b from ry)
    obtain ⟨z, hd, xs, rel, dd⟩ := dt_rd I.hok e
    refine wpAny_notIn_heap (tupleKind_room_in1 hu) (key_of I.hok eb) hd dd ?_
    have q := (rel.val k).isSome_eq
    rw [Option.isSome_map] at q
    rw [← q, ← l]
    exact h _ (I.tok _)
theorem d_write {h' : Heap} {t' : Nat} {ob : HO} (I : Inv X pins σ H s) (mu : Mut (H a)) (hs : Heap.SameBut a s.heap h') (he : ∃ q, h'.get? a = some q) (new : ObjOk X.prog X.w (upd H a ob) h' a ob) :
    Inv X pins σ (upd H a ob) { s with heap := h', toks := t' } :=
  I.write (x := a) (e := a) mu (.inl rfl) (fun b q hb z => (hs.2 b hb).trans z) he new
theorem dk_new {P : Program} {w : World} {H' : Hp} {h' : Heap} {kvs : List (Key × V)} {vs : List (Key × Value)} (z : kvs.length ≤ sizeLine) (hd : (a == sysModules) = false) (rel : KV kvs vs) (dd : h'.DictOf (mixKind P w) a vs) :
    ObjOk P w H' h' a (.dK kvs) := ⟨z, hd, vs, rel, dd⟩
theorem d_setItem {H' : Hp} {Q : Unit → Shared → Prop} (hu : A.units + 1 < cLine) (I : Inv X pins σ H s) (g : DPut H a y v H') (ry : RelV y u) (rv : RelV v r) (h : ∀ s', Inv X pins σ H' s' → Q () s') :
    wpAny (model X.prog X.w) A (setItem (.ref a) u r) Q E s := by
  rcases g with ⟨kvs, k, e, ey, l, eH⟩ | ⟨kvs, k, b, e, ey, eb, l, eH⟩
  · subst ey eH
    obtain ⟨z, hd, vs, rel, dd⟩ := dk_of I.hok e
    have hz : vs.length ≤ sizeLine := by rw [← rel.length]; exact z
    have hl : (putK kvs k v).length ≤ sizeLine := by have := length_putK kvs k v; omega
    refine wpAny_setItem_pairs (hsz := hz) (kV_is ry) dd fun h' dd' hs => h _ ?_
    have he : ∃ q, h'.get? a = some q := let ⟨q, _, _, hq, _⟩ := dd'; ⟨q, hq⟩
    exact d_write I (by rw [e]; exact True.intro) hs he (dk_new hl hd (rel.put k rv) dd')
  · subst ey eH
    cases (show u = Value.ref b from ry)
    obtain ⟨z, hd, xs, rel, dd⟩ := dt_of I.hok e
    have hz : xs.length ≤ sizeLine := by rw [← Paired.length rel]; exact z
    have hl : (putK kvs k v).length ≤ sizeLine := by have := length_putK kvs k v; omega
    refine wpAny_setItem_heap (hsz := hz) (tupleKind_room_in1 hu) (key_of I.hok eb) dd fun h' dd' hs => h _ ?_
    obtain ⟨q, es, ep, hq, h2, h3, h4, _, h5⟩ := dd'
    refine d_write I (by rw [e]; exact True.intro) hs ⟨q, hq⟩ ⟨hl, hd, _, (rel.put k eb rv).keeps fun c ys ec => ?_, q, es, ep, hq, h2, h3, h4, h5⟩
    rw [upd_ne (ne_of ec e (fun z => nomatch z))]
    exact ec
end
section
variable {X : Cx} {pins : List (Addr × Obj)} {σ : St} {H : Hp} {s : Shared} {a : Addr} {kvs : List (Key × V)} {k : Key} {u : Value} {A : Around} {E : Value → Shared → Prop}
end
def NoSl (i : Expr) : Prop := ∀ ov iv, subscripted i false ov iv = operate [ov, iv] (getItem ov iv)
theorem subD_of {prog : Program} {w : World} {A : Around} {E : Value → Shared → Prop} {s : Shared} {env : Env} {value slice : Expr} {pos : Pos} {T id : String} {Q : Value → Shared → Prop}
    (hl : typeLookup (.type T) "__getitem__" = pure (some (.builtin id))) (hs : NoSl slice)
    (h : wpAny (model prog w) A (eval value env) (fun o s₁ => wpAny (model prog w) A (eval slice env) (fun i s₂ => s₂.TypeIs o T ∧ wpAny (model prog w) A (getItem o i) Q E s₂) E s₁) E s) :
    wpAny (model prog w) A (eval (.Subscript value slice pos) env) Q E s := by
  refine Subscript_ (wpAny_mono h (fun o s₁ h₁ => wpAny_mono h₁ (fun i s₂ h₂ => ?_) fun _ _ x => x) fun _ _ x => x)
  obtain ⟨hT, h₂⟩ := h₂
  unfold subscriptTail
  refine wpAny_bind ?_
  rw [getitemInPython_of_ne hT.not_modules]
  refine wpAny_bind (wpAny_specialOf hT hl ?_)
  have fin : wpAny (model prog w) A (subscripted slice false o i) (fun r s₃ => wpAny (model prog w) A (letTemporaryGo value o r >>= fun _ => pure r) Q E s₃) E s₂ := by
    rw [hs o i]
    exact wpAny_operating (wpAny_mono h₂ (fun r s₃ h₃ => wpAny_bind (wpAny_letTemporaryGo (wpAny_pure h₃))) fun _ _ x => x)
  first
    | exact wpAny_pure (wpAny_bind fin)
    | exact wpAny_bind (wpAny_pure (wpAny_bind fin))
    | exact wpAny_bind fin
theorem dict_typeIs {X : Cx} {pins : List (Addr × Obj)} {σ : St} {H : Hp} {s : Shared} {a : Addr} {y : V} {o : Option V} (I : Inv X pins σ H s) (g : DGet H a y o) : s.TypeIs (.ref a) "dict" := by
  rcases g with ⟨kvs, k, e, _, _⟩ | ⟨kvs, k, b, e, _, _, _⟩
  · obtain ⟨_, _, vs, _, dd⟩ := dk_rd I.hok e
    exact dd.typeIs
  · obtain ⟨_, _, xs, _, dd⟩ := dt_rd I.hok e
    exact dd.typeIs
def tDGet (td ty : TE) : TE := fun σ H Q => td σ H fun x H1 => ty σ H1 fun y H2 => ∃ a v, x = .ref a ∧ DGet H2 a y (some v) ∧ Q v H2
def tDIn (ty td : TE) : TE := fun σ H Q => ty σ H fun y H1 => td σ H1 fun x H2 => ∃ a o, x = .ref a ∧ DGet H2 a y o ∧ Q (.bl o.isSome) H2
def tDNotIn (ty td : TE) : TE := fun σ H Q => ty σ H fun y H1 => td σ H1 fun x H2 => ∃ a o, x = .ref a ∧ DGet H2 a y o ∧ Q (.bl (!o.isSome)) H2
def sDPut (td ty tv : TE) : TS := fun D σ H => tv σ H fun v H1 => td σ H1 fun x H2 => ty σ H2 fun y H3 => ∃ a H4, x = .ref a ∧ DPut H3 a y v H4 ∧ D.nx σ H4
section
variable {X : Cx} {o i e value : Expr} {pos pos' tpos : Pos} {td ty tv : TE}
theorem pe_dget (hu : X.A.units + 1 < cLine) (ho : PE X o td) (hi : PE X i ty) (hs : NoSl i) : PE X (.Subscript o i pos) (tDGet td ty) := by
  intro pins s σ H Q I h
  refine subD_of PySem.F.slot_dict_getitem.lookup hs (thn (ho pins s σ H _ I h) fun u s1 ⟨x, H1, I1, rx, q1⟩ => thn (hi pins s1 σ H1 _ I1 q1) fun iv s2 ⟨y, H2, I2, ry, a, v, ex, g, q2⟩ => ?_)
  subst ex
  obtain rfl : u = Value.ref a := rx
  exact ⟨dict_typeIs I2 g, d_getItem hu I2 g ry fun w' s3 I3 rw' => ⟨v, H2, I3, rw', q2⟩⟩
theorem pc_din (hu : X.A.units + 1 < cLine) (hi : PE X i ty) (ho : PE X o td) : PC X .In i o (tDIn ty td) := by
  intro pins s σ H Q I h
  refine thn (hi pins s σ H _ I h) fun iv s1 ⟨y, H1, I1, ry, q1⟩ => thn (ho pins s1 σ H1 _ I1 q1) fun u s2 ⟨x, H2, I2, rx, a, ov, ex, g, q2⟩ => ?_
  subst ex
  obtain rfl : u = Value.ref a := rx
  exact d_in hu I2 g ry fun s3 I3 => ⟨.bl ov.isSome, H2, I3, rfl, q2⟩
theorem pc_dnotin (hu : X.A.units + 1 < cLine) (hi : PE X i ty) (ho : PE X o td) : PC X .NotIn i o (tDNotIn ty td) := by
  intro pins s σ H Q I h
  refine thn (hi pins s σ H _ I h) fun iv s1 ⟨y, H1, I1, ry, q1⟩ => thn (ho pins s1 σ H1 _ I1 q1) fun u s2 ⟨x, H2, I2, rx, a, ov, ex, g, q2⟩ => ?_
  subst ex
  obtain rfl : u = Value.ref a := rx
  exact d_notIn hu I2 g ry fun s3 I3 => ⟨.bl (!ov.isSome), H2, I3, rfl, q2⟩
theorem ps_dput (hu : X.A.units + 1 < cLine) (ho : PE X o td) (hi : PE X i ty) (hv : PE X value tv) (hs : swapsWith value (some (.Subscript o i pos')) pos.line X.env = pure false) :
    PS X (.Assign [.Subscript o i pos'] value pos) (sDPut td ty tv) := by
  intro pins s σ H D I h
  refine wpAny_Assign_Subscript (thn (hv pins s σ H _ I h) fun r s1 ⟨v, H1, I1, rv, q1⟩ => thn (ho pins s1 σ H1 _ I1 q1) fun u s2 ⟨x, H2, I2, rx, q2⟩ => thn (hi pins s2 σ H2 _ I2 q2) fun iv s3 ⟨y, H3, I3, ry, a, H4, ex, g, q3⟩ => ?_) hs
  subst ex
  obtain rfl : u = Value.ref a := rx
  exact d_setItem hu I3 g ry rv fun s4 I4 => ⟨σ, H4, I4, q3⟩
end
section
variable {X : Cx} {pos : Pos}
end
structure M1 (X : Cx) (o : Expr) (m : Str) (apos : Pos) (e : Expr) (cpos : Pos) : Prop where
  base : attributeBase o m X.env (eval o X.env) = eval o X.env
  few : ((backTo cpos (starEach [e] X.env)).all (fun x => !x.1) && (backToKw cpos (keywordEach [] X.env)).all (fun x => x.1.isSome)
    && decide (([e] : List Expr).length + ([] : List Keyword).length + (if ([] : List Keyword).isEmpty then 0 else 1) < 30)) = true
  line : (apos.endLine == cpos.line) = true
  trees : backTo cpos (starEach [e] X.env) = [(false, eval e X.env)]
def IsD (H : Hp) (a : Addr) : Prop := (∃ kvs, Rd H a (.dK kvs)) ∨ ∃ kvs, Rd H a (.dT kvs)
theorem isD_at {X : Cx} {pins : List (Addr × Obj)} {σ : St} {H : Hp} {s : Shared} {a : Addr} (I : Inv X pins σ H s) (d : IsD H a) :
    s.TypeIs (.ref a) "dict" ∧ (∀ b, Value.ref a = .ref b → ∃ ob, s.heap.get? b = some ob ∧ ob.dict = none) ∧ (a == sysModules) = false := by
  rcases d with ⟨kvs, e⟩ | ⟨kvs, e⟩
  · obtain ⟨_, hd, vs, _, dd⟩ := dk_rd I.hok e
    refine ⟨dd.typeIs, fun b q => ?_, hd⟩
    cases q
    obtain ⟨ob, _, _, h1, h2, _⟩ := dd
    exact ⟨ob, h1, h2.2.1⟩
  · obtain ⟨_, hd, xs, _, dd⟩ := dt_rd I.hok e
    refine ⟨dd.typeIs, fun b q => ?_, hd⟩
    cases q
    obtain ⟨ob, _, _, h1, h2, _⟩ := dd
    exact ⟨ob, h1, h2.2.1⟩
section
variable {X : Cx} {pins : List (Addr × Obj)} {σ : St} {H : Hp} {s : Shared} {a : Addr} {y d : V} {u r : Value} {o : Option V} {A : Around} {E : Value → Shared → Prop}
theorem d_get1 {Q : Value → Shared → Prop} (hu : A.units + 1 < cLine) (I : Inv X pins σ H s) (g : DGet H a y o) (ry : RelV y u) (h : ∀ w' s', Inv X pins σ H s' → RelV (o.getD .non) w' → Q w' s') :
    wpAny (model X.prog X.w) A (call (.builtin "dict.get") [.ref a, u]) Q E s := by
  rcases g with ⟨kvs, k, e, ey, l⟩ | ⟨kvs, k, b, e, ey, eb, l⟩
  · subst ey
    obtain ⟨z, hd, vs, rel, dd⟩ := dk_rd I.hok e
    refine call_meetsIn PySem.F.slot_dict_get dd.typeIs PySem.F.entry_dict_get (PySem.F.args_dict_get_2 _ _) (meets_dict_get (mixKind X.prog X.w) a (kV_is ry) hd) ⟨_, dd.mapOf, h _ _ (I.tok _) ?_⟩
    rw [l]
    exact (rel.val k).getD rfl
  · subst ey
    cases (show u = Value.ref b from ry)
    obtain ⟨z, hd, xs, rel, dd⟩ := dt_rd I.hok e
    refine call_meetsIn PySem.F.slot_dict_get dd.typeIs PySem.F.entry_dict_get (PySem.F.args_dict_get_2 _ _) (meetsH_dict_get (tupleKind (mixKind X.prog X.w)) a b hd) ⟨tupleKind_room_in1 hu, k, xs, key_of I.hok eb, dd, h _ _ (I.tok _) ?_⟩
    rw [l]
    exact (rel.val k).getD rfl
end
def tDGet1 (td ty : TE) : TE := fun σ H Q => td σ H fun x H1 => ∃ a, x = .ref a ∧ IsD H1 a ∧ ty σ H1 fun y H2 => ∃ o, DGet H2 a y o ∧ Q (o.getD .non) H2
section
variable {X : Cx} {o e f : Expr} {apos cpos : Pos} {td ty tx : TE}
theorem pe_dget1 (hu : X.A.units + 1 < cLine) (ho : PE X o td) (he : PE X e ty) (m : M1 X o "get" apos e cpos) : PE X (.Call (.Attribute o "get" apos) [e] [] cpos) (tDGet1 td ty) := by
  intro pins s σ H Q I h
  refine wpAny_Call_method m.base m.few m.line PySem.F.plainAttrs_dict PySem.F.slot_dict_get PySem.F.type_dict_get (thn (ho pins s σ H _ I h) fun u s1 ⟨x, H1, I1, rx, a, ex, d, q1⟩ => ?_)
  subst ex
  obtain rfl : u = Value.ref a := rx
  obtain ⟨t1, t2, _⟩ := isD_at I1 d
  refine ⟨t1, t2, ?_⟩
  rw [m.trees]
  refine Calls.callWith_builtin rfl (Calls.evalArgs_plain (Calls.spliced_cons (thn (he pins s1 σ H1 _ I1 q1) fun iv s2 ⟨y, H2, I2, ry, ov, g, q2⟩ => Calls.spliced_nil ?_)))
  exact d_get1 hu I2 g ry fun w' s3 I3 rw' => ⟨_, H2, I3, rw', q2⟩
end
section
variable {X : Cx} {pins : List (Addr × Obj)} {σ : St} {H : Hp} {s : Shared} {a : Addr} {kvs : List (Key × V)} {A : Around} {E : Value → Shared → Prop}
end
section
variable {X : Cx} {pins : List (Addr × Obj)} {σ : St} {H : Hp} {s : Shared} {a : Addr} {y : V} {u : Value} {A : Around} {E : Value → Shared → Prop}
end
end L2
namespace L2
open PySem PySem.Spec PyProof.Rows
section
variable {κ : Type} [DecidableEq κ]
theorem nd_snoc : ∀ {l : List κ} {k : κ}, l.Nodup → ¬ k ∈ l → (l ++ [k]).Nodup
  | [], k, _, _ => by simp
  | a :: r, k, h, hk => by
    obtain ⟨h1, h2⟩ := List.nodup_cons.mp h
    show (a :: (r ++ [k])).Nodup
    refine List.nodup_cons.mpr ⟨fun m => ?_, nd_snoc h2 fun m => hk (List.mem_cons.mpr (Or.inr m))⟩
    rcases List.mem_append.mp m with q | q
    · exact h1 q
    · exact hk (List.mem_cons.mpr (Or.inl (List.mem_singleton.mp q).symm))
end
end L2
set_option Elab.async false
set_option linter.all false
set_option maxRecDepth 100000
set_option maxHeartbeats 4000000
namespace Gz
open PySem PySem.Spec PyProof.Rows L2
def Bd (n : Nat) (x : Int) : Prop := x.natAbs < 2 ^ n
theorem Bd.of {n : Nat} {x : Int} (h1 : -((2 ^ n : Nat) : Int) < x) (h2 : x < ((2 ^ n : Nat) : Int)) : Bd n x := by
  unfold Bd; omega
theorem Bd.up {n m : Nat} {x : Int} (h : Bd n x) (hm : n ≤ m) : Bd m x := Nat.lt_of_lt_of_le h (Nat.pow_le_pow_right (by decide) hm)
theorem Bd.bits {n : Nat} {x : Int} (h : Bd n x) : Builtin.Int.intBits x ≤ n := by
  unfold Builtin.Int.intBits
  by_cases e : x = 0
  · subst e; simp
  · have e0 : ¬ ((x == 0) = true) := by simpa using e
    rw [if_neg e0]
    have hn : x.natAbs ≠ 0 := by omega
    have := (Nat.log2_lt hn).mpr h
    omega
theorem Bd.neg {n : Nat} {x : Int} (h : Bd n x) : Bd n (-x) := by unfold Bd at *; omega
theorem Bd.log {n : Nat} {x : Int} (h : Bd n x) (hn : n ≤ 9000) (h0 : 0 < n) : x.natAbs.log2 < 9000 := by
  by_cases e : x.natAbs = 0
  · rw [e]; decide
  · have := (Nat.log2_lt e).mpr h
    omega
def MulB (i j : Int) : Prop := Bd 4000 i ∧ Bd 4000 j
theorem MulB.ok {i j : Int} (h : MulB i j) : IntMulOk i j :=
  IntMulOk.of_bits (Nat.le_trans h.1.bits (by decide)) (Nat.le_trans h.2.bits (by decide))
section
variable {X : Cx}
theorem op_mulB : OpR X (binaryOp .Mult) (rI MulB fun i j => .int (i * j)) := opI fun _ _ _ _ _ _ _ hc q => mul_int q hc.ok
theorem op_fdivB : OpR X (binaryOp .FloorDiv) (rI (fun _ j => 0 < j ∧ Bd 4000 j) fun i j => .int (i / j)) := opI fun i j _ _ _ _ _ hc q => by
  have h1 : (0 : Int) < j := hc.1
  exact floordiv_int (by omega) (by rw [Int.fdiv_eq_ediv_of_nonneg i (by omega)]; exact q) (.inl (PyProof.noPylong_of_log2 (hc.2.log (by decide) (by decide))))
def clsVal : V → Value
  | .ref a => .ref a
  | .ty n => .type n
  | _ => .none
theorem call_isi : CallR X (.builtin "isinstance") (fun xs H Q => ∃ x c t b, xs = [x, c] ∧ TyOf X.K H x t ∧ clsVal c ≠ .none ∧ PySem.W.kitOne X.K t (clsVal c) = some b ∧ Q (.bl b) H) := by
  intro pins s σ H xs us Q I r h
  obtain ⟨x, c, t, b, rfl, ty, hc, e, q⟩ := h
  obtain ⟨u, v, rfl, rx, rc⟩ := vals2 r
  have ev : v = clsVal c := by
    cases c with
    | ref a => exact rc
    | ty n => exact rc
    | non => exact absurd rfl hc
    | bl _ => exact absurd rfl hc
    | int _ => exact absurd rfl hc
    | str _ => exact absurd rfl hc
    | byt _ => exact absurd rfl hc
    | flt _ => exact absurd rfl hc
  subst ev
  exact isinst_ok I rx ty e fun tk => ⟨.bl b, H, I.tok tk, rfl, q⟩
end
theorem kit_same {K : PySem.W.Frag} {t : Value} : PySem.W.kitOne K t t = some true := by
  unfold PySem.W.kitOne
  rw [if_pos (by simp)]
theorem kit_ty {K : PySem.W.Frag} {a c : String} {b : Bool} (h : PySem.W.kitMeta c = true) (h2 : (PySem.fastBuiltinMro a).map (·.contains (.type c)) = some b) (h3 : (a == c) = false) : PySem.W.kitOne K (.type a) (.type c) = some b := by
  unfold PySem.W.kitOne
  have e : ¬ ((Value.type a == Value.type c) = true) := by
    simp only [beq_iff_eq, Value.type.injEq]
    simpa using h3
  rw [if_neg e]
  show (if PySem.W.kitMeta c = true then PySem.W.subIn K (.type a) (.type c) else none) = some b
  rw [if_pos h]
  exact h2
theorem kit_int_bool {K : PySem.W.Frag} : PySem.W.kitOne K (.type "int") (.type "bool") = some false := kit_ty (by decide +kernel) (by decide +kernel) (by decide)
theorem kit_bool_int {K : PySem.W.Frag} : PySem.W.kitOne K (.type "bool") (.type "int") = some true := kit_ty (by decide +kernel) (by decide +kernel) (by decide)
theorem kit_none_int {K : PySem.W.Frag} : PySem.W.kitOne K (.type "NoneType") (.type "int") = some false := kit_ty (by decide +kernel) (by decide +kernel) (by decide)
theorem kit_none_tuple {K : PySem.W.Frag} : PySem.W.kitOne K (.type "NoneType") (.type "tuple") = some false := kit_ty (by decide +kernel) (by decide +kernel) (by decide)
theorem b_len : bootBuiltins "len" = some (.builtin "len") := by decide +kernel
theorem b_min : bootBuiltins "min" = some (.builtin "min") := by decide +kernel
theorem b_isinstance : bootBuiltins "isinstance" = some (.builtin "isinstance") := by decide +kernel
theorem b_sorted : bootBuiltins "sorted" = some (.builtin "sorted") := by decide +kernel
theorem b_all : bootBuiltins "all" = some (.builtin "all") := by decide +kernel
theorem b_int : bootBuiltins "int" = some (.type "int") := by decide +kernel
theorem b_bool : bootBuiltins "bool" = some (.type "bool") := by decide +kernel
theorem b_list : bootBuiltins "list" = some (.type "list") := by decide +kernel
theorem b_tuple : bootBuiltins "tuple" = some (.type "tuple") := by decide +kernel
theorem b_dict : bootBuiltins "dict" = some (.type "dict") := by decide +kernel
def isiS : V → V → Option Bool
  | .int _, .ty n => if n = "int" then some true else if n = "bool" then some false else none
  | .bl _, .ty n => if n = "int" then some true else if n = "bool" then some true else none
  | .non, .ty n => if n = "int" then some false else if n = "tuple" then some false else none
  | _, _ => none
def rIsi (K : PySem.W.Frag) (x c : V) (H : Hp) (Q : VK) : Prop := match isiS x c with
  | some b => Q (.bl b) H
  | none => ∃ t b, TyOf K H x t ∧ clsVal c ≠ .none ∧ PySem.W.kitOne K t (clsVal c) = some b ∧ Q (.bl b) H
section
variable {X : Cx}
theorem call_isiA : CallR X (.builtin "isinstance") (fun xs H Q => ∃ x c, xs = [x, c] ∧ rIsi X.K x c H Q) := by
  intro pins s σ H xs us Q I r h
  obtain ⟨x, c, rfl, h⟩ := h
  refine call_isi pins s σ H _ us Q I r ?_
  cases e : isiS x c with
  | none =>
    unfold rIsi at h
    rw [e] at h
    obtain ⟨t, b, h1, h2, h3, h4⟩ := h
    exact ⟨x, c, t, b, rfl, h1, h2, h3, h4⟩
  | some b =>
    unfold rIsi at h
    rw [e] at h
    unfold isiS at e
    split at e
    · rename_i i n
      split at e
      · rename_i z; subst z; cases e
        exact ⟨_, _, _, _, rfl, TyOf.int i, (fun z => nomatch z), kit_same, h⟩
      · split at e
        · rename_i z; subst z; cases e
          exact ⟨_, _, _, _, rfl, TyOf.int i, (fun z => nomatch z), kit_int_bool, h⟩
        · cases e
    · rename_i i n
      split at e
      · rename_i z; subst z; cases e
        exact ⟨_, _, _, _, rfl, TyOf.bl i, (fun z => nomatch z), kit_bool_int, h⟩
      · split at e
        · rename_i z; subst z; cases e
          exact ⟨_, _, _, _, rfl, TyOf.bl i, (fun z => nomatch z), kit_same, h⟩
        · cases e
    · rename_i n
      split at e
      · rename_i z; subst z; cases e
        exact ⟨_, _, _, _, rfl, TyOf.non, (fun z => nomatch z), kit_none_int, h⟩
      · split at e
        · rename_i z; subst z; cases e
          exact ⟨_, _, _, _, rfl, TyOf.non, (fun z => nomatch z), kit_none_tuple, h⟩
        · cases e
    · cases e
end
section
variable {K : PySem.W.Frag} {H : Hp} {Q : VK} {i : Int} {b : Bool} {p : Addr} {xs : List V}
theorem isi_ii : rIsi K (.int i) (.ty "int") H Q = Q (.bl true) H := rfl
theorem isi_ib : rIsi K (.int i) (.ty "bool") H Q = Q (.bl false) H := rfl
theorem isi_bi : rIsi K (.bl b) (.ty "int") H Q = Q (.bl true) H := rfl
theorem isi_bb : rIsi K (.bl b) (.ty "bool") H Q = Q (.bl true) H := rfl
theorem isi_ni : rIsi K .non (.ty "int") H Q = Q (.bl false) H := rfl
theorem isi_nt : rIsi K .non (.ty "tuple") H Q = Q (.bl false) H := rfl
theorem isi_tup (h : H p = some (.tup xs)) (q : Q (.bl true) H) : rIsi K (.ref p) (.ty "tuple") H Q := ⟨_, _, TyOf.tup h, (fun z => nomatch z), kit_same, q⟩
theorem isi_lst (h : H p = some (.lst xs)) (q : Q (.bl true) H) : rIsi K (.ref p) (.ty "list") H Q := ⟨_, _, TyOf.lst h, (fun z => nomatch z), kit_same, q⟩
end
end Gz
set_option Elab.async false
set_option linter.all false
set_option maxRecDepth 100000
set_option maxHeartbeats 4000000
namespace Gz
open PySem PySem.Spec PyProof.Rows L2
def CXX (P : Program) (w : World) : CXT := fun outer H s E e s' =>
  ∃ (x : Addr) (cls a0 : Value) (H' : Hp) (B : Heap), e = .ref x ∧ s'.os = s.os ∧ AllBare s'.gens ∧ Un (frs outer) [] H H' s.heap s'.heap ∧
    (∀ b o, s.heap.get? b = some o → H b = none → b ∉ frs outer → B.get? b = some o) ∧ (∀ b o, s.heap.get? b = some o → b ∉ frs outer → ∃ o', B.get? b = some o') ∧ HOk P w H' B ∧ H' x = none ∧ s.heap.get? x = none ∧
    Heap.FlyingW B outer x cls a0 s'.heap ∧ E cls none H'
theorem passE0 {P : Program} {w : World} {X : Cx} : Passes (CXX P w) X E0 := fun _ _ _ _ _ _ _ ⟨_, _, _, _, _, _, _, _, _, _, _, _, _, _, _, h⟩ => h.elim
theorem noCXX {P : Program} {w : World} {outer : List Env} {H : Hp} {s s' : Shared} {e : Value} (h : CXX P w outer H s (fun _ _ _ => False) e s') : False := by
  obtain ⟨_, _, _, _, _, _, _, _, _, _, _, _, _, _, _, h⟩ := h
  exact h
section
variable {P : Program} {w : World} {K : PySem.W.Frag} {mg : Str → Option Value} {base : Heap}
theorem okN {x qual : Str} {st : Stmt} {f : Addr} {fd : FuncData} {N ps : List Str} {k : Nat} {sp : Sp} (F : Fun K x qual st f fd) (S : FnScope N ps (defScope st)) (len : ∀ vs H Q E, sp vs H Q E → vs.length = ps.length)
    (hbody : ∀ (cdv : Value) (A : Around) (outer : List Env) (s : Shared) (H : Hp) (vs : List V) (Q : VK) (E : XK), Room k (A.deeper (envOfC qual (defScope st) s.heap.objs.size f cdv)) → sp vs H Q E →
      ∃ t, PSs (cxOf (CXX P w) P w K mg base N qual (defScope st) f cdv A outer s H E).nox (defBody st) t ∧ t { nx := fun _ H' => Q .non H', rt := Q } (start N vs) H) : FnOk P w K mg base (CXX P w) (k + 1) f fd ps sp := by
  obtain ⟨oc, od, kV, doc, pm, an, cdv, ct, osl, rfl, lk, hcd⟩ := F.ex
  refine fn_of lk hcd S len fun A outer s H vs Q E hr hsp => ?_
  obtain ⟨t, h, q⟩ := hbody cdv A outer s H vs Q E hr hsp
  exact ⟨t, h.nox, q⟩
end
theorem scal_ii (a b : Int) : scal (.int a) (.int b) = true := rfl
theorem scal_bb (a b : Bool) : scal (.bl a) (.bl b) = true := rfl
theorem scal_in (a : Int) : scal (.int a) .non = true := rfl
theorem scal_ni (a : Int) : scal .non (.int a) = true := rfl
theorem scal_nn : scal .non .non = true := rfl
theorem ite_tt {A B : Prop} : (if true = true then A else B) = A := if_pos rfl
theorem ite_ff {A B : Prop} : (if false = true then A else B) = B := if_neg Bool.false_ne_true
end Gz
namespace Gz
open PySem PySem.Spec PyProof.Rows L2
theorem cxK {CX : CXT} {P : Program} {w : World} {K : PySem.W.Frag} {mg : Str → Option Value} {base : Heap} {N : List Str} {qual : Str} {scope : Scope} {f : Addr} {cd : Value} {A : Around} {outer : List Env} {s : Shared} {H : Hp} {E : XK} :
    (cxOf CX P w K mg base N qual scope f cd A outer s H E).K = K := rfl
theorem cxN {CX : CXT} {P : Program} {w : World} {K : PySem.W.Frag} {mg : Str → Option Value} {base : Heap} {N : List Str} {qual : Str} {scope : Scope} {f : Addr} {cd : Value} {A : Around} {outer : List Env} {s : Shared} {H : Hp} {E : XK} :
    (cxOf CX P w K mg base N qual scope f cd A outer s H E).N = N := rfl
section
variable {K : PySem.W.Frag} {H H' : Hp} {a p : Addr} {xs ys : List V} {i : Int} {v : V} {Q : VK}
theorem same_upd {o : HO} (h : H p = none) : Same H (upd H p o) := fun b u e => by rw [upd_ne (ne_of_none e h)]; exact e
theorem ixT (h : SqT K H p xs) (e : atI xs i = some v) (q : Q v H) : rIx K (.ref p) (.int i) H Q := .inr (.inl ⟨p, xs, i, v, rfl, rfl, h, e, q⟩)
theorem ixL (h : SqL K H p xs) (e : atI xs i = some v) (q : Q v H) : rIx K (.ref p) (.int i) H Q := .inl ⟨p, xs, i, v, rfl, rfl, h, e, q⟩
theorem lenL (h : SqL K H p xs) : LenV K (.ref p) H xs.length := .inl ⟨xs, h, rfl⟩
theorem lenT (h : SqT K H p xs) : LenV K (.ref p) H xs.length := .inr ⟨xs, h, rfl⟩
end
def isWhole : V → Bool
  | .int _ => true
  | _ => false
end Gz
namespace Gz
open PySem PySem.Spec PyProof.Rows L2
def FJ (J : It) (g : TG) (tb : TS) (D : Ends) (σ : L2.St) (H : Hp) : Prop := ∃ W : Nat → Nat → L2.St → Hp → Prop, (∃ m, W 0 m σ H) ∧ ∀ i m σ H, W i m σ H →
      (J.stop i H ∧ D.nx σ H) ∨ (J.go i H ∧ ∃ N : L2.St → Hp → Prop, (∀ σ' H', N σ' H' → ∃ m', m' < m ∧ W (i + 1) m' σ' H') ∧ ∀ x H', J.yld i H x H' → g x σ H' fun σ2 H2 => tb { D with nx := N, ct := N, bk := D.nx } σ2 H2)
section
variable {K : PySem.W.Frag} {g : TG} {tb : TS} {D : Ends} {σ : L2.St} {H : Hp} {a : Addr} {xs : List V} {lo : Int} {n : Nat}
theorem for_rng1 {ta : TA} : tFor (iRng1 ta) g tb D σ H = ta σ H (fun vs H1 => ∃ j : Int, vs = [.int j] ∧ -(2 ^ 62) ≤ j ∧ j < 2 ^ 62 ∧ FJ (Itr 0 j.toNat) g tb D σ H1) := rfl
theorem for_lst {tl : TE} : tFor (iList K tl) g tb D σ H = tl σ H (fun x H1 => ∃ a, x = .ref a ∧ (∃ xs, SqL K H1 a xs) ∧ FJ (Itl K a) g tb D σ H1) := rfl
theorem for_tpl {tl : TE} : tFor (iTup K tl) g tb D σ H = tl σ H (fun x H1 => ∃ a, x = .ref a ∧ (∃ xs, SqT K H1 a xs) ∧ FJ (Itt K a) g tb D σ H1) := rfl
theorem by_range (Pv : Nat → L2.St → Hp → Prop) (h0 : Pv 0 σ H)
    (hs : ∀ i σ H, i < n → Pv i σ H → g (.int (lo + i)) σ H fun σ2 H2 => tb { D with nx := Pv (i + 1), ct := Pv (i + 1), bk := D.nx } σ2 H2) (hd : ∀ σ H, Pv n σ H → D.nx σ H) : FJ (Itr lo n) g tb D σ H := for_range Pv h0 hs hd
theorem by_list (Pv : Nat → L2.St → Hp → Prop) (h0 : Pv 0 σ H) (hl : ∀ i σ H, i ≤ xs.length → Pv i σ H → SqL K H a xs)
    (hs : ∀ i x σ H, xs[i]? = some x → Pv i σ H → g x σ H fun σ2 H2 => tb { D with nx := Pv (i + 1), ct := Pv (i + 1), bk := D.nx } σ2 H2) (hd : ∀ σ H, Pv xs.length σ H → D.nx σ H) : FJ (Itl K a) g tb D σ H := for_list Pv h0 hl hs hd
end
theorem line2 : (2 : Nat) ≤ sizeLine := by decide
theorem bd200 {x : Int} (h : x.natAbs < 2 ^ 200) : Bd 4000 x := Bd.up (n := 200) h (by decide)
theorem mul200 {x y : Int} (h : x.natAbs < 2 ^ 200) (h' : y.natAbs < 2 ^ 200) : MulB x y := ⟨bd200 h, bd200 h'⟩
end Gz
namespace Gz
open PySem PySem.Spec PyProof.Rows L2
section
variable {X : Cx}
theorem op_isS : OpR X (compareOp .Is) (fun x y H Q => ∃ a b, x = .bl a ∧ y = .bl b ∧ Q (.bl (a == b)) H) := by
  intro pins s σ H x y v u Q I rx ry h
  obtain ⟨a, b, rfl, rfl, q⟩ := h
  cases rx; cases ry
  exact is_bool ⟨.bl _, H, I, rfl, q⟩
theorem op_isnotS : OpR X (compareOp .IsNot) (fun x y H Q => ∃ a b, x = .bl a ∧ y = .bl b ∧ Q (.bl (a != b)) H) := by
  intro pins s σ H x y v u Q I rx ry h
  obtain ⟨a, b, rfl, rfl, q⟩ := h
  cases rx; cases ry
  exact isnot_bool ⟨.bl _, H, I, rfl, q⟩
end
section
variable {K : PySem.W.Frag} {H H1 : Hp} {l p : Addr} {xs ys : List V} {o : HO}
theorem same_put (hl : H l = none) (s : Same H H1) : Same H (upd H1 l o) := fun b u e => by
  rw [upd_ne (ne_of_none e hl)]; exact s b u e
def IsP (K : PySem.W.Frag) (H : Hp) (v : V) (a b : Int) : Prop := ∃ p, v = .ref p ∧ SqT K H p [.int a, .int b]
end
end Gz
set_option Elab.async false
set_option linter.all false
set_option maxRecDepth 100000
set_option maxHeartbeats 4000000
namespace Gz
open PySem PySem.W PySem.Spec PySem.Calls PyProof.Rows Builtin Builtin.ObjectAttr Builtin.Getset_descriptor
section
variable {prog : Program} {w : World} {A : Around} {E : Value → Shared → Prop} {s : Shared} {K : Frag} {x C : Addr} {oe : Obj} {R : Result → Shared → Prop}
theorem class_getX {tp : Value} (X : K.In s.heap) (he : s.heap.get? x = some oe) (hc : oe.cls = .ref C) (hm : mroIn K C (.type "object") = some true)
    (h : R (.ok (.ret (.ref C))) s) : codeAny (model prog w) A (.call (.builtin "getset_descriptor.__get__") ⟨[.builtin "object.__class__", .ref x, tp], []⟩) R s := by
  obtain ⟨hh, g, dr, t, os⟩ := s
  have L0 : Looks (model prog w) hh (typeOf (.ref x)) (.ref C) := hc ▸ (Looks.ld he).andThen .now
  have L1 := looks_mroIn (M := model prog w) X hm
  refine codeAny_call_builtin KF.slot_gs.plain KF.entry_gs (KF.slot_gs.check _ _ _ _ _ _ _ _ KF.type_class (KF.args_gs _ _ _) ?_)
  unfold Builtin.«getset_descriptor.__get__» descrGet
  rw [dga_obj]
  refine wpAny_bind (wpAny_pure ?_)
  unfold descrGetter descrCheckInstance descrNameAndClass isInstance
  simp only [KF.owner_class]
  repeat lk
  refine ⟨Code.quiet_builtin _ (by decide +kernel), codeAny_builtin KF.entry_class ?_⟩
  unfold Builtin.«object.__class__» shownTypeOf
  repeat lk
  exact h
theorem entryX {tk : Tok} {Q : Fin → Shared → Prop} (X : K.In s.heap) (he : s.heap.get? x = some oe) (hc : oe.cls = .ref C) (hm : mroIn K C (.type "object") = some true)
    (g3 : findIn K (.ref C) "__class__" = some (some (.builtin "object.__class__"))) (h : Q (.done (.ret (.ref C))) s) :
    wpAny (model prog w) A (Builtin.«object.__getattribute__» ⟨[.ref x, .str "__class__" tk], []⟩) Q E s := by
  obtain ⟨hh, g, dr, t, os⟩ := s
  have L0 : Looks (model prog w) hh (typeOf (.ref x)) (.ref C) := hc ▸ (Looks.ld he).andThen .now
  have L1 := looks_findIn (M := model prog w) X g3
  have f5 := KF.type_class
  have f6 := F.slot_gs_get.lookup
  have f7 := F.slot_gs_set.lookup
  repeat (any_goals (first | assumption | (with_reducible refine L0.at ?_) | (with_reducible refine L1.at ?_) | wp_step))
  refine class_getX X he hc hm ?_
  repeat (any_goals (first | assumption | wp_step))
theorem checkX {nameV : Value} {Q : Unit → Shared → Prop} (X : K.In s.heap) (he : s.heap.get? x = some oe) (hc : oe.cls = .ref C) (hb : mroIn K C (.type "BaseException") = some true) (h : Q () s) :
    wpAny (model prog w) A (checkBuiltinCall "BaseException.__getattribute__" ⟨[.ref x, nameV], []⟩) Q E s := by
  obtain ⟨hh, g, dr, t, os⟩ := s
  have hk : builtinKind "BaseException.__getattribute__" = some .slot := by decide +kernel
  have hsplit : splitId "BaseException.__getattribute__" = some ("BaseException", "__getattribute__") := by decide +kernel
  have ha := F.args_bexc_ga (.ref x) nameV
  have L0 : Looks (model prog w) hh (typeOf (.ref x)) (.ref C) := hc ▸ (Looks.ld he).andThen .now
  have L1 := looks_mroIn (M := model prog w) X hb
  simp only [checkBuiltinCall, hk, hsplit]
  refine wpAny_bind ?_
  unfold isInstance
  repeat (first | (with_reducible refine L0.at ?_) | (with_reducible refine L1.at ?_) | wp_step)
  exact h
theorem exc_class {Q : Option Value → Shared → Prop} (X : K.In s.heap) (he : s.heap.get? x = some oe) (hc : oe.cls = .ref C) (hm : mroIn K C (.type "object") = some true) (hb : mroIn K C (.type "BaseException") = some true)
    (g1 : findIn K (.ref C) "__getattribute__" = some (some (.builtin "BaseException.__getattribute__"))) (g2 : findIn K (.ref C) "__getattr__" = some none)
    (g3 : findIn K (.ref C) "__class__" = some (some (.builtin "object.__class__"))) (h : Q (some (.ref C)) { s with toks := s.toks + 1 }) :
    wpAny (model prog w) A (getAttr? (.ref x) "__class__") Q E s := by
  obtain ⟨hh, g, dr, t, os⟩ := s
  have L0 : Looks (model prog w) hh (typeOf (.ref x)) (.ref C) := hc ▸ (Looks.ld he).andThen .now
  have L1 := looks_findIn (M := model prog w) X g1
  have L2 := looks_findIn (M := model prog w) X g2
  have f3 := F.excAttr_ValueError.ga.bind (.ref x)
  have hx2 : (Value.builtin "BaseException.__getattribute__" == Value.builtin "object.__getattribute__") = false := by decide +kernel
  have hx1 : (onTheHeap (Value.ref C) && Value.builtin "BaseException.__getattribute__" == Value.builtin "object.__getattribute__") = false := by rw [hx2]; rfl
  unfold getAttr? getAttrBy?
  repeat (any_goals (first | assumption | (with_reducible refine L0.at ?_) | (with_reducible refine L1.at ?_) | (with_reducible refine L2.at ?_) | wp_step))
  refine codeAny_call_builtin F.excAttr_ValueError.ga.plain F.entry_bexc_ga (checkX X he hc hb (entryX X he hc hm g3 ?_))
  repeat (any_goals (first | assumption | wp_step))
end
structure XC (K : Frag) (C : Addr) : Prop where
  ex : excIn K C [.type "ValueError", .type "Exception", .type "BaseException", .type "object"] "ValueError.__new__" = true
  mo : mroIn K C (.type "object") = some true
  mb : mroIn K C (.type "BaseException") = some true
  ga : findIn K (.ref C) "__getattribute__" = some (some (.builtin "BaseException.__getattribute__"))
  gr : findIn K (.ref C) "__getattr__" = some none
  gc : findIn K (.ref C) "__class__" = some (some (.builtin "object.__class__"))
theorem XC.cls {K : Frag} {C : Addr} (x : XC K C) : ∃ c d cd sl, K.lookup C = some ⟨c, d, .cls cd, sl⟩ := by
  have q := x.ex
  unfold excIn at q
  split at q
  · rename_i dd cd sl ho
    exact ⟨_, _, _, _, ho⟩
  · cases q
theorem kitx_exc {K : Frag} {x C : Addr} (c : XC K C) : KitX K (.ref x) (.ref C) (fun h => ∃ oe : Obj, h.get? x = some oe ∧ oe.cls = .ref C) where
  ty := fun _ _ _ ⟨oe, he, hc⟩ => hc ▸ (Looks.ld he).andThen .now
  it := fun _ _ X _ => by
    obtain ⟨a, b, cd, sl, ho⟩ := c.cls
    intro A' Q' E' s' k q
    unfold isType loadHead
    exact wpAny_bind (wpAny_loadPart (k _ _ (X _ _ ho)) (wpAny_pure q))
  ne := fun h tp dd its n sl X htp => by
    obtain ⟨a, b, cd, sl, ho⟩ := c.cls
    refine Bool.eq_false_iff.mpr fun q => ?_
    have e : C = tp := Value.ref.inj (beq_iff_eq.mp q)
    subst e
    have z := (X _ _ ho).symm.trans htp
    cases z
  ca := fun X ⟨oe, he, hc⟩ k => exc_class X he hc c.mo c.mb c.ga c.gr c.gc k
theorem exc_obj {K : Frag} {h : Heap} {C : Addr} (X : K.In h) (c : XC K C) :
    ∃ bm N nm q bs hdct sn sub ab col dd k0 k1 k2 k3 k5 mN, h.get? C = some (excClassObj nm q C N bs bm hdct sn sub ab col dd k0 k1 k2 k3 k5 "ValueError.__new__") ∧ h.Ns N mN ∧ mN "__init__" = none ∧
      OwnTail h [.type "ValueError", .type "Exception", .type "BaseException", .type "object"] bm := by
  have q := c.ex
  unfold excIn at q
  split at q
  · rename_i dd cd sl ho
    split at q
    · rename_i C' bm k0 k1 k2 k3 n k5 hm hs
      simp only [Bool.and_eq_true, beq_iff_eq, Bool.not_eq_true'] at q
      obtain ⟨⟨⟨⟨⟨rfl, rfl⟩, hdel⟩, ht⟩, hok⟩, hni⟩ := q
      obtain ⟨nm, bs, mro, ns, qn, hd, sn, sub, ab, col, del⟩ := cd
      dsimp only at hm hdel hok hni
      subst hm hdel
      have hsl : sl = #[k0, k1, k2, k3, some (.builtin "ValueError.__new__"), k5] := by
        obtain ⟨l⟩ := sl
        simp only at hs
        rw [hs]
      subst hsl
      exact ⟨bm, ns, nm, qn, bs, hd, sn, sub, ab, col, dd, k0, k1, k2, k3, k5, _, X _ _ ho, .of_isNs (isNs_of_in X hok), nsMap_none_of_in X hok hni, tail_of_in X ht⟩
    · cases q
  · cases q
end Gz
namespace Gz
open PySem PySem.Spec PyProof.Rows L2
def excO (a C : Addr) : HO := .ext fun h => ∃ oe : Obj, h.get? a = some oe ∧ oe.cls = .ref C
theorem excO_ok {P : Program} {w : World} {H : Hp} {h : Heap} {a C : Addr} {oe : Obj} (he : h.get? a = some oe) (hc : oe.cls = .ref C) : ObjOk P w H h a (excO a C) :=
  ⟨⟨oe, he, hc⟩, ⟨oe, he⟩, fun h1 h2 ⟨o, e, c⟩ k => ⟨o, k o e, c⟩⟩
section
variable {X : Cx}
def rIsiX (K : PySem.W.Frag) (a : Addr) (c : V) (H : Hp) (Q : VK) : Prop := ∃ C b, H a = some (excO a C) ∧ XC K C ∧ clsVal c ≠ .none ∧ PySem.W.kitOne K (.ref C) (clsVal c) = some b ∧ Q (.bl b) H
theorem call_isiX {K : PySem.W.Frag} (hK : X.K = K) : CallR X (.builtin "isinstance") (fun xs H Q => ∃ a c, xs = [.ref a, c] ∧ rIsiX K a c H Q) := by
  subst hK
  intro pins s σ H xs us Q I r h
  obtain ⟨a, c, rfl, C, b, ha, xc, hc, e, q⟩ := h
  obtain ⟨u, v, rfl, rx, rc⟩ := vals2 r
  have ev : v = clsVal c := by
    cases c with
    | ref a => exact rc
    | ty n => exact rc
    | non => exact absurd rfl hc
    | bl _ => exact absurd rfl hc
    | int _ => exact absurd rfl hc
    | str _ => exact absurd rfl hc
    | byt _ => exact absurd rfl hc
    | flt _ => exact absurd rfl hc
  subst ev
  cases (show u = Value.ref a from rx)
  obtain ⟨hp, _, _⟩ := (show ObjOk X.prog X.w H s.heap a (excO a C) from I.hok a _ ha)
  exact PySem.W.kia_one (kitx_exc xc) I.kIn hp e (fun z => nomatch z) fun tk => ⟨.bl b, H, I.tok tk, rfl, q⟩
end
theorem isiX {K : PySem.W.Frag} {a C : Addr} {c : V} {H : Hp} {Q : VK} {b : Bool} (h : H a = some (excO a C)) (xc : XC K C) (hc : clsVal c ≠ .none) (e : PySem.W.kitOne K (.ref C) (clsVal c) = some b) (q : Q (.bl b) H) : rIsiX K a c H Q := ⟨C, b, h, xc, hc, e, q⟩
end Gz
set_option Elab.async false
set_option linter.all false
set_option maxRecDepth 100000
set_option maxHeartbeats 4000000
namespace Gz
open PySem PySem.Spec PyProof.Rows L2
theorem ObjOk.some {P : Program} {w : World} {H : Hp} {h : Heap} {a : Addr} {o : HO} (x : ObjOk P w H h a o) : ∃ ob, h.get? a = some ob := by
  cases o with
  | lst xs => obtain ⟨_, _, _, _, e⟩ := x; exact ⟨_, e⟩
  | tup xs => obtain ⟨_, _, _, o, e, _⟩ := x; exact ⟨_, e⟩
  | dK kvs => obtain ⟨_, _, _, _, o, _, _, e, _⟩ := x; exact ⟨_, e⟩
  | dT kvs => obtain ⟨_, _, _, _, o, _, _, e, _⟩ := x; exact ⟨_, e⟩
  | set S n => obtain ⟨o, _, _, _, e, _⟩ := x; exact ⟨_, e⟩
  | ins C dx fs => obtain ⟨_, _, _, e, _⟩ := x; exact ⟨_, e⟩
  | own y => exact x
  | xd fs => obtain ⟨_, ⟨_, _, _, e, _⟩, _⟩ := x; exact ⟨_, e⟩
  | rng lo hi => obtain ⟨_, _, _, e⟩ := x; exact ⟨_, e⟩
  | frz ob u => obtain ⟨e, _⟩ := x; exact ⟨_, e⟩
  | tbl ps => exact ⟨_, x⟩
  | met f y => exact ⟨_, x⟩
  | ext φ => exact x.2.1
def RaiseTo (X : Cx) (E : XK) : Prop := ∀ (pins : List (Addr × Obj)) (σ : L2.St) (H : Hp) (s : Shared) (e C : Addr) (vs : List Value) (h' : Heap), Inv X pins σ H s → Heap.MadeExcOf s.heap h' e (.ref C) vs → E (.ref C) none H → X.xe (.ref e) { s with heap := h' }
def tRaise (C : Addr) (E : XK) (ta : TA) : TS := fun D σ H => ta σ H fun vs H1 => vs.length ≤ sizeLine ∧ E (.ref C) none H1
section
variable {X : Cx}
theorem ps_raise {x : Str} {np cpos pos : Pos} {e₀ : Expr} {rest : List Expr} {ta : TA} {C : Addr} {E : XK} (hx : RaiseTo X E) (hg : Gl X x) (hm : X.mg x = some (.ref C)) (xc : XC X.K C) (hc : X.calm = true) (ha : PA X (e₀ :: rest) ta)
    (hd : (x == ("__debug__" : Str)) = false := by decide) (he : starEach (e₀ :: rest) X.env = (false, eval e₀ X.env) :: starEach rest X.env := by rfl)
    (hpl : (backTo cpos (starEach rest X.env)).any (·.1) = false := by rfl) :
    PS X (.Raise (some (.Call (.Name x np) (e₀ :: rest) [] cpos)) none pos) (tRaise C E ta) := by
  intro pins s σ H D I h
  obtain ⟨tl, N, nm, q, bs, hdct, sn, sub, ab, col, dd, k0, k1, k2, k3, k5, mN, hC, hN, hni, T⟩ := exc_obj I.ok.mod.kin xc
  refine wpAny_Raise_call_subU (C := C) (nm := nm) (q := q) (N := N) (bs := bs) (bm := tl) (hdct := hdct) (sn := sn) (sub := sub) (ab := ab) (col := col) (dd := dd) (k0 := k0) (k1 := k1) (k2 := k2) (k3 := k3) (k5 := k5)
    PySem.F.excBase_ValueError (by decide +kernel) PySem.F.excBase_ValueError (mN := mN) (T.hasType PySem.F.excBase_ValueError.hasBase) (I.ok.hd hc) (by rw [he]; show (false || (backTo cpos (starEach rest X.env)).any (·.1)) = false; rw [hpl]; rfl) hni (ld_glob I hg hm ⟨rfl, ?_⟩ hd)
  have ha' := ha cpos pins s σ H _ I h
  rw [he] at ha' ⊢
  refine Calls.evalArgs_plain (wpAny_mono ha' (fun us s₂ h₂ => ?_) fun _ _ y => y)
  obtain ⟨vs, H1, I1, r, hl, hE⟩ := h₂
  exact ⟨rfl, by rw [← r.length]; exact hl, I1.bk _ _ hC, hN.keeps I1.bk, T.keeps I1.bk, fun h' e hm => hx pins σ H1 s₂ e C us h' I1 hm hE⟩
end
section
variable {P : Program} {w : World} {K : PySem.W.Frag} {mg : Str → Option Value} {base : Heap} {N : List Str} {qual : Str} {scope : Scope} {f : Addr} {cd : Value} {A : Around} {outer : List Env} {s : Shared} {H : Hp} {E : XK}
theorem frs_mem {env : Env} {b L : Addr} (hf : env.frame = some L) (h : b ∈ frs (env :: outer)) : b = L ∨ b ∈ frs outer := by
  unfold frs at h
  rw [List.filterMap_cons, hf] at h
  exact List.mem_cons.mp h
theorem raise_up : RaiseTo (cxOf (CXX P w) P w K mg base N qual scope f cd A outer s H E) E := by
  intro pins σ H1 s1 e C vs h1 I hx hE
  have hfr : (cxOf (CXX P w) P w K mg base N qual scope f cd A outer s H E).A.frames = some (envOfC qual scope s.heap.objs.size f cd :: outer) := I.ok.frames
  have hF : s1.heap.FunFrames base (envOfC qual scope s.heap.objs.size f cd :: outer) := I.stack
  have hin : ∀ env ∈ (envOfC qual scope s.heap.objs.size f cd :: outer), ∀ b, env.frame = some b → b ∈ frs (envOfC qual scope s.heap.objs.size f cd :: outer) := fun env he b hb => List.mem_filterMap.mpr ⟨env, he, hb⟩
  have fr0 : ∀ b ∈ frs (envOfC qual scope s.heap.objs.size f cd :: outer), H1 b = none := I.stkFree
  have neL : ∀ b o, s.heap.get? b = some o → b ≠ s.heap.objs.size := fun b o e => Nat.ne_of_lt (Heap.lt_size e)
  have nofr : ∀ b o, s.heap.get? b = some o → b ∉ frs outer → b ∉ frs (envOfC qual scope s.heap.objs.size f cd :: outer) := fun b o e hb z => by
    rcases frs_mem rfl z with z | z
    · exact neL b o e z
    · exact hb z
  have ub : Un (frs outer) [] H H1 s.heap s1.heap := I.base
  refine wpAny_leaves_madeW (base := PySem.W.hideAll s1.heap (frs (envOfC qual scope s.heap.objs.size f cd :: outer))) hfr rfl (fun b o q => PySem.W.of_hideAll _ q) (PySem.W.funFrames_hide hF hin) hx fun h' t fl tup bt up => ?_
  have stays := fl.1
  have inB : ∀ b o, s1.heap.get? b = some o → b ∉ frs (envOfC qual scope s.heap.objs.size f cd :: outer) → (PySem.W.hideAll s1.heap (frs (envOfC qual scope s.heap.objs.size f cd :: outer))).get? b = some o := fun b o q hb => PySem.W.hideAll_get _ q hb
  have frUp : ∀ b ∈ frs (envOfC qual scope s.heap.objs.size f cd :: outer), ∀ o, s1.heap.get? b = some o → ∃ sl, h'.get? b = some { o with slots := sl } := fun b hb o q => by
    obtain ⟨_, o', ho', hnf⟩ := hF.mem hb
    rw [q] at ho'; cases ho'
    exact up b o (hx.keeps b o q) hnf
  refine ⟨e, .ref C, .ref t, H1, _, rfl, I.os, I.bare, ⟨fun b o q n hb hx' => ?_, fun b o q n hb hx' => ?_, ub.free, fun b o q hx' => ?_, ub.tups, ub.frzs, ub.tbls⟩, fun b o q n hb => ?_, fun b o q hb => ?_, fun a o q => ?_, ?_, ?_, fl, hE⟩
  · exact stays b o (inB b o (ub.keep b o q n hb hx') (nofr b o q hb))
  · obtain ⟨sl, e1⟩ := ub.slot b o q n hb hx'
    obtain ⟨sl', e2⟩ := frUp b (by unfold frs; rw [List.filterMap_cons]; exact List.mem_cons_of_mem _ hb) _ e1
    exact ⟨sl', e2⟩
  · obtain ⟨o', e1⟩ := ub.there b o q hx'
    by_cases hb : b ∈ frs (envOfC qual scope s.heap.objs.size f cd :: outer)
    · obtain ⟨sl, e2⟩ := frUp b hb o' e1
      exact ⟨_, e2⟩
    · exact ⟨o', stays b o' (inB b o' e1 hb)⟩
  · exact inB b o (ub.keep b o q n hb (by simp)) (nofr b o q hb)
  · obtain ⟨o', e1⟩ := ub.there b o q (by simp)
    exact ⟨o', inB b o' e1 (nofr b o q hb)⟩
  · refine (I.hok a o q).stay (fun b u hb z => inB b u z fun hm => ?_) (fun _ z => z) fun _ _ z => z
    have := fr0 b hm
    rcases hb with hb | hb
    · rw [hb, q] at this; cases this
    · rw [hb] at this; cases this
  · cases q : H1 e with
    | none => rfl
    | some u =>
      obtain ⟨ob, z⟩ := ObjOk.some (I.hok e u q)
      rw [hx.new] at z; cases z
  · cases q : s.heap.get? e with
    | none => rfl
    | some u =>
      obtain ⟨o', z⟩ := ub.there e u q (by simp)
      rw [hx.new] at z; cases z
theorem pass_up : Passes (CXX P w) (cxOf (CXX P w) P w K mg base N qual scope f cd A outer s H E) E := by
  intro pins σ H1 s1 ev s2 I cx
  obtain ⟨x, cls, a0, H', B, rfl, os, bare, un, kb, tb, hok, hx, hn, fl, hE⟩ := cx
  have hfr : (cxOf (CXX P w) P w K mg base N qual scope f cd A outer s H E).A.frames = some (envOfC qual scope s.heap.objs.size f cd :: outer) := I.ok.frames
  have hF : s1.heap.FunFrames base (envOfC qual scope s.heap.objs.size f cd :: outer) := I.stack
  have neL : ∀ b o, s.heap.get? b = some o → b ≠ s.heap.objs.size := fun b o e => Nat.ne_of_lt (Heap.lt_size e)
  have nofr : ∀ b o, s.heap.get? b = some o → b ∉ frs outer → b ∉ frs (envOfC qual scope s.heap.objs.size f cd :: outer) := fun b o e hb z => by
    rcases frs_mem rfl z with z | z
    · exact neL b o e z
    · exact hb z
  have infr : ∀ b, b ∈ frs outer → b ∈ frs (envOfC qual scope s.heap.objs.size f cd :: outer) := fun b hb => by
    unfold frs; rw [List.filterMap_cons]; exact List.mem_cons_of_mem _ hb
  have ub : Un (frs outer) [] H H1 s.heap s1.heap := I.base
  have un' : Un (frs (envOfC qual scope s.heap.objs.size f cd :: outer)) [] H1 H' s1.heap s2.heap := un
  have kb' : ∀ b o, s1.heap.get? b = some o → H1 b = none → b ∉ frs (envOfC qual scope s.heap.objs.size f cd :: outer) → B.get? b = some o := kb
  have tb' : ∀ b o, s1.heap.get? b = some o → b ∉ frs (envOfC qual scope s.heap.objs.size f cd :: outer) → ∃ o', B.get? b = some o' := tb
  have frfree : ∀ b ∈ frs (envOfC qual scope s.heap.objs.size f cd :: outer), H1 b = none := I.stkFree
  refine wpAny_leaves_onW hfr rfl fl fun h' fl' up => ?_
  have stays := fl'.1
  have frUp : ∀ b ∈ frs (envOfC qual scope s.heap.objs.size f cd :: outer), ∀ o, s1.heap.get? b = some o → ∃ sl, h'.get? b = some { o with slots := sl } := fun b hb o q => by
    obtain ⟨_, o', ho', hnf⟩ := hF.mem hb
    rw [q] at ho'; cases ho'
    obtain ⟨sl, e1⟩ := un'.slot b o q (frfree b hb) hb (by simp)
    obtain ⟨sl', e2⟩ := up b _ e1 hnf
    exact ⟨sl', e2⟩
  refine ⟨x, cls, a0, H', B, rfl, os.trans I.os, bare, ⟨fun b o q n hb hx' => ?_, fun b o q n hb hx' => ?_, fun b o q n hx' => ?_, fun b o q hx' => ?_, fun b xs q => un.tups _ _ (ub.tups _ _ q), fun b o u q => un.frzs _ _ _ (ub.frzs _ _ _ q), fun b ps q => ?_⟩, fun b o q n hb => ?_, fun b o q hb => ?_, hok, hx, ?_, fl', hE⟩
  · exact stays b o (kb' b o (ub.keep b o q n hb hx') (ub.free b o q n hx') (nofr b o q hb))
  · obtain ⟨sl, e1⟩ := ub.slot b o q n hb hx'
    obtain ⟨sl', e2⟩ := frUp b (infr b hb) _ e1
    exact ⟨sl', e2⟩
  · obtain ⟨o', e1⟩ := ub.there b o q hx'
    exact un'.free b o' e1 (ub.free b o q n hx') (by simp)
  · obtain ⟨o', e1⟩ := ub.there b o q hx'
    by_cases hb : b ∈ frs (envOfC qual scope s.heap.objs.size f cd :: outer)
    · obtain ⟨sl, e2⟩ := frUp b hb o' e1
      exact ⟨_, e2⟩
    · obtain ⟨o2, e2⟩ := tb' b o' e1 hb
      exact ⟨o2, stays b o2 e2⟩
  · obtain ⟨m1, e1⟩ := ub.tbls b ps q
    obtain ⟨m2, e2⟩ := un.tbls b _ e1
    exact ⟨m1 ++ m2, by rw [e2, Array.append_assoc]⟩
  · exact kb' b o (ub.keep b o q n hb (by simp)) (ub.free b o q n (by simp)) (nofr b o q hb)
  · obtain ⟨o', e1⟩ := ub.there b o q (by simp)
    exact tb' b o' e1 (nofr b o q hb)
  · cases q : s.heap.get? x with
    | none => rfl
    | some u =>
      obtain ⟨o', z⟩ := ub.there x u q (by simp)
      rw [hn] at z; cases z
theorem okX {x qual : Str} {st : Stmt} {f : Addr} {fd : FuncData} {N ps : List Str} {k : Nat} {sp : Sp} (F : Fun K x qual st f fd) (S : FnScope N ps (defScope st)) (len : ∀ vs H Q E, sp vs H Q E → vs.length = ps.length)
    (hbody : ∀ (cdv : Value) (A : Around) (outer : List Env) (s : Shared) (H : Hp) (vs : List V) (Q : VK) (E : XK), Room k (A.deeper (envOfC qual (defScope st) s.heap.objs.size f cdv)) → sp vs H Q E →
      ∃ t, PSs (cxOf (CXX P w) P w K mg base N qual (defScope st) f cdv A outer s H E) (defBody st) t ∧ t { nx := fun _ H' => Q .non H', rt := Q } (start N vs) H) : FnOk P w K mg base (CXX P w) (k + 1) f fd ps sp := by
  obtain ⟨oc, od, kV, doc, pm, an, cdv, ct, osl, rfl, lk, hcd⟩ := F.ex
  refine fn_of lk hcd S len fun A outer s H vs Q E hr hsp => ?_
  exact hbody cdv A outer s H vs Q E hr hsp
end
end Gz
namespace Gz
open PySem PySem.Spec PyProof.Rows L2
abbrev Xp (X : Cx) (F : Value → Shared → Prop) (pn : List (Addr × Obj)) : Cx := { X with xe := F, pn := pn }
abbrev Xh (X : Cx) (A' : Around) (pn : List (Addr × Obj)) : Cx := { X with A := A', calm := false, xe := fun _ _ => False, pn := pn }
def tTry (K : PySem.W.Frag) (m i : Nat) (G : Addr) (tb th : TS) (E' : XK) : TS := fun D σ H => tb D σ H ∧ ∀ cls H', E' cls none H' → ∃ C, cls = .ref C ∧ PySem.W.exmOne K (.ref C) (.ref G) = some true ∧
  ∀ a, H' a = none → th { nx := fun σ' H2 => D.nx (σ'.set i none) H2, rt := D.rt, bk := fun σ' H2 => D.bk (σ'.set i none) H2, ct := fun σ' H2 => D.ct (σ'.set i none) H2 } ((List.replicate m none).set i (some (.ref a))) (upd H' a (excO a C))
section
variable {X : Cx} {F : Value → Shared → Prop} {pins pn : List (Addr × Obj)} {σ : L2.St} {H : Hp} {s : Shared} {A' : Around}
theorem okP (ok : X.Ok) : (Xp X F pn).Ok := ⟨ok.mod, ok.kind, ok.glob, ok.blt, ok.above, ok.inj, ok.has, ok.cab, ok.hd, ok.frames, ok.stk, ok.exf, ok.bs, ok.bsz, ok.noex, ok.exfs, ok.funs, ok.frf⟩
theorem okP' (ok : (Xp X F pn).Ok) : X.Ok := ⟨ok.mod, ok.kind, ok.glob, ok.blt, ok.above, ok.inj, ok.has, ok.cab, ok.hd, ok.frames, ok.stk, ok.exf, ok.bs, ok.bsz, ok.noex, ok.exfs, ok.funs, ok.frf⟩
theorem okH (ok : X.Ok) (hA : A'.frames = X.A.frames) : (Xh X A' pn).Ok := ⟨ok.mod, ok.kind, ok.glob, ok.blt, ok.above, ok.inj, ok.has, ok.cab, (fun z => nomatch z), hA.trans ok.frames, ok.stk, ok.exf, ok.bs, ok.bsz, ok.noex, ok.exfs, ok.funs, ok.frf⟩
theorem invP (I : Inv X pins σ H s) : Inv (Xp X F (X.pn ++ pins)) [] σ H s := ⟨okP I.ok, I.os, I.bare, I.base, I.loc, I.cell, I.free, I.freeC, fun p hp => I.pin p (by simpa using hp), I.hok, I.len⟩
theorem invP' (I : Inv (Xp X F (X.pn ++ pins)) [] σ H s) : Inv X pins σ H s := ⟨okP' I.ok, I.os, I.bare, I.base, I.loc, I.cell, I.free, I.freeC, fun p hp => I.pin p (by simpa using hp), I.hok, I.len⟩
theorem invH {pins' : List (Addr × Obj)} (I : Inv (Xp X F pn) pins' σ H s) (hA : A'.frames = X.A.frames) : Inv (Xh X A' pn) [] σ H s :=
  ⟨okH (okP' I.ok) hA, I.os, I.bare, I.base, I.loc, I.cell, I.free, I.freeC, fun p hp => I.pin p (by simp at hp; exact List.mem_append_left _ hp), I.hok, I.len⟩
theorem SP.unP {D : Ends} {f : Flow} {s' : Shared} (h : SP (Xp X F (X.pn ++ pins)) [] D f s') : SP X pins D f s' := by
  cases f with
  | next => obtain ⟨σ', H', I, q⟩ := h; exact ⟨σ', H', invP' I, q⟩
  | brk => obtain ⟨σ', H', I, q⟩ := h; exact ⟨σ', H', invP' I, q⟩
  | cont => obtain ⟨σ', H', I, q⟩ := h; exact ⟨σ', H', invP' I, q⟩
  | ret u => obtain ⟨v, σ', H', I, r, q⟩ := h; exact ⟨v, σ', H', invP' I, r, q⟩
theorem nameGoes {M : Model} {A : Around} {E : Value → Shared → Prop} {n : Str} {i : Nat} {hpos : Pos} {Q : Unit → Shared → Prop} (okX : X.Ok) (I : Inv (Xh X A' (X.pn ++ pins)) [] σ H s) (hN : X.N.Nodup) (hi : X.N[i]? = some n) (hl : X.env.scope.names.lookup n = some .local)
    (h : ∀ s', Inv X pins (σ.set i none) H s' → Q () s') : wpAny M A (do bindName X.env n .none; unbindBehindTheSuite X.env n hpos) Q E s := by
  obtain ⟨m, hn, hlk⟩ := id I.loc
  have hcls : (X.env.scope.kind == .class || (X.env.scope.kind == .module && X.env.locals != X.env.globals)) = false := by rw [I.ok.kind]; rfl
  have cne : ∀ x c, X.env.cells.lookup x = some c → c ≠ X.env.locals := I.cne
  have fre : H X.env.locals = none := I.free
  obtain ⟨oL, _, _, hoL, _⟩ := id hn
  refine wpAny_nameGoes_keeps hl hn hcls fun h' v hn' hs => ?_
  have tracked : HOk X.prog X.w H h' := fun b ob e => by
    refine (I.hok b ob e).stay (fun c w' hc q => (hs.2 c ?_).trans q) (fun _ q => q) fun _ _ q => q
    rintro rfl
    rcases hc with hc | hc
    · rw [← hc, fre] at e; cases e
    · rw [fre] at hc; cases hc
  have hab : X.s₀.heap.objs.size ≤ X.env.locals := okX.above
  refine h _ ⟨okX, I.os, I.bare, ⟨fun b o e nn hb hx => ?_, fun b o e nn hb hx => ?_, I.base.free, fun b o e hx => ?_, I.base.tups, I.base.frzs, I.base.tbls⟩, ⟨_, hn', fun j y v' e1 e2 e3 => ?_⟩, fun y c e => ?_, I.free, I.freeC, fun p hp => ?_, tracked, by simpa using I.len⟩
  · exact (hs.2 b (Nat.ne_of_lt (Nat.lt_of_lt_of_le (Heap.lt_size e) hab))).trans (I.base.keep b o e nn hb hx)
  · obtain ⟨sl, e1⟩ := I.base.slot b o e nn hb hx
    exact ⟨sl, (hs.2 b (Nat.ne_of_lt (Nat.lt_of_lt_of_le (Heap.lt_size e) hab))).trans e1⟩
  · obtain ⟨o', e1⟩ := I.base.there b o e hx
    exact ⟨o', (hs.2 b (Nat.ne_of_lt (Nat.lt_of_lt_of_le (Heap.lt_size e) hab))).trans e1⟩
  · have hji : j ≠ i := by
      rintro rfl
      by_cases hlt : j < σ.length
      · rw [List.getElem?_set_self hlt] at e2; cases e2
      · rw [List.getElem?_eq_none (by rw [List.length_set]; omega)] at e2; cases e2
    rw [List.getElem?_set_ne (Ne.symm hji)] at e2
    obtain ⟨u', r', q⟩ := hlk j y v' e1 e2 e3
    refine ⟨u', r', ?_⟩
    rcases q with ⟨k, e⟩ | ⟨k, c, e, z⟩
    · refine .inl ⟨k, ?_⟩
      have : y ≠ n := fun e => hji (nodup_ix hN e1 (e ▸ hi))
      simp [this, e]
    · exact .inr ⟨k, c, e, z.sameBut hs (cne y c e)⟩
  · obtain ⟨w', z⟩ := I.cell y c e
    exact ⟨w', z.sameBut hs (cne y c e)⟩
  · obtain ⟨e, nn, ne, nf, d⟩ := I.pin p (by simpa using hp)
    exact ⟨(hs.2 p.1 ne).trans e, nn, ne, nf, d⟩
theorem ps_try {body suite : List Stmt} {b₀ : Stmt} {x n : Str} {np hpos pos : Pos} {tb th : TS} {G : Addr} (E' : XK) (i : Nat) (hst : X.stack = X.env :: X.outer) (hfm : X.env.frame = some X.env.locals) (hg : Gl X x) (hm : X.mg x = some (.ref G))
    (hN : X.N.Nodup) (hi : X.N[i]? = some n) (hl : X.env.scope.names.lookup n = some .local)
    (hb : ∀ F pn, Passes (CXX X.prog X.w) (Xp X F pn) E' → PSs (Xp X F pn) body tb) (hh : ∀ A' pn, PSs (Xh X A' pn) (b₀ :: suite) th) (hd : (x == ("__debug__" : Str)) = false := by decide)
    (hf : X.fn n = true ∨ X.env.scope.names.lookup n = some .local := by first | exact .inl rfl | exact .inr rfl | assumption) :
    PS X (.Try body [.ExceptHandler (some (.Name x np)) (some n) (b₀ :: suite) hpos] [] [] pos) (tTry X.K X.N.length i G tb th E') := by
  intro pins s σ H D I h
  obtain ⟨h1, h2⟩ := h
  refine wpAny_Try_except ?_
  refine wpAny_mono (hb (fun e s₁ => wpAny (model X.prog X.w) X.A (noteFrame e X.env) (fun _ s₂ => wpAny (model X.prog X.w) X.A (setFlight e none) (fun _ s₃ => wpAny (model X.prog X.w) X.A (handleBy e X.env [.ExceptHandler (some (.Name x np)) (some n) (b₀ :: suite) hpos]) (SP X pins D) X.xe s₃) X.xe s₂) X.xe s₁) (X.pn ++ pins) ?_ [] s σ H D (invP I) h1) (fun f s1 q => ?_) fun e s1 q => q
  · intro pins' σ' H1 s1 ev s2 I1 cx
    obtain ⟨xx, cls, a0, H', B, rfl, os, bare, un, kb, tb', hok, hx, hn, fl, hE⟩ := cx
    obtain ⟨C, rfl, hmt, hth⟩ := h2 cls H' hE
    have okX := I.ok
    have hfr : X.A.frames = some (X.env :: X.outer) := by rw [← hst]; exact okX.frames
    have fl' : Heap.FlyingW B (X.env :: X.outer) xx (.ref C) a0 s2.heap := by
      have z : Heap.FlyingW B X.stack xx (.ref C) a0 s2.heap := fl
      rw [hst] at z
      exact z
    have hF : s1.heap.FunFrames X.base X.stack := I1.stack
    have frfree : ∀ b ∈ frs X.stack, H1 b = none := I1.stkFree
    have un5 : ∀ h : Heap, B.StaysIn h → s2.heap.UpToSlots h → Un (frs X.stack) [] H1 H' s1.heap h := fun h stays up => by
      have frUp : ∀ b ∈ frs X.stack, ∀ o, s1.heap.get? b = some o → ∃ sl, h.get? b = some { o with slots := sl } := fun b hb o q => by
        obtain ⟨_, o', ho', hnf⟩ := hF.mem hb
        rw [q] at ho'; cases ho'
        obtain ⟨sl, e1⟩ := un.slot b o q (frfree b hb) hb (by simp)
        obtain ⟨sl', e2⟩ := up b _ e1 hnf
        exact ⟨sl', e2⟩
      refine ⟨fun b o q nn hb hx' => stays b o (kb b o q nn hb), fun b o q nn hb hx' => frUp b hb o q, un.free, fun b o q hx' => ?_, un.tups, un.frzs, un.tbls⟩
      by_cases hb : b ∈ frs X.stack
      · obtain ⟨sl, e2⟩ := frUp b hb o q
        exact ⟨_, e2⟩
      · obtain ⟨o2, e2⟩ := tb' b o q hb
        exact ⟨o2, stays b o2 e2⟩
    refine wpAny_looks_onW hfr hfm fl' fun h₄ hheld₄ hsm₄ => ?_
    refine wpAny_landsW hheld₄ fun h₅ hfl₅ hsm₅ => ?_
    have up5 : s2.heap.UpToSlots h₅ := hsm₄.trans hsm₅
    have I5 : Inv (Xh X (X.A.mark (some (.ref xx))) (X.pn ++ pins)) [] σ' H' { s2 with heap := h₅ } := by
      refine invH (I1.call' (s' := { s2 with heap := h₅ }) (ch := []) os (un5 h₅ hfl₅.1 up5) (hok.kept fun b u q => hfl₅.1 b u q) bare (fun b z => absurd z (by simp))) ?_
      first | rfl | simp
    refine wpAny_handleBy_cons (codeAny_handlers_test ?_) (by intro q; cases q)
    refine ld_glob (X := Xh X (X.A.mark (some (.ref xx))) (X.pn ++ pins)) I5 hg hm ?_ hd
    obtain ⟨ob, hob, hobc⟩ := hfl₅.there
    have LT : PySem.W.Looks (model X.prog X.w) h₅ (typeOf (.ref xx)) (.ref C) := hobc ▸ (PySem.W.Looks.ld hob).andThen .now
    refine (PySem.W.exm_one (M := model X.prog X.w) (h := h₅) I5.kIn LT hmt).here ?_
    refine codeAny_handlers_suite_as ?_
    refine lands_againW hfl₅ fun h₆ fl₆ up₆ => ?_
    have up6 : s2.heap.UpToSlots h₆ := up5.trans up₆
    obtain ⟨oe, hoe, hoec⟩ := fl₆.there
    have u6 := un5 h₆ fl₆.1 up6
    have nex : ∀ b o, s1.heap.get? b = some o → b ≠ xx := fun b o q z => by rw [z, hn] at q; cases q
    have net : ∀ b o, H' b = some o → b ≠ xx := fun b o q z => by rw [z, hx] at q; cases q
    have un6 : Un (frs X.stack) [] H1 (upd H' xx (excO xx C)) s1.heap h₆ := by
      refine ⟨u6.keep, u6.slot, fun b o q nn hx' => ?_, u6.there, fun b xs q => ?_, fun b o u q => ?_, fun b ps q => ?_⟩
      · rw [upd_ne (nex b o q)]; exact u6.free b o q nn hx'
      · have := u6.tups b xs q
        rw [upd_ne (net b _ this)]; exact this
      · have := u6.frzs b o u q
        rw [upd_ne (net b _ this)]; exact this
      · obtain ⟨more, z⟩ := u6.tbls b ps q
        exact ⟨more, by rw [upd_ne (net b _ z)]; exact z⟩
    have hok6 : HOk X.prog X.w (upd H' xx (excO xx C)) h₆ := fun b u q => by
      by_cases hb' : b = xx
      · subst hb'; rw [upd_same] at q; cases q
        exact excO_ok hoe hoec
      · rw [upd_ne hb'] at q
        exact (hok b u q).stay (fun c v _ z => fl₆.1 c v z) (fun c z => by rw [upd_ne (net c _ z)]; exact z) fun c xs z => by rw [upd_ne (net c _ z)]; exact z
    have I6 : Inv (Xh X (X.A.mark (some (.ref xx))) (X.pn ++ pins)) [] σ' (upd H' xx (excO xx C)) { s2 with heap := h₆ } := by
      refine invH (I1.call' (s' := { s2 with heap := h₆ }) (ch := []) os un6 hok6 bare (fun b z => absurd z (by simp))) ?_
      first | rfl | simp
    have I7 : Inv (Xh X (X.A.mark (some (.ref xx))) (X.pn ++ pins)) [] (List.replicate X.N.length none) (upd H' xx (excO xx C)) { s2 with heap := h₆ } :=
      I6.weak (by rw [List.length_replicate, I6.len]) fun j v z => by
        rw [List.getElem?_replicate] at z
        split at z <;> cases z
    refine store_ok (X := Xh X (X.A.mark (some (.ref xx))) (X.pn ++ pins)) (v := .ref xx) I7 hN hi (.inl hl) rfl (fun s8 I8 => ?_) hf
    refine wpAny_mono (hh (X.A.mark (some (.ref xx))) (X.pn ++ pins) [] s8 _ _ _ I8 (hth xx hx)) (fun fl s9 q => ?_) fun _ _ z => z.elim
    cases fl with
    | next =>
      obtain ⟨σ9, H9, I9, q⟩ := q
      exact nameGoes okX I9 hN hi hl fun s' J => ⟨_, _, J, q⟩
    | brk =>
      obtain ⟨σ9, H9, I9, q⟩ := q
      exact nameGoes okX I9 hN hi hl fun s' J => ⟨_, _, J, q⟩
    | cont =>
      obtain ⟨σ9, H9, I9, q⟩ := q
      exact nameGoes okX I9 hN hi hl fun s' J => ⟨_, _, J, q⟩
    | ret u =>
      obtain ⟨v, σ9, H9, I9, r, q⟩ := q
      exact nameGoes okX I9 hN hi hl fun s' J => ⟨v, _, _, J, r, q⟩
  · have q' := SP.unP q
    cases f with
    | next =>
      obtain ⟨σ', H', I', q'⟩ := q'
      exact wpAny_execs_nil ⟨σ', H', I', q'⟩
    | brk => exact q'
    | cont => exact q'
    | ret u => exact q'
end
theorem exm_of {K : PySem.W.Frag} {C G : Addr} {cd : ClassData} {b : Bool} (h1 : PySem.W.clsIn K G = some cd) (h2 : PySem.W.typeIn K (.ref G) = some (.type "type")) (h3 : PySem.W.subIn K (.ref C) (.ref G) = some b) (h4 : PySem.W.subIn K (.ref G) (.type "BaseException") = some true) :
    PySem.W.exmOne K (.ref C) (.ref G) = some b := by
  unfold PySem.W.exmOne
  rw [if_pos (by rw [h4]; rfl)]
  show (if ((PySem.W.clsIn K G).isSome && PySem.W.typeIn K (.ref G) == some (.type "type")) = true then PySem.W.subIn K (.ref C) (.ref G) else none) = some b
  rw [if_pos (by rw [h1, h2]; rfl)]
  exact h3
end Gz
set_option linter.all false
namespace Gz
def cellD (ns : List Int) (k : Int) : Int := ns.getD k.toNat 0
def gcdI (a b : Int) : Int := ((Nat.gcd a.natAbs b.natAbs : Nat) : Int)
def sg (t b : Int) : Int := if b < 0 then -gcdI t b else gcdI t b
def rt (t b : Int) : Int := t.fdiv (sg t b)
def rb (t b : Int) : Int := b.fdiv (sg t b)
theorem em30 (x : Int) : (x % 1000000000000000000000000000000).natAbs < 2 ^ 200 := by
  have h1 := Int.emod_nonneg x (show (1000000000000000000000000000000 : Int) ≠ 0 by decide)
  have h2 := Int.emod_lt_of_pos x (show (0 : Int) < 1000000000000000000000000000000 by decide)
  omega
end Gz
set_option Elab.async false
set_option linter.all false
set_option maxRecDepth 100000
set_option maxHeartbeats 4000000
namespace Gz
open PySem PySem.W PyProof.Rows
def kasP {α : Type} (lt : Nat → Nat → Bool) (n : Nat) : KasT α → (α → Prop) → Prop
  | .ret a, P => P a
  | .ask i j k, P => i < n ∧ j < n ∧ kasP lt n (k (lt i j)) P
section
variable {lt : Nat → Nat → Bool} {n : Nat}
theorem kasP_bind {α β : Type} {f : α → KasT β} {P : β → Prop} : ∀ (t : KasT α), kasP lt n t (fun a => kasP lt n (f a) P) → kasP lt n (t.bind f) P
  | .ret _, h => h
  | .ask _ _ k, h => ⟨h.1, h.2.1, kasP_bind (k _) h.2.2⟩
theorem kasP_mono {α : Type} {P P' : α → Prop} (h : ∀ a, P a → P' a) : ∀ (t : KasT α), kasP lt n t P → kasP lt n t P'
  | .ret _, q => h _ q
  | .ask _ _ k, q => ⟨q.1, q.2.1, kasP_mono h (k _) q.2.2⟩
theorem kasP_wp {α : Type} {cmp : Nat → Nat → (Bool → Shared → Prop) → Shared → Prop} {Ok : Shared → Prop} (hc : ∀ i j C s, i < n → j < n → Ok s → (∀ s', Ok s' → C (lt i j) s') → cmp i j C s) {P : α → Prop} {Q : α → Shared → Prop} (hQ : ∀ a s, Ok s → P a → Q a s) :
    ∀ (t : KasT α) (s : Shared), Ok s → kasP lt n t P → t.kasWp cmp Q s
  | .ret a, s, o, h => hQ a s o h
  | .ask i j k, s, o, h => hc i j _ s h.1 h.2.1 o fun s' o' => kasP_wp hc hQ (k (lt i j)) s' o' h.2.2
structure Ord (lt : Nat → Nat → Bool) : Prop where
  asym : ∀ {a b}, lt a b = true → lt b a = false
  tr : ∀ {a b c}, lt b a = false → lt c b = false → lt c a = false
theorem Ord.rfl' (O : Ord lt) (a : Nat) : lt a a = false := by
  cases h : lt a a with
  | false => rfl
  | true => rw [O.asym h] at h; cases h
def Srt (lt : Nat → Nat → Bool) (p : Array Nat) (k : Nat) : Prop := ∀ i j, i ≤ j → j < k → lt (p.getD j 0) (p.getD i 0) = false
def Dsc (lt : Nat → Nat → Bool) (p : Array Nat) (k : Nat) : Prop := ∀ i j, i ≤ j → j < k → lt (p.getD i 0) (p.getD j 0) = false
def Prm (n : Nat) (p : Array Nat) : Prop := p.toList.Perm (List.range n)
theorem Prm.size {p : Array Nat} (h : Prm n p) : p.size = n := by
  have := h.length_eq
  simpa using this
theorem Prm.below {p : Array Nat} (h : Prm n p) {i : Nat} (hi : i < n) : p.getD i 0 < n := by
  have hs := h.size
  have hi' : i < p.size := by omega
  have e : p.getD i 0 = p[i] := by simp [Array.getD, hi']
  rw [e]
  have m : p[i] ∈ p.toList := by simp
  simpa using h.mem_iff.mp m
theorem Prm.of {p q : Array Nat} (h : Prm n p) (hq : q.Perm p) : Prm n q := (Array.perm_iff_toList_perm.mp hq).trans h
theorem Srt.one (O : Ord lt) {p : Array Nat} : Srt lt p 1 := fun i j hij hj => by
  have : i = j := by omega
  subst this; exact O.rfl' _
theorem Dsc.one (O : Ord lt) {p : Array Nat} : Dsc lt p 1 := fun i j hij hj => by
  have : i = j := by omega
  subst this; exact O.rfl' _
theorem Srt.succ (O : Ord lt) {p : Array Nat} {k : Nat} (h : Srt lt p k) (hk : 1 ≤ k) (hn : lt (p.getD k 0) (p.getD (k - 1) 0) = false) : Srt lt p (k + 1) := fun i j hij hj => by
  by_cases e : j = k
  · subst e
    by_cases ei : i = j
    · subst ei; exact O.rfl' _
    · exact O.tr (h i (j - 1) (by omega) (by omega)) hn
  · exact h i j hij (by omega)
theorem Dsc.succ (O : Ord lt) {p : Array Nat} {k : Nat} (h : Dsc lt p k) (hk : 1 ≤ k) (hn : lt (p.getD (k - 1) 0) (p.getD k 0) = false) : Dsc lt p (k + 1) := fun i j hij hj => by
  by_cases e : j = k
  · subst e
    by_cases ei : i = j
    · subst ei; exact O.rfl' _
    · exact O.tr hn (h i (j - 1) (by omega) (by omega))
  · exact h i j hij (by omega)
theorem rev_get {p : Array Nat} {i j : Nat} (hj : j ≤ p.size) (k : Nat) : (kas_rev p i j).getD k 0 = if i ≤ k ∧ k < j then p.getD (i + j - 1 - k) 0 else p.getD k 0 := by
  simp only [Array.getD_eq_getD_getElem?]
  unfold kas_rev
  rw [getElem?_mirror_all hj]
  split <;> rfl
theorem bub_get {p : Array Nat} {k l : Nat} (hk : k < p.size) (hl : l ≤ k) (i : Nat) : (bubble p k (k - l)).getD i 0 = if i = l then p.getD k 0 else if l < i ∧ i ≤ k then p.getD (i - 1) 0 else p.getD i 0 := by
  simp only [Array.getD_eq_getD_getElem?]
  rw [getElem?_bubble hk _ (by omega)]
  have e : k - (k - l) = l := by omega
  rw [e]
  split
  · rfl
  · split <;> rfl
theorem asc_ok (O : Ord lt) {p : Array Nat} (hp : Prm n p) {P : Nat → Prop} : ∀ (f a : Nat), 1 ≤ a → a + f ≤ n → Srt lt p a → (∀ m, a ≤ m → m ≤ a + f → Srt lt p m → P m) → kasP lt n (kas_asc p f a) P
  | 0, a, h1, h2, hs, q => q a (Nat.le_refl _) (by omega) hs
  | f + 1, a, h1, h2, hs, q => by
    refine ⟨hp.below (by omega), hp.below (by omega), ?_⟩
    cases c : lt (p.getD a 0) (p.getD (a - 1) 0) with
    | true =>
      simp only [↓reduceIte]
      exact q a (Nat.le_refl _) (by omega) hs
    | false =>
      simp only [Bool.false_eq_true, ↓reduceIte]
      exact asc_ok O hp f (a + 1) (by omega) (by omega) (hs.succ O h1 c) fun m m1 m2 => q m (by omega) (by omega)
theorem Dsc.rev {p : Array Nat} {k i : Nat} (h : Dsc lt p k) (hk : k ≤ p.size) (hi : i ≤ k) (he : ∀ j, i ≤ j → j < k → lt (p.getD (k - 1) 0) (p.getD j 0) = false) (O : Ord lt) : Dsc lt (kas_rev p i k) k := fun a b hab hb => by
  rw [rev_get hk, rev_get hk]
  have eqv : ∀ x y, i ≤ x → x < k → i ≤ y → y < k → lt (p.getD x 0) (p.getD y 0) = false := fun x y x1 x2 y1 y2 => O.tr (he y y1 y2) (h x (k - 1) (by omega) (by omega))
  split
  · split
    · exact eqv _ _ (by omega) (by omega) (by omega) (by omega)
    · exfalso; omega
  · split
    · exact h _ _ (by omega) (by omega)
    · exact h _ _ hab hb
theorem desc_ok (O : Ord lt) {P : Array Nat × Nat × Nat → Prop} : ∀ (f : Nat) (p : Array Nat) (k q : Nat), Prm n p → 1 ≤ k → k + f ≤ n → q + 1 ≤ k → Dsc lt p k → (∀ j, k - (q + 1) ≤ j → j < k → lt (p.getD (k - 1) 0) (p.getD j 0) = false) →
    (∀ p' k' q', Prm n p' → k ≤ k' → k' ≤ k + f → q' + 1 ≤ k' → Dsc lt p' k' → (∀ j, k' - (q' + 1) ≤ j → j < k' → lt (p'.getD (k' - 1) 0) (p'.getD j 0) = false) → P (p', k', q')) → kasP lt n (kas_desc f p k q) P
  | 0, p, k, q, hp, h1, h2, h3, hd, he, fin => fin p k q hp (Nat.le_refl _) (by omega) h3 hd he
  | f + 1, p, k, q, hp, h1, h2, h3, hd, he, fin => by
    have hs := hp.size
    have one : ∀ (p' : Array Nat), ∀ j, (k + 1) - (0 + 1) ≤ j → j < k + 1 → lt (p'.getD (k + 1 - 1) 0) (p'.getD j 0) = false := fun p' j j1 j2 => by
      have : j = k := by omega
      subst this; exact O.rfl' _
    refine ⟨hp.below (by omega), hp.below (by omega), ?_⟩
    cases c : lt (p.getD k 0) (p.getD (k - 1) 0) with
    | true =>
      simp only [↓reduceIte]
      have c' := O.asym c
      by_cases hq : q > 0
      · rw [if_pos hq]
        have hp' : Prm n (kas_rev p (k - (q + 1)) k) := hp.of (mirror_perm _ _ _ _)
        have hd' : Dsc lt (kas_rev p (k - (q + 1)) k) k := hd.rev (by omega) (by omega) he O
        refine desc_ok O f _ (k + 1) 0 hp' (by omega) (by omega) (by omega) (hd'.succ O h1 ?_) (one _) fun p2 k2 q2 a1 a2 a3 a4 a5 a6 => fin p2 k2 q2 a1 (by omega) (by omega) a4 a5 a6
        rw [rev_get (by omega), rev_get (by omega), if_pos (by omega), if_neg (by omega)]
        have e1 : k - (q + 1) + k - 1 - (k - 1) = k - (q + 1) := by omega
        rw [e1]
        exact O.tr c' (hd _ (k - 1) (by omega) (by omega))
      · rw [if_neg hq]
        exact desc_ok O f p (k + 1) 0 hp (by omega) (by omega) (by omega) (hd.succ O h1 c') (one _) fun p2 k2 q2 a1 a2 a3 a4 a5 a6 => fin p2 k2 q2 a1 (by omega) (by omega) a4 a5 a6
    | false =>
      simp only [Bool.false_eq_true, ↓reduceIte]
      refine ⟨hp.below (by omega), hp.below (by omega), ?_⟩
      cases d : lt (p.getD (k - 1) 0) (p.getD k 0) with
      | true =>
        simp only [↓reduceIte]
        exact fin p k q hp (Nat.le_refl _) (by omega) h3 hd he
      | false =>
        simp only [Bool.false_eq_true, ↓reduceIte]
        refine desc_ok O f p (k + 1) (q + 1) hp (by omega) (by omega) (by omega) (hd.succ O h1 d) (fun j j1 j2 => ?_) fun p2 k2 q2 a1 a2 a3 a4 a5 a6 => fin p2 k2 q2 a1 (by omega) (by omega) a4 a5 a6
        have ek : k + 1 - 1 = k := by omega
        rw [ek]
        by_cases ej : j = k
        · subst ej; exact O.rfl' _
        · exact O.tr (he j (by omega) (by omega)) c
theorem Dsc.whole {p : Array Nat} {k : Nat} (h : Dsc lt p k) (hk : k ≤ p.size) : Srt lt (kas_rev p 0 k) k := fun a b hab hb => by
  rw [rev_get hk, rev_get hk, if_pos (by omega), if_pos (by omega)]
  exact h _ _ (by omega) (by omega)
theorem tail_ok (O : Ord lt) {P : Nat × Array Nat → Prop} {p : Array Nat} {k : Nat} (hp : Prm n p) (h1 : 1 ≤ k) (h2 : k ≤ n) (hd : Dsc lt p k) (fin : ∀ m p', Prm n p' → 1 ≤ m → m ≤ n → Srt lt p' m → P (m, p')) : kasP lt n (kas_tail3 k n p) P := by
  have hp' : Prm n (kas_rev p 0 k) := hp.of (mirror_perm _ _ _ _)
  have hs := hp.size
  unfold kas_tail3
  refine kasP_bind _ (asc_ok O hp' (n - k) k h1 (by omega) (hd.whole (by omega)) fun m m1 m2 ms => ?_)
  exact fin m _ hp' (by omega) (by omega) ms
theorem descPart_ok (O : Ord lt) {P : Nat × Array Nat → Prop} {p : Array Nat} {k : Nat} (hp : Prm n p) (h1 : 1 ≤ k) (h2 : k + 1 ≤ n) (hd : Dsc lt p (k + 1)) (fin : ∀ m p', Prm n p' → 1 ≤ m → m ≤ n → Srt lt p' m → P (m, p')) : kasP lt n (kas_descPart k n p) P := by
  unfold kas_descPart
  refine kasP_bind _ (desc_ok O (n - (k + 1)) p (k + 1) 0 hp (by omega) (by omega) (by omega) hd (fun j j1 j2 => ?_) fun p2 k2 q2 a1 a2 a3 a4 a5 a6 => ?_)
  · have : j = k := by omega
    subst this; exact O.rfl' _
  · have hs := a1.size
    dsimp only
    by_cases hq : q2 > 0
    · rw [if_pos hq]
      exact tail_ok O (a1.of (mirror_perm _ _ _ _)) (by omega) (by omega) (a5.rev (by omega) (by omega) a6 O) fin
    · rw [if_neg hq]
      exact tail_ok O a1 (by omega) (by omega) a5 fin
theorem count_ok (O : Ord lt) {P : Nat × Array Nat → Prop} {p : Array Nat} (hp : Prm n p) (hn : 1 ≤ n) (fin : ∀ m p', Prm n p' → 1 ≤ m → m ≤ n → Srt lt p' m → P (m, p')) : kasP lt n (kas_count n p) P := by
  have hs := hp.size
  unfold kas_count
  have key : kasP lt n (kas_asc p (n - 1) 1) (fun m => 1 ≤ m ∧ m ≤ n ∧ Srt lt p m ∧ (m < n → lt (p.getD m 0) (p.getD (m - 1) 0) = true)) := by
    have gen : ∀ (f a : Nat), 1 ≤ a → a + f = n → Srt lt p a → kasP lt n (kas_asc p f a) (fun m => 1 ≤ m ∧ m ≤ n ∧ Srt lt p m ∧ (m < n → lt (p.getD m 0) (p.getD (m - 1) 0) = true)) := by
      intro f
      induction f with
      | zero => intro a h1 h2 hs; exact ⟨h1, by omega, hs, fun z => absurd z (by omega)⟩
      | succ f ih =>
        intro a h1 h2 hs
        refine ⟨hp.below (by omega), hp.below (by omega), ?_⟩
        cases c : lt (p.getD a 0) (p.getD (a - 1) 0) with
        | true =>
          simp only [↓reduceIte]
          exact ⟨h1, by omega, hs, fun _ => c⟩
        | false =>
          simp only [Bool.false_eq_true, ↓reduceIte]
          exact ih (a + 1) (by omega) (by omega) (hs.succ O h1 c)
    exact gen (n - 1) 1 (Nat.le_refl _) (by omega) (Srt.one O)
  refine kasP_bind _ (kasP_mono (fun m hm => ?_) _ key)
  obtain ⟨m1, m2, ms, mc⟩ := hm
  by_cases e : (m == n) = true
  · rw [if_pos e]
    exact fin m p hp m1 m2 ms
  · rw [if_neg e]
    have hmn : m < n := by
      have : m ≠ n := by simpa using e
      omega
    have mc := mc hmn
    by_cases h2 : m > 1
    · rw [if_pos h2]
      refine ⟨hp.below (by omega), hp.below (by omega), ?_⟩
      cases c : lt (p.getD 0 0) (p.getD (m - 1) 0) with
      | true =>
        simp only [↓reduceIte]
        exact fin m p hp m1 m2 ms
      | false =>
        simp only [Bool.false_eq_true, ↓reduceIte]
        have eqv : ∀ x y, x < m → y < m → lt (p.getD x 0) (p.getD y 0) = false := fun x y hx hy =>
          O.tr (ms y (m - 1) (by omega) (by omega)) (O.tr c (ms 0 x (by omega) hx))
        have hp' : Prm n (kas_rev p 0 m) := hp.of (mirror_perm _ _ _ _)
        refine descPart_ok O hp' m1 (by omega) (fun i j hij hj => ?_) fin
        rw [rev_get (by omega), rev_get (by omega)]
        by_cases ej : j = m
        · subst ej
          rw [if_neg (show ¬ (0 ≤ j ∧ j < j) by omega)]
          split
          · exact O.tr (O.asym mc) (eqv _ _ (by omega) (by omega))
          · have : i = j := by omega
            subst this; exact O.rfl' _
        · rw [if_pos (by omega), if_pos (by omega)]
          exact eqv _ _ (by omega) (by omega)
    · rw [if_neg h2]
      have e1 : m = 1 := by omega
      subst e1
      exact descPart_ok O hp (Nat.le_refl _) (by omega) ((Dsc.one O).succ O (Nat.le_refl _) (O.asym mc)) fin
theorem place_ok {p : Array Nat} {k : Nat} {P : Nat → Prop} (O : Ord lt) (hp : Prm n p) (hk : k < n) (hs : Srt lt p k) (fin : ∀ m, m ≤ k → (∀ i, i < m → lt (p.getD k 0) (p.getD i 0) = false) → (∀ i, m ≤ i → i < k → lt (p.getD i 0) (p.getD k 0) = false) → P m) :
    ∀ (f l r : Nat), r - l ≤ f → l ≤ r → r ≤ k → (∀ i, i < l → lt (p.getD k 0) (p.getD i 0) = false) → (∀ i, r ≤ i → i < k → lt (p.getD i 0) (p.getD k 0) = false) → kasP lt n (kas_place p k f l r) P
  | 0, l, r, h1, h2, h3, a, b => by
    have : l = r := by omega
    subst this
    exact fin l h3 a b
  | f + 1, l, r, h1, h2, h3, a, b => by
    unfold kas_place
    by_cases hlr : l ≥ r
    · rw [if_pos hlr]
      have : l = r := by omega
      subst this
      exact fin l h3 a b
    · rw [if_neg hlr]
      refine ⟨hp.below hk, hp.below (by omega), ?_⟩
      cases c : lt (p.getD k 0) (p.getD ((l + r) / 2) 0) with
      | true =>
        simp only [↓reduceIte]
        refine place_ok O hp hk hs fin f l ((l + r) / 2) (by omega) (by omega) (by omega) a fun i i1 i2 => ?_
        exact O.tr (O.asym c) (hs _ _ i1 i2)
      | false =>
        simp only [Bool.false_eq_true, ↓reduceIte]
        refine place_ok O hp hk hs fin f ((l + r) / 2 + 1) r (by omega) (by omega) h3 (fun i i1 => ?_) b
        exact O.tr (hs i ((l + r) / 2) (by omega) (by omega)) c
theorem bin_ok (O : Ord lt) {P : Array Nat → Prop} (fin : ∀ p, Prm n p → Srt lt p n → P p) : ∀ (f : Nat) (p : Array Nat) (k : Nat), k + f = n → Prm n p → Srt lt p k → kasP lt n (kas_bin f p k) P
  | 0, p, k, h, hp, hs => fin p hp (by rw [← h]; exact hs)
  | f + 1, p, k, h, hp, hs => by
    have sz := hp.size
    unfold kas_bin
    refine kasP_bind _ (place_ok O hp (by omega) hs (fun m m1 ma mb => ?_) k 0 k (by omega) (by omega) (Nat.le_refl _) (fun _ z => absurd z (by omega)) fun _ z1 z2 => absurd z2 (by omega))
    refine bin_ok O fin f _ (k + 1) (by omega) (hp.of (bubble_perm _ _ _)) fun i j hij hj => ?_
    rw [bub_get (by omega) m1, bub_get (by omega) m1]
    by_cases ei : i = m
    · rw [if_pos ei]
      by_cases ej : j = m
      · rw [if_pos ej]; exact O.rfl' _
      · rw [if_neg ej, if_pos (by omega)]
        exact mb _ (by omega) (by omega)
    · rw [if_neg ei]
      by_cases ej : j = m
      · rw [if_pos ej, if_neg (by omega)]
        exact ma _ (by omega)
      · rw [if_neg ej]
        split
        · split
          · exact hs _ _ (by omega) (by omega)
          · exact hs _ _ (by omega) (by omega)
        · split
          · exfalso; omega
          · exact hs _ _ (by omega) (by omega)
theorem sort_ok (O : Ord lt) (hn : 1 ≤ n) : kasP lt n (kas_sort n) (fun p => Prm n p ∧ Srt lt p n) := by
  unfold kas_sort
  have h0 : Prm n (List.toArray (List.range n)) := by unfold Prm; simp
  refine kasP_bind _ (count_ok O h0 hn fun m p hp m1 m2 ms => ?_)
  dsimp only
  by_cases h : m < n
  · rw [if_pos h]
    have e : max m 1 = m := by omega
    rw [e]
    exact bin_ok O (fun p hp hs => ⟨hp, hs⟩) (n - m) p m (by omega) hp ms
  · rw [if_neg h]
    have e : m = n := by omega
    subst e
    exact ⟨hp, ms⟩
def kasV {α : Type} (lt : Nat → Nat → Bool) : KasT α → α
  | .ret a => a
  | .ask i j k => kasV lt (k (lt i j))
theorem kasP_V {α : Type} {P : α → Prop} : ∀ (t : KasT α), kasP lt n t P → P (kasV lt t)
  | .ret _, h => h
  | .ask i j k, h => kasP_V (k (lt i j)) h.2.2
theorem kasP_is {α : Type} {P : α → Prop} : ∀ (t : KasT α), kasP lt n t P → kasP lt n t (fun a => a = kasV lt t)
  | .ret _, _ => rfl
  | .ask i j k, h => ⟨h.1, h.2.1, kasP_is (k (lt i j)) h.2.2⟩
def sortIx (lt : Nat → Nat → Bool) (n : Nat) : Array Nat := if n < 2 then List.toArray (List.range n) else kasV lt (kas_sort n)
theorem sortIx_ok (O : Ord lt) : Prm n (sortIx lt n) ∧ Srt lt (sortIx lt n) n := by
  unfold sortIx
  split
  · rename_i h
    refine ⟨by unfold Prm; simp, fun i j hij hj => ?_⟩
    have : i = j := by omega
    subst this; exact O.rfl' _
  · rename_i h
    exact kasP_V _ (sort_ok O (by omega))
end
end Gz
set_option Elab.async false
set_option linter.all false
set_option maxRecDepth 100000
set_option maxHeartbeats 4000000
namespace Gz
open PySem PySem.Spec PyProof.Rows L2
local macro_rules | `(tactic| walk_at "om") => `(tactic| ((try simp only [PySem.Addr] at *); omega))
section
variable {X : Cx} {e d : Expr} {te td : TE} {p pos kp : Pos}
def mmV (f : List Int → Int) : List Int → V → V
  | [], y => y
  | n :: ns, _ => .int (f (n :: ns))
def tMM (K : PySem.W.Frag) (f : List Int → Int) (te td : TE) : TE := fun σ H Q => te σ H fun x H1 => td σ H1 fun y H2 => ∃ a ns, x = .ref a ∧ SqL K H2 a (ns.map V.int) ∧ Q (mmV f ns y) H2
end
end Gz
set_option Elab.async false
set_option linter.all false
set_option maxRecDepth 100000
set_option maxHeartbeats 4000000
namespace Gz
open PySem PySem.Spec PyProof.Rows L2
local macro_rules | `(tactic| walk_at "om") => `(tactic| ((try simp only [PySem.Addr] at *); omega))
theorem lex_asym : ∀ {a b : List Int}, HT.lexLt a b = true → HT.lexLt b a = false
  | [], [], h => by cases h
  | [], _ :: _, _ => rfl
  | _ :: _, [], h => by cases h
  | x :: a, y :: b, h => by
    rw [HT.lexLt_cons] at h ⊢
    by_cases e : x = y
    · subst e
      rw [if_pos rfl] at h ⊢
      exact lex_asym h
    · rw [if_neg e] at h
      rw [if_neg (Ne.symm e)]
      have : x < y := by simpa using h
      simpa using (by walk_at "om" : ¬ y < x)
theorem lex_tr : ∀ {a b c : List Int}, HT.lexLt b a = false → HT.lexLt c b = false → HT.lexLt c a = false
  | [], [], [], _, _ => rfl
  | [], [], _ :: _, _, _ => rfl
  | [], _ :: _, [], _, h => by cases h
  | [], _ :: _, _ :: _, _, _ => rfl
  | _ :: _, [], _, h, _ => by cases h
  | _ :: _, _ :: _, [], _, h => by cases h
  | x :: a, y :: b, z :: c, h1, h2 => by
    rw [HT.lexLt_cons] at h1 h2 ⊢
    by_cases e1 : y = x
    · subst e1
      rw [if_pos rfl] at h1
      by_cases e2 : z = y
      · subst e2
        rw [if_pos rfl] at h2 ⊢
        exact lex_tr h1 h2
      · rw [if_neg e2] at h2 ⊢
        exact h2
    · rw [if_neg e1] at h1
      have h1' : ¬ y < x := by simpa using h1
      by_cases e2 : z = y
      · subst e2
        rw [if_neg e1]; exact h1
      · rw [if_neg e2] at h2
        have h2' : ¬ z < y := by simpa using h2
        rw [if_neg (by walk_at "om")]
        simpa using (by walk_at "om" : ¬ z < x)
section
variable {prog : Program} {w : World} {A : Around} {E : Value → Shared → Prop} {s : Shared}
theorem eqb_int {a b : Int} {t u : Tok} {Q : Bool → Shared → Prop} (h : Q (a == b) s) : wpAny (model prog w) A (eqBool (.int a t) (.int b u)) Q E s := SeqAt.EqAt.int_int a t b u prog w E Q h
theorem lex_run {b fin : Bool} {Q : Bool → Shared → Prop} : ∀ {ns ms : List Int} {us ws : List Value} {i : Nat}, IntsAre us ns → IntsAre ws ms → fin = decide (ns.length < ms.length) → Q (HT.lexLt ns ms) s → PySem.W.KatLex prog w A b fin Q (us.zip ws) i s := by
  intro ns
  induction ns with
  | nil =>
    intro ms us ws i r q e h
    cases r
    cases q with
    | nil => subst e; exact h
    | cons => subst e; exact h
  | cons n ns ih =>
    intro ms us ws i r q e h
    cases r with
    | cons _ t r =>
      cases q with
      | nil => subst e; exact h
      | cons m t' q =>
        rw [List.zip_cons_cons]
        refine PySem.W.kat_cons (eqb_int (PySem.W.kat_go (fun hh => PySem.W.kat_yes ?_) fun hh => PySem.W.kat_no ?_))
        · have e1 : n = m := by simpa using hh
          subst e1
          rw [HT.lexLt_cons, if_pos rfl] at h
          exact ih r q (by subst e; simp) h
        · have e1 : n ≠ m := by simpa using hh
          rw [HT.lexLt_cons, if_neg e1] at h
          cases (b && i == 0) with
          | true => exact oneLt_int h
          | false => exact PySem.W.kat_one _ _ (lt_int h)
end
def keyGo (sp : Sp) : List V → List V → Hp → (List V → Hp → Prop) → Prop
  | [], ks, H, Q => Q ks H
  | x :: r, ks, H, Q => sp [x] H (fun k H1 => keyGo sp r (ks ++ [k]) H1 Q) E0
def KeyT (K : PySem.W.Frag) (H : Hp) : List V → List (List Int) → Prop
  | [], [] => True
  | k :: ks, n :: ns => (∃ p, k = .ref p ∧ SqT K H p (n.map V.int) ∧ n ≠ []) ∧ KeyT K H ks ns
  | _, _ => False
theorem KeyT.len {K : PySem.W.Frag} {H : Hp} : ∀ {ks : List V} {ns : List (List Int)}, KeyT K H ks ns → ks.length = ns.length
  | [], [], _ => rfl
  | _ :: _, _ :: _, h => by simp [KeyT.len h.2]
  | [], _ :: _, h => h.elim
  | _ :: _, [], h => h.elim
theorem KeyT.get {K : PySem.W.Frag} {H : Hp} : ∀ {ks : List V} {ns : List (List Int)} {i : Nat} {k : V}, KeyT K H ks ns → ks[i]? = some k → ∃ p, k = .ref p ∧ SqT K H p ((ns.getD i []).map V.int)
  | [], [], _, _, _, e => by simp at e
  | k :: _, n :: _, 0, _, h, e => by
    simp at e; subst e
    obtain ⟨⟨p, a, b, _⟩, _⟩ := h
    exact ⟨p, a, b⟩
  | _ :: _, _ :: _, i + 1, _, h, e => by
    have := KeyT.get (i := i) h.2 (by simpa using e)
    simpa using this
  | [], _ :: _, _, _, h, _ => h.elim
  | _ :: _, [], _, _, h, _ => h.elim
section
variable {X : Cx} {pins : List (Addr × Obj)} {σ : L2.St} {H : Hp} {s : Shared}
theorem KeyT.tups (I : Inv X pins σ H s) : ∀ {ks : List V} {ns : List (List Int)} {us : List Value}, KeyT X.K H ks ns → Vals ks us → ∃ fs, PySem.W.KatTups s.heap us fs ∧ fs.length = us.length ∧ ∀ v ∈ fs, ∃ i t, v = .int i t
  | [], [], _, _, .nil => ⟨[], trivial, rfl, fun _ z => (nomatch z)⟩
  | k :: ks, n :: ns, _, h, .cons r rs => by
    obtain ⟨⟨p, rfl, hp, hn⟩, h⟩ := h
    cases r
    obtain ⟨fs, a, b, c⟩ := KeyT.tups I h rs
    obtain ⟨its, rv, ⟨o, ho, hc, m, hd⟩, _⟩ := I.tuple hp
    cases n with
    | nil => exact absurd rfl hn
    | cons z zs =>
      cases rv with
      | cons r1 r2 =>
        obtain ⟨t, rfl⟩ := r1
        refine ⟨.int z t :: fs, PySem.W.KatTups.cons ho hc hd (by simp) a, by simp [b], fun v hv => ?_⟩
        rcases List.mem_cons.mp hv with rfl | hv
        · exact ⟨_, _, rfl⟩
        · exact c v hv
  | [], _ :: _, _, h, _ => h.elim
  | _ :: _, [], _, h, _ => h.elim
def ltK (kis : List (List Int)) (i j : Nat) : Bool := HT.lexLt (kis.getD i []) (kis.getD j [])
theorem ltK_ord (kis : List (List Int)) : Ord (ltK kis) := ⟨fun h => lex_asym h, fun h1 h2 => lex_tr h1 h2⟩
def sortL {α : Type} (kis : List (List Int)) (d : α) (as : List α) : List α := (sortIx (ltK kis) as.length).toList.map fun i => as.getD i d
theorem sortL_perm {α : Type} {kis : List (List Int)} {d : α} {as : List α} : (sortL kis d as).Perm as := by
  have h := (sortIx_ok (n := as.length) (ltK_ord kis)).1
  have q := h.map (fun i => as.getD i d)
  have self : (List.range as.length).map (fun i => as.getD i d) = as := by
    apply List.ext_getElem
    · simp
    · intro i h1 h2
      simp [List.getD_eq_getElem?_getD, h2]
  rw [self] at q
  exact q
theorem sortL_length {α : Type} {kis : List (List Int)} {d : α} {as : List α} : (sortL kis d as).length = as.length := sortL_perm.length_eq
theorem sortL_vals {xs : List V} {vs : List Value} {kis : List (List Int)} (r : Vals xs vs) : Vals (sortL kis .non xs) ((sortIx (ltK kis) xs.length).toList.map fun i => vs.getD i Value.none) := by
  have hp := (sortIx_ok (n := xs.length) (ltK_ord kis)).1
  have gen : ∀ l : List Nat, (∀ i ∈ l, i < xs.length) → Vals (l.map fun i => xs.getD i .non) (l.map fun i => vs.getD i Value.none) := by
    intro l
    induction l with
    | nil => intro _; exact .nil
    | cons i l ih =>
      intro h
      have hi := h i (.head _)
      refine .cons ?_ (ih fun j hj => h j (.tail _ hj))
      have e : xs[i]? = some xs[i] := List.getElem?_eq_getElem hi
      obtain ⟨u, eu, ru⟩ := r.get e
      show RelV (xs.getD i .non) (vs.getD i Value.none)
      rw [List.getD_eq_getElem?_getD, List.getD_eq_getElem?_getD, eu, e]
      exact ru
  exact gen _ fun i hi => by simpa using hp.mem_iff.mp hi
end
section
variable {X : Cx} {pins : List (Addr × Obj)} {σ : L2.St} {H : Hp} {s : Shared} {CX : CXT} {k : Nat} {fa a : Addr} {fd : FuncData} {y : Str} {sp : Sp} {xs : List V} {Q : VK}
def rSortK (K : PySem.W.Frag) (sp : Sp) (x : V) (H1 : Hp) (Q : VK) : Prop := ∃ (a : Addr) (xs : List V), x = .ref a ∧ SqL K H1 a xs ∧ xs.length < 64 ∧ keyGo sp xs [] H1 fun ks H2 => ∃ kis, KeyT K H2 ks kis ∧ ∀ l, H2 l = none → Q (.ref l) (upd H2 l (.lst (sortL kis .non xs)))
def tSortK (K : PySem.W.Frag) (sp : Sp) (te : TE) : TE := fun σ H Q => te σ H fun x H1 => rSortK K sp x H1 Q
end
end Gz
set_option Elab.async false
set_option linter.all false
set_option maxRecDepth 100000
set_option maxHeartbeats 4000000
namespace Gz
open PySem PySem.Spec PyProof.Rows L2
local macro_rules | `(tactic| walk_at "om") => `(tactic| ((try simp only [PySem.Addr] at *); omega))
inductive FrOk (X : Cx) (scope : Scope) (cl : List (Str × Addr)) : List Nat → List Str → Prop where
  | nil : FrOk X scope cl [] []
  | cons {j : Nat} {y : Str} {c : Addr} {js : List Nat} {ys : List Str} (hN : X.N[j]? = some y) (hk : X.env.kindOf y = some .cell) (h1 : cl.lookup y = some c) (h2 : X.env.cells.lookup y = some c) (h : FrOk X scope cl js ys) : FrOk X scope cl (j :: js) (y :: ys)
inductive ClOk (X : Cx) : List (Str × Addr) → Prop where
  | nil : ClOk X []
  | cons {n : Str} {a : Addr} {r : List (Str × Addr)} (h : X.env.cells.lookup n = some a) (t : ClOk X r) : ClOk X ((n, a) :: r)
theorem ClOk.get {X : Cx} : ∀ {cl : List (Str × Addr)}, ClOk X cl → ∀ y c, cl.lookup y = some c → X.env.cells.lookup y = some c
  | _, .nil, y, c, e => by simp at e
  | _, .cons (n := n) h t, y, c, e => by
    rw [List.lookup_cons] at e
    by_cases hy : (y == n) = true
    · rw [hy] at e
      have e1 : y = n := by simpa using hy
      cases e
      rw [e1]; exact h
    · rw [Bool.eq_false_iff.mpr hy] at e
      exact t.get y c e
theorem FrOk.get {X : Cx} {scope : Scope} {cl : List (Str × Addr)} {σ : L2.St} : ∀ {js : List Nat} {ys : List Str}, FrOk X scope cl js ys → ∀ (i : Nat) (y : Str) (v : V), ys[i]? = some y → (js.map fun j => (σ[j]?).join)[i]? = some (some v) →
    ∃ (j : Nat) (c : Addr), X.N[j]? = some y ∧ σ[j]? = some (some v) ∧ X.env.kindOf y = some .cell ∧ cl.lookup y = some c ∧ X.env.cells.lookup y = some c
  | _, _, .nil, i, y, v, e, _ => by simp at e
  | _, _, .cons (j := j) hN hk h1 h2 h, 0, y, v, e, q => by
    simp at e q
    subst e
    refine ⟨j, _, hN, ?_, hk, h1, h2⟩
    cases z : σ[j]? with
    | none => rw [z] at q; simp at q
    | some o => rw [z] at q; simp at q; rw [q]
  | _, _, .cons hN hk h1 h2 h, i + 1, y, v, e, q => by
    simp only [List.getElem?_cons_succ, List.map_cons] at e q
    exact h.get i y v e q
theorem FrOk.len {X : Cx} {scope : Scope} {cl : List (Str × Addr)} : ∀ {js : List Nat} {ys : List Str}, FrOk X scope cl js ys → js.length = ys.length
  | _, _, .nil => rfl
  | _, _, .cons _ _ _ _ h => by simp [h.len]
def cxB (X : Cx) (N' : List Str) (scope : Scope) (cl : List (Str × Addr)) (C : Addr) (s2 : Shared) (H2 : Hp) (ex : List Addr) (pn : List (Addr × Obj)) : Cx :=
  { X with N := N', s₀ := s2, H₀ := H2, env := compEnvC scope cl C X.env, outer := X.stack, ex := ex, fn := fun _ => false, pn := pn, xe := fun _ _ => False }
structure CompOk (X : Cx) (x : Str) (scope : Scope) (cl : List (Str × Addr)) (fr : List Nat) (ys : List Str) : Prop where
  clos : closureFor scope X.env = pure cl
  nocell : (scope.names.all fun p => p.2 != .cell) = true
  kind : scope.kind = .function
  names : (scope.names.all fun p => p.2 != .local || scope.names.lookup p.1 == some .local) = true
  own : scope.names.lookup x = some .local
  kinds : ((relabel scope X.env).names.all fun p => (p.2 != .cell && p.2 != .free) || (cl.lookup p.1).isSome) = true
  cls : ClOk X cl
  frs : FrOk X scope cl fr ys
  nd : (x :: ys).Nodup
  kfr : (ys.all fun y => (relabel scope X.env).names.lookup y == some .cell) = true
def PTs (X : Cx) (ifs : List Expr) (t : TT) : Prop :=
  ∀ (pins : List (Addr × Obj)) (s : Shared) (σ : L2.St) (H : Hp) (Q : Bool → Hp → Prop), Inv X pins σ H s → t σ H Q →
    wpAny (model X.prog X.w) X.A (forIn ifs true fun c r => if r = true then do let ok ← isTrue c X.env (eval c X.env); pure (ForInStep.yield ok) else pure (ForInStep.yield r)) (TP X pins σ Q) X.xe s
def tAll : TT := fun _ H Q => Q true H
theorem pts_nil {X : Cx} : PTs X [] tAll := fun _ _ _ H _ I h => wpAny_tests_nil ⟨H, I, h⟩
theorem pts_one {X : Cx} {c : Expr} {t : TT} (hc : PT X c t) : PTs X [c] t := fun pins s σ H Q I h => wpAny_tests_one (hc pins s σ H Q I h)
def tBlk (J : It) (ρ : L2.St) (tt : TT) (te : TE) (H : Hp) (Q : VK) : Prop := ∃ W : Nat → Nat → List V → Hp → Prop, (∃ m, W 0 m [] H) ∧ ∀ i m ys H, W i m ys H →
  (J.stop i H ∧ ys.length ≤ sizeLine ∧ ∀ l, H l = none → Q (.ref l) (upd H l (.lst ys))) ∨ (J.go i H ∧ ys.length < sizeLine ∧ ∃ N : List V → Hp → Prop, (∀ zs H', N zs H' → ∃ m', m' < m ∧ W (i + 1) m' zs H') ∧
    ∀ x H', J.yld i H x H' → tt (some x :: ρ) H' fun b H1 => if b = true then te (some x :: ρ) H1 fun y H2 => N (ys ++ [y]) H2 else N ys H1)
def tComp (wi : TI) (fr : List Nat) (tt : TT) (te : TE) : TE := fun σ H Q => wi σ H fun J H1 => tBlk J (fr.map fun j => (σ[j]?).join) tt te H1 Q
section
variable {X : Cx} {pins : List (Addr × Obj)} {σ : L2.St} {H2 : Hp} {s2 : Shared} {x : Str} {px pos : Pos} {elt iter : Expr} {ifs : List Expr} {scope : Scope} {cl : List (Str × Addr)} {fr : List Nat} {ys : List Str} {tt : TT} {te : TE}
theorem look_in {l : List (Str × NameKind)} {p : Str × NameKind → Bool} (h : l.all p = true) {y : Str} {k : NameKind} (e : l.lookup y = some k) : p (y, k) = true := by
  exact List.all_eq_true.mp h _ (PySem.mem_of_lookup e)
theorem cxB_ok {C : Addr} {ex : List Addr} {pn : List (Addr × Obj)} (S : CompOk X x scope cl fr ys) (I2 : Inv X pins σ H2 s2) (f2 : ∀ b ∈ ex, FpOk X pins H2 b) (hC : s2.heap.objs.size ≤ C) (hex : ∀ b ∈ ex, b < s2.heap.objs.size) : (cxB X (x :: ys) scope cl C s2 H2 ex pn).Ok := by
  refine ⟨I2.ok.mod, S.kind, I2.ok.glob, I2.ok.blt, hC, fun a b c h1 h2 => ?_, fun y hy => ?_, fun _ _ z => (nomatch z), I2.ok.hd, I2.ok.frames, .inl rfl, fun b hb => ⟨?_, fun y c e z => ?_⟩, I2.bs, Nat.le_trans I2.ok.bsz I2.sz, fun b o e hb => ?_, fun b hb z => ?_, I2.stack, I2.stkFree⟩
  · exact I2.ok.inj a b c (S.cls.get a c h1) (S.cls.get b c h2)
  · have hy' : (relabel scope X.env).names.lookup y = some .cell ∨ (relabel scope X.env).names.lookup y = some .free := hy
    have q : (cl.lookup y).isSome = true := by
      rcases hy' with e | e
      · simpa using look_in S.kinds e
      · simpa using look_in S.kinds e
    exact Option.isSome_iff_exists.mp q
  · exact Nat.ne_of_lt (Nat.lt_of_lt_of_le (hex b hb) hC)
  · exact (f2 b hb).2.2.2.2.1 y c (S.cls.get y c e) z
  · obtain ⟨_, _, _, d, _, _⟩ := f2 b hb
    rcases d with d | d
    · exact I2.ok.noex b o e d
    · exact absurd (Nat.lt_of_lt_of_le (Heap.lt_size e) (Nat.le_trans I2.ok.bsz d)) (Nat.lt_irrefl _)
  · obtain ⟨_, d1, d2, _⟩ := f2 b hb
    rcases List.mem_cons.mp (I2.stkSub b z) with q | q
    · exact d1 q
    · exact d2 q
theorem comp_block {J : It} {fp : List Addr} {it : Addr} {tn : Nat → Heap → Prop} {E : Value → Shared → Prop} {Q : VK} {RR : Value → Addr → Result → Shared → Prop}
    (S : CompOk X x scope cl fr ys) (hc : X.calm = true)
    (hb : ∀ (C : Addr) (s : Shared) (H : Hp) (ex : List Addr) (pn : List (Addr × Obj)), PTs (cxB X (x :: ys) scope cl C s H ex pn) ifs tt ∧ PE (cxB X (x :: ys) scope cl C s H ex pn) elt te)
    (I2 : Inv X pins σ H2 s2) (T : Turn X.prog X.w X.K (.Name x px) J fp it tn) (st2 : tn 0 s2.heap) (f2 : ∀ b ∈ fp, FpOk X pins H2 b)
    (h : tBlk J (fr.map fun j => (σ[j]?).join) tt te H2 Q)
    (hRR : ∀ D C s' H', Inv X pins σ H' s' → (∃ m, s'.heap.Ns C m) → FpOk X pins H' C → Q (.ref D) H' → RR (.ref D) C (.ok .next) s') :
    wpAny (model X.prog X.w) X.A (newList []) (fun acc s3 => wpAny (model X.prog X.w) X.A (newFunctionEnv scope X.env.globals cl [] X.env.qual none .none (some X.env)) (fun cenv s4 =>
      codeAny (model X.prog X.w) X.A (.compStart (.ListComp elt [⟨.Name x px, iter, ifs, 0⟩] scope pos) 0 (.ref it) acc { cenv with scope := relabel scope X.env }) (RR acc cenv.locals) s4) E s3) E s2 := by
  obtain ⟨W, ⟨m0, w0⟩, turn⟩ := h
  refine wpAny_newObj_type (wpAny_newFunctionEnv (fun y hy => by simpa using List.all_eq_true.mp S.nocell y hy) (fun y hy => absurd hy (by simp)) (fun h1 hns hsb => ?_) S.kind)
  dsimp only at hns hsb ⊢
  generalize eP : s2.heap.push { cls := .type "list", dict := none, data := .seq ([] : List Value).toArray } = P2 at hns hsb ⊢
  have sz : P2.objs.size = s2.heap.objs.size + 1 := by rw [← eP, Heap.size_push]
  have hDC : s2.heap.objs.size ≠ P2.objs.size := by walk_at "om"
  have keep : ∀ b o, s2.heap.get? b = some o → h1.get? b = some o := fun b o e => by
    have lt := Heap.lt_size e
    exact hsb.extBut b o (by walk_at "om") (Heap.get?_push_of_some _ (eP ▸ Heap.get?_push_of_some _ e))
  have hD : h1.get? s2.heap.objs.size = some { cls := .type "list", data := .seq ([] : List Value).toArray 0 } :=
    hsb.extBut _ _ hDC (Heap.get?_push_of_some _ (eP ▸ Heap.get?_push_size _ rfl))
  have hfp : ∀ b ∈ fp, b < s2.heap.objs.size := fun b hb => by
    obtain ⟨o, e, _⟩ := T.obj 0 _ st2 b hb
    exact Heap.lt_size e
  have noStk : ∀ b, s2.heap.objs.size ≤ b → b ∉ frs X.stack := fun b hle z => by
    rcases List.mem_cons.mp (I2.stkSub b z) with q | q
    · have := I2.lt; walk_at "om"
    · exact I2.nofs hle q
  generalize eC : P2.objs.size = C at hns hsb hDC ⊢
  generalize eD : s2.heap.objs.size = D at hDC hD hfp noStk
  have hCle : s2.heap.objs.size ≤ C := by walk_at "om"
  have hDle : s2.heap.objs.size ≤ D := by walk_at "om"
  have ok' : (cxB X (x :: ys) scope cl C s2 H2 fp (X.pn ++ pins)).Ok := cxB_ok S I2 f2 hCle (fun b hb => by have := hfp b hb; walk_at "om")
  have pinsOk : ∀ p ∈ X.pn ++ pins, p.1 ≠ C ∧ p.1 ≠ D ∧ p.1 ∉ frs X.stack ∧ ∀ b ∈ fp, p.1 ≠ b := fun p hp => by
    obtain ⟨e, n, nL, nf, _⟩ := I2.pin p hp
    have lt := Heap.lt_size e
    refine ⟨by walk_at "om", by walk_at "om", fun z => ?_, fun b hb => (f2 b hb).2.2.2.2.2 p hp⟩
    rcases List.mem_cons.mp (I2.stkSub _ z) with q | q
    · exact nL q
    · exact nf q
  have I4 : Inv (cxB X (x :: ys) scope cl C s2 H2 fp (X.pn ++ pins)) [] (none :: fr.map fun j => (σ[j]?).join) H2 { s2 with heap := h1, toks := s2.toks + ([] : List (Str × Value)).length } := by
    refine ⟨ok', rfl, I2.bare, Un.kept keep, ⟨_, hns, fun i y v e1 e2 e3 => ?_⟩, fun y c e => ?_, I2.hok.fresh hCle, fun y c e => I2.freeC y c (S.cls.get y c e), fun p hp => ?_, I2.hok.kept keep, ?_⟩
    · cases i with
      | zero => simp at e2
      | succ i =>
        simp only [List.getElem?_cons_succ] at e1 e2
        have e1' : ys[i]? = some y := e1
        obtain ⟨j, c, hN, hσ, hk, hc1, hc2⟩ := S.frs.get i y v e1' e2
        obtain ⟨m, hm, hl⟩ := I2.loc
        obtain ⟨u, ru, lu⟩ := hl j y v hN hσ (.inr (.inl hk))
        refine ⟨u, ru, .inr ⟨.inl ?_, c, hc1, ?_⟩⟩
        · have z := List.all_eq_true.mp S.kfr y (List.mem_of_getElem? e1')
          exact (by simpa using z : (relabel scope X.env).names.lookup y = some .cell)
        · rcases lu with ⟨z, _⟩ | ⟨_, c', e', q'⟩
          · rw [hk] at z; cases z
          · rw [hc2] at e'; cases e'
            obtain ⟨o, ho, hd⟩ := q'
            exact ⟨o, keep _ _ ho, hd⟩
    · obtain ⟨v, o, ho, hd⟩ := I2.cell y c (S.cls.get y c e)
      exact ⟨v, o, keep _ _ ho, hd⟩
    · have hp' : p ∈ X.pn ++ pins := by
        have : p ∈ (X.pn ++ pins) ++ [] := hp
        simpa using this
      obtain ⟨e, n, _, _, d⟩ := I2.pin p hp'
      obtain ⟨p1, _, p3, _⟩ := pinsOk p hp'
      exact ⟨keep _ _ e, n, p1, p3, d⟩
    · show (none :: fr.map fun j => (σ[j]?).join).length = (x :: ys).length
      simp [S.frs.len]
  have st4 : tn 0 h1 := T.keep 0 _ _ st2 fun b _ o e => keep b o e
  have fpB : ∀ (H' : Hp) (o : Obj), (∀ b ∈ fp, H' b = none) → ∀ b ∈ fp, FpOk (cxB X (x :: ys) scope cl C s2 H2 fp (X.pn ++ pins)) [(D, o)] H' b := fun H' o hn b hb => by
    obtain ⟨_, d1, d2, d3, d4, d5⟩ := f2 b hb
    have lt := hfp b hb
    refine ⟨hn b hb, ?_, fun z => ?_, .inl hb, fun y c e => d4 y c (S.cls.get y c e), fun p hp => ?_⟩
    · show b ≠ C
      walk_at "om"
    · rcases List.mem_cons.mp (I2.stkSub b z) with q | q
      · exact d1 q
      · exact d2 q
    · have hp' : p ∈ (X.pn ++ pins) ++ [(D, o)] := hp
      rcases List.mem_append.mp hp' with z | z
      · exact d5 p z
      · have : p = (D, o) := by simpa using z
        subst this
        show D ≠ b
        walk_at "om"
  have loop : ∀ s' : Shared, s' = { s2 with heap := h1, toks := s2.toks + ([] : List (Str × Value)).length } →
      codeAny (model X.prog X.w) X.A (.compLoop (.ListComp elt [⟨.Name x px, iter, ifs, 0⟩] scope pos) 0 (.ref it) (.ref D) (compEnvC scope cl C X.env)) (RR (.ref D) C) s' := by
    rintro s' rfl
    refine codeAny_compLoop_tests (fun n s' => ∃ i zs H' o its nn, Inv (cxB X (x :: ys) scope cl C s2 H2 fp (X.pn ++ pins)) [] (o :: fr.map fun j => (σ[j]?).join) H' s' ∧ tn i s'.heap ∧ (∀ b ∈ fp, H' b = none) ∧ H' D = none ∧
      s'.heap.get? D = some { cls := .type "list", data := .seq (its : List Value).toArray nn } ∧ Vals zs its ∧ W i n zs H') ?_ m0 ⟨0, [], H2, none, [], 0, I4, st4, fun b hb => (f2 b hb).1, I2.hok.fresh hDle, hD, .nil, w0⟩
    rintro n s3 ⟨i, zs, H3, o3, its, nn, I3, st3, fr3, hD3, oD3, r3, w3⟩
    have I3' : Inv (cxB X (x :: ys) scope cl C s2 H2 fp (X.pn ++ pins)) [(D, { cls := .type "list", data := .seq its.toArray nn })] (o3 :: fr.map fun j => (σ[j]?).join) H3 s3 := I3.pins_of fun p hp => by
      have : p = (D, { cls := .type "list", data := .seq its.toArray nn }) := by simpa using hp
      subst this
      exact ⟨oD3, hD3, hDC, noStk D (Nat.le_refl _), fun v z => nomatch z⟩
    rcases turn i n zs H3 w3 with ⟨stop, hlen, q⟩ | ⟨go, hlen, N, hNN, step⟩
    · refine wpAny_mono (T.done (cxB X (x :: ys) scope cl C s2 H2 fp (X.pn ++ pins)) rfl rfl rfl hc i _ s3 _ H3 (fun _ _ => False) I3' (fpB H3 _ fr3) st3 stop) (fun r s4 ⟨hr, J4⟩ => ?_) fun _ _ z => z.elim
      subst hr
      have un := J4.base
      have neD : ∀ b o, s2.heap.get? b = some o → b ≠ D := fun b o e => by have := Heap.lt_size e; walk_at "om"
      have neH : ∀ b u, H3 b = some u → b ≠ D := fun b u e z => by rw [z, hD3] at e; cases e
      refine hRR D C s4 (upd H3 D (.lst zs)) ?_ ?_ ?_ (q D hD3)
      · refine I2.call' (ch := fp) J4.os ⟨un.keep, un.slot, fun b o e nn hx => ?_, un.there, fun b xs e => ?_, fun b o u e => ?_, fun b ps e => ?_⟩ (fun a o e => ?_) J4.bare fun b hb => ?_
        · rw [upd_ne (neD b o e)]; exact un.free b o e nn hx
        · have := un.tups b xs e; rw [upd_ne (neH b _ this)]; exact this
        · have := un.frzs b o u e; rw [upd_ne (neH b _ this)]; exact this
        · obtain ⟨more, this⟩ := un.tbls b ps e
          exact ⟨more, by rw [upd_ne (neH b _ this)]; exact this⟩
        · by_cases ha : a = D
          · subst ha
            rw [upd_same] at e; cases e
            exact ⟨hlen, its, nn, r3, (J4.pin (a, _) (List.mem_append_right _ (List.mem_singleton.mpr rfl))).1⟩
          · rw [upd_ne ha] at e
            exact (J4.hok a o e).stay (fun _ _ _ z => z) (fun b z => by rw [upd_ne (neH b _ z)]; exact z) fun b xs z => by rw [upd_ne (neH b _ z)]; exact z
        · obtain ⟨_, d1, d2, d3, d4, d5⟩ := f2 b hb
          exact ⟨d3, d1, d4, d5⟩
      · obtain ⟨m, hm, _⟩ := J4.loc
        exact ⟨m, hm⟩
      · exact I2.fpOk hCle (by rw [upd_ne (Ne.symm hDC)]; exact J4.free)
    · refine wpAny_mono (T.item (cxB X (x :: ys) scope cl C s2 H2 fp (X.pn ++ pins)) rfl rfl rfl hc i _ s3 _ H3 (fun _ _ => False) I3' (fpB H3 _ fr3) st3 go) (fun r s4 ⟨u, hr, h4⟩ => ?_) fun _ _ z => z.elim
      subst hr
      have go' : wpAny (model X.prog X.w) X.A (letOwnedTupleGo (.Name x px) (.ref it) u >>= fun _ => assign (.Name x px) (compEnvC scope cl C X.env) u) (fun _ s5 =>
          wpAny (model X.prog X.w) X.A (forIn ifs true fun c r => if r = true then do let ok ← isTrue c (compEnvC scope cl C X.env) (eval c (compEnvC scope cl C X.env)); pure (ForInStep.yield ok) else pure (ForInStep.yield r)) (fun ok s6 =>
            if ok = true then wpAny (model X.prog X.w) X.A (eval elt (compEnvC scope cl C X.env)) (fun y s7 =>
              wpAny (model X.prog X.w) X.A (call (.builtin "list.append") [.ref D, y]) (fun _ s8 => ∃ m, m < n ∧ ∃ i zs H' o its nn, Inv (cxB X (x :: ys) scope cl C s2 H2 fp (X.pn ++ pins)) [] (o :: fr.map fun j => (σ[j]?).join) H' s8 ∧ tn i s8.heap ∧ (∀ b ∈ fp, H' b = none) ∧ H' D = none ∧
                s8.heap.get? D = some { cls := .type "list", data := .seq (its : List Value).toArray nn } ∧ Vals zs its ∧ W i m zs H') (fun _ _ => False) s7) (fun _ _ => False) s6
            else ∃ m, m < n ∧ ∃ i zs H' o its nn, Inv (cxB X (x :: ys) scope cl C s2 H2 fp (X.pn ++ pins)) [] (o :: fr.map fun j => (σ[j]?).join) H' s6 ∧ tn i s6.heap ∧ (∀ b ∈ fp, H' b = none) ∧ H' D = none ∧
                s6.heap.get? D = some { cls := .type "list", data := .seq (its : List Value).toArray nn } ∧ Vals zs its ∧ W i m zs H') (fun _ _ => False) s5) (fun _ _ => False) s4 := by
        refine wpAny_bind (thn h4 fun _ s5 ⟨y5, H5, I5, r5, yl, st5, fr5⟩ => ?_)
        have I5' := I5.pinned (fpB H5 _ fr5) (T.obj _ _ st5)
        refine thn (pg_name (X := cxB X (x :: ys) scope cl C s2 H2 fp (X.pn ++ pins)) (i := 0) S.nd rfl (.inl (lookup_relabel_local S.own)) (.inr (lookup_relabel_local S.own)) _ s5 _ H5 y5 u (fun σ' H' => σ' = (some y5 :: fr.map fun j => (σ[j]?).join) ∧ H' = H5) I5' r5 ⟨rfl, rfl⟩) fun _ s6 ⟨σ6, H6, I6, e6, e6'⟩ => ?_
        subst e6 e6'
        have after : ∀ (s7 : Shared) (H7 : Hp), Inv (cxB X (x :: ys) scope cl C s2 H2 fp (X.pn ++ pins)) ([(D, { cls := .type "list", data := .seq its.toArray nn })] ++ pinsAt fp s5.heap) (some y5 :: fr.map fun j => (σ[j]?).join) H7 s7 →
            Inv (cxB X (x :: ys) scope cl C s2 H2 fp (X.pn ++ pins)) [] (some y5 :: fr.map fun j => (σ[j]?).join) H7 s7 ∧ tn (i + 1) s7.heap ∧ (∀ b ∈ fp, H7 b = none) ∧ H7 D = none ∧ s7.heap.get? D = some { cls := .type "list", data := .seq its.toArray nn } := fun s7 H7 I7 => by
          have pD := I7.pin (D, { cls := .type "list", data := .seq its.toArray nn }) (List.mem_append_right _ (List.mem_append_left _ (List.mem_singleton.mpr rfl)))
          refine ⟨I7.pins_of fun p hp => absurd hp (by simp), T.keep _ _ _ st5 fun b hb o e => (I7.pin (b, o) (List.mem_append_right _ (List.mem_append_right _ (mem_pinsAt hb e)))).1, fun b hb => ?_, pD.2.1, pD.1⟩
          obtain ⟨o, e, _⟩ := T.obj _ _ st5 b hb
          exact (I7.pin (b, o) (List.mem_append_right _ (List.mem_append_right _ (mem_pinsAt hb e)))).2.1
        refine thn ((hb C s2 H2 fp (X.pn ++ pins)).1 _ s6 _ H6 _ I6 (step y5 H6 yl)) fun ok s7 ⟨H7, I7, q7⟩ => ?_
        dsimp only at q7
        by_cases hok : ok = true
        · rw [if_pos hok] at q7 ⊢
          refine thn ((hb C s2 H2 fp (X.pn ++ pins)).2 _ s7 _ H7 _ I7 q7) fun yv s8 ⟨y8, H8, I8, r8, n8⟩ => ?_
          obtain ⟨m', hm', w8⟩ := hNN _ _ n8
          obtain ⟨J8, st8, fr8, hD8, oD8⟩ := after s8 H8 I8
          have hl := r3.length
          refine call_meets F.slot_list_append ⟨_, oD8, rfl⟩ F.entry_list_append (F.args_list_append_2 _ _) (PySem.list_append D its.toArray nn yv (by rw [List.size_toArray]; walk_at "om")) ⟨oD8, ?_⟩
          have oD9 := PySem.IsL.update oD8 (fun a => a.push yv)
          rw [List.push_toArray] at oD9
          refine ⟨m', hm', i + 1, zs ++ [y8], H8, some y5, its ++ [yv], _, J8.turned (it := D) (fun b o hb' e => (Heap.get?_update_other _ _ (Ne.symm hb')).trans e) hD8 hDC (.inr hDle) (fun y c e z => ?_) (fun p hp => ?_), T.keep _ _ _ st8 fun b hb' o e => ?_, fr8, hD8, oD9, r3.append (.cons r8 .nil), w8⟩
          · obtain ⟨v, o, ho, _⟩ := I2.cell y c (S.cls.get y c e)
            have := Heap.lt_size ho
            walk_at "om"
          · have hp' : p ∈ X.pn ++ pins := by
              have : p ∈ (X.pn ++ pins) ++ [] := hp
              simpa using this
            exact (pinsOk p hp').2.1
          · have := hfp b hb'
            exact (Heap.get?_update_other _ _ (by walk_at "om")).trans e
        · rw [if_neg hok] at q7 ⊢
          obtain ⟨m', hm', w7⟩ := hNN _ _ q7
          obtain ⟨J7, st7, fr7, hD7, oD7⟩ := after s7 H7 I7
          exact ⟨m', hm', i + 1, zs, H7, some y5, its, nn, J7, st7, fr7, hD7, oD7, r3, w7⟩
      have e0 : (letOwnedTupleGo (.Name x px) (.ref it) u >>= fun _ => assign (.Name x px) (compEnvC scope cl C X.env) u) = assign (.Name x px) (compEnvC scope cl C X.env) u := rfl
      rw [e0] at go'
      refine wpAny_mono go' (fun _ s5 h5 => wpAny_mono h5 (fun ok s6 h6 => ?_) fun _ _ z => z.elim) fun _ _ z => z.elim
      by_cases hok : ok = true
      · rw [if_pos hok] at h6 ⊢
        exact wpAny_mono h6 (fun y s7 h7 => wpAny_mono h7 (fun _ _ z => z) fun _ _ z => z.elim) fun _ _ z => z.elim
      · rw [if_neg hok] at h6 ⊢
        exact h6
  exact codeAny_compStart_list (loop _ rfl) (T.self X.A 0 _ _ _ st4 (loop _ rfl))
theorem pe_comp {wi : TI} (S : CompOk X x scope cl fr ys) (hc : X.calm = true) (hi : PI X (.Name x px) iter wi)
    (hb : ∀ (C : Addr) (s : Shared) (H : Hp) (ex : List Addr) (pn : List (Addr × Obj)), PTs (cxB X (x :: ys) scope cl C s H ex pn) ifs tt ∧ PE (cxB X (x :: ys) scope cl C s H ex pn) elt te)
    (hs : ∀ z, foldedSetIterable iter X.env z = pure z := by intro _; rfl) : PE X (.ListComp elt [⟨.Name x px, iter, ifs, 0⟩] scope pos) (tComp wi fr tt te) := by
  intro pins s σ H Q I h
  rw [eval_ListComp]
  refine wpAny_comprehension_free (use := none) rfl hs S.clos S.kind (fun y hy hl => ?_) (thn (hi pins s σ H _ I h) fun xv s1 h1 => thn h1 fun itv s2 h2 => ?_)
  · have z := List.all_eq_true.mp S.names y hy
    rw [hl] at z
    simpa using z
  · obtain ⟨it, fp, tn, J, H2, rfl, I2, T, st2, f2, hB⟩ := h2
    refine comp_block (RR := fun acc C => compPost (model X.prog X.w) X.A X.xe none (EP X pins σ Q) acc C) S hc hb I2 T st2 f2 hB fun D C s' H' J' hn fC q => ?_
    obtain ⟨m, hm⟩ := hn
    obtain ⟨c0, c1, c2, c3, c4, c5⟩ := fC
    exact ⟨m, hm, fun h' sb => ⟨.ref D, H', J'.turned (it := C) (fun b o hb e => sb.extBut b o hb e) c0 c1 c3 c4 c5, rfl, q⟩⟩
def tSetC (i : Nat) (te : TE) : TS := fun D σ H => te σ H fun v H1 => D.nx (σ.set i (some v)) H1
theorem ps_setComp {wi : TI} {y : Str} {py spos : Pos} {i : Nat} (S : CompOk X x scope cl fr ys) (hc : X.calm = true) (hN : X.N.Nodup) (hy : X.N[i]? = some y) (hl : X.env.scope.names.lookup y = some .local) (hi : PI X (.Name x px) iter wi)
    (hb : ∀ (C : Addr) (s : Shared) (H : Hp) (ex : List Addr) (pn : List (Addr × Obj)), PTs (cxB X (x :: ys) scope cl C s H ex pn) ifs tt ∧ PE (cxB X (x :: ys) scope cl C s H ex pn) elt te)
    (hsw : swapsWith (.ListComp elt [⟨.Name x px, iter, ifs, 0⟩] scope pos) (some (.Name y py)) spos.line X.env = pure true := by rfl)
    (hs : ∀ z, foldedSetIterable iter X.env z = pure z := by intro _; rfl) : PS X (.Assign [.Name y py] (.ListComp elt [⟨.Name x px, iter, ifs, 0⟩] scope pos) spos) (tSetC i (tComp wi fr tt te)) := by
  intro pins s σ H Dn I h
  rw [exec_Assign_Name_used _ _ _ _ hsw]
  refine wpAny_bind (wpAny_standAt (wpAny_bind ?_))
  show wpAny _ X.A (do let _ ← comprehension (.ListComp elt [⟨.Name x px, iter, ifs, 0⟩] scope pos) scope X.env _ (newList []) false (eval iter X.env) (some (assign (.Name y py) X.env))) _ _ s
  refine wpAny_bind (thn (wpAny_comprehension_free (use := some (assign (.Name y py) X.env)) (Q := fun _ s' => SP X pins Dn .next s') rfl hs S.clos S.kind (fun z hz hl => ?_) (thn (hi pins s σ H _ I h) fun xv s1 h1 => thn h1 fun itv s2 h2 => ?_)) fun _ s' hq => wpAny_pure (wpAny_pure hq))
  · have z' := List.all_eq_true.mp S.names z hz
    rw [hl] at z'
    simpa using z'
  · obtain ⟨it, fp, tn, J, H2, rfl, I2, T, st2, f2, hB⟩ := h2
    refine comp_block (RR := fun acc C => compPost (model X.prog X.w) X.A X.xe (some (assign (.Name y py) X.env)) (fun _ s' => SP X pins Dn .next s') acc C) S hc hb I2 T st2 f2 hB fun D C s' H' J' hn fC q => ?_
    obtain ⟨m, oC, es, ep, ho, hd, hr⟩ := hn
    obtain ⟨c0, c1, c2, c3, c4, c5⟩ := fC
    have J2 : Inv X (pins ++ [(C, oC)]) σ H' s' := J'.pins_of fun p hp => by
      rcases List.mem_append.mp hp with z | z
      · exact J'.pin p (List.mem_append_right _ z)
      · have : p = (C, oC) := by simpa using z
        subst this
        exact ⟨ho, c0, c1, c2, fun v z => by rw [hd] at z; cases z⟩
    show wpAny _ X.A (assign (.Name y py) X.env (.ref D)) _ _ _
    refine thn (pg_name (X := X) hN hy (.inl hl) (.inr hl) _ s' σ H' (.ref D) (.ref D) (fun σ' H'' => σ' = σ.set i (some (.ref D)) ∧ H'' = H') J2 rfl ⟨rfl, rfl⟩) fun _ s3 ⟨σ3, H3, J3, e1, e2⟩ => ?_
    subst e1 e2
    obtain ⟨pc, pn0, _⟩ := J3.pin (C, oC) (List.mem_append_right _ (List.mem_append_right _ (List.mem_singleton.mpr rfl)))
    refine ⟨m, ⟨oC, es, ep, pc, hd, hr⟩, fun h' sb => ⟨_, H3, J3.unpinned.turned (it := C) (fun b o hb e => sb.extBut b o hb e) c0 c1 c3 c4 c5, q⟩⟩
end
def compGo (Ok : Hp → Prop) (ρ : L2.St) (tt : TT) (te : TE) : List V → List V → Hp → (List V → Hp → Prop) → Prop
  | [], ys, H, Q => Ok H ∧ Q ys H
  | x :: r, ys, H, Q => Ok H ∧ tt (some x :: ρ) H fun b H1 => if b = true then te (some x :: ρ) H1 fun y H2 => compGo Ok ρ tt te r (ys ++ [y]) H2 Q else compGo Ok ρ tt te r ys H1 Q
structure ItOf (J : It) (Ok : Hp → Prop) (xs : List V) : Prop where
  go : ∀ i H x, Ok H → xs[i]? = some x → J.go i H
  yld : ∀ i H x H', Ok H → J.yld i H x H' → H' = H ∧ (i < xs.length → xs[i]? = some x)
  stop : ∀ i H, Ok H → xs.length ≤ i → J.stop i H
section
variable {J : It} {Ok : Hp → Prop} {xs : List V} {ρ : L2.St} {tt : TT} {te : TE} {H : Hp} {Q : VK} {K : PySem.W.Frag} {a : Addr}
theorem blk_of (O : ItOf J Ok xs) (hn : xs.length ≤ sizeLine) (h : compGo Ok ρ tt te xs [] H fun ys H' => ∀ l, H' l = none → Q (.ref l) (upd H' l (.lst ys))) : tBlk J ρ tt te H Q := by
  refine ⟨fun i m ys H => m = xs.length - i ∧ i ≤ xs.length ∧ ys.length ≤ i ∧ compGo Ok ρ tt te (xs.drop i) ys H fun ys H' => ∀ l, H' l = none → Q (.ref l) (upd H' l (.lst ys)), ⟨_, rfl, Nat.zero_le _, Nat.le_refl _, h⟩, ?_⟩
  rintro i m ys H ⟨rfl, hi, hy, g⟩
  by_cases hlt : i < xs.length
  · have e := List.drop_eq_getElem_cons hlt
    rw [e] at g
    obtain ⟨g0, g1⟩ := g
    refine .inr ⟨O.go i H _ g0 (List.getElem?_eq_getElem hlt), by walk_at "om", fun zs H' => zs.length ≤ i + 1 ∧ compGo Ok ρ tt te (xs.drop (i + 1)) zs H' fun ys H' => ∀ l, H' l = none → Q (.ref l) (upd H' l (.lst ys)), fun zs H' q => ⟨_, by walk_at "om", rfl, hlt, q.1, q.2⟩, fun x H' y => ?_⟩
    obtain ⟨rfl, ex⟩ := O.yld i H x H' g0 y
    have ex := ex hlt
    rw [List.getElem?_eq_getElem hlt] at ex
    cases ex
    have l1 : ∀ y : V, (ys ++ [y]).length ≤ i + 1 := fun y => by rw [List.length_append, List.length_singleton]; walk_at "om"
    have l2 : ys.length ≤ i + 1 := by walk_at "om"
    simp only [l1, l2, true_and]
    exact g1
  · have e : i = xs.length := by walk_at "om"
    subst e
    rw [List.drop_length] at g
    exact .inl ⟨O.stop _ H g.1 (Nat.le_refl _), by walk_at "om", g.2⟩
theorem it_list : ItOf (Itl K a) (fun H => SqL K H a xs) xs :=
  ⟨fun _ _ _ h e => ⟨xs, _, h, e⟩, fun _ _ _ _ h y => ⟨y.1, fun _ => y.2 xs h⟩, fun _ _ h hi => ⟨xs, h, hi⟩⟩
theorem it_tup : ItOf (Itt K a) (fun H => SqT K H a xs) xs :=
  ⟨fun _ _ _ h e => ⟨xs, _, h, e⟩, fun _ _ _ _ h y => ⟨y.1, fun _ => y.2 xs h⟩, fun _ _ h hi => ⟨xs, h, hi⟩⟩
theorem it_rng {lo : Int} {n : Nat} : ItOf (Itr lo n) (fun _ => True) ((List.range n).map fun k => V.int (lo + (k : Nat))) :=
  ⟨fun i _ _ _ e => by
    have := (List.getElem?_eq_some_iff.mp e).1
    show i < n
    simpa using this, fun i _ _ _ _ y => ⟨y.1, fun hi => by
      have hi' : i < n := by simpa using hi
      rw [y.2, List.getElem?_map, List.getElem?_range hi']; rfl⟩, fun i _ _ hi => by
      show n ≤ i
      simpa using hi⟩
theorem compGo_map {p : V → Bool} {f : V → V} {Q' : List V → Hp → Prop} (hOk : Ok H) : ∀ {xs ys : List V}, (∀ x ∈ xs, ∀ Q, Q (p x) H → tt (some x :: ρ) H Q) → (∀ x ∈ xs, p x = true → ∀ Q, Q (f x) H → te (some x :: ρ) H Q) → Q' (ys ++ (xs.filter p).map f) H → compGo Ok ρ tt te xs ys H Q'
  | [], ys, _, _, q => ⟨hOk, by simpa using q⟩
  | x :: r, ys, ht, he, q => by
    refine ⟨hOk, ht x (.head _) _ ?_⟩
    by_cases hb : p x = true
    · rw [if_pos hb]
      refine he x (.head _) hb _ (compGo_map hOk (fun y hy => ht y (.tail _ hy)) (fun y hy => he y (.tail _ hy)) ?_)
      rw [List.filter_cons, if_pos hb] at q
      simpa using q
    · rw [if_neg hb]
      refine compGo_map hOk (fun y hy => ht y (.tail _ hy)) (fun y hy => he y (.tail _ hy)) ?_
      rw [List.filter_cons, if_neg hb] at q
      exact q
end
section
variable {X : Cx} {K : PySem.W.Frag}
theorem ix_seqK (h : X.K = K) : IxR X (rIx K) := h ▸ ix_seq
end
end Gz
set_option Elab.async false
set_option linter.all false
set_option maxRecDepth 100000
set_option maxHeartbeats 4000000
namespace Gz
open PySem PySem.Spec PyProof.Rows L2
mutual
inductive Dat (K : PySem.W.Frag) (H : Hp) : V → PyData → Prop where
  | non : Dat K H .non .none
  | bl (b : Bool) : Dat K H (.bl b) (.bool b)
  | int (i : Int) : Dat K H (.int i) (.int i)
  | str (x : Str) : Dat K H (.str x) (.str x)
  | tup {a : Addr} {xs : List V} {ds : List PyData} (h : SqT K H a xs) (r : Dats K H xs ds) : Dat K H (.ref a) (.tuple ds)
  | lst {a : Addr} {xs : List V} {ds : List PyData} (h : SqL K H a xs) (r : Dats K H xs ds) : Dat K H (.ref a) (.list ds)
inductive Dats (K : PySem.W.Frag) (H : Hp) : List V → List PyData → Prop where
  | nil : Dats K H [] []
  | cons {x : V} {d : PyData} {xs : List V} {ds : List PyData} (h : Dat K H x d) (r : Dats K H xs ds) : Dats K H (x :: xs) (d :: ds)
end
section
variable {X : Cx} {pins : List (Addr × Obj)} {σ : L2.St} {H : Hp} {s : Shared}
mutual
theorem Dat.reads (I : Inv X pins σ H s) : ∀ (d : PyData) {v : V} {u : Value}, Dat X.K H v d → RelV v u → ∃ as, Reads s.heap u d as
  | .none, _, _, .non, r => by cases r; exact ⟨_, .none⟩
  | .bool b, _, _, .bl _, r => by cases r; exact ⟨_, .bool b⟩
  | .int i, _, _, .int _, r => by obtain ⟨t, rfl⟩ := r; exact ⟨_, .int i t⟩
  | .str x, _, _, .str _, r => by obtain ⟨t, rfl⟩ := r; exact ⟨_, .str x t⟩
  | .tuple ds, _, _, .tup h q, r => by
    cases r
    obtain ⟨its, rv, ⟨o, ho, hc, n, hd⟩, _⟩ := I.tuple h
    obtain ⟨as, ra⟩ := Dats.reads I ds q rv
    exact ⟨_, .tuple ho hc hd (by simpa using ra)⟩
  | .list ds, _, _, .lst h q, r => by
    cases r
    obtain ⟨its, rv, ⟨o, n, ho, hc, _, hd⟩, _⟩ := I.list h
    obtain ⟨as, ra⟩ := Dats.reads I ds q rv
    exact ⟨_, .list ho hc hd (by simpa using ra)⟩
theorem Dats.reads (I : Inv X pins σ H s) : ∀ (ds : List PyData) {vs : List V} {us : List Value}, Dats X.K H vs ds → Vals vs us → ∃ as, ReadsAll s.heap us ds as
  | [], _, _, .nil, r => by cases r; exact ⟨_, .nil⟩
  | d :: ds, _, _, .cons h q, r => by
    cases r with
    | cons r1 r2 =>
      obtain ⟨as, ra⟩ := Dat.reads I d h r1
      obtain ⟨bs, rb⟩ := Dats.reads I ds q r2
      exact ⟨_, .cons ra rb⟩
end
def rEqD (K : PySem.W.Frag) (neg : Bool) : R2 := fun x y H Q => ∃ d e, Dat K H x d ∧ Dat K H y e ∧ d.canLay0 = true ∧ e.canLay0 = true ∧ d.depth ≤ 60 ∧ Q (.bl (if neg = true then !PyData.eqv d e else PyData.eqv d e)) H
theorem op_eqD (hu : X.A.units + 64 < cLine) : OpR X (compareOp .Eq) (rEqD X.K false) := by
  intro pins s σ H x y v u Q I rx ry h
  obtain ⟨d, e, dx, dy, c1, c2, dd, q⟩ := h
  obtain ⟨as, ra⟩ := Dat.reads I d dx rx
  obtain ⟨bs, rb⟩ := Dat.reads I e dy ry
  exact SeqAt.compareEq_reads ra rb c1 c2 (by omega) ⟨.bl _, H, I, rfl, q⟩
theorem op_neD (hu : X.A.units + 64 < cLine) : OpR X (compareOp .NotEq) (rEqD X.K true) := by
  intro pins s σ H x y v u Q I rx ry h
  obtain ⟨d, e, dx, dy, c1, c2, dd, q⟩ := h
  obtain ⟨as, ra⟩ := Dat.reads I d dx rx
  obtain ⟨bs, rb⟩ := Dat.reads I e dy ry
  exact SeqAt.compareNe_reads ra rb c1 c2 (by omega) ⟨.bl _, H, I, rfl, q⟩
end
end Gz
set_option Elab.async false
set_option linter.all false
set_option maxRecDepth 100000
set_option maxHeartbeats 4000000
namespace Gz
open PySem PySem.Spec PyProof.Rows L2
abbrev En := Option Int
def ev : En → V
  | none => .non
  | some i => .int i
theorem ev_none : ev none = .non := rfl
theorem ev_some (i : Int) : ev (some i) = .int i := rfl
def crossed : En → En → Bool
  | some x, some y => decide (y < x)
  | _, _ => false
def IsS (H : Hp) (v : V) (a b : En) : Prop := ∃ p, v = .ref p ∧ H p = some (.tup [ev a, ev b])
theorem IsS.same {H H1 : Hp} {v : V} {a b : En} (h : IsS H v a b) (s : Same H H1) : IsS H1 v a b := by
  obtain ⟨p, e, h⟩ := h
  exact ⟨p, e, s _ _ h⟩
theorem IsS.new {H : Hp} {p : Addr} {a b : En} : IsS (upd H p (.tup [ev a, ev b])) (.ref p) a b := ⟨p, rfl, upd_same⟩
def hold (a b : En) (n : Int) : Bool := !crossed a (some n) && !crossed (some n) b
theorem crossed_ss (x y : Int) : crossed (some x) (some y) = decide (y < x) := rfl
theorem crossed_n (b : En) : crossed none b = false := by cases b <;> rfl
theorem crossed_m (a : En) : crossed a none = false := by cases a <;> rfl
end Gz
set_option Elab.async false
set_option linter.all false
set_option maxHeartbeats 4000000
namespace Gz
open L2
abbrev S2 := En × En
def hs (s : S2) (n : Int) : Bool := hold s.1 s.2 n
def leLo (a b : En) : Prop := a = none ∨ ∃ x y, a = some x ∧ b = some y ∧ x ≤ y
theorem leLo.trans {a b c : En} (h : leLo a b) (h' : leLo b c) : leLo a c := by
  rcases h with rfl | ⟨x, y, rfl, rfl, h1⟩
  · exact .inl rfl
  · rcases h' with h' | ⟨x', y', e, rfl, h2⟩
    · cases h'
    · cases e; exact .inr ⟨_, _, rfl, rfl, by omega⟩
def leHi (a b : En) : Prop := b = none ∨ ∃ x y, a = some x ∧ b = some y ∧ x ≤ y
theorem leHi.trans {a b c : En} (h : leHi a b) (h' : leHi b c) : leHi a c := by
  rcases h' with rfl | ⟨x', y', rfl, rfl, h2⟩
  · exact .inl rfl
  · rcases h with h | ⟨x, y, rfl, e, h1⟩
    · cases h
    · cases e; exact .inr ⟨_, _, rfl, rfl, by omega⟩
open PySem in
def Sts (H : Hp) : List V → List S2 → Prop
  | [], [] => True
  | v :: vs, s :: ss => IsS H v s.1 s.2 ∧ Sts H vs ss
  | _, _ => False
section
variable {H H1 : Hp} {K : PySem.W.Frag}
theorem IsS.put {v : V} {a b : En} {l : PySem.Addr} {ys : List V} {o : HO} (h : IsS H v a b) (hl : H l = some (.lst ys)) : IsS (upd H l o) v a b := by
  obtain ⟨p, e, h⟩ := h
  exact ⟨p, e, by rw [upd_ne (ne_of h hl fun z => nomatch z)]; exact h⟩
theorem Sts.len : ∀ {vs : List V} {ss : List S2}, Sts H vs ss → vs.length = ss.length
  | [], [], _ => rfl
  | _ :: _, _ :: _, h => by simp [Sts.len h.2]
  | [], _ :: _, h => h.elim
  | _ :: _, [], h => h.elim
open PySem
def datE : En → PyData
  | none => .none
  | some i => .int i
def datS (s : S2) : PyData := .tuple [datE s.1, datE s.2]
theorem dat_ev (e : En) : Dat K H (ev e) (datE e) := by
  rcases e with _ | x
  · exact .non
  · exact .int x
theorem IsS.dat {v : V} {a b : En} (h : IsS H v a b) : Dat K H v (datS (a, b)) := by
  obtain ⟨p, rfl, h⟩ := h
  exact .tup (SqT.of h) (.cons (dat_ev a) (.cons (dat_ev b) .nil))
theorem Sts.dat : ∀ {vs : List V} {ss : List S2}, Sts H vs ss → Dats K H vs (ss.map datS)
  | [], [], _ => .nil
  | _ :: _, (a, b) :: _, h => .cons h.1.dat (Sts.dat h.2)
  | [], _ :: _, h => h.elim
  | _ :: _, [], h => h.elim
theorem eqv_E (e : En) : PyData.eqv (datE e) (datE e) = true := by
  rcases e with _ | x <;> simp [datE, PyData.eqv]
theorem eqv_S (s : S2) : PyData.eqv (datS s) (datS s) = true := by
  simp only [datS, PyData.eqv, PyData.eqvAll, eqv_E, Bool.and_self]
theorem lay_E (e : En) : (datE e).canLay0 = true := by rcases e with _ | x <;> rfl
theorem lay_S (s : S2) : (datS s).canLay0 = true := by
  simp only [datS, PyData.canLay0, PyData.canLayAll0, lay_E, Bool.and_self]
theorem dep_E (e : En) : (datE e).depth = 0 := by rcases e with _ | x <;> rfl
theorem dep_S (s : S2) : (datS s).depth = 1 := by
  simp only [datS, PyData.depth, PyData.depthAll, dep_E]; rfl
theorem eq_IsS {u v : V} {a b : En} {neg : Bool} {Q : VK} (h : IsS H u a b) (h' : IsS H v a b) (q : Q (.bl (!neg)) H) : rEqD K neg u v H Q := by
  refine ⟨_, _, h.dat, h'.dat, lay_S _, lay_S _, ?_, ?_⟩
  · rw [dep_S]; decide
  · rw [eqv_S]
    cases neg <;> exact q
theorem at_script {ns : List Int} {k : Int} (h0 : 0 ≤ k) (h1 : k < ns.length) : ∃ c, atI (ns.map V.int) k = some (.int c) := by
  obtain ⟨j, rfl⟩ : ∃ j : Nat, k = (j : Int) := ⟨k.toNat, by omega⟩
  have hk : j < ns.length := by omega
  refine ⟨ns[j], atI_nat ?_⟩
  rw [List.getElem?_map, List.getElem?_eq_getElem hk]
  rfl
end
end Gz
set_option Elab.async false
set_option linter.all false
set_option maxRecDepth 100000
set_option maxHeartbeats 4000000
namespace Gz
open PySem PySem.Spec PyProof.Rows L2
def Its (lo st : Int) (n : Nat) : It := ⟨fun i _ => i < n, fun i H x H' => H' = H ∧ x = .int (lo + (i : Int) * st), fun i _ => n ≤ i⟩
theorem turn_step {P : Program} {w : World} {K : PySem.W.Frag} {tg : Expr} (it : Addr) (lo st : Int) (n : Nat) : Turn P w K tg (Its lo st n) [it] it (fun i h => IsRangeIter h it (lo + (i : Nat) * st) ((n : Int) - (i : Nat)) st) where
  mem := by simp
  obj := fun i h q b hb => by
    have e : b = it := by simpa using hb
    subst e
    exact ⟨_, q, fun v z => by
      have z' : Data.fields _ = Data.cell v := z
      cases z'⟩
  keep := fun i h h' q k => k it (by simp) _ q
  item := by
    intro X hP hw hK hc i pins s σ H E I hf q hg
    subst hP hw hK
    obtain ⟨f0, f1, f2, f3, f4, f5⟩ := hf it (by simp)
    have W := Walks.range (prog := X.prog) (w := X.w) (I.ok.hd hc) it lo st n
    refine W.item i s _ _ hg q fun v h' tk hv q' kk => ?_
    obtain ⟨t, rfl⟩ := hv
    have I1 : Inv X pins σ H { s with heap := h', toks := tk } := I.turned (fun b o hb e => kk b o (by simpa using hb) e) f0 f1 f3 f4 f5
    exact ⟨_, rfl, go_of (s := { s with heap := h', toks := tk }) (n := "range_iterator") q' rfl rfl (by decide) ⟨.int (lo + (i : Int) * st), H, I1, ⟨t, rfl⟩, ⟨rfl, rfl⟩, q', fun b hb => (hf b hb).1⟩⟩
  done := by
    intro X hP hw hK hc i pins s σ H E I hf q hg
    subst hP hw hK
    obtain ⟨f0, f1, f2, f3, f4, f5⟩ := hf it (by simp)
    exact wpAny_pyNext_range_end (I.ok.hd hc) q (by have : n ≤ i := hg; omega) fun h' eb => ⟨rfl, I.turned (t' := s.toks) (fun b o hb e => eb b o hb e) f0 f1 f3 f4 f5⟩
  self := fun _ _ _ _ _ q h => wpAny_pyIter_rangeiter q h
def stepN (lo hi st : Int) : Nat := (Builtin.Range.rangeSize lo hi st).toNat
def iRng3 (ta : TA) : TI := fun σ H R => ta σ H fun vs H1 => ∃ i j c : Int, vs = [.int i, .int j, .int c] ∧ (-1000000 ≤ i ∧ i ≤ 1000000 ∧ -1000000 ≤ j ∧ j ≤ 1000000 ∧ -1000000 ≤ c ∧ c ≤ 1000000 ∧ c ≠ 0) ∧ R (Its i c (stepN i j c)) H1
theorem size_nn (i j c : Int) (h : c ≠ 0) : 0 ≤ Builtin.Range.rangeSize i j c := by
  unfold Builtin.Range.rangeSize
  split
  · rename_i hc
    split
    · have := Int.ediv_nonneg (show 0 ≤ j - i - 1 by omega) (show 0 ≤ c by omega); omega
    · omega
  · split
    · have := Int.ediv_nonneg (show 0 ≤ i - j - 1 by omega) (show 0 ≤ -c by omega); omega
    · omega
theorem size_le (i j c : Int) (h : -1000000 ≤ i ∧ i ≤ 1000000 ∧ -1000000 ≤ j ∧ j ≤ 1000000 ∧ c ≠ 0) : Builtin.Range.rangeSize i j c ≤ 2000000 := by
  unfold Builtin.Range.rangeSize
  split
  · split
    · have := Int.ediv_le_self (c) (show 0 ≤ j - i - 1 by omega); omega
    · omega
  · split
    · have := Int.ediv_le_self (-c) (show 0 ≤ i - j - 1 by omega); omega
    · omega
theorem small_step {i j c : Int} (h : -1000000 ≤ i ∧ i ≤ 1000000 ∧ -1000000 ≤ j ∧ j ≤ 1000000 ∧ -1000000 ≤ c ∧ c ≤ 1000000 ∧ c ≠ 0) : Builtin.Range.small i j c = true := by
  have h1 := size_nn i j c h.2.2.2.2.2.2
  have h2 := size_le i j c ⟨h.1, h.2.1, h.2.2.1, h.2.2.2.1, h.2.2.2.2.2.2⟩
  unfold Builtin.Range.small
  generalize Builtin.Range.rangeSize i j c = n at h1 h2 ⊢
  simp only [Builtin.Range.rangeFitsLong, Bool.and_eq_true, Bool.or_eq_true, decide_eq_true_eq, beq_iff_eq]
  refine ⟨by omega, .inr ?_⟩
  split <;> simp only [Bool.and_eq_true, decide_eq_true_eq] <;> omega
theorem pi_range3 {X : Cx} {tg a b c : Expr} {ta : TA} {p pos : Pos} (hg : Gl X "range") (hm : X.mg "range" = none) (ha : PA X [a, b, c] ta) (hs : starEach [a, b, c] X.env = (false, eval a X.env) :: starEach [b, c] X.env := by rfl) (hs2 : starEach [b, c] X.env = [(false, eval b X.env), (false, eval c X.env)] := by rfl) :
    PI X tg (.Call (.Name "range" p) [a, b, c] [] pos) (iRng3 ta) := by
  intro pins s σ H R I h
  refine Call_ (ld_blt I hg hm boot_range (PyProof.Rows.callWith_type1 (thn (ha pos pins s σ H _ I h) fun us s1 ⟨vs, H1, I1, r1, q1⟩ => ?_) (by rw [hs]) (by rw [hs2]; rfl)))
  obtain ⟨i, j, k, e, hb, q⟩ := q1
  subst e
  cases r1 with
  | cons r rr =>
    cases rr with
    | cons r' rr =>
      cases rr with
      | cons r'' rr =>
        cases rr
        obtain ⟨t, rfl⟩ := r
        obtain ⟨t', rfl⟩ := r'
        obtain ⟨t'', rfl⟩ := r''
        have hk : k ≠ 0 := hb.2.2.2.2.2.2
        refine call_range_3 hk ?_ (.inl (PyProof.noPylong_small (by omega)))
        refine wpAny_pyIter_range (IsRange.new ..) (small_step hb) ?_
        have I2 : Inv X pins σ H1 { s1 with heap := s1.heap.push { cls := .type "range", data := .fields #[.int i t, .int j t', .int k t''] }, toks := s1.toks } := I1.kept fun b o e => Heap.get?_push_of_some _ e
        refine ⟨_, [_], _, _, H1, rfl, I2.kept (t' := s1.toks) fun b o e => Heap.get?_push_of_some _ e, turn_step _ i k (stepN i j k), ?_, fun b hb => ?_, q⟩
        · have e1 : i + ((0 : Nat) : Int) * k = i := by simp
          have e2 : ((stepN i j k : Nat) : Int) - ((0 : Nat) : Int) = Builtin.Range.rangeSize i j k := by
            have := size_nn i j k hk
            unfold stepN; omega
          show IsRangeIter _ _ (i + ((0 : Nat) : Int) * k) (((stepN i j k : Nat) : Int) - ((0 : Nat) : Int)) k
          rw [e1, e2]
          exact Heap.get?_push_size _ rfl
        · have e : b = (s1.heap.push { cls := .type "range", data := .fields #[.int i t, .int j t', .int k t''] }).objs.size := by simpa using hb
          subst e
          exact I2.fpOk (Nat.le_refl _) (I2.hok.fresh (Nat.le_refl _))
section
variable {g : TG} {tb : TS} {D : Ends} {σ : L2.St} {H : Hp} {lo st : Int} {n : Nat}
theorem for_rng2 {ta : TA} : tFor (iRng2 ta) g tb D σ H = ta σ H (fun vs H1 => ∃ i j : Int, vs = [.int i, .int j] ∧ (-(2 ^ 62) ≤ i ∧ i < 2 ^ 62 ∧ -(2 ^ 62) ≤ j ∧ j < 2 ^ 62) ∧ FJ (Itr i (j - i).toNat) g tb D σ H1) := rfl
theorem for_rng3 {ta : TA} : tFor (iRng3 ta) g tb D σ H = ta σ H (fun vs H1 => ∃ i j c : Int, vs = [.int i, .int j, .int c] ∧ (-1000000 ≤ i ∧ i ≤ 1000000 ∧ -1000000 ≤ j ∧ j ≤ 1000000 ∧ -1000000 ≤ c ∧ c ≤ 1000000 ∧ c ≠ 0) ∧ FJ (Its i c (stepN i j c)) g tb D σ H1) := rfl
theorem by_step (Pv : Nat → L2.St → Hp → Prop) (h0 : Pv 0 σ H)
    (hs : ∀ i σ H, i < n → Pv i σ H → g (.int (lo + (i : Int) * st)) σ H fun σ2 H2 => tb { D with nx := Pv (i + 1), ct := Pv (i + 1), bk := D.nx } σ2 H2) (hd : ∀ σ H, Pv n σ H → D.nx σ H) : FJ (Its lo st n) g tb D σ H := by
  refine ⟨fun i m σ H => m = n - i ∧ i ≤ n ∧ Pv i σ H, ⟨n, by simp, Nat.zero_le _, h0⟩, ?_⟩
  rintro i m σ H ⟨rfl, hi, p⟩
  by_cases hlt : i < n
  · refine .inr ⟨hlt, Pv (i + 1), fun σ' H' p' => ⟨n - (i + 1), by omega, rfl, hlt, p'⟩, fun x H' y => ?_⟩
    obtain ⟨e, y⟩ := y
    subst e y
    exact hs i σ _ hlt p
  · have e : i = n := by omega
    subst e
    exact .inl ⟨Nat.le_refl _, hd σ H p⟩
end
end Gz
set_option Elab.async false
set_option linter.all false
set_option maxRecDepth 100000
set_option maxHeartbeats 4000000
namespace Gz
open PySem PySem.Spec PyProof.Rows L2
local macro_rules | `(tactic| walk_at "om") => `(tactic| ((try simp only [PySem.Addr] at *); omega))
section
variable {X : Cx} {pins : List (Addr × Obj)} {σ : L2.St} {H : Hp} {s : Shared} {h' : Heap}
end
def Itv (K : PySem.W.Frag) (a : Addr) (n : Nat) : It :=
  ⟨fun i H => ∃ xs x, SqL K H a xs ∧ xs.length = n ∧ xs.reverse[i]? = some x, fun i H x H' => H' = H ∧ ∀ xs, SqL K H a xs → xs.length = n → xs.reverse[i]? = some x, fun i _ => i = n⟩
def iRev (K : PySem.W.Frag) (ta : TA) : TI := fun σ H R => ta σ H fun vs H1 => ∃ a xs, vs = [.ref a] ∧ SqL K H1 a xs ∧ R (Itv K a xs.length) H1
def Ite (K : PySem.W.Frag) (a : Addr) : It :=
  ⟨fun i H => ∃ xs x, SqL K H a xs ∧ xs[i]? = some x, fun i H v H' => ∃ (p : Addr) (x : V), v = .ref p ∧ H p = none ∧ H' = upd H p (.tup [.int i, x]) ∧ ∀ xs, SqL K H a xs → xs[i]? = some x, fun i H => ∃ xs, SqL K H a xs ∧ xs.length ≤ i⟩
def iEnum (K : PySem.W.Frag) (ta : TA) : TI := fun σ H R => ta σ H fun vs H1 => ∃ a, vs = [.ref a] ∧ (∃ xs, SqL K H1 a xs) ∧ R (Ite K a) H1
def Itz (K : PySem.W.Frag) (a b : Addr) : It :=
  ⟨fun i H => ∃ xs ys x y, SqL K H a xs ∧ SqL K H b ys ∧ xs[i]? = some x ∧ ys[i]? = some y, fun i H v H' => ∃ (p : Addr) (x y : V), v = .ref p ∧ H p = none ∧ H' = upd H p (.tup [x, y]) ∧ (∀ xs, SqL K H a xs → xs[i]? = some x) ∧ ∀ ys, SqL K H b ys → ys[i]? = some y,
    fun i H => ∃ xs ys, SqL K H a xs ∧ SqL K H b ys ∧ (xs.length ≤ i ∨ ys.length ≤ i)⟩
def iZip (K : PySem.W.Frag) (ta : TA) : TI := fun σ H R => ta σ H fun vs H1 => ∃ a b, vs = [.ref a, .ref b] ∧ (∃ xs, SqL K H1 a xs) ∧ (∃ ys, SqL K H1 b ys) ∧ R (Itz K a b) H1
section
variable {X : Cx}
theorem bools_are : ∀ {bs : List Bool} {its : List Value}, Vals (bs.map V.bl) its → its = bs.map Value.bool
  | [], its, r => by cases r; rfl
  | b :: bs, its, r => by
    cases r with
    | cons r1 r2 =>
      cases r1
      rw [bools_are r2]; rfl
theorem call_allL (hc : X.calm = true) : CallR X (.builtin "all") (fun xs H Q => ∃ (a : Addr) (bs : List Bool), xs = [.ref a] ∧ SqL X.K H a (bs.map V.bl) ∧ Q (.bl (bs.all id)) H) := by
  intro pins s σ H xs us Q I r h
  obtain ⟨a, bs, rfl, hS, q⟩ := h
  obtain ⟨u, rfl, ru⟩ := vals1 r
  cases ru
  obtain ⟨its, rv, hp, _⟩ := I.list hS
  have e := bools_are rv
  subst e
  have hl := hp.isList
  have hlt : a < s.heap.objs.size := by obtain ⟨_, e, _⟩ := hl; exact Heap.lt_size e
  refine call_all_walk (wpAny_pyIter_list hl ?_)
  refine ⟨s.heap.objs.size, [s.heap.objs.size, a], [s.heap.objs.size], (bs.map Value.bool).toArray.size, _, _, fun i => (bs[i]?).getD true, rfl, Walks.list (A := X.A.in1) (I.ok.hd hc) _ a (Nat.ne_of_lt hlt) (bs.map Value.bool).toArray, ⟨⟨_, Heap.get?_push_size _ rfl, rfl, rfl⟩, hl.push _⟩, fun i v s' Q' E' hP hQ => ?_, fun h' tk hk => ?_⟩
  · have hP' : (bs[i]?).map Value.bool = some v := by simpa using hP
    cases e : bs[i]? with
    | none => rw [e] at hP'; cases hP'
    | some b =>
      rw [e] at hP'; cases hP'
      simp only [e, Option.getD_some] at hQ
      exact wpAny_truthy_bool hQ
  · have e : ((List.range (bs.map Value.bool).toArray.size).all fun i => (bs[i]?).getD true) = bs.all id := by
      rw [List.size_toArray, List.length_map]; exact PyProof.Rows.LSm.range_all bs
    rw [e]
    exact ⟨.bl (bs.all id), H, I.kept (fun b o q => hk b o (fun z => by
      have : b = s.heap.objs.size := by simpa using z
      rw [this] at q; exact Nat.lt_irrefl _ (Heap.lt_size q)) (Heap.get?_push_of_some _ q)), rfl, q⟩
end
section
variable {K : PySem.W.Frag} {g : TG} {tb : TS} {D : Ends} {σ : L2.St} {H : Hp} {a b : Addr} {xs ys : List V}
theorem for_rev {ta : TA} : tFor (iRev K ta) g tb D σ H = ta σ H (fun vs H1 => ∃ a xs, vs = [.ref a] ∧ SqL K H1 a xs ∧ FJ (Itv K a xs.length) g tb D σ H1) := rfl
theorem for_enum {ta : TA} : tFor (iEnum K ta) g tb D σ H = ta σ H (fun vs H1 => ∃ a, vs = [.ref a] ∧ (∃ xs, SqL K H1 a xs) ∧ FJ (Ite K a) g tb D σ H1) := rfl
theorem for_zip {ta : TA} : tFor (iZip K ta) g tb D σ H = ta σ H (fun vs H1 => ∃ a b, vs = [.ref a, .ref b] ∧ (∃ xs, SqL K H1 a xs) ∧ (∃ ys, SqL K H1 b ys) ∧ FJ (Itz K a b) g tb D σ H1) := rfl
end
end Gz
set_option Elab.async false
set_option linter.all false
set_option maxRecDepth 100000
set_option maxHeartbeats 4000000
namespace Gz
open PySem PySem.Spec PyProof.Rows L2
local macro_rules | `(tactic| walk_at "om") => `(tactic| ((try simp only [PySem.Addr] at *); omega))
def tBlkG (k : Nat) (J : It) (g : TG) (ρ : L2.St) (tt : TT) (te : TE) (H : Hp) (Q : VK) : Prop := ∃ W : Nat → Nat → List V → Hp → Prop, (∃ m, W 0 m [] H) ∧ ∀ i m ys H, W i m ys H →
  (J.stop i H ∧ ys.length ≤ sizeLine ∧ ∀ l, H l = none → Q (.ref l) (upd H l (.lst ys))) ∨ (J.go i H ∧ ys.length < sizeLine ∧ ∃ N : List V → Hp → Prop, (∀ zs H', N zs H' → ∃ m', m' < m ∧ W (i + 1) m' zs H') ∧
    ∀ os : List (Option V), os.length = k → ∀ x H', J.yld i H x H' → g x (os ++ ρ) H' fun σ2 H2 => ∃ os', os'.length = k ∧ σ2 = os' ++ ρ ∧ tt σ2 H2 fun b H1 => if b = true then te σ2 H1 fun y H2 => N (ys ++ [y]) H2 else N ys H1)
def tCompG (k : Nat) (wi : TI) (g : TG) (fr : List Nat) (tt : TT) (te : TE) : TE := fun σ H Q => wi σ H fun J H1 => tBlkG k J g (fr.map fun j => (σ[j]?).join) tt te H1 Q
section
variable {X : Cx} {pins : List (Addr × Obj)} {σ : L2.St} {H2 : Hp} {s2 : Shared} {own : List Str} {tg : Expr} {g : TG} {pos : Pos} {elt iter : Expr} {ifs : List Expr} {scope : Scope} {cl : List (Str × Addr)} {fr : List Nat} {ys : List Str} {tt : TT} {te : TE}
end
end Gz
namespace Gz
open PySem PySem.Spec PyProof.Rows L2
section
variable {X : Cx} {K : PySem.W.Frag}
variable {ρ : L2.St} {tt : TT} {te : TE} {H : Hp} {Q : VK} {a b : Addr} {xs ys : List V}
end
end Gz
set_option Elab.async false
set_option linter.all false
set_option maxRecDepth 100000
set_option maxHeartbeats 4000000
namespace Gz
open PySem PySem.Spec PyProof.Rows L2
theorem cutV_to (xs : List V) (b : Nat) : cutV xs none (some (b : Int)) = xs.take b := by
  unfold cutV
  rw [HT.sIx_nat, HT.sIx_none, List.drop_zero, Nat.sub_zero]
  by_cases h : b ≤ xs.length
  · rw [Nat.min_eq_left h]
  · rw [Nat.min_eq_right (by omega), List.take_length, List.take_of_length_le (by omega)]
mutual
def plainD : Nat → PyData → Bool
  | _, .none => true
  | _, .bool _ => true
  | _, .int _ => true
  | n + 1, .tuple ds => plainDs n ds
  | n + 1, .list ds => plainDs n ds
  | _, _ => false
def plainDs : Nat → List PyData → Bool
  | _, [] => true
  | n, d :: ds => plainD n d && plainDs n ds
end
mutual
theorem plain_ok : ∀ (d : PyData) {n : Nat}, plainD n d = true → PyData.eqv d d = true ∧ d.canLay0 = true ∧ d.depth ≤ n
  | .none, n, _ => ⟨rfl, rfl, Nat.zero_le _⟩
  | .bool b, n, _ => ⟨by simp [PyData.eqv], rfl, Nat.zero_le _⟩
  | .int i, n, _ => ⟨by simp [PyData.eqv], rfl, Nat.zero_le _⟩
  | .str x, 0, h => by simp [plainD] at h
  | .str x, n + 1, h => by simp [plainD] at h
  | .dict x, 0, h => by simp [plainD] at h
  | .dict x, n + 1, h => by simp [plainD] at h
  | .tuple ds, 0, h => by simp [plainD] at h
  | .list ds, 0, h => by simp [plainD] at h
  | .tuple ds, n + 1, h => by
    obtain ⟨a, b, c⟩ := plain_oks ds (n := n) (by simpa [plainD] using h)
    exact ⟨by simpa only [PyData.eqv] using a, by simpa only [PyData.canLay0] using b, by simp only [PyData.depth]; omega⟩
  | .list ds, n + 1, h => by
    obtain ⟨a, b, c⟩ := plain_oks ds (n := n) (by simpa [plainD] using h)
    exact ⟨by simpa only [PyData.eqv] using a, by simpa only [PyData.canLay0] using b, by simp only [PyData.depth]; omega⟩
theorem plain_oks : ∀ (ds : List PyData) {n : Nat}, plainDs n ds = true → PyData.eqvAll ds ds = true ∧ PyData.canLayAll0 ds = true ∧ PyData.depthAll ds ≤ n
  | [], n, _ => ⟨rfl, rfl, Nat.zero_le _⟩
  | d :: ds, n, h => by
    have h' : plainD n d = true ∧ plainDs n ds = true := by simpa [plainDs] using h
    obtain ⟨a, b, c⟩ := plain_ok d h'.1
    obtain ⟨a', b', c'⟩ := plain_oks ds h'.2
    exact ⟨by simp only [PyData.eqvAll, a, a', Bool.and_self], by simp only [PyData.canLayAll0, b, b', Bool.and_self], by simp only [PyData.depthAll]; omega⟩
end
theorem eq_dat {K : PySem.W.Frag} {H : Hp} {x y : V} {d : PyData} {n : Nat} {neg : Bool} {Q : VK} (hx : Dat K H x d) (hy : Dat K H y d) (hp : plainD n d = true) (hn : n ≤ 60) (q : Q (.bl (!neg)) H) : rEqD K neg x y H Q := by
  obtain ⟨a, b, c⟩ := plain_ok d hp
  refine ⟨d, d, hx, hy, b, b, Nat.le_trans c hn, ?_⟩
  rw [a]
  cases neg <;> exact q
end Gz
namespace Gz
open PySem PySem.Spec PyProof.Rows L2
end Gz
set_option Elab.async false
set_option linter.all false
set_option maxRecDepth 100000
set_option maxHeartbeats 4000000
namespace Gz
open PySem PySem.Spec PyProof.Rows L2
def All2 {α : Type} (R : V → α → Prop) : List V → List α → Prop
  | [], [] => True
  | x :: xs, a :: as => R x a ∧ All2 R xs as
  | _, _ => False
section
variable {α : Type} {R R' : V → α → Prop}
theorem All2.len : ∀ {xs : List V} {as : List α}, All2 R xs as → xs.length = as.length
  | [], [], _ => rfl
  | _ :: _, _ :: _, h => by simp [All2.len h.2]
  | [], _ :: _, h => h.elim
  | _ :: _, [], h => h.elim
theorem All2.imp (f : ∀ x a, R x a → R' x a) : ∀ {xs : List V} {as : List α}, All2 R xs as → All2 R' xs as
  | [], [], _ => trivial
  | _ :: _, _ :: _, h => ⟨f _ _ h.1, All2.imp f h.2⟩
  | [], _ :: _, h => h.elim
  | _ :: _, [], h => h.elim
theorem All2.get : ∀ {xs : List V} {as : List α}, All2 R xs as → ∀ {i : Nat} {x : V}, xs[i]? = some x → ∃ a, as[i]? = some a ∧ R x a
  | [], [], _, i, x, e => by simp at e
  | _ :: _, a :: _, h, 0, x, e => by simp at e; subst e; exact ⟨a, by simp, h.1⟩
  | _ :: _, _ :: _, h, i + 1, x, e => by
    simp only [List.getElem?_cons_succ] at e ⊢
    exact All2.get h.2 e
  | [], _ :: _, h, _, _, _ => h.elim
  | _ :: _, [], h, _, _, _ => h.elim
theorem All2.at : ∀ {xs : List V} {as : List α}, All2 R xs as → ∀ {i : Nat} {a : α}, as[i]? = some a → ∃ x, xs[i]? = some x ∧ R x a
  | [], [], _, i, x, e => by simp at e
  | x :: _, _ :: _, h, 0, a, e => by simp at e; subst e; exact ⟨x, by simp, h.1⟩
  | _ :: _, _ :: _, h, i + 1, a, e => by
    simp only [List.getElem?_cons_succ] at e ⊢
    exact All2.at h.2 e
  | [], _ :: _, h, _, _, _ => h.elim
  | _ :: _, [], h, _, _, _ => h.elim
theorem All2.app : ∀ {xs ys : List V} {as bs : List α}, All2 R xs as → All2 R ys bs → All2 R (xs ++ ys) (as ++ bs)
  | [], _, [], _, _, h => h
  | _ :: _, _, _ :: _, _, h, h' => ⟨h.1, All2.app h.2 h'⟩
  | [], _, _ :: _, _, h, _ => h.elim
  | _ :: _, _, [], _, h, _ => h.elim
theorem All2.snoc {xs : List V} {as : List α} {x : V} {a : α} (h : All2 R xs as) (h' : R x a) : All2 R (xs ++ [x]) (as ++ [a]) := h.app ⟨h', trivial⟩
theorem All2.take : ∀ {xs : List V} {as : List α} (n : Nat), All2 R xs as → All2 R (xs.take n) (as.take n)
  | [], [], n, _ => by simp [All2]
  | _ :: _, _ :: _, 0, _ => by simp [All2]
  | _ :: _, _ :: _, n + 1, h => by simpa [All2] using ⟨h.1, All2.take n h.2⟩
  | [], _ :: _, _, h => h.elim
  | _ :: _, [], _, h => h.elim
theorem All2.drop : ∀ {xs : List V} {as : List α} (n : Nat), All2 R xs as → All2 R (xs.drop n) (as.drop n)
  | [], [], n, _ => by simp [All2]
  | _ :: _, _ :: _, 0, h => by simpa using h
  | _ :: _, _ :: _, n + 1, h => by simpa using All2.drop n h.2
  | [], _ :: _, _, h => h.elim
  | _ :: _, [], _, h => h.elim
theorem All2.rng {lo : Int} (n : Nat) : All2 (fun x (k : Nat) => x = V.int (lo + k)) ((List.range n).map fun k => V.int (lo + (k : Nat))) (List.range n) := by
  suffices ∀ l : List Nat, All2 (fun x (k : Nat) => x = V.int (lo + k)) (l.map fun k => V.int (lo + (k : Nat))) l from this _
  intro l
  induction l with
  | nil => trivial
  | cons a l ih => exact ⟨rfl, ih⟩
end
theorem compGo_all {α : Type} {R : V → α → Prop} {Ok : Hp → Prop} {ρ : L2.St} {tt : TT} {te : TE} {p : α → Bool} {f : α → V} {Q' : List V → Hp → Prop} {H : Hp} (hOk : Ok H) : ∀ {xs : List V} {as : List α} {ys : List V}, All2 R xs as →
    (∀ x a, a ∈ as → R x a → ∀ Q, Q (p a) H → tt (some x :: ρ) H Q) → (∀ x a, a ∈ as → p a = true → R x a → ∀ Q : VK, Q (f a) H → te (some x :: ρ) H Q) →
    Q' (ys ++ (as.filter p).map f) H → compGo Ok ρ tt te xs ys H Q'
  | [], [], ys, _, _, _, q => ⟨hOk, by simpa using q⟩
  | x :: xs, a :: as, ys, h, ht, he, q => by
    refine ⟨hOk, ht x a (.head _) h.1 _ ?_⟩
    by_cases hb : p a = true
    · rw [if_pos hb]
      refine he x a (.head _) hb h.1 _ (compGo_all hOk h.2 (fun x a ha => ht x a (.tail _ ha)) (fun x a ha => he x a (.tail _ ha)) ?_)
      rw [List.filter_cons, if_pos hb] at q
      simpa using q
    · rw [if_neg hb]
      refine compGo_all hOk h.2 (fun x a ha => ht x a (.tail _ ha)) (fun x a ha => he x a (.tail _ ha)) ?_
      rw [List.filter_cons, if_neg hb] at q
      exact q
  | [], _ :: _, _, h, _, _, _ => h.elim
  | _ :: _, [], _, h, _, _, _ => h.elim
abbrev P2 := Int × Int
def IsPt (H : Hp) (v : V) (p : P2) : Prop := ∃ a, v = .ref a ∧ H a = some (.tup [.int p.1, .int p.2])
theorem IsPt.same {H H' : Hp} {v : V} {p : P2} (h : IsPt H v p) (s : Same H H') : IsPt H' v p := let ⟨a, e, q⟩ := h; ⟨a, e, s _ _ q⟩
theorem IsPt.new {H : Hp} {a : Addr} {x y : Int} : IsPt (upd H a (.tup [.int x, .int y])) (.ref a) (x, y) := ⟨a, rfl, upd_same⟩
abbrev Pts (H : Hp) : List V → List P2 → Prop := All2 (IsPt H)
theorem Pts.same {H H' : Hp} {xs : List V} {ps : List P2} (h : Pts H xs ps) (s : Same H H') : Pts H' xs ps := All2.imp (fun _ _ r => r.same s) h
def datP (p : P2) : PyData := .tuple [.int p.1, .int p.2]
theorem Pts.dat {K : PySem.W.Frag} {H : Hp} : ∀ {xs : List V} {ps : List P2}, Pts H xs ps → Dats K H xs (ps.map datP)
  | [], [], _ => .nil
  | _ :: _, _ :: _, h => by
    obtain ⟨a, rfl, q⟩ := h.1
    exact .cons (.tup (SqT.of q) (.cons (.int _) (.cons (.int _) .nil))) (Pts.dat h.2)
  | [], _ :: _, h => h.elim
  | _ :: _, [], h => h.elim
theorem plain_pts : ∀ (ps : List P2), plainDs 1 (ps.map datP) = true
  | [] => rfl
  | p :: ps => by
    rw [List.map_cons]
    simp only [plainDs, plain_pts ps, Bool.and_true]
    rfl
theorem eq_pts {K : PySem.W.Frag} {H : Hp} {a b : Addr} {xs ys : List V} {ps : List P2} {neg : Bool} {Q : VK} (ha : SqL K H a xs) (hb : SqL K H b ys) (h : Pts H xs ps) (h' : Pts H ys ps) (q : Q (.bl (!neg)) H) : rEqD K neg (.ref a) (.ref b) H Q :=
  eq_dat (n := 2) (.lst ha h.dat) (.lst hb h'.dat) (by simp only [plainD, plain_pts]) (by decide) q
def ris (ns : List Int) : Bool := (ns.zip (ns.drop 1)).all fun r => decide (r.1 < r.2)
theorem ris_iff {ns : List Int} : ris ns = true ↔ ∀ i, i + 1 < ns.length → ns.getD i 0 < ns.getD (i + 1) 0 := by
  unfold ris
  rw [List.all_eq_true]
  constructor
  · intro h i hi
    have e : (ns.zip (ns.drop 1))[i]? = some (ns.getD i 0, ns.getD (i + 1) 0) := by
      rw [List.getElem?_zip_eq_some, List.getElem?_drop, List.getD_eq_getElem?_getD, List.getD_eq_getElem?_getD, List.getElem?_eq_getElem (show i < ns.length by omega), show 1 + i = i + 1 by omega, List.getElem?_eq_getElem hi]
      exact ⟨rfl, rfl⟩
    simpa using h _ (List.mem_of_getElem? e)
  · intro h r hr
    obtain ⟨i, hi⟩ := List.mem_iff_getElem?.mp hr
    rw [List.getElem?_zip_eq_some, List.getElem?_drop] at hi
    have h1 := (List.getElem?_eq_some_iff.mp hi.2).1
    have := h i (by omega)
    rw [List.getD_eq_getElem?_getD, List.getD_eq_getElem?_getD, hi.1, show i + 1 = 1 + i by omega, hi.2] at this
    simpa using this
def ptD (ps : List P2) (i : Nat) : P2 := ps.getD i (0, 0)
end Gz
namespace Gz
open PySem PySem.Spec PyProof.Rows L2
end Gz
namespace Gz
open PySem PySem.Spec PyProof.Rows L2
end Gz
set_option Elab.async false
set_option linter.all false
set_option maxRecDepth 100000
set_option maxHeartbeats 4000000
namespace Gz
open PySem PySem.Spec PyProof.Rows L2
def onl (s e : P2) (p q t b : Int) : Prop := (t - s.2 * b) * (e.1 - s.1) * q = (p - s.1 * q) * (e.2 - s.2) * b
def inP (ks : List P2) (p q : Int) (i : Nat) : Prop := i + 1 < ks.length ∧ (ptD ks i).1 * q ≤ p ∧ p ≤ (ptD ks (i + 1)).1 * q
def hit (ks : List P2) (p q : Int) : Prop := ∃ i, inP ks p q i
structure Led (ks : List P2) (p q t b : Int) : Prop where
  pos : 1 ≤ b
  low : gcdI t b = 1
  on : ∀ i, inP ks p q i → onl (ptD ks i) (ptD ks (i + 1)) p q t b
theorem ptD_map1 {ks : List P2} {i : Nat} (h : i < ks.length) : (ks.map (·.1)).getD i 0 = (ptD ks i).1 := by
  unfold ptD
  rw [List.getD_eq_getElem?_getD, List.getElem?_map, List.getD_eq_getElem?_getD, List.getElem?_eq_getElem h]; rfl
theorem ris_lt1 {ks : List P2} (h : ris (ks.map (·.1)) = true) : ∀ {i j : Nat}, i < j → j < ks.length → (ptD ks i).1 < (ptD ks j).1 := by
  rw [ris_iff] at h
  have st : ∀ i, i + 1 < ks.length → (ptD ks i).1 < (ptD ks (i + 1)).1 := fun i hi => by
    have := h i (by rw [List.length_map]; exact hi)
    rwa [ptD_map1 (by omega), ptD_map1 hi] at this
  intro i j hij hj
  induction j with
  | zero => omega
  | succ j ih =>
    by_cases e : i = j
    · subst e; exact st i hj
    · exact Int.lt_trans (ih (by omega) (by omega)) (st j hj)
theorem line_next {a b c : P2} {p q t w : Int} (hq : 0 < q) (hab : a.1 < b.1) (h1 : p = b.1 * q) (h : onl a b p q t w) : onl b c p q t w := by
  unfold onl at *
  subst h1
  have e : (t - b.2 * w) * ((b.1 - a.1) * q) = 0 := by grind
  have n : (b.1 - a.1) * q ≠ 0 := Int.mul_ne_zero (by omega) (by omega)
  have := (Int.mul_eq_zero.mp e).resolve_right n
  have e2 : t - b.2 * w = 0 := this
  rw [e2]; grind
theorem Led.of {ks : List P2} {p q t b : Int} {i : Nat} (hr : ris (ks.map (·.1)) = true) (hq : 0 < q) (h1 : 1 ≤ b) (h2 : gcdI t b = 1) (hi : inP ks p q i) (first : ∀ j, j < i → ¬ inP ks p q j) (h : onl (ptD ks i) (ptD ks (i + 1)) p q t b) : Led ks p q t b := by
  refine ⟨h1, h2, fun j hj => ?_⟩
  by_cases e : j = i
  · rw [e]; exact h
  by_cases lt : j < i
  · exact absurd hj (first j lt)
  by_cases e1 : j = i + 1
  · subst e1
    have l1 := ris_lt1 hr (i := i) (j := i + 1) (by omega) (by have := hj.1; omega)
    exact line_next hq l1 (by have := hi.2.2; have := hj.2.1; omega) h
  · have l1 := ris_lt1 hr (i := i + 1) (j := j) (by omega) (by have := hj.1; omega)
    have : (ptD ks (i + 1)).1 * q < (ptD ks j).1 * q := Int.mul_lt_mul_of_pos_right l1 hq
    have a1 := hi.2.2
    have a2 := hj.2.1
    omega
def IsR (H : Hp) (v : V) (t b : Int) : Prop := ∃ a, v = .ref a ∧ H a = some (.tup [.int t, .int b])
theorem IsR.p {K : PySem.W.Frag} {H : Hp} {v : V} {t b : Int} (h : IsR H v t b) : IsP K H v t b := let ⟨a, e, q⟩ := h; ⟨a, e, SqT.of q⟩
def SameBut (x : Addr) (H H' : Hp) : Prop := ∀ b o, b ≠ x → H b = some o → H' b = some o
end Gz
namespace Gz
open PySem PySem.Spec PyProof.Rows L2
end Gz
namespace Gz
open PySem PySem.Spec PyProof.Rows L2
theorem compGo_new {α β : Type} {R : Hp → V → α → Prop} {R' : Hp → V → β → Prop} {Ok : Hp → Prop} {ρ : L2.St} {tt : TT} {te : TE} {f : α → β} {Q' : List V → Hp → Prop} (mono : ∀ H H' x a, Same H H' → R H x a → R H' x a) (mono' : ∀ H H' x a, Same H H' → R' H x a → R' H' x a) :
    ∀ {xs : List V} {as : List α} {ys : List V} {bs : List β} {H : Hp}, All2 (R H) xs as → All2 (R' H) ys bs → (∀ H', Same H H' → Ok H') → (∀ x a, a ∈ as → ∀ H', Same H H' → R H' x a → ∀ Q, Q true H' → tt (some x :: ρ) H' Q) →
    (∀ x a, a ∈ as → ∀ H', Same H H' → R H' x a → ∀ Q : VK, (∀ H'' y, Same H' H'' → R' H'' y (f a) → Q y H'') → te (some x :: ρ) H' Q) →
    (∀ H' zs, Same H H' → All2 (R' H') zs (bs ++ as.map f) → Q' zs H') → compGo Ok ρ tt te xs ys H Q'
  | [], [], ys, bs, H, _, hy, hOk, _, _, q => ⟨hOk H (Same.refl H), q H ys (Same.refl H) (by simpa using hy)⟩
  | x :: xs, a :: as, ys, bs, H, h, hy, hOk, ht, he, q => by
    refine ⟨hOk H (Same.refl H), ht x a (.head _) H (Same.refl H) h.1 _ ?_⟩
    rw [if_pos rfl]
    refine he x a (.head _) H (Same.refl H) h.1 _ fun H2 y s2 r2 => ?_
    refine compGo_new mono mono' (bs := bs ++ [f a]) (h.2.imp fun x a r => mono _ _ _ _ s2 r) ((hy.imp fun x a r => mono' _ _ _ _ s2 r).snoc r2) (fun H' s' => hOk H' (s2.trans s')) (fun x a ha H' s' => ht x a (.tail _ ha) H' (s2.trans s')) (fun x a ha H' s' => he x a (.tail _ ha) H' (s2.trans s')) fun H' zs s' hz => ?_
    refine q H' zs (s2.trans s') ?_
    rw [List.map_cons]
    rwa [List.append_assoc] at hz
  | [], _ :: _, _, _, _, h, _, _, _, _, _ => h.elim
  | _ :: _, [], _, _, _, h, _, _, _, _, _ => h.elim
end Gz
namespace Gz
open PySem PySem.Spec PyProof.Rows L2
end Gz
set_option Elab.async false
set_option linter.all false
set_option maxRecDepth 100000
set_option maxHeartbeats 4000000
namespace Gz
open PySem PySem.Spec PyProof.Rows L2
theorem vals_ints {us : List Value} {ns : List Int} (h : IntsAre us ns) : Vals (ns.map V.int) us := by
  induction h with
  | nil => exact .nil
  | cons n t r ih => exact .cons ⟨t, rfl⟩ ih
theorem compGo_sel {α : Type} {R : Hp → V → α → Prop} {Ok : Hp → Prop} {ρ : L2.St} {tt : TT} {te : TE} {p : α → Bool} {Q' : List V → Hp → Prop} (mono : ∀ H H' x a, Same H H' → R H x a → R H' x a) : ∀ {xs : List V} {as : List α} {ys : List V} {H : Hp}, All2 (R H) xs as → (∀ H', Same H H' → Ok H') →
    (∀ x a, a ∈ as → ∀ H', Same H H' → R H' x a → ∀ Q, (∀ H'', Same H' H'' → Q (p a) H'') → tt (some x :: ρ) H' Q) → (∀ x H', Same H H' → ∀ Q : VK, Q x H' → te (some x :: ρ) H' Q) →
    (∀ H' zs, Same H H' → All2 (R H') zs (as.filter p) → Q' (ys ++ zs) H') → compGo Ok ρ tt te xs ys H Q'
  | [], [], ys, H, _, hOk, _, _, q => ⟨hOk H (Same.refl H), by simpa using q H [] (Same.refl H) trivial⟩
  | x :: xs, a :: as, ys, H, h, hOk, ht, he, q => by
    refine ⟨hOk H (Same.refl H), ht x a (.head _) H (Same.refl H) h.1 _ fun H1 s1 => ?_⟩
    have go := fun (ws : List V) (q2 : ∀ H' zs, Same H1 H' → All2 (R H') zs (as.filter p) → Q' (ws ++ zs) H') => compGo_sel (ys := ws) mono (h.2.imp fun x a r => mono _ _ _ _ s1 r) (fun H' s' => hOk H' (s1.trans s')) (fun x a ha H' s' => ht x a (.tail _ ha) H' (s1.trans s')) (fun x H' s' => he x H' (s1.trans s')) q2
    by_cases hb : p a = true
    · rw [if_pos hb]
      refine he x H1 s1 _ (go _ fun H' zs s' hz => ?_)
      have := q H' (x :: zs) (s1.trans s') (by rw [List.filter_cons, if_pos hb]; exact ⟨mono _ _ _ _ (s1.trans s') h.1, hz⟩)
      simpa using this
    · rw [if_neg hb]
      refine go _ fun H' zs s' hz => q H' zs (s1.trans s') ?_
      rw [List.filter_cons, if_neg hb]; exact hz
  | [], _ :: _, _, _, h, _, _, _, _ => h.elim
  | _ :: _, [], _, _, h, _, _, _, _ => h.elim
abbrev IsS2 (H : Hp) (v : V) (s : S2) : Prop := IsS H v s.1 s.2
theorem Sts.all : ∀ {H : Hp} {xs : List V} {ss : List S2}, Sts H xs ss → All2 (IsS2 H) xs ss
  | _, [], [], _ => trivial
  | _, _ :: _, _ :: _, h => ⟨h.1, Sts.all h.2⟩
  | _, [], _ :: _, h => h.elim
  | _, _ :: _, [], h => h.elim
def cellsFrom : En → List Int → List S2
  | lo, [] => [(lo, none)]
  | lo, z :: zs => (lo, some (z - 1)) :: cellsFrom (some z) zs
end Gz
namespace Gz
open PySem PySem.Spec PyProof.Rows L2
end Gz
namespace Gz
open PySem PySem.Spec PyProof.Rows L2
end Gz
set_option Elab.async false
set_option linter.all false
set_option maxRecDepth 100000
set_option maxHeartbeats 4000000
namespace Gz
open PySem PySem.Spec PyProof.Rows L2
section
variable {X : Cx} {CX : CXT} {k : Nat} {f C : Addr} {fd : FuncData} {ps : List Str} {ds : List Value} {dvs : List V} {sp : Sp} {E : XK} {x m : Str} {p pos apos : Pos} {e : Expr} {es : List Expr} {t : TA}
end
section
variable {X : Cx}
def tRng (ta : TA) : TE := fun σ H Q => ta σ H fun vs H1 => ∃ j : Int, vs = [.int j] ∧ 0 ≤ j ∧ j ≤ 1000 ∧ ∀ r, H1 r = none → Q (.ref r) (upd H1 r (.rng 0 j))
end
theorem All2.map_nat {f : Nat → Int} : ∀ (l : List Nat), All2 (fun x (k : Nat) => x = V.int (f k)) (l.map fun k => V.int (f k)) l
  | [] => trivial
  | a :: l => ⟨rfl, All2.map_nat l⟩
section
variable {X : Cx} {CX : CXT} {k : Nat} {f : Addr} {fd : FuncData} {ps : List Str} {ds : List Value} {dvs : List V} {sp : Sp} {E : XK} {m : Str} {pos apos : Pos} {o e : Expr} {es : List Expr} {ta : TE} {t : TA}
def tMethV (K : PySem.W.Frag) (m : Str) (f : Addr) (sp : Sp) (dvs : List V) (E : XK) (ta : TE) (t : TA) : TE := fun σ H Q => ta σ H fun x H1 => ∃ a C dx fs, x = .ref a ∧ H1 a = some (.ins C dx fs) ∧ Cls K C ∧ Meth K C m f ∧ fs.lookup m = none ∧
  t σ H1 fun vs H2 => sp (.ref a :: (vs ++ dvs)) H2 Q E
end
end Gz
set_option Elab.async false
set_option linter.all false
set_option maxRecDepth 100000
set_option maxHeartbeats 4000000
namespace Gz
open PySem PySem.Spec PyProof.Rows L2
def bits (bs : List Int) : Prop := ∀ x ∈ bs, x = 0 ∨ x = 1
theorem made_same {H : Hp} {x dx C : Addr} {fs : List (Str × V)} (hx : H x = none) (hd : H dx = none) (hn : dx ≠ x) : Same H (upd (upd H dx (.own x)) x (.ins C dx fs)) :=
  (same_upd hd).trans (same_upd (by rw [upd_ne (Ne.symm hn)]; exact hx))
abbrev Lk := Option (List Int)
def IsLx (xs : List Addr) (H : Hp) (v : V) : Lk → Prop
  | none => v = .non
  | some bs => ∃ l, v = .ref l ∧ l ∉ xs ∧ H l = some (.lst (bs.map V.int))
abbrev IsL := IsLx []
theorem IsLx.l {xs : List Addr} {H : Hp} {v : V} {k : Lk} (h : IsLx xs H v k) : IsL H v k := by
  cases k with
  | none => exact h
  | some bs => obtain ⟨l, a, b, c⟩ := h; exact ⟨l, a, (fun z => nomatch z), c⟩
end Gz
set_option Elab.async false
set_option linter.all false
set_option maxRecDepth 100000
set_option maxHeartbeats 4000000
namespace Gz
open PySem PySem.Spec PyProof.Rows L2
theorem ite_by {c : Prop} [Decidable c] {a b : Prop} (h : c → a) (h' : ¬ c → b) : if c then a else b := by
  by_cases z : c
  · rw [if_pos z]; exact h z
  · rw [if_neg z]; exact h' z
theorem dk_new {P : Program} {w : World} {H : Hp} (h : Heap) (hb : sysModules < h.objs.size) : ObjOk P w H (h.push { cls := .type "dict", data := .dict #[] }) h.objs.size (.dK []) :=
  ⟨Nat.zero_le _, beq_eq_false_iff_ne.mpr (Ne.symm (Nat.ne_of_lt hb)), [], .nil, Heap.DictOf.new h⟩
section
variable {X : Cx} {pos : Pos}
theorem Inv.big' {pins : List (Addr × Obj)} {σ : L2.St} {H : Hp} {s : Shared} (I : Inv X pins σ H s) : sysModules < s.heap.objs.size := by
  have h : mainGlobals < s.heap.objs.size := (I.mod.glob.keeps I.bk).lt
  exact Nat.lt_trans (by decide) h
def tDNew2 : TE := fun _ H Q => ∀ p, H p = none → Q (.ref p) (upd H p (.dT []))
theorem pe_dnew2 : PE X (.Dict [] [] pos) tDNew2 := fun pins s σ H Q I h => wpAny_Dict_empty
  ⟨.ref s.heap.objs.size, _, I.laid (a := s.heap.objs.size) (o := .dT []) (t' := s.toks) (fun _ _ z => Heap.get?_push_of_some _ z) (Nat.le_refl _)
    ⟨Nat.zero_le _, beq_eq_false_iff_ne.mpr (Ne.symm (Nat.ne_of_lt (Inv.big' I))), [], .nil, _, #[], 0, Heap.get?_push_size _ rfl, ⟨rfl, rfl, rfl⟩, rfl, rfl, List.nodup_nil⟩, rfl, h _ (I.hok.fresh (Nat.le_refl _))⟩
theorem pe_globI {x : Str} {n : Int} (h : ∃ t, X.mg x = some (.int n t)) (hg : Gl X x) (hd : (x == ("__debug__" : Str)) = false := by decide) : PE X (.Name x pos) (tC (.int n)) := by
  obtain ⟨t, ht⟩ := h
  exact pe_glob (v := .int n) hg ht ⟨t, rfl⟩ hd
end
end Gz
set_option Elab.async false
set_option linter.all false
set_option maxRecDepth 100000
set_option maxHeartbeats 4000000
namespace Gz
open PySem PySem.Spec PyProof.Rows L2
local macro_rules | `(tactic| walk_at "om") => `(tactic| ((try simp only [PySem.Addr] at *); omega))
section
variable {M : Model} {A : Around} {E : Value → Shared → Prop} {s : Shared} {B : Heap} {l outer : List Env} {env : Env} {L x C : Addr} {cls a0 mk : Value} {Q : Unit → Shared → Prop}
end
section
variable {P : Program} {w : World} {K : PySem.W.Frag} {mg : Str → Option Value} {base : Heap} {N : List Str} {qual : Str} {scope : Scope} {f : Addr} {cd : Value} {A : Around} {outer : List Env} {s : Shared} {H : Hp} {E : XK}
end
section
variable {X : Cx} {pins : List (Addr × Obj)} {σ : L2.St} {H2 : Hp} {s2 : Shared} {x : Str} {px pos : Pos} {elt iter : Expr} {ifs : List Expr} {scope : Scope} {cl : List (Str × Addr)} {fr : List Nat} {ys : List Str} {tt : TT} {te : TE}
end
section
variable {X : Cx} {F : Value → Shared → Prop} {pins pn : List (Addr × Obj)} {σ : L2.St} {H : Hp} {s : Shared} {A' : Around}
end
end Gz
set_option Elab.async false
set_option linter.all false
set_option maxRecDepth 100000
set_option maxHeartbeats 4000000
namespace Gz
open PySem PySem.Spec PyProof.Rows L2
def inB (ks : List P2) (r : Int) (i : Nat) : Bool := decide ((ptD ks i).1 ≤ r) && decide (r ≤ (ptD ks (i + 1)).1)
end Gz
set_option Elab.async false
set_option linter.all false
set_option maxRecDepth 100000
set_option maxHeartbeats 4000000
namespace Gz
open PySem PySem.Spec PyProof.Rows L2
local macro_rules | `(tactic| walk_at "om") => `(tactic| ((try simp only [PySem.Addr] at *); omega))
section
variable {κ : Type} [DecidableEq κ]
def outH (xs : List (κ × Addr × Value)) (k : κ) : List (κ × Addr × Value) := xs.filter fun x => decide (x.1 ≠ k)
theorem out_all {xs : List (κ × Addr × Value)} {k : κ} (h : k ∉ xs.map (·.1)) : outH xs k = xs := by
  unfold outH
  rw [List.filter_eq_self]
  intro x hx
  rw [decide_eq_true_eq]
  exact fun z => h (List.mem_map.mpr ⟨x, hx, z⟩)
theorem erase_out : ∀ {xs : List (κ × Addr × Value)} {k : κ} {j : Nat} {p : Addr × Value}, (xs.map (·.1)).Nodup → xs[j]? = some (k, p) → xs.eraseIdx j = outH xs k
  | [], _, _, _, _, h => by simp at h
  | x :: r, k, 0, p, hn, h => by
    rw [List.map_cons, List.nodup_cons] at hn
    simp at h
    subst h
    have e : outH ((k, p) :: r) k = outH r k := by unfold outH; rw [List.filter_cons, if_neg (by simp)]
    rw [e, out_all hn.1]; rfl
  | x :: r, k, j + 1, p, hn, h => by
    rw [List.map_cons, List.nodup_cons] at hn
    rw [List.getElem?_cons_succ] at h
    have ne : ¬ x.1 = k := fun z => hn.1 (z ▸ List.mem_map.mpr ⟨_, List.mem_of_getElem? h, rfl⟩)
    have e : outH (x :: r) k = x :: outH r k := by unfold outH; rw [List.filter_cons, if_pos (by simpa using ne)]
    rw [e, List.eraseIdx_cons_succ, erase_out hn.2 h]
theorem eraseIdx_map {α β : Type} (f : α → β) : ∀ (l : List α) (j : Nat), (l.map f).eraseIdx j = (l.eraseIdx j).map f
  | [], _ => rfl
  | _ :: _, 0 => rfl
  | x :: l, j + 1 => by rw [List.map_cons, List.eraseIdx_cons_succ, eraseIdx_map f l j]; rfl
theorem out_nodup {xs : List (κ × Addr × Value)} {k : κ} (hn : (xs.map (·.1)).Nodup) : ((outH xs k).map (·.1)).Nodup := hn.sublist ((List.filter_sublist).map _)
end
theorem nil_at {prog : Program} {w : World} {K : Type} [DecidableEq K] {knd : HeapKind prog w K} {es : Array DictEntry} {xs : List (K × Addr × Value)} {k : K} (he : es.toList = xs.map (entryOfKey knd)) (h : es.isEmpty = true) : atKey xs k = none := by
  have e : es.size = 0 := by simpa using h
  have l := size_of_entries he
  have : xs = [] := List.length_eq_zero_iff.mp (by omega)
  rw [this]; rfl
theorem KT.out {H : Hp} {kvs : List (List Key × V)} {xs : List (List Key × Addr × Value)} (r : KT H kvs xs) (k : List Key) : KT H (dropK kvs k) (outH xs k) := by
  unfold dropK outH
  induction r with
  | nil => exact .nil
  | @cons p q ps qs h t ih =>
    rw [List.filter_cons, List.filter_cons]
    by_cases e : p.1 = k
    · rw [if_neg (by simp [e]), if_neg (by simp [h.1.symm.trans e])]; exact ih
    · rw [if_pos (by simp [e]), if_pos (by rw [decide_eq_true_eq]; exact fun z => e (h.1.trans z))]; exact .cons h ih
section
variable {prog : Program} {w : World} {K : Type} [DecidableEq K] {knd : HeapKind prog w K} {A : Around} {E : Value → Shared → Prop} {s : Shared}
theorem take_outH {d a : Addr} {xs : List (K × Addr × Value)} {k : K} {Q : Option DictEntry → Shared → Prop} (hu : knd.room A) (hkey : knd.is s.heap k a) (hm : s.heap.DictOfH knd d xs) (hsz : xs.length ≤ sizeLine)
    (h0 : atKey xs k = none → Q none { s with toks := s.toks + knd.draws k })
    (h1 : ∀ p e, atKey xs k = some p → e.val = p.2 → ∀ h', h'.DictOfH knd d (outH xs k) → Heap.SameBut d s.heap h' → Q (some e) { s with heap := h', toks := s.toks + knd.draws k }) : wpAny (model prog w) A (Builtin.Dict.takeOut d (.ref a)) Q E s := by
  obtain ⟨o, es, ep, ho, hc, hd, he, his, hn⟩ := hm
  have hes : es.size ≤ sizeLine := by have e := size_of_entries he; omega
  unfold Builtin.Dict.takeOut
  try with_reducible refine wpAny_holding ?_
  refine wpAny_bind (knd.pyHash hu hkey ?_)
  refine wpAny_bind (wpAny_dictFind_heap (s := { s with toks := s.toks + knd.draws k }) hu hkey ho hd he his hn (fun hno => ?_) fun j p hj => ?_)
  · exact wpAny_pure (h0 (atKey_none_of_get hno))
  · refine wpAny_bind (wpAny_dictEntries (s := { s with toks := s.toks + knd.draws k }) ho hd ?_)
    have ej := entry_at he j
    rw [hj] at ej
    rw [ej]
    refine wpAny_bind (wpAny_updateDictKeys (hz := hes) (s := { s with toks := s.toks + knd.draws k }) ho hd (wpAny_pure (h1 p (entryOfKey knd (k, p)) (atKey_of_get hn hj) rfl _ ⟨_, _, ep + 1, Heap.get?_update_self _ ho (Obj.isFreed_of_dict (Obj.data_mapDictKeys hd _)), hc.mapDictKeys _, Obj.data_mapDictKeys hd _, ?_, ?_, out_nodup hn⟩ (Heap.SameBut.update ..))))
    · rw [← erase_out hn hj]
      have lt : j < es.size := by rw [size_of_entries he]; exact (List.getElem?_eq_some_iff.mp hj).1
      rw [Array.eraseIdxIfInBounds, dif_pos lt, Array.toList_eraseIdx, he, eraseIdx_map]
    · exact fun x hx => knd.keeps (his x (List.mem_filter.mp hx).1) ho hd (Heap.SameBut.update ..)
theorem popH {d a : Addr} {more : List Value} {Q : Value → Shared → Prop} {xs : List (K × Addr × Value)} {k : K} (hu : knd.room A.in1) (hkey : knd.is s.heap k a) (hd : (d == sysModules) = false) (hm : s.heap.DictOfH knd d xs) (hsz : xs.length ≤ sizeLine) (hmo : more = [] ∨ ∃ x, more = [x])
    (h1 : ∀ p, atKey xs k = some p → ∀ h' tk, h'.DictOfH knd d (outH xs k) → Heap.SameBut d s.heap h' → Q p.2 { s with heap := h', toks := tk })
    (h0 : atKey xs k = none → ∃ x, more = [x] ∧ ∀ tk, Q x { s with toks := tk }) : wpAny (model prog w) A (call (.builtin "dict.pop") (.ref d :: .ref a :: more)) Q E s := by
  have ha : argsOk "dict.pop" ⟨.ref d :: .ref a :: more, []⟩ := by
    rcases hmo with q | ⟨x, q⟩
    · subst q; exact PySem.F.args_dict_pop_2 _ _
    · subst q; exact PySem.F.args_dict_pop_3 _ _ _
  have g : MeetsIn prog w (Builtin.«dict.pop» ⟨.ref d :: .ref a :: more, []⟩) (fun A R s => knd.room A.in1 ∧ knd.is s.heap k a ∧ s.heap.DictOfH knd d xs ∧ (∀ p, atKey xs k = some p → ∀ h' tk, h'.DictOfH knd d (outH xs k) → Heap.SameBut d s.heap h' → R (.ok (.ret p.2)) { s with heap := h', toks := tk }) ∧
      (atKey xs k = none → ∃ x, more = [x] ∧ ∀ tk, R (.ok (.ret x)) { s with toks := tk })) := .of_wp fun A R s ⟨hu, hkey, hm, h1, h0⟩ => by
    obtain ⟨o, es, ep, ho, hc, hda, he, his, hn⟩ := id hm
    unfold Builtin.«dict.pop»
    refine wpAny_bind ?_
    unfold Builtin.Dict.keyAndDefault
    refine wpAny_bind (wpAny_notOrdered_dict hm.typeIs ?_)
    rcases hmo with rfl | ⟨dflt, rfl⟩
    · show wpAny _ _ (pure (d, Value.ref a, none)) _ _ s
      refine wpAny_pure ?_
      dsimp only
      rw [if_neg (show ¬ (keyPart (Value.ref a)).isSome = true from fun z => nomatch z)]
      refine wpAny_bind (wpAny_dictEntries ho hda (wpAny_bind (wpAny_pure ?_)))
      by_cases hemp : es.isEmpty = true
      · rw [if_pos hemp]
        refine wpAny_bind (wpAny_rule (wpAny_bind (wpAny_pure ?_)))
        rw [if_pos (show (none : Option DictEntry).isNone = true from rfl)]
        refine wpAny_bind (wpAny_missedRemoval_other hd ?_)
        obtain ⟨x, ex, hq⟩ := h0 (nil_at he hemp)
        cases ex
      · rw [if_neg hemp]
        refine wpAny_bind (take_outH hu hkey hm hsz (fun h00 => ?_) fun p e hp hev h' dd hs => ?_)
        · rw [if_pos (show (none : Option DictEntry).isNone = true from rfl)]
          refine wpAny_bind (wpAny_missedRemoval_other hd ?_)
          obtain ⟨x, ex, hq⟩ := h0 h00
          cases ex
        · rw [if_neg (show ¬ (some e).isNone = true from by simp)]
          exact wpAny_bind (wpAny_letGo (wpAny_pure ⟨e.val, rfl, by rw [hev]; exact h1 p hp h' _ dd hs⟩))
    · show wpAny _ _ (pure (d, Value.ref a, some dflt)) _ _ s
      refine wpAny_pure ?_
      dsimp only
      rw [if_neg (show ¬ (keyPart (Value.ref a)).isSome = true from fun z => nomatch z)]
      refine wpAny_bind (wpAny_dictEntries ho hda (wpAny_bind (wpAny_pure ?_)))
      by_cases hemp : es.isEmpty = true
      · rw [if_pos hemp]
        refine wpAny_bind (wpAny_rule (wpAny_bind (wpAny_pure ?_)))
        rw [if_pos (show (none : Option DictEntry).isNone = true from rfl)]
        refine wpAny_bind (wpAny_missedRemoval_other hd ?_)
        obtain ⟨x, ex, hq⟩ := h0 (nil_at he hemp)
        cases ex; exact wpAny_bind (wpAny_rule (wpAny_pure ⟨dflt, rfl, hq _⟩))
      · rw [if_neg hemp]
        refine wpAny_bind (take_outH hu hkey hm hsz (fun h00 => ?_) fun p e hp hev h' dd hs => ?_)
        · rw [if_pos (show (none : Option DictEntry).isNone = true from rfl)]
          refine wpAny_bind (wpAny_missedRemoval_other hd ?_)
          obtain ⟨x, ex, hq⟩ := h0 h00
          cases ex; exact wpAny_bind (wpAny_rule (wpAny_pure ⟨dflt, rfl, hq _⟩))
        · rw [if_neg (show ¬ (some e).isNone = true from by simp)]
          exact wpAny_bind (wpAny_letGo (wpAny_pure ⟨e.val, rfl, by rw [hev]; exact h1 p hp h' _ dd hs⟩))
  exact call_meetsIn PySem.F.slot_dict_pop hm.typeIs PySem.F.entry_dict_pop ha g ⟨hu, hkey, hm, h1, h0⟩
end
def RawAt (h : Heap) (d : Addr) (es : Array DictEntry) (ep : Nat) : Prop := ∃ o, h.get? d = some o ∧ o.ExactDict ∧ o.data = .dict es ep
theorem RawAt.at {h h' : Heap} {d : Addr} {es : Array DictEntry} {ep : Nat} (x : RawAt h d es ep) (e : ∀ o, h.get? d = some o → h'.get? d = some o) : RawAt h' d es ep := let ⟨o, ho, r⟩ := x; ⟨o, e o ho, r⟩
theorem RawAt.lt {h : Heap} {d : Addr} {es : Array DictEntry} {ep : Nat} (x : RawAt h d es ep) : d < h.objs.size := let ⟨_, ho, _⟩ := x; Heap.lt_size ho
theorem RawAt.ty {s : Shared} {d : Addr} {es : Array DictEntry} {ep : Nat} (x : RawAt s.heap d es ep) : s.TypeIs (.ref d) "dict" := let ⟨o, ho, hc, _⟩ := x; ⟨o, ho, hc.1⟩
section
variable {prog : Program} {w : World} {A : Around} {E : Value → Shared → Prop} {s : Shared} {d it : Addr} {es : Array DictEntry} {i ep : Nat}
theorem iter_raw {Q : Value → Shared → Prop} (lo : (d == sysModules) = false) (x : RawAt s.heap d es ep)
    (q : Q (.ref s.heap.objs.size) { s with heap := s.heap.push { cls := .type "dict_keyiterator", data := .fields #[.ref d, .int 0 0, .int es.size 0, .int ep 0] } }) : wpAny (model prog w) A (pyIter (.ref d)) Q E s := by
  have T := x.ty
  obtain ⟨o, ho, hc, hq⟩ := x
  refine wpAny_pyIter_slot T PySem.F.slot_dict_iter (wpAny_call_entry PySem.F.slot_dict_iter T PySem.F.entry_dict_iter ?_ (PySem.F.args_dict_iter_1 _))
  unfold Builtin.«dict.__iter__»; refine wpAny_bind ?_
  unfold Builtin.Dict.dictSlotNone; refine wpAny_bind (wpAny_notOrdered_dict T ?_)
  refine wpAny_pure (a := Value.ref d) ?_
  show wpAny _ A.in1 (Builtin.Dict.showsAll d >>= _) _ _ s
  unfold Builtin.Dict.showsAll; rw [if_neg (by rw [lo]; exact Bool.false_ne_true)]
  refine wpAny_bind (wpAny_pure (wpAny_bind (wpAny_dictEntries ho hq (wpAny_bind (wpAny_dictEpoch ho hq ?_)))))
  refine wpAny_bind (wpAny_newObj_type (wpAny_pure ⟨_, rfl, "dict_keyiterator", _, ⟨_, Heap.get?_push_size _ rfl, rfl⟩, PySem.F.slot_dict_keyiterator_next.lookup, ?_⟩))
  simpa [rawInt] using q
theorem next_raw {Q : Option Value → Shared → Prop} (hit : s.heap.IsKeyIter it d i es.size ep) (x : RawAt s.heap d es ep) (hi : i < es.size)
    (q : ∀ h', h'.IsKeyIter it d (i + 1) es.size ep → Heap.SameBut it s.heap h' → Q (some es[i].key) { s with heap := h' }) : wpAny (model prog w) A (pyNext (.ref it)) Q E s := by
  obtain ⟨o, ho, hc, hd⟩ := id hit
  obtain ⟨od, hod, hcd, hdd⟩ := x
  have T := hit.typeIs
  unfold pyNext
  refine wpAny_bind (wpAny_attempt (wpAny_callSpecial?_slot (name := Str.ofString "__next__") T PySem.F.slot_dict_keyiterator_next (wpAny_call_entry PySem.F.slot_dict_keyiterator_next T PySem.F.entry_dict_keyiterator_next ?_ (PySem.F.args_dict_keyiterator_next_1 _))))
  refine wpAny_bind (wpAny_pure (wpAny_bind (wpAny_bind ?_)))
  first | refine wpAny_bind (wpAny_typeNameOfWhole_keyiter T (wpAny_pure (wpAny_bind (wpAny_fieldsOf ho hd ?_)))) | refine wpAny_bind (wpAny_typeNameOf_keyiter T (wpAny_pure (wpAny_bind (wpAny_fieldsOf ho hd ?_))))
  have ow : Builtin.Dict_items.ownsTuple "dict_keyiterator" = false := by decide
  simp only [ow, Bool.false_eq_true, if_false]; show wpAny _ A.in1 (if (Value.ref d == Value.none) = true then _ else _) _ _ s
  rw [if_neg (show ¬ (Value.ref d == Value.none) = true from Bool.false_ne_true)]
  refine wpAny_bind (wpAny_pure (wpAny_bind (wpAny_dictEntries hod hdd ?_)))
  rw [if_neg (by simp)]; refine wpAny_bind (wpAny_pure (wpAny_bind (wpAny_dictEpoch hod hdd ?_)))
  rw [if_neg (by simp)]; refine wpAny_pure ?_
  simp only [show ¬ (i : Int) < 0 by omega, if_false, Int.toNat_natCast, Array.getElem?_eq_getElem hi]; refine wpAny_bind ?_
  first | refine wpAny_bind (wpAny_typeNameOfWhole_keyiter T (wpAny_pure (wpAny_bind (wpAny_isOneOf_keyiter T ?_)))) | refine wpAny_bind (wpAny_typeNameOf_keyiter T (wpAny_pure (wpAny_bind (wpAny_isOneOf_keyiter T ?_))))
  show wpAny _ A.in1 (setField (.ref it) 1 (rawInt ((i : Int) + 1)) >>= _) _ _ s
  refine wpAny_bind (wpAny_setField ho hd (by simp) ?_)
  have hit' : (s.heap.update it (Obj.mapFields (·.setIfInBounds 1 (rawInt ((i : Int) + 1))))).IsKeyIter it d (i + 1) es.size ep := ⟨_, Heap.get?_update_self _ ho (Obj.isFreed_of_fields (Obj.data_mapFields hd _)), (Obj.cls_mapFields ..).trans hc, by rw [Obj.data_mapFields hd]; simp [rawInt]⟩
  refine wpAny_bind (wpAny_holding (wpAny_bind (wpAny_isOneOf_keyiter (s := { s with heap := s.heap.update it (Obj.mapFields (·.setIfInBounds 1 (rawInt ((i : Int) + 1)))) }) hit'.typeIs ?_)))
  show wpAny _ A.in1 (pure es[i].key) _ _ _
  exact wpAny_pure (wpAny_pure ⟨_, rfl, wpAny_pure (q _ hit' (Heap.SameBut.update ..))⟩)
theorem end_raw {Q : Option Value → Shared → Prop} (hh : A.handled = none) (hit : s.heap.IsKeyIter it d es.size es.size ep) (x : RawAt s.heap d es ep)
    (q : ∀ h', Heap.ExtBut it s.heap h' → Q none { s with heap := h' }) : wpAny (model prog w) A (pyNext (.ref it)) Q E s := by
  obtain ⟨o, ho, hc, hd⟩ := id hit
  obtain ⟨od, hod, hcd, hdd⟩ := x
  have T := hit.typeIs
  unfold pyNext
  refine wpAny_bind (wpAny_attempt (wpAny_callSpecial?_slot (name := Str.ofString "__next__") T PySem.F.slot_dict_keyiterator_next (wpAny_call_entry PySem.F.slot_dict_keyiterator_next T PySem.F.entry_dict_keyiterator_next ?_ (PySem.F.args_dict_keyiterator_next_1 _))))
  refine wpAny_bind (wpAny_pure (wpAny_bind (wpAny_bind ?_)))
  first | refine wpAny_bind (wpAny_typeNameOfWhole_keyiter T (wpAny_pure (wpAny_bind (wpAny_fieldsOf ho hd ?_)))) | refine wpAny_bind (wpAny_typeNameOf_keyiter T (wpAny_pure (wpAny_bind (wpAny_fieldsOf ho hd ?_))))
  have ow : Builtin.Dict_items.ownsTuple "dict_keyiterator" = false := by decide
  simp only [ow, Bool.false_eq_true, if_false]; show wpAny _ A.in1 (if (Value.ref d == Value.none) = true then _ else _) _ _ s
  rw [if_neg (show ¬ (Value.ref d == Value.none) = true from Bool.false_ne_true)]
  refine wpAny_bind (wpAny_pure (wpAny_bind (wpAny_dictEntries hod hdd ?_)))
  rw [if_neg (by simp)]; refine wpAny_bind (wpAny_pure (wpAny_bind (wpAny_dictEpoch hod hdd ?_)))
  rw [if_neg (by simp)]; refine wpAny_pure ?_
  simp only [show ¬ (es.size : Int) < 0 by omega, if_false, Int.toNat_natCast, Array.getElem?_eq_none (Nat.le_refl es.size)]; refine wpAny_bind ?_
  first | refine wpAny_bind (wpAny_typeNameOfWhole_keyiter T (wpAny_pure ?_)) | refine wpAny_bind (wpAny_typeNameOf_keyiter T (wpAny_pure ?_))
  show wpAny _ A.in1 (setField (.ref it) 0 .none >>= _) _ _ s
  refine wpAny_bind (wpAny_setField ho hd (by simp) ?_); show wpAny _ A.in1 (newExc (.type "StopIteration") [] >>= _) _ _ _
  refine wpAny_bind ?_; simp only [newExc, newTuple]
  refine wpAny_bind (wpAny_newObj_type ?_ (by size_fits)); refine wpAny_bind (m := firstArgMember _ _) (wpAny_of_eq (a := Value.none) (by first | rfl | (simp only [firstArgMember]; rfl)) ?_)
  refine wpAny_newObj_type ?_ (by size_fits); simp only [raiseNew]
  refine wpAny_bind (wpAny_handled ?_); rw [show A.in1.handled = none from hh]
  refine wpAny_bind (wpAny_pure (wpAny_throw ?_)); refine wpAny_bind (wpAny_isInstance (T := "StopIteration") (b := true) ⟨_, Heap.get?_push_size _ rfl, rfl⟩ isSubtype_stop ?_)
  exact wpAny_pure (q _ (((Heap.SameBut.update ..).extBut.push _).push _))
theorem walk_raw (hh : A.handled = none) (I d : Addr) (hne : d ≠ I) (es : Array DictEntry) (ep : Nat) :
    Walks prog w A I [I, d] [I] es.size (fun i v => ∃ e, es[i]? = some e ∧ v = e.key) (fun i h => h.IsKeyIter I d i es.size ep ∧ RawAt h d es ep) where
  sub := fun b hb => by simp at hb; simp [hb]
  frame := fun _ _ _ st hk => ⟨st.1.at fun o e => hk I (by simp) o e, st.2.at fun o e => hk d (by simp) o e⟩
  item := fun i s Q E hi st hQ => by
    refine next_raw st.1 st.2 hi fun h' hit' hs' => ?_
    exact hQ _ h' s.toks ⟨es[i], Array.getElem?_eq_getElem hi, rfl⟩ ⟨hit', st.2.at fun o e => hs'.extBut d o hne e⟩ fun b o hb e => hs'.extBut b o (fun h => hb (by simp [h])) e
  done := fun s Q E st hQ => end_raw hh st.1 st.2 fun h' he' => hQ h' s.toks fun b o hb e => he' b o (fun h => hb (by simp [h])) e
  self := fun _ _ _ _ st hQ => wpAny_pyIter_keyiter st.1 hQ
theorem src_raw (lo : (d == sysModules) = false) : PySem.W.KdlSrc prog w "dict" d d es.size (fun i v => ∃ e, es[i]? = some e ∧ v = e.key) (fun h => RawAt h d es ep) where
  type := fun _ x => x.ty
  there := fun _ x => ⟨x.lt, x.lt⟩
  keep := fun _ _ x hk => x.at fun o e => hk d (.inl rfl) o e
  notList := by decide
  notTuple := by decide
  hint := fun _ _ _ _ x hq => PySem.W.kdl_hint_dict x.ty hq
  iter := fun _ _ hh x => ⟨_, _, (fun _ _ hq => iter_raw lo x hq), walk_raw hh _ d (Nat.ne_of_lt x.lt) es ep, ⟨⟨_, Heap.get?_push_size _ rfl, rfl, rfl⟩, x.at fun o e => Heap.get?_push_of_some _ e⟩⟩
end
section
variable {prog : Program} {w : World} {A : Around} {E : Value → Shared → Prop} {s : Shared}
def TupI (h : Heap) (vs : List Value) (kis : List (List Int)) (i : Nat) : Prop := ∃ (p : Addr) (o : Obj) (its : List Value) (m : Nat), vs[i]? = some (.ref p) ∧ h.get? p = some o ∧ o.cls = .type "tuple" ∧ o.data = .seq its.toArray m ∧ IntsAre its (kis.getD i []) ∧ its ≠ []
theorem TupI.keep {h h' : Heap} {vs : List Value} {kis : List (List Int)} {i : Nat} (x : TupI h vs kis i) (k : ∀ b o, h.get? b = some o → (∀ n xs, o ≠ seqObj "list" xs n) → h'.get? b = some o) : TupI h' vs kis i := by
  obtain ⟨p, o, its, m, h1, h2, h3, r⟩ := x
  exact ⟨p, o, its, m, h1, k p o h2 (fun n xs z => by rw [z] at h3; exact absurd (Value.type.inj h3) (by decide)), h3, r⟩
theorem ints_first {its : List Value} {ns : List Int} (h : IntsAre its ns) (hn : its ≠ []) : ∃ i t, its[0]? = some (.int i t) := by
  cases h with
  | nil => exact absurd rfl hn
  | cons => exact ⟨_, _, rfl⟩
theorem katTups_of {h : Heap} : ∀ (vs : List Value) (kis : List (List Int)), kis.length = vs.length → (∀ i, i < vs.length → TupI h vs kis i) → ∃ fs, PySem.W.KatTups h vs fs ∧ fs.length = vs.length ∧ ∀ v ∈ fs, ∃ i t, v = .int i t
  | [], _, _, _ => ⟨[], PySem.W.KatTups.nil, rfl, fun v z => by simp at z⟩
  | v :: vs, [], e, _ => by simp at e
  | v :: vs, k :: kis, e, hh => by
    obtain ⟨p, o, its, m, h1, h2, h3, h4, h5, h6⟩ := hh 0 (by simp)
    have h1' : v = .ref p := by simpa using h1
    subst h1'
    obtain ⟨i, t, hf⟩ := ints_first h5 h6
    obtain ⟨fs, a1, a2, a3⟩ := katTups_of vs kis (by simpa using e) fun i hi => by
      obtain ⟨p, o, its, m, h1, r⟩ := hh (i + 1) (by simpa using hi)
      exact ⟨p, o, its, m, by simpa using h1, by simpa using r⟩
    refine ⟨.int i t :: fs, PySem.W.KatTups.cons h2 h3 h4 (by simpa using hf) a1, by simp [a2], fun v hv => ?_⟩
    rcases List.mem_cons.mp hv with z | z
    · exact ⟨i, t, z⟩
    · exact a3 v z
theorem sort_tups {a : Addr} {vs : List Value} {kis : List (List Int)} {n : Nat} {P : PySem.Fin → Shared → Prop} (ho : s.heap.get? a = some (seqObj "list" vs.toArray n)) (hl : kis.length = vs.length) (h64 : vs.length < 64) (hk : ∀ i, i < vs.length → TupI s.heap vs kis i)
    (fin : ∀ h', (∀ b o, b ≠ a → s.heap.get? b = some o → h'.get? b = some o) → (∃ c, h'.get? a = some (seqObj "list" (List.toArray ((sortIx (ltK kis) vs.length).toList.map fun i => vs.getD i Value.none)) c)) → P (.done (.ret .none)) { s with heap := h' }) :
    wpAny (model prog w) A (Builtin.«list.sort» ⟨[.ref a], []⟩) P E s := by
  rw [list_sort_plain]
  have la : a < s.heap.objs.size := Heap.lt_size ho
  refine wpAny_bind (listItems_at ho rfl (wpAny_bind (listUpdate_at ho rfl ?_ (by rw [List.size_toArray, sizeLine_eq]; walk_at "om") (Nat.zero_le _))))
  obtain ⟨e1, oa⟩ : ∃ e1, (s.heap.update a (Obj.mapSeq fun _ => (#[] : Array Value))).get? a = some (seqObj "list" #[] e1) := ⟨_, get?_update_seq ho fun _ => #[]⟩
  have keep : ∀ b o, b ≠ a → s.heap.get? b = some o → (s.heap.update a (Obj.mapSeq fun _ => (#[] : Array Value))).get? b = some o := fun b o z e => (Heap.get?_update_other _ _ (Ne.symm z)).trans e
  refine wpAny_bind (seqEpoch_at oa rfl ?_)
  generalize s.heap.update a (Obj.mapSeq fun _ => (#[] : Array Value)) = g at oa keep ⊢
  refine wpAny_bind (wpAny_newTuple ?_ (by show vs.length ≤ _; rw [sizeLine_eq]; walk_at "om")); refine wpAny_bind (wpAny_newList ?_ (Nat.zero_le _))
  refine wpAny_holding ?_
  show wpAny (model prog w) A _ P E { s with heap := (g.push (seqObj "tuple" vs.toArray 0)).push (seqObj "list" #[] 0) }
  have oa2 : ((g.push (seqObj "tuple" vs.toArray 0)).push (seqObj "list" #[] 0)).get? a = some (seqObj "list" #[] e1) := Heap.get?_push_of_some _ (Heap.get?_push_of_some _ oa)
  have keep2 : ∀ b o, b ≠ a → s.heap.get? b = some o → ((g.push (seqObj "tuple" vs.toArray 0)).push (seqObj "list" #[] 0)).get? b = some o := fun b o z e => Heap.get?_push_of_some _ (Heap.get?_push_of_some _ (keep b o z e))
  generalize (g.push (seqObj "tuple" vs.toArray 0)).push (seqObj "list" #[] 0) = g2 at oa2 keep2 ⊢
  dsimp only
  have neT : ∀ b o, s.heap.get? b = some o → (∀ n xs, o ≠ seqObj "list" xs n) → b ≠ a := fun b o e z y => by rw [y, ho] at e; cases e; exact z _ _ rfl
  have out_len : ((sortIx (ltK kis) vs.length).toList.map fun i => vs.getD i Value.none).length = vs.length := by
    rw [List.length_map, (sortIx_ok (n := vs.length) (ltK_ord kis)).1.length_eq, List.length_range]
  have sz : (List.toArray ((sortIx (ltK kis) vs.length).toList.map fun i => vs.getD i Value.none)).size ≤ sizeLine + 1 := by rw [List.size_toArray, out_len, sizeLine_eq]; walk_at "om"
  have done : P (.done (.ret .none)) { s with heap := g2.update a (Obj.mapSeq fun _ => List.toArray ((sortIx (ltK kis) vs.length).toList.map fun i => vs.getD i Value.none)) } :=
    fin _ (fun b o z e => (Heap.get?_update_other _ _ (Ne.symm z)).trans (keep2 b o z e)) ⟨_, get?_update_seq oa2 fun _ => _⟩
  by_cases h2 : vs.toArray.size < 2
  · rw [if_pos h2, if_pos h2]
    refine wpAny_bind (wpAny_pure ?_)
    rw [StateT.run_pure]
    refine wpAny_bind (wpAny_pure ?_)
    dsimp only
    have self : (List.range vs.length).map (fun i => vs.getD i Value.none) = vs := by
      apply List.ext_getElem
      · simp
      · intro i h1 h2
        simp [List.getD_eq_getElem?_getD, h2]
    have e0 : (arrOf (SortSt.mk' general' (vs.toArray.zip vs.toArray) #[] 7 none)).map (·.2) = List.toArray ((sortIx (ltK kis) vs.length).toList.map fun i => vs.getD i Value.none) := by
      unfold sortIx
      rw [if_pos (by simpa using h2)]
      apply Array.toList_inj.mp
      rw [show (List.range vs.length).toArray.toList = List.range vs.length from rfl, self]
      show ((vs.toArray.zip vs.toArray).map (·.2)).toList = _
      simp [List.map_snd_zip]
    rw [e0]
    refine wpAny_bind (seqEpoch_at oa2 rfl (wpAny_bind (listUpdate_at oa2 rfl ?_ (Nat.zero_le _) sz)))
    simp only [bne_self_eq_false, Bool.false_eq_true, if_false]
    exact wpAny_pure done
  · rw [if_neg h2, if_neg h2]
    have h2' : 2 ≤ vs.length := by rw [List.size_toArray] at h2; walk_at "om"
    have hk2 : ∀ i, i < vs.length → TupI g2 vs kis i := fun i hi => (hk i hi).keep fun b o e z => keep2 b o (neT b o e z) e
    obtain ⟨fs, ht, lf, hi⟩ := katTups_of vs kis hl hk2
    have eT : (Value.type "int" != Value.type "tuple") = true := by decide
    refine wpAny_bind (PySem.W.kat_kind (s := { s with heap := g2 }) (T := .type "int") ht (by walk_at "om") (fun v hv => ?_) (by decide) ?_)
    · obtain ⟨i, t, rfl⟩ := hi v hv
      exact PySem.W.Looks.now
    rw [eT]
    have ask : (PySem.W.kas_sort vs.length).kasWp (PySem.W.kas_ask prog w A (tuples' true) vs) (fun p s' => s' = { s with heap := g2 } ∧ p = sortIx (ltK kis) vs.length) { s with heap := g2 } := by
      have pv := kasP_is _ (sort_ok (n := vs.length) (ltK_ord kis) (by walk_at "om"))
      refine kasP_wp (lt := ltK kis) (n := vs.length) (Ok := fun s' => s' = { s with heap := g2 }) (fun i j C s' hi hj e q => ?_) (fun p s' e q => ⟨e, ?_⟩) _ _ rfl pv
      · subst e
        obtain ⟨p1, o1, i1, m1, a1, b1, _, c1, d1, _⟩ := hk2 i hi
        obtain ⟨p2, o2, i2, m2, a2, b2, _, c2, d2, _⟩ := hk2 j hj
        show wpAny _ _ (keyLt' (tuples' true) (vs.getD i Value.none) (vs.getD j Value.none)) C _ _
        rw [List.getD_eq_getElem?_getD, List.getD_eq_getElem?_getD, a1, a2]
        have z1 := d1.length
        have z2 := d2.length
        exact PySem.W.kat_lt b1 c1 b2 c2 (by simpa using lex_run (b := true) (i := 0) d1 d2 (by simp [z1, z2]) (q _ rfl))
      · rw [q]; unfold sortIx; rw [if_neg (by walk_at "om")]
    refine wpAny_bind (wpAny_mono (PySem.W.kat_run (κ := tuples' true) (ks := vs) (vs := vs) (Q := fun st s' => s' = { s with heap := g2 } ∧ arrOf st = (sortIx (ltK kis) vs.length).map (PySem.W.kas_item (vs.toArray.zip vs.toArray)) ∧ failedOf st = none)
      rfl h2' h64 (fun p st s' b1 b2 b3 b4 => ⟨b4.1, by rw [b2, b4.2], b3⟩) ask) ?_ fun _ _ z => z)
    rintro ⟨⟨⟩, st⟩ s' ⟨rfl, har, hf⟩
    dsimp only
    rw [PySem.W.kat_snds rfl har]
    refine wpAny_bind (seqEpoch_at oa2 rfl (wpAny_bind (listUpdate_at oa2 rfl ?_ (Nat.zero_le _) sz)))
    rw [hf]
    simp only [bne_self_eq_false, Bool.false_eq_true, if_false]
    exact wpAny_pure done
theorem sorted_tups {r : Addr} {vs : List Value} {kis : List (List Int)} {Q : Value → Shared → Prop} (hl : kis.length = vs.length) (h64 : vs.length < 64) (hk : ∀ i, i < vs.length → TupI s.heap vs kis i)
    (hcol : ∀ (A' : Around) (Q' : List Value → Shared → Prop) (E' : Value → Shared → Prop), A'.handled = A.handled → (∀ h' tk, (∀ b o, s.heap.get? b = some o → h'.get? b = some o) → s.heap.objs.size ≤ h'.objs.size → Q' vs { s with heap := h', toks := tk }) → wpAny (model prog w) A' (collect (.ref r)) Q' E' s)
    (q : ∀ l h' tk, s.heap.objs.size ≤ l → (∀ b o, s.heap.get? b = some o → h'.get? b = some o) → (∃ c, h'.get? l = some (seqObj "list" (List.toArray ((sortIx (ltK kis) vs.length).toList.map fun i => vs.getD i Value.none)) c)) → Q (.ref l) { s with heap := h', toks := tk }) :
    wpAny (model prog w) A (call (.builtin "sorted") [.ref r]) Q E s := by
  refine Calls.call_function_entry kind_sorted plain_sorted entry_sorted (args_sorted1 _) ?_
  unfold Builtin.«sorted»
  refine wpAny_bind (m := checkCount "sorted" 1 1 _) (wpAny_pure (wpAny_bind (hcol _ _ _ rfl fun h1 tk keep hsz => ?_)))
  refine wpAny_bind (wpAny_newList ?_ (by rw [sizeLine_eq]; walk_at "om"))
  have oL : (h1.push (seqObj "list" vs.toArray 0)).get? h1.objs.size = some (seqObj "list" vs.toArray 0) := Heap.get?_push_size _ rfl
  have keep1 : ∀ b o, s.heap.get? b = some o → b ≠ h1.objs.size ∧ (h1.push (seqObj "list" vs.toArray 0)).get? b = some o := fun b o e => by
    have := Heap.lt_size e
    exact ⟨by walk_at "om", Heap.get?_push_of_some _ (keep b o e)⟩
  show wpAny _ A.in1 (holding [.ref h1.objs.size] (call (.builtin "list.sort") [.ref h1.objs.size]) >>= _) _ _ { s with heap := h1.push (seqObj "list" vs.toArray 0), toks := tk }
  generalize h1.push (seqObj "list" vs.toArray 0) = h2 at oL keep1 ⊢
  generalize h1.objs.size = l at oL keep1 hsz ⊢
  refine wpAny_bind (wpAny_holding (wpAny_call_entry slot_list_sort ⟨_, oL, rfl⟩ entry_list_sort ?body (args_list_sort _)))
  case body =>
    refine sort_tups (s := { s with heap := h2, toks := tk }) oL hl h64 (fun i hi => (hk i hi).keep fun b o e _ => (keep1 b o e).2) fun h' k c => ⟨_, rfl, wpAny_pure ⟨_, rfl, q l h' tk hsz (fun b o e => k b o (keep1 b o e).1 (keep1 b o e).2) c⟩⟩
theorem collect_srcT {T : String} {r d : Addr} {n : Nat} {P : Nat → Value → Prop} {OK : Heap → Prop} {Q : List Value → Shared → Prop} (K : PySem.W.KdlSrc prog w T r d n P OK) (hh : A.handled = none) (hok : OK s.heap) (hn : n ≤ sizeLine)
    (q : ∀ h' tk acc, (∀ b o, s.heap.get? b = some o → h'.get? b = some o) → s.heap.objs.size ≤ h'.objs.size → ItemsOf P acc n → Q acc.toList { s with heap := h', toks := tk }) : wpAny (model prog w) A (collect (.ref r)) Q E s := by
  have lt := K.there _ hok
  unfold collect
  refine wpAny_bind (wpAny_runValue (codeAny_builtin entry_proto_collect' ?_))
  rw [Around.under_plainId PySem.F.plain_proto_collect _]
  show wpAny _ A.in1 (newList [] >>= fun l => again (.builtin "list.__iadd__" ⟨[l, .ref r], []⟩)) _ _ s
  refine wpAny_bind (wpAny_newObj_type (wpAny_pure ⟨Code.quiet_builtin _ (by decide +kernel), codeAny_builtin entry_list_iadd' ?_⟩))
  rw [Around.under_plainId PySem.F.plain_list_iadd _]
  have oS : (s.heap.push { cls := .type "list", data := .seq ([] : List Value).toArray }).get? s.heap.objs.size = some { cls := .type "list", data := .seq #[] 0 } := Heap.get?_push_size _ rfl
  show wpAny _ A.in1 (Builtin.List.listExtendWith (.ref s.heap.objs.size) (.ref r) (.ref s.heap.objs.size)) _ _ { s with heap := s.heap.push { cls := .type "list", data := .seq ([] : List Value).toArray } }
  refine PySem.W.kdl_extend (R := fun r s' => match r with
    | .ok (.ret v) => wpAny (model prog w) A (match v with | .ref a => (do match (← load a).data with | .seq xs _ => pure xs.toList | _ => unsupported "internal:collect") | _ => unsupported "internal:collect") Q E s'
    | .ok _ => False
    | .error e => E e s') (s := { s with heap := s.heap.push { cls := .type "list", data := .seq ([] : List Value).toArray } }) K hh (K.keep _ _ hok fun b _ o e => Heap.get?_push_of_some _ e) s.heap.objs.size (Nat.ne_of_gt lt.1) (Nat.ne_of_gt lt.2) (.ref s.heap.objs.size) 0 oS (fun h' tk acc c hk hS hacc => ?_) hn
  show wpAny _ A (load s.heap.objs.size >>= _) _ _ _
  refine wpAny_bind (wpAny_load hS (wpAny_pure ?_))
  exact q h' tk acc (fun b o e => hk b o (Nat.ne_of_lt (Heap.lt_size e)) (Heap.get?_push_of_some _ e)) (Nat.le_of_lt (Heap.lt_size hS)) hacc
end
def KeyAs (H : Hp) (xs : List V) (kvs : List (List Key × V)) : Prop := All2 (fun x (kv : List Key × V) => ∃ a, x = .ref a ∧ H a = some (.tup (kv.1.map kV))) xs kvs
theorem KT.keys {H : Hp} {kvs : List (List Key × V)} {xs : List (List Key × Addr × Value)} (r : KT H kvs xs) : xs.map (·.1) = kvs.map (·.1) := by
  induction r with
  | nil => rfl
  | cons h t ih => rw [List.map_cons, List.map_cons, ih, h.1]
theorem KT.keyAs {H : Hp} {kvs : List (List Key × V)} {xs : List (List Key × Addr × Value)} (r : KT H kvs xs) : KeyAs H ((xs.map (·.2.1)).map V.ref) kvs := by
  induction r with
  | nil => exact trivial
  | cons h t ih => exact ⟨⟨_, rfl, h.2.1⟩, ih⟩
theorem KeyAs.keyT {K : PySem.W.Frag} {H : Hp} : ∀ {ys : List V} {kvs : List (List Key × V)} {kis : List (List Int)}, KeyAs H ys kvs → kvs.map (·.1) = kis.map (fun k => k.map Sum.inl) → (∀ k ∈ kis, k ≠ []) → KeyT K H ys kis
  | [], [], [], _, _, _ => trivial
  | [], [], _ :: _, _, e, _ => by simp at e
  | _ :: _, kv :: kvs, [], _, e, _ => by simp at e
  | y :: ys, kv :: kvs, k :: kis, h, e, hn => by
    rw [List.map_cons, List.map_cons] at e
    injection e with e1 e2
    obtain ⟨⟨a, rfl, ha⟩, t⟩ := h
    refine ⟨⟨a, rfl, ?_, hn k (.head _)⟩, KeyAs.keyT t e2 fun k hk => hn k (.tail _ hk)⟩
    rw [e1, List.map_map] at ha
    exact .inl (.inl ha)
  | [], _ :: _, _, h, _, _ => h.elim
  | _ :: _, [], _, h, _, _ => h.elim
theorem vals_refs : ∀ (as : List Addr), Vals (as.map V.ref) (as.map Value.ref)
  | [] => .nil
  | _ :: as => .cons rfl (vals_refs as)
section
variable {X : Cx} {pins : List (Addr × Obj)} {σ : L2.St} {H : Hp} {s : Shared} {p : Addr} {kvs : List (List Key × V)}
theorem raw_of (I : Inv X pins σ H s) (e : H p = some (.dT kvs)) : ∃ (as : List Addr) (es : Array DictEntry) (ep : Nat), KeyAs H (as.map V.ref) kvs ∧ (p == sysModules) = false ∧ RawAt s.heap p es ep ∧ es.size = as.length ∧ (∀ acc : Array Value, ItemsOf (fun i v => ∃ e, es[i]? = some e ∧ v = e.key) acc es.size → acc.toList = as.map Value.ref) ∧ as.length ≤ sizeLine := by
  obtain ⟨z, hd, xs, rel, o, es, ep, ho, hc, hdt, he, his, hn⟩ := dt_of I.hok e
  have hl : xs.length = kvs.length := (Paired.length rel).symm
  have hs : es.size = xs.length := size_of_entries he
  refine ⟨xs.map (·.2.1), es, ep, KT.keyAs rel, hd, ⟨o, ho, hc, hdt⟩, by rw [List.length_map]; exact hs, fun acc ha => ?_, by rw [List.length_map, hl]; exact z⟩
  refine List.ext_getElem? fun i => ?_
  rw [List.getElem?_map, List.getElem?_map]
  have la : acc.toList.length = es.size := by rw [Array.length_toList]; exact ha.1
  by_cases hi : i < es.size
  · obtain ⟨v, hv⟩ : ∃ v, acc.toList[i]? = some v := ⟨_, List.getElem?_eq_getElem (by omega)⟩
    obtain ⟨en, h1, h2⟩ := ha.2 i v (by rw [← Array.getElem?_toList]; exact hv)
    rw [entry_at he i] at h1
    cases hx : xs[i]? with
    | none => rw [hx] at h1; cases h1
    | some y => rw [hx] at h1; cases h1; rw [hv, h2]; rfl
  · rw [List.getElem?_eq_none (by omega), List.getElem?_eq_none (by omega)]; rfl
theorem call_listD (hc : X.calm = true) : CallR X (.type "list") (fun xs H Q => ∃ p kvs, xs = [.ref p] ∧ H p = some (.dT kvs) ∧ ∀ l ys, H l = none → KeyAs H ys kvs → Q (.ref l) (upd H l (.lst ys))) := by
  intro pins s σ H xs us Q I r h
  obtain ⟨p, kvs, rfl, e, q⟩ := h
  obtain ⟨u, rfl, rx⟩ := vals1 r
  cases rx
  obtain ⟨as, es, ep, hk, lo, ra, hs, hacc, hz⟩ := raw_of I e
  refine PySem.W.kdl_call (src_raw lo) (I.ok.hd hc) ra (by rw [hs]; exact hz) fun h' tk acc c keep hD ha => ?_
  have ea := hacc acc ha
  exact ⟨.ref s.heap.objs.size, _, I.laid (t' := tk) keep (Nat.le_refl _) (show ObjOk X.prog X.w _ h' _ (.lst (as.map V.ref)) from ⟨by rw [List.length_map]; exact hz, as.map Value.ref, c, vals_refs as, by rw [← ea, Array.toArray_toList]; exact hD⟩), rfl, q _ _ (I.hok.fresh (Nat.le_refl _)) hk⟩
theorem tupI_of (I : Inv X pins σ H s) {ks : List V} {kis : List (List Int)} {us : List Value} (h : KeyT X.K H ks kis) (r : Vals ks us) : ∀ i, i < us.length → TupI s.heap us kis i := fun i hi => by
  have hk : i < ks.length := by rw [r.length]; exact hi
  have hki : i < kis.length := by rw [← h.len]; exact hk
  obtain ⟨p, ep, hp⟩ := h.get (List.getElem?_eq_getElem hk)
  obtain ⟨u, eu, ru⟩ := r.get (List.getElem?_eq_getElem hk)
  rw [ep] at ru
  cases ru
  obtain ⟨its, rv, ⟨o, ho, hc, m, hd⟩, _⟩ := I.tuple hp
  refine ⟨p, o, its, m, eu, ho, hc, hd, intsAre_of rv, fun z => ?_⟩
  have nn : kis.getD i [] ≠ [] := by
    have all : ∀ {ks : List V} {ns : List (List Int)}, KeyT X.K H ks ns → ∀ n ∈ ns, n ≠ [] := by
      intro ks
      induction ks with
      | nil => intro ns h n hn; cases ns with
        | nil => simp at hn
        | cons _ _ => exact h.elim
      | cons k ks ih => intro ns h n hn; cases ns with
        | nil => exact h.elim
        | cons m ns =>
          obtain ⟨⟨_, _, _, hne⟩, t⟩ := h
          rcases List.mem_cons.mp hn with z | z
          · rw [z]; exact hne
          · exact ih t n z
    rw [List.getD_eq_getElem?_getD, List.getElem?_eq_getElem hki]
    exact all h _ (List.getElem_mem _)
  have := rv.length
  rw [List.length_map, z] at this
  exact nn (List.length_eq_zero_iff.mp this)
theorem sorted_fin (I : Inv X pins σ H s) {ks : List V} {kis : List (List Int)} {us : List Value} {Q : VK} {l : Addr} {h' : Heap} {tk : Nat} (r : Vals ks us) (hz : ks.length ≤ sizeLine) (hl : s.heap.objs.size ≤ l) (keep : ∀ b o, s.heap.get? b = some o → h'.get? b = some o)
    (hD : ∃ c, h'.get? l = some (seqObj "list" (List.toArray ((sortIx (ltK kis) us.length).toList.map fun i => us.getD i Value.none)) c)) (q : ∀ l, H l = none → Q (.ref l) (upd H l (.lst (sortL kis .non ks)))) : EP X pins σ Q (.ref l) { s with heap := h', toks := tk } := by
  obtain ⟨c, hD⟩ := hD
  have sv := sortL_vals (kis := kis) r
  rw [r.length] at sv
  exact ⟨.ref l, _, I.laid (t' := tk) keep hl (show ObjOk X.prog X.w _ h' _ (.lst (sortL kis .non ks)) from ⟨by rw [sortL_length]; exact hz, _, c, sv, hD⟩), rfl, q l (I.hok.fresh hl)⟩
theorem call_sortedT : CallR X (.builtin "sorted") (fun xs H Q => ∃ (a : Addr) (ks : List V) (kis : List (List Int)), xs = [.ref a] ∧ SqL X.K H a ks ∧ KeyT X.K H ks kis ∧ ks.length < 64 ∧ ∀ l, H l = none → Q (.ref l) (upd H l (.lst (sortL kis .non ks)))) := by
  intro pins s σ H xs us Q I r h
  obtain ⟨a, ks, kis, rfl, hS, hK, h64, q⟩ := h
  obtain ⟨u, rfl, ru⟩ := vals1 r
  cases ru
  obtain ⟨its, rv, hp, hz⟩ := I.list hS
  have hl : its.length = ks.length := rv.length.symm
  refine sorted_tups (kis := kis) (by rw [← hK.len, hl]) (by omega) (tupI_of I hK rv) (fun A' Q' E' _ hq => collect_list hp.isList (hq _ s.toks (fun b o e => ?_) ?_) (by rw [hl]; exact hz)) fun l h' tk h1 h2 h3 => sorted_fin I rv hz h1 h2 h3 q
  · have := Heap.lt_size e
    exact (Heap.get?_update_other _ _ (by walk_at "om")).trans (Heap.get?_push_of_some _ e)
  · rw [Heap.size_update, size_push']; exact Nat.le_succ _
theorem call_sortedD (hc : X.calm = true) : CallR X (.builtin "sorted") (fun xs H Q => ∃ (p : Addr) (kvs : List (List Key × V)) (kis : List (List Int)), xs = [.ref p] ∧ H p = some (.dT kvs) ∧ kvs.map (·.1) = kis.map (fun k => k.map Sum.inl) ∧ (∀ k ∈ kis, k ≠ []) ∧ kvs.length < 64 ∧
    ∀ l ys, H l = none → KeyAs H ys kvs → Q (.ref l) (upd H l (.lst (sortL kis .non ys)))) := by
  intro pins s σ H xs us Q I r h
  obtain ⟨p, kvs, kis, rfl, e, ek, hne, h64, q⟩ := h
  obtain ⟨u, rfl, rx⟩ := vals1 r
  cases rx
  obtain ⟨as, es, ep, hk, lo, ra, hs, hacc, hz⟩ := raw_of I e
  have la : as.length = kvs.length := by have := hk.len; rwa [List.length_map] at this
  have lk : kis.length = kvs.length := by have := congrArg List.length ek; simpa using this.symm
  have hK : KeyT X.K H (as.map V.ref) kis := hk.keyT ek hne
  have rv := vals_refs as
  refine sorted_tups (kis := kis) (vs := as.map Value.ref) (by rw [List.length_map]; omega) (by rw [List.length_map]; omega) (tupI_of I hK rv) (fun A' Q' E' hA hq => collect_srcT (src_raw lo) (hA.trans (I.ok.hd hc)) ra (by rw [hs]; exact hz) fun h' tk acc k1 k2 ha => ?_) fun l h' tk h1 h2 h3 => sorted_fin I rv (by rw [List.length_map]; exact hz) h1 h2 h3 fun l hl => q l _ hl hk
  rw [hacc acc ha]
  exact hq h' tk k1 k2
end
theorem dt_newH {P : Program} {w : World} {H' : Hp} {h' : Heap} {a : Addr} {kvs : List (List Key × V)} {xs : List (List Key × Addr × Value)} (z : kvs.length ≤ sizeLine) (lo : (a == sysModules) = false) (rel : KT H' kvs xs) (dd : h'.DictOfH (tupleKind (mixKind P w)) a xs) : ObjOk P w H' h' a (.dT kvs) := by
  obtain ⟨o, es, ep, h1, h2, h3, h4, _, h5⟩ := dd
  exact ⟨z, lo, xs, rel, o, es, ep, h1, h2, h3, h4, h5⟩
section
variable {X : Cx} {pins : List (Addr × Obj)} {σ : L2.St} {H : Hp} {s : Shared} {p b : Addr} {kvs : List (List Key × V)} {k : List Key} {A : Around} {E : Value → Shared → Prop}
theorem kt_upd {ob : HO} {xs : List (List Key × Addr × Value)} (e : H p = some (.dT kvs)) {kvs' : List (List Key × V)} (r : KT H kvs' xs) : KT (upd H p ob) kvs' xs :=
  KT.keeps r fun b ys z => by rw [upd_ne (fun y => by rw [y, e] at z; cases z)]; exact z
theorem d_popT {more : List Value} {Q : Value → Shared → Prop} (hu : A.units + 1 < cLine) (I : Inv X pins σ H s) (e : H p = some (.dT kvs)) (eb : H b = some (.tup (k.map kV))) (hm : more = [] ∨ ∃ x, more = [x])
    (h1 : ∀ v, valV kvs k = some v → ∀ w' s', Inv X pins σ (upd H p (.dT (dropK kvs k))) s' → RelV v w' → Q w' s') (h0 : valV kvs k = none → ∃ x, more = [x] ∧ ∀ s', Inv X pins σ H s' → Q x s') :
    wpAny (model X.prog X.w) A (call (.builtin "dict.pop") (.ref p :: .ref b :: more)) Q E s := by
  obtain ⟨z, lo, xs, rel, dd⟩ := dt_of I.hok e
  have hl : xs.length = kvs.length := (Paired.length rel).symm
  refine popH (tupleKind_room_in1 hu) (key_of I.hok eb) lo dd (by rw [hl]; exact z) hm (fun y hy h' tk dd' hs => ?_) fun hn => ?_
  · have rv := rel.val k
    rw [hy] at rv
    cases hv : valV kvs k with
    | none => rw [hv] at rv; exact (show False from rv).elim
    | some v =>
      rw [hv] at rv
      have he : ∃ q, h'.get? p = some q := let ⟨q, _, _, hq, _⟩ := dd'; ⟨q, hq⟩
      exact h1 v hv _ _ (d_write (t' := tk) I (by rw [e]; exact True.intro) hs he (dt_newH (Nat.le_trans (dropK_le kvs k) z) lo (kt_upd e (KT.out rel k)) dd')) rv
  · have rv := rel.val k
    rw [hn] at rv
    cases hv : valV kvs k with
    | some v => rw [hv] at rv; exact (show False from rv).elim
    | none =>
      obtain ⟨x, ex, q⟩ := h0 hv
      exact ⟨x, ex, fun tk => q _ (I.tok tk)⟩
end
def tDPopT1 (td ty : TE) : TE := fun σ H Q => td σ H fun x H1 => ∃ a, x = .ref a ∧ IsD H1 a ∧ ty σ H1 fun y H2 => ∃ b kvs k v, y = .ref b ∧ H2 a = some (.dT kvs) ∧ H2 b = some (.tup (k.map kV)) ∧ valV kvs k = some v ∧ Q v (upd H2 a (.dT (dropK kvs k)))
def tDPopT2 (td ty tx : TE) : TE := fun σ H Q => td σ H fun x H1 => ∃ a, x = .ref a ∧ IsD H1 a ∧ ty σ H1 fun y H2 => tx σ H2 fun z H3 => ∃ b kvs k, y = .ref b ∧ H3 a = some (.dT kvs) ∧ H3 b = some (.tup (k.map kV)) ∧
  (∀ v, valV kvs k = some v → Q v (upd H3 a (.dT (dropK kvs k)))) ∧ (valV kvs k = none → Q z H3)
section
variable {X : Cx} {o e f : Expr} {td ty tx : TE} {apos cpos : Pos}
theorem pe_dpopT1 (hu : X.A.units + 1 < cLine) (ho : PE X o td) (he : PE X e ty) (m : M1 X o "pop" apos e cpos) : PE X (.Call (.Attribute o "pop" apos) [e] [] cpos) (tDPopT1 td ty) := by
  intro pins s σ H Q I h
  refine wpAny_Call_method m.base m.few m.line PySem.F.plainAttrs_dict PySem.F.slot_dict_pop PySem.F.type_dict_pop (thn (ho pins s σ H _ I h) fun u s1 ⟨x, H1, I1, rx, a, ex, d, q1⟩ => ?_)
  subst ex; obtain rfl : u = Value.ref a := rx
  obtain ⟨t1, t2, _⟩ := isD_at I1 d
  refine ⟨t1, t2, ?_⟩; rw [m.trees]
  refine Calls.callWith_builtin rfl (Calls.evalArgs_plain (Calls.spliced_cons (thn (he pins s1 σ H1 _ I1 q1) fun iv s2 ⟨y, H2, I2, ry, b, kvs, k, v, ey, ea, eb, l, q2⟩ => Calls.spliced_nil ?_)))
  subst ey; obtain rfl : iv = Value.ref b := ry
  exact d_popT hu I2 ea eb (.inl rfl) (fun v' l' w' s3 I3 rw' => ⟨v', _, I3, rw', by rw [l] at l'; cases l'; exact q2⟩) fun l' => by rw [l] at l'; cases l'
theorem call_lenD : CallR X (.builtin "len") (fun xs H Q => ∃ p kvs, xs = [.ref p] ∧ H p = some (.dT kvs) ∧ Q (.int kvs.length) H) := by
  intro pins s σ H xs us Q I r h
  obtain ⟨p, kvs, rfl, e, q⟩ := h
  obtain ⟨u, rfl, rx⟩ := vals1 r
  cases rx
  obtain ⟨z, lo, xs, rel, o, es, ep, ho, hc, hdt, he, his, hn⟩ := dt_of I.hok e
  have hs : es.size = kvs.length := (size_of_entries he).trans (Paired.length rel).symm
  have T : s.TypeIs (.ref p) "dict" := ⟨o, ho, hc.1⟩
  have g : MeetsIn X.prog X.w (Builtin.«dict.__len__» ⟨[.ref p], []⟩) (fun _ R s => s.heap.get? p = some o ∧ R (.ok (.ret (.int kvs.length s.toks))) { s with toks := s.toks + 1 }) := .of_wp fun A R s ⟨ho, h⟩ => by
    show wpAny _ _ (dictSize p >>= _) _ _ s
    unfold dictSize
    refine wpAny_bind (wpAny_bind (wpAny_dictEntries ho hdt (wpAny_pure ?_))); show wpAny _ _ (Builtin.Dict.pendingCount p >>= _) _ _ s
    refine wpAny_bind (wpAny_pendingCount_other lo (wpAny_ret_mkInt ?_))
    rw [Nat.add_zero, hs]; exact h
  refine Calls.call_function_entry kind_len plain_len entry_len (args_len1 _) ?_
  unfold Builtin.«len»
  refine wpAny_bind (m := oneArg "len" _) (wpAny_pure (wpAny_bind (m := callSpecial? (.ref p) (Str.ofString "__len__")) (wpAny_callSpecial?_slot (name := Str.ofString "__len__") T PySem.F.slot_dict_len (call_meetsIn PySem.F.slot_dict_len T PySem.F.entry_dict_len (PySem.F.args_dict_len_1 _) g ⟨ho, ?_⟩))))
  show wpAny _ _ _ _ _ { s with toks := s.toks + 1 }
  refine wpAny_bind (wpAny_holding (wpAny_pure (wpAny_bind (wpAny_letGo ?_))))
  show wpAny _ _ (if ((kvs.length : Nat) : Int) < 0 then _ else _) _ _ _; rw [if_neg (by omega)]
  rw [sizeLine_eq] at z
  show wpAny _ _ (if ((kvs.length : Nat) : Int) ≥ 2 ^ 63 then _ else _) _ _ _; rw [if_neg (by omega)]
  exact wpAny_bind (wpAny_mkInt (wpAny_pure ⟨_, rfl, .int kvs.length, H, I.tok _, ⟨_, rfl⟩, q⟩))
end
section
variable {prog : Program} {w : World} {K : Type} [DecidableEq K] {knd : KeyKind prog w K} {A : Around} {E : Value → Shared → Prop} {s : Shared} {o d : Addr} {es : Array DictEntry} {ep : Nat}
def TupKeys (h : Heap) (es : Array DictEntry) : Prop := ∀ e ∈ es, (es.filter (·.hash == e.hash)).size ≤ 1 ∧ ∃ a ob, e.key = .ref a ∧ h.get? a = some ob ∧ ob.cls = .type "tuple"
theorem entries_tup {nm : String} {Q : Array DictEntry → Shared → Prop} (x : RawAt s.heap o es ep) (hk : TupKeys s.heap es) (q : Q es s) : wpAny (model prog w) A (Builtin.Dict.entriesForEmpty nm o) Q E s := by
  obtain ⟨ob, ho, _, hd⟩ := x
  unfold Builtin.Dict.entriesForEmpty
  refine wpAny_bind (wpAny_dictEntries ho hd ?_)
  refine wpAny_bind ?_
  rw [← Array.forIn_toList]
  refine wpAny_forIn_list _ (fun rest _ s' => s' = s ∧ ∀ e ∈ rest, e ∈ es) _ ?_ ?_ _ _ ⟨rfl, fun e he => Array.mem_toList_iff.mp he⟩
  · rintro e rest b s' ⟨rfl, hin⟩
    obtain ⟨h1, a, oa, ea, ha, hc⟩ := hk e (hin e (.head _))
    have T : s'.TypeIs e.key "tuple" := by rw [ea]; exact ⟨oa, ha, hc⟩
    have nx : ¬ 1 < (es.filter (·.hash == e.hash)).size := by omega
    refine wpAny_bind ?_
    rw [ea] at T ⊢
    unfold Builtin.Dict.quietEq
    refine wpAny_bind (wpAny_specialOf (name := Str.ofString "__eq__") T (show typeLookup (.type "tuple") (Str.ofString "__eq__") = pure (some (.builtin "tuple.__eq__")) from by rw [typeLookup_type, builtinLookup_eq_fast]; kernel_rfl) (wpAny_pure ?_))
    have ne : (some (Value.builtin "tuple.__eq__") == some (Value.builtin "object.__eq__")) = false := by decide +kernel
    rw [ne, if_pos (show (!false) = true from rfl), if_neg nx]
    exact wpAny_pure ⟨rfl, fun e he => hin e (.tail _ he)⟩
  · rintro b s' ⟨rfl, _⟩
    exact wpAny_pure q
theorem copy_raw {Q : Value → Shared → Prop} (lo : (o == sysModules) = false) (x : RawAt s.heap o es ep) (hk : TupKeys s.heap es) (hz : es.size ≤ sizeLine)
    (q : ∀ h' ep', RawAt h' s.heap.objs.size es ep' → Heap.SameBut s.heap.objs.size (s.heap.push { cls := .type "dict", data := .dict #[] }) h' → Q (.ref s.heap.objs.size) { s with heap := h' }) : wpAny (model prog w) A (call (.type "dict") [.ref o]) Q E s := by
  have lt := x.lt
  refine callType_codes (Q₁ := fun y s₁ => y = .ref s.heap.objs.size ∧ s₁ = { s with heap := s.heap.push { cls := .type "dict", data := .dict #[] } }) PySem.F.kt_called_dict (PySem.F.kt_typeCall_dict_1 _) PySem.F.entry_dict_init (kt_code_dict_new _ ⟨rfl, rfl⟩) ?_
  rintro y s₁ ⟨rfl, rfl⟩
  have xn : RawAt (s.heap.push { cls := .type "dict", data := .dict #[] }) s.heap.objs.size #[] 0 := ⟨_, Heap.get?_push_size _ rfl, ⟨rfl, rfl, rfl⟩, rfl⟩
  have xo : RawAt (s.heap.push { cls := .type "dict", data := .dict #[] }) o es ep := x.at fun _ e => Heap.get?_push_of_some _ e
  have hk' : TupKeys (s.heap.push { cls := .type "dict", data := .dict #[] }) es := fun e he => by
    obtain ⟨h1, a, oa, ea, ha, hc⟩ := hk e he
    exact ⟨h1, a, oa, ea, Heap.get?_push_of_some _ ha, hc⟩
  have Tn : Shared.TypeIs { s with heap := s.heap.push { cls := .type "dict", data := .dict #[] } } (.ref s.heap.objs.size) "dict" := RawAt.ty (s := { s with heap := s.heap.push { cls := .type "dict", data := .dict #[] } }) xn
  have To : Shared.TypeIs { s with heap := s.heap.push { cls := .type "dict", data := .dict #[] } } (.ref o) "dict" := RawAt.ty (s := { s with heap := s.heap.push { cls := .type "dict", data := .dict #[] } }) xo
  have hdo : ¬ s.heap.objs.size = o := by walk_at "om"
  refine ⟨Tn, PySem.F.args_dict_init_2 _ _, ?_⟩
  unfold Builtin.«dict.__init__»; refine wpAny_bind ?_
  unfold Builtin.Dict.selfAndRest; refine wpAny_bind (wpAny_notOrdered_dict Tn ?_)
  refine wpAny_pure (a := (s.heap.objs.size, [Value.ref o])) ?_
  show wpAny _ _ (Builtin.Dict.updateFrom "dict.__init__" s.heap.objs.size (.ref o) [] .none) _ _ _
  unfold Builtin.Dict.updateFrom; refine wpAny_bind (wpAny_typeOf To ?_)
  rw [if_neg (by decide)]; refine wpAny_bind ?_
  unfold Builtin.Dict.merge; refine wpAny_bind ?_
  unfold Builtin.Dict.readDirectly; refine wpAny_bind (wpAny_isInstance To isSubtype_dict_dict ?_)
  simp only [Bool.not_true, Bool.false_eq_true, if_false]; refine wpAny_bind (wpAny_specialOf To PySem.F.slot_dict_iter.lookup (wpAny_pure ?_))
  simp only [beq_self_eq_true, if_true]; refine wpAny_bind (wpAny_pure ?_)
  obtain ⟨on, hon, hcn, hdn⟩ := id xn
  obtain ⟨oo, hoo, hco, hdo'⟩ := id xo
  unfold Builtin.Dict.mergeDict
  rw [if_neg (by simpa using hdo)]
  unfold Builtin.Dict.showsAll
  rw [if_neg (by rw [lo]; exact Bool.false_ne_true)]; refine wpAny_bind (wpAny_pure (wpAny_bind (wpAny_dictEntries hoo hdo' ?_)))
  dsimp only
  by_cases hemp : es.isEmpty = true
  · have e0 : es = #[] := Array.isEmpty_iff.mp hemp
    subst e0
    rw [if_neg (by simp)]
    refine wpAny_bind (wpAny_dictEpoch hoo hdo' (wpAny_bind (wpAny_dictEntries hoo hdo' (wpAny_bind ?_))))
    rw [Std.Legacy.Range.forIn_eq_forIn_range']
    refine wpAny_pure (wpAny_pure ?_)
    exact wpAny_bind (wpAny_pure (wpAny_pure ⟨rfl, q _ _ xn (Heap.SameBut.refl _ _)⟩))
  · have nf : (decide (es.size ≤ 8) && es.all fun e => (keyPart e.key).isSome) = false := by
      rw [Bool.and_eq_false_iff]
      refine .inr (Bool.eq_false_iff.mpr fun z => ?_)
      have hs : 0 < es.size := by
        rcases Nat.eq_zero_or_pos es.size with h | h
        · exact absurd (by simpa using h) hemp
        · exact h
      have z0 := (Array.all_eq_true.mp z) 0 hs
      obtain ⟨_, a, _, ea, _⟩ := hk es[0] (Array.getElem_mem hs)
      rw [ea] at z0
      cases z0
    rw [nf, if_pos (show (!false) = true from rfl)]; refine wpAny_bind (wpAny_dictEntries hon hdn ?_)
    rw [if_pos (show (#[] : Array DictEntry).isEmpty = true from rfl)]; refine wpAny_bind (entries_tup xo hk' ?_)
    rw [if_pos (by simpa using hemp)]
    refine wpAny_bind (wpAny_updateDictKeysTo hon hdn (wpAny_pure ?_) (Nat.le_succ_of_le hz))
    exact wpAny_bind (wpAny_pure (wpAny_pure ⟨rfl, q _ _ ⟨_, Heap.get?_update_self _ hon (Obj.isFreed_of_dict (Obj.data_mapDictKeys hdn _)), hcn.mapDictKeys _, Obj.data_mapDictKeys hdn _⟩ (Heap.SameBut.update ..)⟩))
end
theorem filter_one {α : Type} {f : α → Int} : ∀ {l : List α}, (l.map f).Nodup → ∀ c, (l.filter fun x => f x == c).length ≤ 1
  | [], _, _ => by simp
  | x :: l, h, c => by
    rw [List.map_cons, List.nodup_cons] at h
    have ih := filter_one h.2 c
    rw [List.filter_cons]
    split
    · rename_i hx
      have e : (l.filter fun x => f x == c) = [] := by
        rw [List.filter_eq_nil_iff]
        intro y hy hyc
        have e1 : f x = c := by simpa using hx
        have e2 : f y = c := by simpa using hyc
        exact h.1 (by rw [e1, ← e2]; exact List.mem_map.mpr ⟨y, hy, rfl⟩)
      rw [e]; exact Nat.le_refl _
    · exact ih
theorem call_dictD {X : Cx} : CallR X (.type "dict") (fun xs H Q => ∃ p kvs, xs = [.ref p] ∧ H p = some (.dT kvs) ∧ (kvs.map fun kv => tupleKeyHash (mixKind X.prog X.w) kv.1).Nodup ∧ ∀ l, H l = none → Q (.ref l) (upd H l (.dT kvs))) := by
  intro pins s σ H xs us Q I r h
  obtain ⟨p, kvs, rfl, e, hh, q⟩ := h
  obtain ⟨u, rfl, rx⟩ := vals1 r
  cases rx
  obtain ⟨z, lo, xs, rel, o, es, ep, ho, hc, hdt, he, his, hn⟩ := dt_of I.hok e
  have hl : xs.length = kvs.length := (Paired.length rel).symm
  have hs : es.size = xs.length := size_of_entries he
  have ks : xs.map (·.1) = kvs.map (·.1) := KT.keys rel
  have hh' : (es.toList.map (·.hash)).Nodup := by
    have e1 : es.toList.map (·.hash) = kvs.map fun kv => tupleKeyHash (mixKind X.prog X.w) kv.1 := by
      rw [he, List.map_map, show (kvs.map fun kv => tupleKeyHash (mixKind X.prog X.w) kv.1) = (kvs.map (·.1)).map (tupleKeyHash (mixKind X.prog X.w)) by rw [List.map_map]; rfl, ← ks, List.map_map]; rfl
    rw [e1]; exact hh
  have hk : TupKeys s.heap es := fun en hen => by
    refine ⟨?_, ?_⟩
    · have := filter_one (f := fun x : DictEntry => x.hash) hh' en.hash
      rwa [← Array.toList_filter, Array.length_toList] at this
    · have : en ∈ xs.map (entryOfKey (tupleKind (mixKind X.prog X.w))) := he ▸ Array.mem_toList_iff.mpr hen
      obtain ⟨x, hx, rfl⟩ := List.mem_map.mp this
      obtain ⟨ob, _, _, h1, h2, _⟩ := his x hx
      exact ⟨x.2.1, ob, rfl, h1, h2⟩
  refine copy_raw lo ⟨o, ho, hc, hdt⟩ hk (by rw [hs, hl]; exact z) fun h' ep' ra sb => ?_
  obtain ⟨on, hon, hcn, hdn⟩ := ra
  have keep : ∀ b q, s.heap.get? b = some q → h'.get? b = some q := fun b q hq => (sb.2 b (Nat.ne_of_lt (Heap.lt_size hq))).trans (Heap.get?_push_of_some _ hq)
  have fr := I.hok.fresh (Nat.le_refl s.heap.objs.size)
  refine ⟨.ref s.heap.objs.size, _, I.laid (a := s.heap.objs.size) (o := .dT kvs) (t' := s.toks) keep (Nat.le_refl _) ⟨z, beq_eq_false_iff_ne.mpr (Ne.symm (Nat.ne_of_lt I.big)), xs, KT.keeps rel fun b ys y => ?_, on, es, ep', hon, hcn, hdn, he, hn⟩, rfl, q _ fr⟩
  rw [upd_ne (fun z => by rw [z, fr] at y; cases y)]; exact y
end Gz
set_option Elab.async false
set_option linter.all false
set_option maxRecDepth 100000
set_option maxHeartbeats 4000000
namespace Gz
open PySem PySem.Spec PyProof.Rows L2
local macro_rules | `(tactic| walk_at "om") => `(tactic| ((try simp only [PySem.Addr] at *); omega))
theorem miss_keys : typeLookup (.type "list") "keys" = pure none := by rw [typeLookup_type, builtinLookup_eq_fast]; kernel_rfl
section
variable {prog : Program} {w : World} {A : Around} {E : Value → Shared → Prop} {s : Shared}
theorem no_keys {a : Addr} {o : Obj} {xs : Array Value} {k : Nat} {Q : Option Value → Shared → Prop} (hx : s.heap.get? a = some o) (hc : o.cls = .type "list") (hdat : o.data = .seq xs k) (hd : o.dict = none) (hA : A.handled = none)
    (h : ∀ h' tk, (∀ b o, s.heap.get? b = some o → h'.get? b = some o) → Q none { s with heap := h', toks := tk }) : wpAny (model prog w) A (getAttr? (.ref a) "keys") Q E s := by
  obtain ⟨c, dct, dat, sl⟩ := o
  simp only at hc hdat hd
  subst hc hdat hd
  obtain ⟨hp, g, d, tk, os⟩ := s
  have hT : ∀ tk', (⟨hp, g, d, tk', os⟩ : Shared).TypeIs (.ref a) "list" := fun _ => ⟨_, hx, rfl⟩
  have f1 := sub_AttributeError
  have f3 := PySem.F.slot_list_getattribute.lookup
  have f4 := PySem.F.slot_list_getattribute.bind (.ref a)
  have f5 := am_list_getattr_none
  have hname : (["__module__", "__name__", "__qualname__", "__doc__", "__annotations__"] : List Str).contains ("keys" : Str) = false := by decide +kernel
  unfold getAttr? getAttrBy? getAttrBy
  repeat (any_goals (first | assumption | exact hT _ | ((with_reducible show wpAny _ _ (call (Value.builtin "list.__getattribute__") _ _) _ _ _); refine call_meets PySem.F.slot_list_getattribute (hT _) am_entry_list_getattribute (PySem.F.args_list_getattribute_2 _ _) (meets_getattribute_miss_list a xs k sl "keys" _ miss_keys hname) ⟨hx, hA, fun h' tk' e hx' => ?_⟩) | wp_step))
  obtain ⟨t', u', he⟩ := hx'.there
  show wpAny _ _ (getattributeRaised _ _ _ _ _ _ _) _ _ _
  unfold getattributeRaised
  repeat (any_goals (first | assumption | wp_step))
  exact h _ _ hx'.of.keeps
end
abbrev KD (prog : Program) (w : World) := tupleKind (mixKind prog w)
abbrev Row := Addr × List Key × Addr × Value
section
variable {prog : Program} {w : World} {A : Around} {E : Value → Shared → Prop} {s : Shared}
theorem tup_keep {h h' : Heap} {k : List Key} {a : Addr} (x : (KD prog w).is h k a) (e : ∀ o, h.get? a = some o → h'.get? a = some o) : (KD prog w).is h' k a :=
  let ⟨o, its, n, h1, r⟩ := x; ⟨o, its, n, e o h1, r⟩
def RowAt (prog : Program) (w : World) (h : Heap) (r : Row) : Prop := (∃ o m, h.get? r.1 = some o ∧ o.cls = .type "tuple" ∧ o.data = .seq #[.ref r.2.2.1, r.2.2.2] m) ∧ (KD prog w).is h r.2.1 r.2.2.1
theorem RowAt.keep {h h' : Heap} {r : Row} (x : RowAt prog w h r) (e1 : ∀ o, h.get? r.1 = some o → h'.get? r.1 = some o) (e2 : ∀ o, h.get? r.2.2.1 = some o → h'.get? r.2.2.1 = some o) : RowAt prog w h' r :=
  let ⟨⟨o, m, a, b⟩, c⟩ := x; ⟨⟨o, m, e1 o a, b⟩, tup_keep c e2⟩
def putsH (xs : List (List Key × Addr × Value)) (rows : List Row) : List (List Key × Addr × Value) := rows.foldl (fun acc r => storedH acc r.2.1 r.2.2.1 r.2.2.2) xs
theorem storedH_len (xs : List (List Key × Addr × Value)) (k : List Key) (a : Addr) (v : Value) : (storedH xs k a v).length ≤ xs.length + 1 := by
  unfold storedH; split <;> simp
theorem storedH_mem {xs : List (List Key × Addr × Value)} {k : List Key} {a : Addr} {v : Value} {x : List Key × Addr × Value} (h : x ∈ storedH xs k a v) : x.2.1 = a ∨ ∃ y ∈ xs, y.2.1 = x.2.1 := by
  unfold storedH at h
  split at h
  · obtain ⟨y, hy, rfl⟩ := List.mem_map.mp h
    refine .inr ⟨y, hy, ?_⟩
    unfold putAt; split <;> rfl
  · rcases List.mem_append.mp h with z | z
    · exact .inr ⟨x, z, rfl⟩
    · rw [List.mem_singleton.mp z]; exact .inl rfl
theorem dd_keep {h h' : Heap} {d : Addr} {xs : List (List Key × Addr × Value)} (x : h.DictOfH (KD prog w) d xs) (e : ∀ o, h.get? d = some o → h'.get? d = some o) (e2 : ∀ y ∈ xs, ∀ o, h.get? y.2.1 = some o → h'.get? y.2.1 = some o) : h'.DictOfH (KD prog w) d xs := by
  obtain ⟨o, es, ep, ho, hc, hd, he, his, hn⟩ := x
  exact ⟨o, es, ep, e o ho, hc, hd, he, fun y hy => tup_keep (his y hy) (e2 y hy), hn⟩
theorem entry_upd_loop : entryFor table "dict.update.loop" = some Builtin.«dict.update.loop» := entryFor_of_tree (by kernel_rfl)
theorem plain_upd_loop : plainId "dict.update.loop" = true := by decide +kernel
theorem upd_loop {R : Result → Shared → Prop} {I d : Addr} {fp wr : List Addr} {St : Nat → Heap → Prop} {rows : List Row} {res : Value} {P : Nat → Value → Prop} {n : Nat}
    (W : Walks prog w A.in1 I fp wr n P St) (en : n = rows.length) (hP : ∀ i v, P i v → ∃ r, rows[i]? = some r ∧ v = .ref r.1) (hd : d ∉ fp) (hu : (KD prog w).room A.in1) (far : ∀ r ∈ rows, (r.1 ∉ wr ∧ r.1 ≠ d) ∧ r.2.2.1 ∉ wr ∧ r.2.2.1 ≠ d) :
    ∀ (k j : Nat) (s : Shared) (xs : List (List Key × Addr × Value)), k + j = rows.length → St j s.heap → (∀ r ∈ rows, RowAt prog w s.heap r) → s.heap.DictOfH (KD prog w) d xs → (∀ y ∈ xs, y.2.1 ∉ wr ∧ y.2.1 ≠ d) → xs.length + k ≤ sizeLine →
      (∀ h' tk, h'.DictOfH (KD prog w) d (putsH xs (rows.drop j)) → (∀ b o, b ∉ wr → b ≠ d → s.heap.get? b = some o → h'.get? b = some o) → R (.ok (.ret res)) { s with heap := h', toks := tk }) →
      codeAny (model prog w) A (.builtin "dict.update.loop" ⟨[.ref d, .ref I, rawInt j, res], []⟩) R s := by
  have nd : d ∉ wr := fun z => hd (W.sub _ z)
  intro k
  induction k with
  | zero =>
    intro j s xs e st hr dd hy hz fin
    have e' : j = rows.length := by walk_at "om"
    refine codeAny_builtin entry_upd_loop ?_
    rw [Around.under_plainId plain_upd_loop _]
    show wpAny _ A.in1 (pyNext (.ref I) >>= _) _ _ s
    refine wpAny_bind (W.done s _ _ (en ▸ e' ▸ st) fun h1 tk kp => ?_)
    show wpAny _ A.in1 (Builtin.Dict.addKeywords d [] >>= _) _ _ _
    refine wpAny_bind (wpAny_pure (wpAny_pure ?_))
    refine fin h1 tk ?_ fun b o hw _ q => kp b o hw q
    rw [e', List.drop_length]
    exact dd_keep dd (fun o q => kp d o nd q) fun y hy' o q => kp _ o (hy y hy').1 q
  | succ k ih =>
    intro j s xs e st hr dd hy hz fin
    have lt : j < rows.length := by walk_at "om"
    refine codeAny_builtin entry_upd_loop ?_
    rw [Around.under_plainId plain_upd_loop _]
    show wpAny _ A.in1 (pyNext (.ref I) >>= _) _ _ s
    refine wpAny_bind (W.item j s _ _ (en ▸ lt) st fun v h1 tk pv st1 kp => ?_)
    obtain ⟨r, er, rfl⟩ := hP _ _ pv
    have mr := List.mem_of_getElem? er
    have hr1 : ∀ r ∈ rows, RowAt prog w h1 r := fun r h => (hr r h).keep (fun o q => kp _ o (far r h).1.1 q) fun o q => kp _ o (far r h).2.1 q
    have dd1 := dd_keep dd (fun o q => kp d o nd q) fun y hy' o q => kp _ o (hy y hy').1 q
    obtain ⟨⟨ob, m, g1, g2, g3⟩, g4⟩ := hr1 r mr
    show wpAny _ A.in1 (holding [.ref r.1] _ >>= _) _ _ _
    refine wpAny_bind (wpAny_holding ?_)
    refine wpAny_bind (wpAny_tryCatch ?_)
    unfold Builtin.Dict.pairItems
    refine wpAny_bind (wpAny_typeOf (T := "tuple") ⟨ob, g1, g2⟩ ?_)
    rw [if_pos (by decide)]
    refine wpAny_bind (wpAny_seqItems g1 g3 (wpAny_pure ?_))
    show wpAny _ A.in1 (holding [.ref r.2.2.1, r.2.2.2] (dictSet d (.ref r.2.2.1) r.2.2.2)) _ _ _
    refine wpAny_holding (wpAny_dictSet_heap (s := { s with heap := h1, toks := tk }) hu g4 dd1 (fun h2 dd2 hs => ?_) (by walk_at "om"))
    have k2 : ∀ b o, b ≠ d → h1.get? b = some o → h2.get? b = some o := fun b o hb q => (hs.2 b hb).trans q
    refine wpAny_pure ⟨plainId_quiet plain_upd_loop _, ?_⟩
    rw [show ((j : Int) + 1) = ((j + 1 : Nat) : Int) by simp]
    refine ih (j + 1) { s with heap := h2, toks := _ } _ (by walk_at "om") (W.frame _ _ _ st1 fun b hb o q => k2 b o (fun z => hd (z ▸ hb)) q) (fun r h => (hr1 r h).keep (fun o q => k2 _ o (far r h).1.2 q) fun o q => k2 _ o (far r h).2.2 q) dd2 (fun y hy' => ?_) ?_ fun h3 tk3 dd3 k3 => ?_
    · rcases storedH_mem hy' with z | ⟨u, hu', z⟩
      · rw [z]; exact (far r mr).2
      · rw [← z]; exact hy u hu'
    · have := storedH_len xs r.2.1 r.2.2.1 r.2.2.2
      walk_at "om"
    · refine fin h3 tk3 ?_ fun b o hw hb q => k3 b o hw hb (k2 b o hb (kp b o hw q))
      rw [List.drop_eq_getElem_cons lt]
      have eg : rows[j] = r := by rw [List.getElem?_eq_getElem lt] at er; exact Option.some.inj er
      rw [eg]; exact dd3
theorem dict_rows {l : Addr} {rows : List Row} {Q : Value → Shared → Prop} (hh : A.handled = none) (hu : A.units + 8 < cLine) (hl : PlainL s.heap l (rows.map fun r => Value.ref r.1).toArray) (hr : ∀ r ∈ rows, RowAt prog w s.heap r) (hz : rows.length ≤ sizeLine)
    (q : ∀ h' tk, h'.DictOfH (KD prog w) s.heap.objs.size (putsH [] rows) → (∀ b o, s.heap.get? b = some o → h'.get? b = some o) → Q (.ref s.heap.objs.size) { s with heap := h', toks := tk }) : wpAny (model prog w) A (call (.type "dict") [.ref l]) Q E s := by
  refine callType_codes (Q₁ := fun y s₁ => y = .ref s.heap.objs.size ∧ s₁ = { s with heap := s.heap.push { cls := .type "dict", data := .dict #[] } }) PySem.F.kt_called_dict (PySem.F.kt_typeCall_dict_1 _) PySem.F.entry_dict_init (kt_code_dict_new _ ⟨rfl, rfl⟩) ?_
  rintro y s₁ ⟨rfl, rfl⟩
  have K1 : ∀ b o, s.heap.get? b = some o → (s.heap.push { cls := .type "dict", data := .dict #[] }).get? b = some o := fun b o e => Heap.get?_push_of_some _ e
  have hd1 : (s.heap.push { cls := .type "dict", data := .dict #[] }).get? s.heap.objs.size = some { cls := .type "dict", data := .dict #[] } := Heap.get?_push_size _ rfl
  have Tn : Shared.TypeIs { s with heap := s.heap.push { cls := .type "dict", data := .dict #[] } } (.ref s.heap.objs.size) "dict" := ⟨_, hd1, rfl⟩
  refine ⟨Tn, PySem.F.args_dict_init_2 _ _, ?_⟩
  unfold Builtin.«dict.__init__»; refine wpAny_bind ?_
  unfold Builtin.Dict.selfAndRest; refine wpAny_bind (wpAny_notOrdered_dict Tn ?_)
  refine wpAny_pure (a := (s.heap.objs.size, [Value.ref l])) ?_
  show wpAny _ _ (Builtin.Dict.updateFrom "dict.__init__" s.heap.objs.size (.ref l) [] .none) _ _ _
  have fresh : ∀ b o, s.heap.get? b = some o → b ≠ s.heap.objs.size := fun b o e => Nat.ne_of_lt (Heap.lt_size e)
  generalize s.heap.objs.size = d at *
  generalize s.heap.push { cls := .type "dict", data := .dict #[] } = g1 at *
  obtain ⟨lo, ln, l1, l2, l3, l4⟩ := hl
  have hl1 := K1 _ _ l1
  have To : Shared.TypeIs { s with heap := g1 } (.ref l) "list" := ⟨lo, hl1, l2⟩
  unfold Builtin.Dict.updateFrom; refine wpAny_bind (wpAny_typeOf To ?_)
  rw [if_pos (by decide)]
  refine wpAny_bind (no_keys (s := { s with heap := g1 }) hl1 l2 l4 l3 hh fun g2 tk2 K2 => ?_)
  rw [if_pos (show (none : Option Value).isNone = true from rfl)]
  have hl2 : g2.IsList l (rows.map fun r => Value.ref r.1).toArray := ⟨lo, K2 _ _ hl1, l2, ln, l4⟩
  have hd2 := K2 _ _ hd1
  refine wpAny_bind (wpAny_rule (wpAny_bind (wpAny_pyIter_list (s := { s with heap := g2, toks := tk2 }) hl2 ?_)))
  have K3 : ∀ b o, g2.get? b = some o → b ≠ g2.objs.size ∧ (g2.push { cls := .type "list_iterator", data := .fields #[.ref l, .int 0 0] }).get? b = some o := fun b o e => ⟨Nat.ne_of_lt (Heap.lt_size e), Heap.get?_push_of_some _ e⟩
  have hI3 : (g2.push { cls := .type "list_iterator", data := .fields #[.ref l, .int 0 0] }).IsListIter g2.objs.size l 0 := ⟨_, Heap.get?_push_size _ rfl, rfl, rfl⟩
  have nl : l ≠ g2.objs.size := (K3 _ _ (K2 _ _ hl1)).1
  have hl3 : (g2.push { cls := .type "list_iterator", data := .fields #[.ref l, .int 0 0] }).IsList l (rows.map fun r => Value.ref r.1).toArray := ⟨lo, (K3 _ _ (K2 _ _ hl1)).2, l2, ln, l4⟩
  have dI := (K3 _ _ hd2).1
  have hd3 := (K3 _ _ hd2).2
  show wpAny _ _ (again (.builtin "dict.update.loop" ⟨[.ref d, .ref g2.objs.size, rawInt 0, .none], []⟩) >>= _) _ _ { s with heap := g2.push { cls := .type "list_iterator", data := .fields #[.ref l, .int 0 0] }, toks := tk2 }
  generalize g2.push { cls := .type "list_iterator", data := .fields #[.ref l, .int 0 0] } = g3 at *
  generalize g2.objs.size = I at *
  have W := Walks.list (prog := prog) (w := w) (A := A.in1.in1) hh I l nl (rows.map fun r => Value.ref r.1).toArray
  have K4 : ∀ b o, s.heap.get? b = some o → (b ∉ [I] ∧ b ≠ d) ∧ g3.get? b = some o := fun b o e => ⟨⟨fun z => (K3 _ _ (K2 _ _ (K1 _ _ e))).1 (List.mem_singleton.mp z), fresh b o e⟩, (K3 _ _ (K2 _ _ (K1 _ _ e))).2⟩
  refine wpAny_bind (wpAny_pure (wpAny_pure ⟨plainId_quiet plain_upd_loop _, ?_⟩))
  refine upd_loop (A := A.in1) (rows := rows) (fp := [I, l]) (wr := [I]) W (by simp) (fun i v hv => ?_) (fun z => ?_) (show A.units + 2 < cLine by walk_at "om") (fun r hr' => ?_) rows.length 0 _ [] (by simp) ⟨hI3, hl3⟩ (fun r hr' => ?_) ⟨_, #[], 0, hd3, ⟨rfl, rfl, rfl⟩, rfl, rfl, fun x hx => absurd hx (by simp), List.nodup_nil⟩ (fun y hy => absurd hy (by simp)) (by simpa using hz) fun h' tk dd kp => ?_
  · rw [List.getElem?_toArray, List.getElem?_map] at hv
    obtain ⟨r, h1, h2⟩ := Option.map_eq_some_iff.mp hv
    exact ⟨r, h1, h2.symm⟩
  · simp only [List.mem_cons, List.not_mem_nil, or_false] at z
    rcases z with z | z
    · exact dI z
    · exact fresh _ _ l1 z.symm
  · obtain ⟨⟨o1, m, a1, _⟩, o2, its, n2, a2, _⟩ := hr r hr'
    exact ⟨(K4 _ _ a1).1, (K4 _ _ a2).1⟩
  · exact (hr r hr').keep (fun o e => (K4 _ _ e).2) fun o e => (K4 _ _ e).2
  · exact ⟨rfl, q h' tk (by rw [List.drop_zero] at dd; exact dd) fun b o e => kp b o (K4 _ _ e).1.1 (K4 _ _ e).1.2 (K4 _ _ e).2⟩
end
def IsRow (H : Hp) (v : V) (kv : List Key × V) : Prop := ∃ p b, v = .ref p ∧ H p = some (.tup [.ref b, kv.2]) ∧ H b = some (.tup (kv.1.map kV))
def putsK (acc kvs : List (List Key × V)) : List (List Key × V) := kvs.foldl (fun acc kv => putK acc kv.1 kv.2) acc
theorem putsK_len : ∀ (kvs acc : List (List Key × V)), (putsK acc kvs).length ≤ acc.length + kvs.length
  | [], _ => Nat.le_refl _
  | kv :: kvs, acc => by
    have h1 := putsK_len kvs (putK acc kv.1 kv.2)
    have h2 := length_putK acc kv.1 kv.2
    show (putsK (putK acc kv.1 kv.2) kvs).length ≤ _
    rw [List.length_cons]; omega
abbrev KR (H : Hp) : List (List Key × V) → List Row → Prop := Paired fun kv r => kv.1 = r.2.1 ∧ H r.2.2.1 = some (.tup (kv.1.map kV)) ∧ RelV kv.2 r.2.2.2
theorem KT.puts {H : Hp} {kvs : List (List Key × V)} {rows : List Row} (r : KR H kvs rows) : ∀ {acc : List (List Key × V)} {xs : List (List Key × Addr × Value)}, KT H acc xs → KT H (putsK acc kvs) (putsH xs rows) := by
  induction r with
  | nil => exact fun h => h
  | @cons kv r ks rs h t ih =>
    intro acc xs g
    obtain ⟨h1, h2, h3⟩ := h
    have := KT.put g kv.1 h2 h3
    show KT H (putsK (putK acc kv.1 kv.2) ks) (putsH (storedH xs r.2.1 r.2.2.1 r.2.2.2) rs)
    rw [← h1]
    exact ih this
section
variable {X : Cx} {pins : List (Addr × Obj)} {σ : L2.St} {H : Hp} {s : Shared}
theorem rows_lie (I : Inv X pins σ H s) : ∀ {vs : List V} {its : List Value} {kvs : List (List Key × V)}, Vals vs its → All2 (IsRow H) vs kvs → ∃ rows : List Row, its = rows.map (fun r => Value.ref r.1) ∧ (∀ r ∈ rows, RowAt X.prog X.w s.heap r) ∧ KR H kvs rows
  | _, _, [], .nil, _ => ⟨[], rfl, fun r h => absurd h (by simp), .nil⟩
  | _, _, _ :: _, .nil, h => h.elim
  | _, _, [], .cons _ _, h => h.elim
  | _, _, kv :: kvs, .cons rv t, ⟨⟨p, b, ev, hp, hb⟩, hh⟩ => by
    obtain ⟨rows, e, h1, h2⟩ := rows_lie I t hh
    subst ev
    cases rv
    obtain ⟨its, r, ⟨o, ho, hc, m, hd⟩, _⟩ := I.tuple (SqT.of hp)
    cases r with
    | cons r1 r2 => cases r2 with
      | cons r3 r4 => cases r4; cases r1; exact ⟨(p, kv.1, b, _) :: rows, by rw [e]; rfl, fun r hr => by
          rcases List.mem_cons.mp hr with z | z
          · rw [z]; exact ⟨⟨o, m, ho, hc, hd⟩, key_of I.hok hb⟩
          · exact h1 r z, .cons ⟨rfl, hb, r3⟩ h2⟩
end
theorem call_dictP {X : Cx} (hc : X.calm = true) (hu : X.A.units + 8 < cLine) : CallR X (.type "dict") (fun xs H Q => ∃ (a : Addr) (vs : List V) (kvs : List (List Key × V)), xs = [.ref a] ∧ SqL X.K H a vs ∧ All2 (IsRow H) vs kvs ∧ ∀ l, H l = none → Q (.ref l) (upd H l (.dT (putsK [] kvs)))) := by
  intro pins s σ H xs us Q I r h
  obtain ⟨a, vs, kvs, rfl, hS, hR, q⟩ := h
  obtain ⟨u, rfl, rx⟩ := vals1 r
  cases rx
  obtain ⟨its, rv, hp, hz⟩ := I.list hS
  obtain ⟨rows, e, h1, h2⟩ := rows_lie I rv hR
  have hl : rows.length = vs.length := by rw [rv.length, e, List.length_map]
  have hk : kvs.length = rows.length := Paired.length h2
  rw [e] at hp
  refine dict_rows (I.ok.hd hc) hu hp h1 (by omega) fun h' tk dd keep => ?_
  obtain ⟨on, es, ep, hon, hcn, hdn, he, _, hn⟩ := dd
  have fr := I.hok.fresh (Nat.le_refl s.heap.objs.size)
  have kt := KT.puts h2 (acc := []) (xs := []) .nil
  have pl := putsK_len kvs []
  refine ⟨.ref s.heap.objs.size, _, I.laid (a := s.heap.objs.size) (o := .dT (putsK [] kvs)) (t' := tk) keep (Nat.le_refl _) ⟨by simp at pl; omega, beq_eq_false_iff_ne.mpr (Ne.symm (Nat.ne_of_lt I.big)), putsH [] rows, KT.keeps kt fun b ys y => ?_, on, es, ep, hon, hcn, hdn, he, hn⟩, rfl, q _ fr⟩
  rw [upd_ne (fun z => by rw [z, fr] at y; cases y)]; exact y
end Gz
set_option Elab.async false
set_option linter.all false
set_option maxRecDepth 100000
set_option maxHeartbeats 4000000
namespace Gz
open PySem PySem.Spec PyProof.Rows L2
local macro_rules | `(tactic| walk_at "om") => `(tactic| ((try simp only [PySem.Addr] at *); omega))
theorem pe_dgetA {X : Cx} {A : Around} {o i : Expr} {pos : Pos} {td ty : TE} (hu : A.units + 1 < cLine) (ho : PE X o td) (hi : PE X i ty) (hs : NoSl i) (eA : X.A = A := by rfl) : PE X (.Subscript o i pos) (tDGet td ty) := by
  subst eA; exact pe_dget hu ho hi hs
theorem pc_dnotinA {X : Cx} {A : Around} {o i : Expr} {td ty : TE} (hu : A.units + 1 < cLine) (hi : PE X i ty) (ho : PE X o td) (eA : X.A = A := by rfl) : PC X .NotIn i o (tDNotIn ty td) := by
  subst eA; exact pc_dnotin hu hi ho
theorem pe_fldK {X : Cx} {K : PySem.W.Frag} {e : Expr} {f : Str} {pos : Pos} {ta : TE} (he : PE X e ta) (hb : attributeBase e f X.env (eval e X.env) = eval e X.env) (eK : X.K = K := by rfl) : PE X (.Attribute e f pos) (tFld K ta f) := by
  subst eK; exact pe_fld he hb
abbrev Tb := List (P2 × S2)
def spot (i j : Int) : List Key := [.inl i, .inl j]
theorem spot_inj {a b : P2} (h : spot a.1 a.2 = spot b.1 b.2) : a = b := by
  unfold spot at h
  injection h with h1 h2
  injection h2 with h2 _
  exact Prod.ext (Sum.inl.inj h1) (Sum.inl.inj h2)
def valT (tb : Tb) (s : P2) : Option S2 := (tb.find? fun r => decide (r.1 = s)).map (·.2)
def putT (tb : Tb) (s : P2) (w : S2) : Tb := if (tb.any fun r => decide (r.1 = s)) = true then tb.map (fun r => if r.1 = s then (r.1, w) else r) else tb ++ [(s, w)]
def dropT (tb : Tb) (s : P2) : Tb := tb.filter fun r => decide (r.1 ≠ s)
def TabAs (H : Hp) : List (List Key × V) → Tb → Prop
  | [], [] => True
  | kv :: kvs, r :: tb => (kv.1 = spot r.1.1 r.1.2 ∧ IsS H kv.2 r.2.1 r.2.2) ∧ TabAs H kvs tb
  | _, _ => False
section
variable {H H' : Hp} {kvs : List (List Key × V)} {tb : Tb}
theorem TabAs.len : ∀ {kvs : List (List Key × V)} {tb : Tb}, TabAs H kvs tb → kvs.length = tb.length
  | [], [], _ => rfl
  | _ :: kvs, _ :: tb, h => congrArg (· + 1) (TabAs.len (kvs := kvs) (tb := tb) h.2)
  | [], _ :: _, h => h.elim
  | _ :: _, [], h => h.elim
theorem TabAs.imp (f : ∀ v a b, IsS H v a b → IsS H' v a b) : ∀ {kvs : List (List Key × V)} {tb : Tb}, TabAs H kvs tb → TabAs H' kvs tb
  | [], [], _ => trivial
  | _ :: kvs, _ :: tb, h => ⟨⟨h.1.1, f _ _ _ h.1.2⟩, TabAs.imp f (kvs := kvs) (tb := tb) h.2⟩
  | [], _ :: _, h => h.elim
  | _ :: _, [], h => h.elim
theorem TabAs.app : ∀ {kvs kvs' : List (List Key × V)} {tb tb' : Tb}, TabAs H kvs tb → TabAs H kvs' tb' → TabAs H (kvs ++ kvs') (tb ++ tb')
  | [], _, [], _, _, h => h
  | _ :: kvs, kvs', _ :: tb, tb', h, h' => ⟨h.1, TabAs.app (kvs := kvs) (tb := tb) h.2 h'⟩
  | [], _, _ :: _, _, h, _ => h.elim
  | _ :: _, _, [], _, h, _ => h.elim
theorem TabAs.keys : ∀ {kvs : List (List Key × V)} {tb : Tb}, TabAs H kvs tb → kvs.map (·.1) = tb.map fun r => spot r.1.1 r.1.2
  | [], [], _ => rfl
  | kv :: kvs, r :: tb, h => by rw [List.map_cons, List.map_cons, h.1.1, TabAs.keys (kvs := kvs) (tb := tb) h.2]
  | [], _ :: _, h => h.elim
  | _ :: _, [], h => h.elim
theorem TabAs.any (s : P2) : ∀ {kvs : List (List Key × V)} {tb : Tb}, TabAs H kvs tb → (kvs.any fun kv => decide (kv.1 = spot s.1 s.2)) = tb.any fun r => decide (r.1 = s)
  | [], [], _ => rfl
  | kv :: kvs, r :: tb, h => by
    rw [List.any_cons, List.any_cons, TabAs.any s (kvs := kvs) (tb := tb) h.2, h.1.1]
    congr 1
    by_cases e : r.1 = s
    · rw [e, decide_eq_true rfl, decide_eq_true rfl]
    · rw [decide_eq_false e, decide_eq_false fun z => e (spot_inj z)]
  | [], _ :: _, h => h.elim
  | _ :: _, [], h => h.elim
theorem TabAs.val (s : P2) : ∀ {kvs : List (List Key × V)} {tb : Tb}, TabAs H kvs tb → (valT tb s = none → valV kvs (spot s.1 s.2) = none) ∧ ∀ w, valT tb s = some w → ∃ v, valV kvs (spot s.1 s.2) = some v ∧ IsS H v w.1 w.2
  | [], [], _ => ⟨fun _ => rfl, fun w h => by cases h⟩
  | kv :: kvs, r :: tb, h => by
    have ih := TabAs.val s (kvs := kvs) (tb := tb) h.2
    by_cases e : r.1 = s
    · have e1 : valT (r :: tb) s = some r.2 := by simp [valT, List.find?_cons, e]
      rw [e1, valV_pos (h.1.1.trans (by rw [e]))]
      exact ⟨fun z => (by cases z), fun w z => (by cases z; exact ⟨_, rfl, h.1.2⟩)⟩
    · have e1 : valT (r :: tb) s = valT tb s := by simp [valT, List.find?_cons, e]
      rw [e1, valV_neg (fun z => e (spot_inj (h.1.1.symm.trans z)))]
      exact ih
  | [], _ :: _, h => h.elim
  | _ :: _, [], h => h.elim
theorem TabAs.repl {s : P2} {v : V} {w : S2} (hv : IsS H v w.1 w.2) : ∀ {kvs : List (List Key × V)} {tb : Tb}, TabAs H kvs tb → TabAs H (kvs.map fun kv => if kv.1 = spot s.1 s.2 then (kv.1, v) else kv) (tb.map fun r => if r.1 = s then (r.1, w) else r)
  | [], [], _ => trivial
  | kv :: kvs, r :: tb, h => by
    rw [List.map_cons, List.map_cons]
    refine ⟨?_, TabAs.repl hv (kvs := kvs) (tb := tb) h.2⟩
    by_cases e : r.1 = s
    · rw [if_pos e, if_pos (h.1.1.trans (by rw [e]))]; exact ⟨h.1.1, hv⟩
    · rw [if_neg e, if_neg (fun z => e (spot_inj (h.1.1.symm.trans z)))]; exact h.1
  | [], _ :: _, h => h.elim
  | _ :: _, [], h => h.elim
theorem TabAs.put {s : P2} {v : V} {w : S2} (h : TabAs H kvs tb) (hv : IsS H v w.1 w.2) : TabAs H (putK kvs (spot s.1 s.2) v) (putT tb s w) := by
  unfold putK putT
  rw [h.any s]
  split
  · exact h.repl hv
  · exact h.app ⟨⟨rfl, hv⟩, trivial⟩
theorem TabAs.drop {s : P2} : ∀ {kvs : List (List Key × V)} {tb : Tb}, TabAs H kvs tb → TabAs H (dropK kvs (spot s.1 s.2)) (dropT tb s)
  | [], [], _ => trivial
  | kv :: kvs, r :: tb, h => by
    have ih := TabAs.drop (s := s) (kvs := kvs) (tb := tb) h.2
    unfold dropK dropT at *
    rw [List.filter_cons, List.filter_cons]
    by_cases e : r.1 = s
    · have e2 : kv.1 = spot s.1 s.2 := h.1.1.trans (by rw [e])
      rw [if_neg (by simp [e2]), if_neg (by simp [e])]; exact ih
    · have e2 : ¬ kv.1 = spot s.1 s.2 := fun z => e (spot_inj (h.1.1.symm.trans z))
      rw [if_pos (by simp [e2]), if_pos (by simp [e])]; exact ⟨h.1, ih⟩
  | [], _ :: _, h => h.elim
  | _ :: _, [], h => h.elim
theorem TabAs.pts : ∀ {ys : List V} {kvs : List (List Key × V)} {tb : Tb}, TabAs H kvs tb → KeyAs H ys kvs → Pts H ys (tb.map (·.1))
  | [], [], [], _, _ => trivial
  | y :: ys, kv :: kvs, r :: tb, h, ⟨⟨a, e, ha⟩, t⟩ => ⟨⟨a, e, by rw [h.1.1] at ha; exact ha⟩, TabAs.pts (ys := ys) (kvs := kvs) (tb := tb) h.2 t⟩
  | [], _ :: _, _, _, h => h.elim
  | _ :: _, [], _, _, h => h.elim
  | _, [], _ :: _, h, _ => h.elim
  | _, _ :: _, [], h, _ => h.elim
end
def TabAt (H : Hp) (p : Addr) (tb : Tb) : Prop := ∃ kvs, H p = some (.dT kvs) ∧ TabAs H kvs tb
def Fr (H H' : Hp) : Prop := ∀ b o, (∀ kvs, o ≠ HO.dT kvs) → H b = some o → H' b = some o
def But (ps : List Addr) (H H' : Hp) : Prop := ∀ b o, b ∉ ps → H b = some o → H' b = some o
def Dcts (H : Hp) (ps : List Addr) : Prop := ∀ p ∈ ps, ∃ kvs, H p = some (.dT kvs)
section
variable {H H' H2 : Hp} {ps qs : List Addr} {p q : Addr} {tb : Tb}
theorem Fr.trans (a : Fr H H') (b : Fr H' H2) : Fr H H2 := fun c o h e => b c o h (a c o h e)
theorem _root_.L2.Same.fr (s : Same H H') : Fr H H' := fun b o _ e => s b o e
theorem _root_.L2.Same.but (s : Same H H') : But ps H H' := fun b o _ e => s b o e
theorem But.trans (a : But ps H H') (b : But ps H' H2) : But ps H H2 := fun c o h e => b c o h (a c o h e)
theorem But.mono (a : But ps H H') (h : ∀ b ∈ ps, b ∈ qs) : But qs H H' := fun c o z e => a c o (fun y => z (h c y)) e
theorem SameBut.but (a : SameBut p H H') (h : p ∈ ps) : But ps H H' := fun c o z e => a c o (fun y => z (y ▸ h)) e
theorem But.fr (a : But ps H H') (d : Dcts H ps) : Fr H H' := fun b o ho e => by
  by_cases hb : b ∈ ps
  · obtain ⟨kvs, hk⟩ := d b hb
    rw [hk] at e
    exact absurd (Option.some.inj e).symm (ho kvs)
  · exact a b o hb e
theorem fr_upd {kvs : List (List Key × V)} {o : HO} (h : H p = some (.dT kvs)) : Fr H (upd H p o) := fun b u hu e => by
  rw [upd_ne (fun z => by rw [z, h] at e; exact hu _ (Option.some.inj e).symm)]; exact e
theorem dcts1 {kvs : List (List Key × V)} (h : H p = some (.dT kvs)) : Dcts H [p] := fun b hb => ⟨kvs, (List.mem_singleton.mp hb) ▸ h⟩
theorem SameBut.fr {kvs : List (List Key × V)} (a : SameBut p H H') (h : H p = some (.dT kvs)) : Fr H H' := But.fr (SameBut.but a (.head _)) (dcts1 h)
theorem But.new (s : Same H H') (a : But ps H' H2) (h : ∀ b ∈ ps, b ∉ qs → H b = none) : But qs H H2 := fun b o hb e => by
  by_cases hp : b ∈ ps
  · have := h b hp hb; rw [this] at e; cases e
  · exact a b o hp (s b o e)
theorem IsS.fr {v : V} {a b : En} (h : IsS H v a b) (f : Fr H H') : IsS H' v a b := let ⟨p, e, hp⟩ := h; ⟨p, e, f _ _ (fun _ z => nomatch z) hp⟩
theorem IsPt.fr {v : V} {a : P2} (h : IsPt H v a) (f : Fr H H') : IsPt H' v a := let ⟨p, e, hp⟩ := h; ⟨p, e, f _ _ (fun _ z => nomatch z) hp⟩
theorem TabAt.fr (h : TabAt H p tb) (f : Fr H H') (e : ∀ kvs, H p = some (.dT kvs) → H' p = some (.dT kvs)) : TabAt H' p tb := let ⟨kvs, a, b⟩ := h; ⟨kvs, e _ a, b.imp fun _ _ _ z => z.fr f⟩
theorem TabAt.same (h : TabAt H p tb) (s : Same H H') : TabAt H' p tb := h.fr s.fr fun _ e => s _ _ e
theorem TabAt.but (h : TabAt H p tb) (b : But ps H H') (d : Dcts H ps) (hp : p ∉ ps) : TabAt H' p tb := h.fr (b.fr d) fun _ e => b _ _ hp e
theorem TabAt.dct (h : TabAt H p tb) : ∃ kvs, H p = some (.dT kvs) := let ⟨kvs, a, _⟩ := h; ⟨kvs, a⟩
theorem TabAt.ne (h : TabAt H p tb) (hq : H q = none) : p ≠ q := fun z => by obtain ⟨kvs, a, _⟩ := h; rw [z, hq] at a; cases a
theorem seq_fr {K : PySem.W.Frag} {a : Addr} {xs : List V} (h : SqL K H a xs) (f : Fr H H') : SqL K H' a xs := by
  rcases h with (h | ⟨o, h⟩) | h
  · exact .inl (.inl (f _ _ (fun _ z => nomatch z) h))
  · exact .inl (.inr ⟨o, f _ _ (fun _ z => nomatch z) h⟩)
  · exact .inr h
end
theorem valT_mem {tb : Tb} {r : P2 × S2} (hn : (tb.map (·.1)).Nodup) (h : r ∈ tb) : valT tb r.1 = some r.2 := by
  induction tb with
  | nil => cases h
  | cons x l ih =>
    rw [List.map_cons, List.nodup_cons] at hn
    rcases List.mem_cons.mp h with z | z
    · rw [← z]; simp [valT, List.find?_cons]
    · have e : ¬ x.1 = r.1 := fun y => hn.1 (y ▸ List.mem_map.mpr ⟨r, z, rfl⟩)
      have : valT (x :: l) r.1 = valT l r.1 := by simp [valT, List.find?_cons, e]
      rw [this, ih hn.2 z]
theorem valT_in {tb : Tb} {s : P2} {w : S2} (h : valT tb s = some w) : (s, w) ∈ tb := by
  unfold valT at h
  obtain ⟨r, h1, h2⟩ := Option.map_eq_some_iff.mp h
  have := List.mem_of_find?_eq_some h1
  have e := List.find?_some h1
  have e : r.1 = s := by simpa using e
  rw [← h2, ← e]; exact this
theorem valT_none {tb : Tb} {s : P2} (h : s ∉ tb.map (·.1)) : valT tb s = none := by
  cases hv : valT tb s with
  | none => rfl
  | some w => exact absurd (List.mem_map.mpr ⟨_, valT_in hv, rfl⟩) h
def onB (e t : Int) (s : P2) : Prop := (0 ≤ s.1 ∧ s.1 < e) ∧ 0 ≤ s.2 ∧ s.2 < t
instance (e t : Int) (s : P2) : Decidable (onB e t s) := by unfold onB; infer_instance
def okT (e t : Int) (tb : Tb) : Prop := (tb.map (·.1)).Nodup ∧ ∀ r ∈ tb, onB e t r.1
theorem putT_len (tb : Tb) (s : P2) (w : S2) : (putT tb s w).length ≤ tb.length + 1 := by
  unfold putT; split <;> simp
theorem dropT_len (tb : Tb) (s : P2) : (dropT tb s).length ≤ tb.length := List.length_filter_le _ _
theorem okT.put {e t : Int} {tb : Tb} {s : P2} {w : S2} (h : okT e t tb) (hs : onB e t s) : okT e t (putT tb s w) := by
  unfold putT
  split
  · refine ⟨?_, fun r hr => ?_⟩
    · have : (tb.map fun r => if r.1 = s then (r.1, w) else r).map (·.1) = tb.map (·.1) := by
        rw [List.map_map]
        refine List.map_congr_left fun r _ => ?_
        show (if r.1 = s then (r.1, w) else r).1 = r.1
        split <;> rfl
      rw [this]; exact h.1
    · obtain ⟨x, hx, rfl⟩ := List.mem_map.mp hr
      have := h.2 x hx
      split <;> exact this
  · rename_i z
    refine ⟨?_, fun r hr => ?_⟩
    · rw [List.map_append]
      refine nd_snoc h.1 fun y => z ?_
      obtain ⟨x, hx, e⟩ := List.mem_map.mp y
      rw [List.any_eq_true]
      exact ⟨x, hx, by simpa using e⟩
    · rcases List.mem_append.mp hr with y | y
      · exact h.2 r y
      · rw [List.mem_singleton.mp y]; exact hs
theorem okT.drop {e t : Int} {tb : Tb} {s : P2} (h : okT e t tb) : okT e t (dropT tb s) :=
  ⟨h.1.sublist ((List.filter_sublist).map _), fun r hr => h.2 r (List.mem_filter.mp hr).1⟩
theorem okT.nil {e t : Int} : okT e t [] := ⟨List.nodup_nil, fun r h => by cases h⟩
def keyI (tb : Tb) : List (List Int) := tb.map fun r => [r.1.1, r.1.2]
def srtT (tb : Tb) : Tb := sortL (keyI tb) ((0, 0), (none, none)) tb
theorem srtT_mem {tb : Tb} {r : P2 × S2} (h : r ∈ srtT tb) : r ∈ tb := sortL_perm.mem_iff.mp h
theorem srtT_len {tb : Tb} : (srtT tb).length = tb.length := sortL_length
theorem srtT_ok {e t : Int} {tb : Tb} (h : okT e t tb) : okT e t (srtT tb) := ⟨(sortL_perm.map _).nodup_iff.mpr h.1, fun r hr => h.2 r (srtT_mem hr)⟩
theorem All2.sort {α : Type} {R : V → α → Prop} {xs : List V} {as : List α} {d : α} {kis : List (List Int)} (h : All2 R xs as) : All2 R (sortL kis .non xs) (sortL kis d as) := by
  have hl := h.len
  have hp := (sortIx_ok (n := xs.length) (ltK_ord kis)).1
  unfold sortL
  rw [← hl]
  have gen : ∀ l : List Nat, (∀ i ∈ l, i < xs.length) → All2 R (l.map fun i => xs.getD i .non) (l.map fun i => as.getD i d) := by
    intro l
    induction l with
    | nil => intro _; exact trivial
    | cons i l ih =>
      intro q
      have hi := q i (.head _)
      obtain ⟨s, es, hs⟩ := h.get (List.getElem?_eq_getElem hi)
      refine ⟨?_, ih fun j hj => q j (.tail _ hj)⟩
      show R (xs.getD i .non) (as.getD i d)
      rw [List.getD_eq_getElem?_getD, List.getD_eq_getElem?_getD, es, List.getElem?_eq_getElem hi]
      exact hs
  exact gen _ fun i hi => by simpa using hp.mem_iff.mp hi
theorem All2.bind {α β : Type} {R : V → α → Prop} {f : β → α} : ∀ {xs : List V} {bs : List β}, All2 R xs (bs.map f) → All2 (fun x b => R x (f b)) xs bs
  | [], [], _ => trivial
  | _ :: _, _ :: _, h => ⟨h.1, All2.bind h.2⟩
  | [], _ :: _, h => h.elim
  | _ :: _, [], h => h.elim
theorem All2.bmap {α β : Type} {R : V → α → Prop} {f : β → α} : ∀ {xs : List V} {bs : List β}, All2 (fun x b => R x (f b)) xs bs → All2 R xs (bs.map f)
  | [], [], _ => trivial
  | _ :: _, _ :: _, h => ⟨h.1, All2.bmap h.2⟩
  | [], _ :: _, h => h.elim
  | _ :: _, [], h => h.elim
theorem keyI_keys {H : Hp} {kvs : List (List Key × V)} {tb : Tb} (h : TabAs H kvs tb) : kvs.map (·.1) = (keyI tb).map fun k => k.map Sum.inl := by
  rw [h.keys]; unfold keyI; rw [List.map_map]; rfl
theorem keyI_ne {tb : Tb} : ∀ k ∈ keyI tb, k ≠ [] := fun k hk => by
  obtain ⟨r, _, rfl⟩ := List.mem_map.mp hk
  exact fun z => nomatch z
theorem pts_sort {H : Hp} {kvs : List (List Key × V)} {ys : List V} {tb : Tb} (h : TabAs H kvs tb) (hk : KeyAs H ys kvs) : All2 (fun x (r : P2 × S2) => IsPt H x r.1) (sortL (keyI tb) .non ys) (srtT tb) := All2.sort (All2.bind (h.pts hk))
theorem keyT_pts {K : PySem.W.Frag} {H : Hp} : ∀ {ys : List V} {tb : Tb}, All2 (fun x (r : P2 × S2) => IsPt H x r.1) ys tb → KeyT K H ys (keyI tb)
  | [], [], _ => trivial
  | y :: ys, r :: tb, ⟨⟨a, e, ha⟩, t⟩ => ⟨⟨a, e, .inl (.inl ha), fun z => nomatch z⟩, keyT_pts (ys := ys) (tb := tb) t⟩
  | [], _ :: _, h => h.elim
  | _ :: _, [], h => h.elim
def IsTr (H : Hp) (v : V) (r : P2 × S2) : Prop := ∃ a w, v = .ref a ∧ H a = some (.tup [.int r.1.1, .int r.1.2, w]) ∧ IsS H w r.2.1 r.2.2
theorem IsTr.same {H H' : Hp} {v : V} {r : P2 × S2} (h : IsTr H v r) (s : Same H H') : IsTr H' v r := let ⟨a, w, e, ha, hw⟩ := h; ⟨a, w, e, s _ _ ha, hw.same s⟩
theorem IsTr.fr {H H' : Hp} {v : V} {r : P2 × S2} (h : IsTr H v r) (s : Fr H H') : IsTr H' v r := let ⟨a, w, e, ha, hw⟩ := h; ⟨a, w, e, s _ _ (fun _ z => nomatch z) ha, hw.fr s⟩
def datTr (r : P2 × S2) : PyData := .tuple [.int r.1.1, .int r.1.2, datS r.2]
theorem tr_dat {K : PySem.W.Frag} {H : Hp} : ∀ {xs : List V} {tb : Tb}, All2 (IsTr H) xs tb → Dats K H xs (tb.map datTr)
  | [], [], _ => .nil
  | x :: xs, r :: tb, ⟨⟨a, w, e, ha, hw⟩, t⟩ => by
    subst e
    exact .cons (.tup (SqT.of ha) (.cons (.int _) (.cons (.int _) (.cons (IsS.dat hw) .nil)))) (tr_dat t)
  | [], _ :: _, h => h.elim
  | _ :: _, [], h => h.elim
def hSp (i j : Int) : Int := reduceHash (Builtin.Tuple.tupleHashOf [hashInt i, hashInt j])
theorem hash_spot (P : Program) (w : World) (i j : Int) : tupleKeyHash (mixKind P w) (spot i j) = hSp i j := by
  unfold tupleKeyHash hSp spot
  rw [List.map_cons, List.map_cons, List.map_nil]
  rw [show (mixKind P w).hash (Sum.inl i) = hashInt i from rfl, show (mixKind P w).hash (Sum.inl j) = hashInt j from rfl]
theorem hash_all : ((List.range 84).all fun a => (List.range 84).all fun b => !(hSp ((a / 12 : Nat) : Int) ((a % 12 : Nat) : Int) == hSp ((b / 12 : Nat) : Int) ((b % 12 : Nat) : Int)) || a == b) = true := by decide +kernel
theorem hash_inj {a b : P2} (ha : onB 7 12 a) (hb : onB 7 12 b) (h : hSp a.1 a.2 = hSp b.1 b.2) : a = b := by
  obtain ⟨⟨a1, a2⟩, a3, a4⟩ := ha
  obtain ⟨⟨b1, b2⟩, b3, b4⟩ := hb
  have h1 := List.all_eq_true.mp hash_all (a.1.toNat * 12 + a.2.toNat) (List.mem_range.mpr (by omega))
  have h2 := List.all_eq_true.mp h1 (b.1.toNat * 12 + b.2.toNat) (List.mem_range.mpr (by omega))
  have ea : (((a.1.toNat * 12 + a.2.toNat) / 12 : Nat) : Int) = a.1 := by omega
  have ea' : (((a.1.toNat * 12 + a.2.toNat) % 12 : Nat) : Int) = a.2 := by omega
  have eb : (((b.1.toNat * 12 + b.2.toNat) / 12 : Nat) : Int) = b.1 := by omega
  have eb' : (((b.1.toNat * 12 + b.2.toNat) % 12 : Nat) : Int) = b.2 := by omega
  rw [ea, ea', eb, eb', h] at h2
  simp only [beq_self_eq_true, Bool.not_true, Bool.false_or, beq_iff_eq] at h2
  exact Prod.ext (by omega) (by omega)
theorem hash_map {P : Program} {w : World} {H : Hp} : ∀ {kvs : List (List Key × V)} {tb : Tb}, TabAs H kvs tb → (kvs.map fun kv => tupleKeyHash (mixKind P w) kv.1) = tb.map fun r => hSp r.1.1 r.1.2
  | [], [], _ => List.map_nil.trans List.map_nil.symm
  | kv :: kvs, r :: tb, h => by
    have ih := hash_map (P := P) (w := w) (kvs := kvs) (tb := tb) h.2
    have h1 := hash_spot P w r.1.1 r.1.2
    rw [← h.1.1] at h1
    rw [List.map_cons, List.map_cons, ih, h1]
  | [], _ :: _, h => h.elim
  | _ :: _, [], h => h.elim
theorem hash_ndT {e t : Int} (he : e ≤ 7) (ht : t ≤ 12) : ∀ {tb : Tb}, okT e t tb → (tb.map fun r => hSp r.1.1 r.1.2).Nodup
  | [], _ => by rw [List.map_nil]; exact List.nodup_nil
  | x :: l, ok => by
    have h7 : ∀ r ∈ x :: l, onB 7 12 r.1 := fun r hr => by
      obtain ⟨⟨a, b⟩, c, d⟩ := ok.2 r hr
      exact ⟨⟨a, by omega⟩, c, by omega⟩
    have nd := ok.1
    rw [List.map_cons, List.nodup_cons] at nd
    rw [List.map_cons, List.nodup_cons]
    refine ⟨fun z => ?_, hash_ndT he ht (tb := l) ⟨nd.2, fun r hr => ok.2 r (.tail _ hr)⟩⟩
    obtain ⟨y, hy, ey⟩ := List.mem_map.mp z
    have := hash_inj (h7 y (.tail _ hy)) (h7 x (.head _)) ey
    exact nd.1 (List.mem_map.mpr ⟨y, hy, this⟩)
theorem hash_nd {P : Program} {w : World} {H : Hp} {kvs : List (List Key × V)} {tb : Tb} {e t : Int} (h : TabAs H kvs tb) (ok : okT e t tb) (he : e ≤ 7) (ht : t ≤ 12) : (kvs.map fun kv => tupleKeyHash (mixKind P w) kv.1).Nodup := by
  rw [hash_map h]; exact hash_ndT he ht ok
end Gz
set_option Elab.async false
set_option linter.all false
set_option maxRecDepth 100000
set_option maxHeartbeats 1000000
namespace K17
open PySem L2 Gz
local macro_rules | `(tactic| walk_at "gz") => `(tactic| try simp only [ev_none, ev_some, tMethV, tRng, tDNew2, tDGet, tDIn, tDNotIn, sDPut, tDGet1, tDPopT1, tDPopT2, gCons, gNil, tSeq, tIfS, tTest, tOp, tUn, tVar, tC, tRet, tNext, tAsg, gName, tCB, tCons, tNil, tCall, tIsN, tNotN, tB, tAnd, tOr, tNot, tAndV, tOrV, tNotV, tIf, tDrop, rI, rI0, rU, rEq, rNe, scal_ii, scal_bb, scal_in, scal_ni, scal_nn, isi_ii, isi_ib, isi_bi, isi_bb, isi_ni, isi_nt, ite_tt, ite_ff, L2.start, cxK, cxN, List.map_cons, List.map_nil, List.length_cons, List.length_nil, List.replicate, List.append_nil, List.nil_append, List.cons_append, List.getElem?_cons_zero, List.getElem?_cons_succ, List.set_cons_zero, List.set_cons_succ, Option.some.injEq, V.int.injEq, V.bl.injEq, V.ref.injEq, List.cons.injEq, exists_eq_left, exists_eq_left', exists_and_left, true_and, and_true, decide_eq_true_eq, Nat.zero_add, Nat.sub_self, Nat.add_one_sub_one, Nat.reduceAdd, Nat.reduceSub, reduceCtorEq, decide_true, decide_false, Bool.not_true, Bool.not_false, Bool.not_eq_true', decide_eq_false_iff_not, false_and, exists_false, and_assoc, tTup, tLst, tBM, tBM0, rAppend, rExtend, for_rng1, for_lst, for_tpl, ↓reduceIte, not_false_eq_true, not_true_eq_false, tComp, tMM, tSortK, tSetC, iTup, iList, tAll, gSub, rSetL, iRng3, iRng2, iRng1, for_rng2, for_rng3, tFld, sFld, tMeth, tMake, tSl, tNoPart, tPart, rSlL, rCat, for_rev, for_enum, for_zip, tChain, tCompG, iRev, iEnum, iZip, Option.join_some])
local macro_rules | `(tactic| walk_at "gza") => `(tactic| simp only [ev_none, ev_some, tMethV, tRng, tDNew2, tDGet, tDIn, tDNotIn, sDPut, tDGet1, tDPopT1, tDPopT2, gCons, gNil, tSeq, tIfS, tTest, tOp, tUn, tVar, tC, tRet, tNext, tAsg, gName, tCB, tCons, tNil, tCall, tIsN, tNotN, tB, tAnd, tOr, tNot, tAndV, tOrV, tNotV, tIf, tDrop, rI, rI0, rU, rEq, rNe, scal_ii, scal_bb, scal_in, scal_ni, scal_nn, isi_ii, isi_ib, isi_bi, isi_bb, isi_ni, isi_nt, ite_tt, ite_ff, L2.start, cxK, cxN, List.map_cons, List.map_nil, List.length_cons, List.length_nil, List.replicate, List.append_nil, List.nil_append, List.cons_append, List.getElem?_cons_zero, List.getElem?_cons_succ, List.set_cons_zero, List.set_cons_succ, Option.some.injEq, V.int.injEq, V.bl.injEq, V.ref.injEq, List.cons.injEq, exists_eq_left, exists_eq_left', exists_and_left, true_and, and_true, decide_eq_true_eq, Nat.zero_add, Nat.sub_self, Nat.add_one_sub_one, Nat.reduceAdd, Nat.reduceSub, reduceCtorEq, decide_true, decide_false, Bool.not_true, Bool.not_false, Bool.not_eq_true', decide_eq_false_iff_not, false_and, exists_false, and_assoc, tTup, tLst, tBM, tBM0, rAppend, rExtend, for_rng1, for_lst, for_tpl, ↓reduceIte, not_false_eq_true, not_true_eq_false, tComp, tMM, tSortK, tSetC, iTup, iList, tAll, gSub, rSetL, iRng3, iRng2, iRng1, for_rng2, for_rng3, tFld, sFld, tMeth, tMake, tSl, tNoPart, tPart, rSlL, rCat, for_rev, for_enum, for_zip, tChain, tCompG, iRev, iEnum, iZip, Option.join_some] at *)
local macro_rules | `(tactic| walk_at "sd") => `(tactic| (and_intros <;> first | assumption | exact bd200 (by decide) | exact bd200 (em30 _) | exact mul200 (by decide) (by decide) | exact ⟨by decide, by decide, by decide⟩ | decide | omega))
local macro_rules | `(tactic| walk_at "gzn") => `(tactic| (try simp only [ev_none, ev_some, tMethV, tRng, tDNew2, tDGet, tDIn, tDNotIn, sDPut, tDGet1, tDPopT1, tDPopT2, gCons, gNil, tSeq, tIfS, tTest, tOp, tUn, tVar, tC, tRet, tNext, tAsg, gName, tCB, tCons, tNil, tCall, tIsN, tNotN, tB, tAnd, tOr, tNot, tAndV, tOrV, tNotV, tIf, tDrop, rI, rI0, rU, rEq, rNe, scal_ii, scal_bb, scal_in, scal_ni, scal_nn, isi_ii, isi_ib, isi_bi, isi_bb, isi_ni, isi_nt, ite_tt, ite_ff, L2.start, cxK, cxN, List.map_cons, List.map_nil, List.length_cons, List.length_nil, List.replicate, List.append_nil, List.nil_append, List.cons_append, List.getElem?_cons_zero, List.getElem?_cons_succ, List.set_cons_zero, List.set_cons_succ, Option.some.injEq, V.int.injEq, V.bl.injEq, V.ref.injEq, List.cons.injEq, exists_eq_left, exists_eq_left', exists_and_left, true_and, and_true, decide_eq_true_eq, Nat.zero_add, Nat.sub_self, Nat.add_one_sub_one, Nat.reduceAdd, Nat.reduceSub, reduceCtorEq, decide_true, decide_false, Bool.not_true, Bool.not_false, Bool.not_eq_true', decide_eq_false_iff_not, false_and, exists_false, and_assoc, tTup, tLst, tBM, tBM0, rAppend, rExtend, for_rng1, for_lst, for_tpl, ↓reduceIte, not_false_eq_true, not_true_eq_false, tComp, tMM, tSortK, tSetC, iTup, iList, tAll, gSub, rSetL, iRng3, iRng2, iRng1, for_rng2, for_rng3, tFld, sFld, tMeth, tMake, tSl, tNoPart, tPart, rSlL, rCat, for_rev, for_enum, for_zip, tChain, tCompG, iRev, iEnum, iZip, Option.join_some, Int.reducePow, Int.reduceToNat, Int.reduceMul, Int.reduceAdd]))
def top (i : Nat) : Stmt := PySem.Challenge.pw_gaze_k17_deeds_on_a_board.main.body.getD i (.Pass ⟨0, 0, 0, 0⟩)
abbrev s_is_crossed : Stmt := top 5
abbrev s_Board_init__ : Stmt := inClass (top 9) 0
abbrev s_Board_has_eye : Stmt := inClass (top 9) 1
abbrev s_Board_has_turn : Stmt := inClass (top 9) 2
abbrev s_Board_tell : Stmt := inClass (top 9) 3
abbrev s_Board_hush : Stmt := inClass (top 9) 4
abbrev s_Board_word : Stmt := inClass (top 9) 5
abbrev s_Board_tellings : Stmt := inClass (top 9) 6
abbrev s_Board_twin : Stmt := inClass (top 9) 7
abbrev s_Board_keeping : Stmt := inClass (top 9) 8
abbrev s_Board_allowing : Stmt := inClass (top 9) 9
abbrev s_Board_check_spot : Stmt := inClass (top 9) 10
abbrev s_Board_check_word : Stmt := inClass (top 9) 11
abbrev s_law_cell : Stmt := top 11
abbrev s_law_whole : Stmt := top 12
abbrev s_law_end : Stmt := top 13
abbrev s_law_word : Stmt := top 14
abbrev s_law_pace : Stmt := top 15
abbrev s_law_telling : Stmt := top 16
abbrev s_law_hushing : Stmt := top 17
abbrev s_law_asking : Stmt := top 18
abbrev s_law_keeping : Stmt := top 19
abbrev s_law_allowing : Stmt := top 20
abbrev s_law_alike : Stmt := top 21
abbrev s_law_stands : Stmt := top 22
abbrev s_law_spot : Stmt := top 23
abbrev s_law_there : Stmt := top 24
abbrev s_law_deed : Stmt := top 25
abbrev s_law_looked : Stmt := top 26
abbrev s_law_values : Stmt := top 27
abbrev s_law_apart : Stmt := top 28
abbrev s_law_others : Stmt := top 29
abbrev s_law_twins : Stmt := top 30
abbrev s_law : Stmt := top 31
theorem sc_is_crossed : FnScope ["lo", "hi"] ["lo", "hi"] (defScope s_is_crossed) := ⟨rfl, rfl, rfl, by decide +kernel, rfl, by decide +kernel, by decide +kernel⟩
theorem sc_Board_init__ : FnScope ["self", "eyes", "turns", "up", "down", "most"] ["self", "eyes", "turns", "up", "down", "most"] (defScope s_Board_init__) := ⟨rfl, rfl, rfl, by decide +kernel, rfl, by decide +kernel, by decide +kernel⟩
theorem sc_Board_has_eye : FnScope ["self", "eye"] ["self", "eye"] (defScope s_Board_has_eye) := ⟨rfl, rfl, rfl, by decide +kernel, rfl, by decide +kernel, by decide +kernel⟩
theorem sc_Board_has_turn : FnScope ["self", "turn"] ["self", "turn"] (defScope s_Board_has_turn) := ⟨rfl, rfl, rfl, by decide +kernel, rfl, by decide +kernel, by decide +kernel⟩
theorem sc_Board_tell : FnScope ["self", "eye", "turn", "lo", "hi"] ["self", "eye", "turn", "lo", "hi"] (defScope s_Board_tell) := ⟨rfl, rfl, rfl, by decide +kernel, rfl, by decide +kernel, by decide +kernel⟩
theorem sc_Board_hush : FnScope ["self", "eye", "turn"] ["self", "eye", "turn"] (defScope s_Board_hush) := ⟨rfl, rfl, rfl, by decide +kernel, rfl, by decide +kernel, by decide +kernel⟩
theorem sc_Board_word : FnScope ["self", "eye", "turn"] ["self", "eye", "turn"] (defScope s_Board_word) := ⟨rfl, rfl, rfl, by decide +kernel, rfl, by decide +kernel, by decide +kernel⟩
theorem sc_Board_tellings : FnScope ["self"] ["self"] (defScope s_Board_tellings) := ⟨rfl, rfl, rfl, by decide +kernel, rfl, by decide +kernel, by decide +kernel⟩
theorem sc_Board_twin : FnScope ["self"] ["self"] (defScope s_Board_twin) := ⟨rfl, rfl, rfl, by decide +kernel, rfl, by decide +kernel, by decide +kernel⟩
theorem sc_Board_keeping : FnScope ["self", "spots", "board", "spot"] ["self", "spots"] (defScope s_Board_keeping) := ⟨rfl, rfl, rfl, by decide +kernel, rfl, by decide +kernel, by decide +kernel⟩
theorem sc_Board_allowing : FnScope ["self", "most", "board"] ["self", "most"] (defScope s_Board_allowing) := ⟨rfl, rfl, rfl, by decide +kernel, rfl, by decide +kernel, by decide +kernel⟩
theorem sc_Board_check_spot : FnScope ["self", "eye", "turn"] ["self", "eye", "turn"] (defScope s_Board_check_spot) := ⟨rfl, rfl, rfl, by decide +kernel, rfl, by decide +kernel, by decide +kernel⟩
theorem sc_Board_check_word : FnScope ["self", "eye", "turn"] ["self", "eye", "turn"] (defScope s_Board_check_word) := ⟨rfl, rfl, rfl, by decide +kernel, rfl, by decide +kernel, by decide +kernel⟩
theorem sc_law_cell : FnScope ["_law_script", "_law_k"] ["_law_script", "_law_k"] (defScope s_law_cell) := ⟨rfl, rfl, rfl, by decide +kernel, rfl, by decide +kernel, by decide +kernel⟩
theorem sc_law_whole : FnScope ["_law_found"] ["_law_found"] (defScope s_law_whole) := ⟨rfl, rfl, rfl, by decide +kernel, rfl, by decide +kernel, by decide +kernel⟩
theorem sc_law_end : FnScope ["_law_cell_here"] ["_law_cell_here"] (defScope s_law_end) := ⟨rfl, rfl, rfl, by decide +kernel, rfl, by decide +kernel, by decide +kernel⟩
theorem sc_law_word : FnScope ["_law_cell_here", "_law_lo"] ["_law_cell_here"] (defScope s_law_word) := ⟨rfl, rfl, rfl, by decide +kernel, rfl, by decide +kernel, by decide +kernel⟩
theorem sc_law_pace : FnScope ["_law_cell_here"] ["_law_cell_here"] (defScope s_law_pace) := ⟨rfl, rfl, rfl, by decide +kernel, rfl, by decide +kernel, by decide +kernel⟩
theorem sc_law_telling : FnScope ["_law_board", "_law_spot_here", "_law_word_here", "_law_refused", "e"] ["_law_board", "_law_spot_here", "_law_word_here"] (defScope s_law_telling) := ⟨rfl, rfl, rfl, by decide +kernel, rfl, by decide +kernel, by decide +kernel⟩
theorem sc_law_hushing : FnScope ["_law_board", "_law_spot_here", "_law_refused", "e"] ["_law_board", "_law_spot_here"] (defScope s_law_hushing) := ⟨rfl, rfl, rfl, by decide +kernel, rfl, by decide +kernel, by decide +kernel⟩
theorem sc_law_asking : FnScope ["_law_board", "_law_spot_here", "_law_refused", "e"] ["_law_board", "_law_spot_here"] (defScope s_law_asking) := ⟨rfl, rfl, rfl, by decide +kernel, rfl, by decide +kernel, by decide +kernel⟩
theorem sc_law_keeping : FnScope ["_law_board", "_law_spots", "_law_refused", "e"] ["_law_board", "_law_spots"] (defScope s_law_keeping) := ⟨rfl, rfl, rfl, by decide +kernel, rfl, by decide +kernel, by decide +kernel⟩
theorem sc_law_allowing : FnScope ["_law_board", "_law_most", "_law_refused", "e"] ["_law_board", "_law_most"] (defScope s_law_allowing) := ⟨rfl, rfl, rfl, by decide +kernel, rfl, by decide +kernel, by decide +kernel⟩
theorem sc_law_alike : FnScope ["_law_found", "_law_due"] ["_law_found", "_law_due"] (defScope s_law_alike) := ⟨rfl, rfl, rfl, by decide +kernel, rfl, by decide +kernel, by decide +kernel⟩
theorem sc_law_stands : FnScope ["_law_board", "_law_table", "_law_found", "_law_spots", "_law_k", "_law_one"] ["_law_board", "_law_table"] (defScope s_law_stands) := ⟨rfl, rfl, rfl, by decide +kernel, rfl, by decide +kernel, by decide +kernel⟩
theorem sc_law_spot : FnScope ["_law_cell_here", "_law_sizes"] ["_law_cell_here", "_law_sizes"] (defScope s_law_spot) := ⟨rfl, rfl, rfl, by decide +kernel, rfl, by decide +kernel, by decide +kernel⟩
theorem sc_law_there : FnScope ["_law_spot_here", "_law_sizes"] ["_law_spot_here", "_law_sizes"] (defScope s_law_there) := ⟨rfl, rfl, rfl, by decide +kernel, rfl, by decide +kernel, by decide +kernel⟩
theorem sc_law_deed : FnScope ["_law_board", "_law_table", "_law_sizes", "_law_cell_here", "_law_more", "_law_spot_here", "_law_word_here", "_law_good", "_law_refused"] ["_law_board", "_law_table", "_law_sizes", "_law_cell_here", "_law_more"] (defScope s_law_deed) := ⟨rfl, rfl, rfl, by decide +kernel, rfl, by decide +kernel, by decide +kernel⟩
theorem sc_law_looked : FnScope ["_law_board", "_law_table", "_law_sizes", "_law_cell_here", "_law_spot_here", "_law_found"] ["_law_board", "_law_table", "_law_sizes", "_law_cell_here"] (defScope s_law_looked) := ⟨rfl, rfl, rfl, by decide +kernel, rfl, by decide +kernel, by decide +kernel⟩
theorem sc_law_values : FnScope ["_law_board", "_law_sizes", "_law_most"] ["_law_board", "_law_sizes", "_law_most"] (defScope s_law_values) := ⟨rfl, rfl, rfl, by decide +kernel, rfl, by decide +kernel, by decide +kernel⟩
theorem sc_law_apart : FnScope ["_law_board", "_law_made", "_law_table", "_law_other", "_law_sizes", "_law_cell_here", "_law_spot_here"] ["_law_board", "_law_made", "_law_table", "_law_other", "_law_sizes", "_law_cell_here"] (defScope s_law_apart) := ⟨rfl, rfl, rfl, by decide +kernel, rfl, by decide +kernel, by decide +kernel⟩
theorem sc_law_others : FnScope ["_law_board", "_law_table", "_law_sizes", "_law_cell_here", "_law_most", "_law_some", "_law_spots", "_law_handed", "_law_made", "_law_spot_here", "_law_left", "_law_free", "_law_other"] ["_law_board", "_law_table", "_law_sizes", "_law_cell_here", "_law_most"] (defScope s_law_others) := ⟨rfl, rfl, rfl, by decide +kernel, rfl, by decide +kernel, by decide +kernel⟩
theorem sc_law_twins : FnScope ["_law_twins_here", "_law_sizes", "_law_most", "_law_cell_here", "_law_twin", "_law_table", "_law_spot_here"] ["_law_twins_here", "_law_sizes", "_law_most", "_law_cell_here"] (defScope s_law_twins) := ⟨rfl, rfl, rfl, by decide +kernel, rfl, by decide +kernel, by decide +kernel⟩
theorem sc_law : FnScope ["_law_script", "_law_sizes", "_law_most", "_law_board", "_law_table", "_law_held", "_law_twins_here", "_law_k", "_law_found", "_law_cell_here", "_law_due"] ["_law_script"] (defScope s_law) := ⟨rfl, rfl, rfl, by decide +kernel, rfl, by decide +kernel, by decide +kernel⟩
set_option genInjectivity false
set_option genSizeOf false
structure Tx (K : PySem.W.Frag) (mg : Str → Option Value) where
  a_is_crossed : Addr
  fd_is_crossed : FuncData
  F_is_crossed : Fun K "is_crossed" "is_crossed" s_is_crossed a_is_crossed fd_is_crossed
  m_is_crossed : mg "is_crossed" = some (.ref a_is_crossed)
  b_is_crossed : Binds K fd_is_crossed ["lo", "hi"] []
  a_Board_init__ : Addr
  fd_Board_init__ : FuncData
  F_Board_init__ : Fun K "__init__" "Board.__init__" s_Board_init__ a_Board_init__ fd_Board_init__
  b_Board_init__ : Binds K fd_Board_init__ ["self", "eyes", "turns", "up", "down", "most"] []
  a_Board_has_eye : Addr
  fd_Board_has_eye : FuncData
  F_Board_has_eye : Fun K "has_eye" "Board.has_eye" s_Board_has_eye a_Board_has_eye fd_Board_has_eye
  b_Board_has_eye : Binds K fd_Board_has_eye ["self", "eye"] []
  a_Board_has_turn : Addr
  fd_Board_has_turn : FuncData
  F_Board_has_turn : Fun K "has_turn" "Board.has_turn" s_Board_has_turn a_Board_has_turn fd_Board_has_turn
  b_Board_has_turn : Binds K fd_Board_has_turn ["self", "turn"] []
  a_Board_tell : Addr
  fd_Board_tell : FuncData
  F_Board_tell : Fun K "tell" "Board.tell" s_Board_tell a_Board_tell fd_Board_tell
  b_Board_tell : Binds K fd_Board_tell ["self", "eye", "turn", "lo", "hi"] []
  a_Board_hush : Addr
  fd_Board_hush : FuncData
  F_Board_hush : Fun K "hush" "Board.hush" s_Board_hush a_Board_hush fd_Board_hush
  b_Board_hush : Binds K fd_Board_hush ["self", "eye", "turn"] []
  a_Board_word : Addr
  fd_Board_word : FuncData
  F_Board_word : Fun K "word" "Board.word" s_Board_word a_Board_word fd_Board_word
  b_Board_word : Binds K fd_Board_word ["self", "eye", "turn"] []
  a_Board_tellings : Addr
  fd_Board_tellings : FuncData
  F_Board_tellings : Fun K "tellings" "Board.tellings" s_Board_tellings a_Board_tellings fd_Board_tellings
  b_Board_tellings : Binds K fd_Board_tellings ["self"] []
  a_Board_twin : Addr
  fd_Board_twin : FuncData
  F_Board_twin : Fun K "twin" "Board.twin" s_Board_twin a_Board_twin fd_Board_twin
  b_Board_twin : Binds K fd_Board_twin ["self"] []
  a_Board_keeping : Addr
  fd_Board_keeping : FuncData
  F_Board_keeping : Fun K "keeping" "Board.keeping" s_Board_keeping a_Board_keeping fd_Board_keeping
  b_Board_keeping : Binds K fd_Board_keeping ["self", "spots"] []
  a_Board_allowing : Addr
  fd_Board_allowing : FuncData
  F_Board_allowing : Fun K "allowing" "Board.allowing" s_Board_allowing a_Board_allowing fd_Board_allowing
  b_Board_allowing : Binds K fd_Board_allowing ["self", "most"] []
  a_Board_check_spot : Addr
  fd_Board_check_spot : FuncData
  F_Board_check_spot : Fun K "check_spot" "Board.check_spot" s_Board_check_spot a_Board_check_spot fd_Board_check_spot
  b_Board_check_spot : Binds K fd_Board_check_spot ["self", "eye", "turn"] []
  a_Board_check_word : Addr
  fd_Board_check_word : FuncData
  F_Board_check_word : Fun K "check_word" "Board.check_word" s_Board_check_word a_Board_check_word fd_Board_check_word
  b_Board_check_word : Binds K fd_Board_check_word ["self", "eye", "turn"] []
  a_law_cell : Addr
  fd_law_cell : FuncData
  F_law_cell : Fun K "_law_cell" "_law_cell" s_law_cell a_law_cell fd_law_cell
  m_law_cell : mg "_law_cell" = some (.ref a_law_cell)
  b_law_cell : Binds K fd_law_cell ["_law_script", "_law_k"] []
  a_law_whole : Addr
  fd_law_whole : FuncData
  F_law_whole : Fun K "_law_whole" "_law_whole" s_law_whole a_law_whole fd_law_whole
  m_law_whole : mg "_law_whole" = some (.ref a_law_whole)
  b_law_whole : Binds K fd_law_whole ["_law_found"] []
  a_law_end : Addr
  fd_law_end : FuncData
  F_law_end : Fun K "_law_end" "_law_end" s_law_end a_law_end fd_law_end
  m_law_end : mg "_law_end" = some (.ref a_law_end)
  b_law_end : Binds K fd_law_end ["_law_cell_here"] []
  a_law_word : Addr
  fd_law_word : FuncData
  F_law_word : Fun K "_law_word" "_law_word" s_law_word a_law_word fd_law_word
  m_law_word : mg "_law_word" = some (.ref a_law_word)
  b_law_word : Binds K fd_law_word ["_law_cell_here"] []
  a_law_pace : Addr
  fd_law_pace : FuncData
  F_law_pace : Fun K "_law_pace" "_law_pace" s_law_pace a_law_pace fd_law_pace
  m_law_pace : mg "_law_pace" = some (.ref a_law_pace)
  b_law_pace : Binds K fd_law_pace ["_law_cell_here"] []
  a_law_telling : Addr
  fd_law_telling : FuncData
  F_law_telling : Fun K "_law_telling" "_law_telling" s_law_telling a_law_telling fd_law_telling
  m_law_telling : mg "_law_telling" = some (.ref a_law_telling)
  b_law_telling : Binds K fd_law_telling ["_law_board", "_law_spot_here", "_law_word_here"] []
  a_law_hushing : Addr
  fd_law_hushing : FuncData
  F_law_hushing : Fun K "_law_hushing" "_law_hushing" s_law_hushing a_law_hushing fd_law_hushing
  m_law_hushing : mg "_law_hushing" = some (.ref a_law_hushing)
  b_law_hushing : Binds K fd_law_hushing ["_law_board", "_law_spot_here"] []
  a_law_asking : Addr
  fd_law_asking : FuncData
  F_law_asking : Fun K "_law_asking" "_law_asking" s_law_asking a_law_asking fd_law_asking
  m_law_asking : mg "_law_asking" = some (.ref a_law_asking)
  b_law_asking : Binds K fd_law_asking ["_law_board", "_law_spot_here"] []
  a_law_keeping : Addr
  fd_law_keeping : FuncData
  F_law_keeping : Fun K "_law_keeping" "_law_keeping" s_law_keeping a_law_keeping fd_law_keeping
  m_law_keeping : mg "_law_keeping" = some (.ref a_law_keeping)
  b_law_keeping : Binds K fd_law_keeping ["_law_board", "_law_spots"] []
  a_law_allowing : Addr
  fd_law_allowing : FuncData
  F_law_allowing : Fun K "_law_allowing" "_law_allowing" s_law_allowing a_law_allowing fd_law_allowing
  m_law_allowing : mg "_law_allowing" = some (.ref a_law_allowing)
  b_law_allowing : Binds K fd_law_allowing ["_law_board", "_law_most"] []
  a_law_alike : Addr
  fd_law_alike : FuncData
  F_law_alike : Fun K "_law_alike" "_law_alike" s_law_alike a_law_alike fd_law_alike
  m_law_alike : mg "_law_alike" = some (.ref a_law_alike)
  b_law_alike : Binds K fd_law_alike ["_law_found", "_law_due"] []
  a_law_stands : Addr
  fd_law_stands : FuncData
  F_law_stands : Fun K "_law_stands" "_law_stands" s_law_stands a_law_stands fd_law_stands
  m_law_stands : mg "_law_stands" = some (.ref a_law_stands)
  b_law_stands : Binds K fd_law_stands ["_law_board", "_law_table"] []
  a_law_spot : Addr
  fd_law_spot : FuncData
  F_law_spot : Fun K "_law_spot" "_law_spot" s_law_spot a_law_spot fd_law_spot
  m_law_spot : mg "_law_spot" = some (.ref a_law_spot)
  b_law_spot : Binds K fd_law_spot ["_law_cell_here", "_law_sizes"] []
  a_law_there : Addr
  fd_law_there : FuncData
  F_law_there : Fun K "_law_there" "_law_there" s_law_there a_law_there fd_law_there
  m_law_there : mg "_law_there" = some (.ref a_law_there)
  b_law_there : Binds K fd_law_there ["_law_spot_here", "_law_sizes"] []
  a_law_deed : Addr
  fd_law_deed : FuncData
  F_law_deed : Fun K "_law_deed" "_law_deed" s_law_deed a_law_deed fd_law_deed
  m_law_deed : mg "_law_deed" = some (.ref a_law_deed)
  b_law_deed : Binds K fd_law_deed ["_law_board", "_law_table", "_law_sizes", "_law_cell_here", "_law_more"] []
  a_law_looked : Addr
  fd_law_looked : FuncData
  F_law_looked : Fun K "_law_looked" "_law_looked" s_law_looked a_law_looked fd_law_looked
  m_law_looked : mg "_law_looked" = some (.ref a_law_looked)
  b_law_looked : Binds K fd_law_looked ["_law_board", "_law_table", "_law_sizes", "_law_cell_here"] []
  a_law_values : Addr
  fd_law_values : FuncData
  F_law_values : Fun K "_law_values" "_law_values" s_law_values a_law_values fd_law_values
  m_law_values : mg "_law_values" = some (.ref a_law_values)
  b_law_values : Binds K fd_law_values ["_law_board", "_law_sizes", "_law_most"] []
  a_law_apart : Addr
  fd_law_apart : FuncData
  F_law_apart : Fun K "_law_apart" "_law_apart" s_law_apart a_law_apart fd_law_apart
  m_law_apart : mg "_law_apart" = some (.ref a_law_apart)
  b_law_apart : Binds K fd_law_apart ["_law_board", "_law_made", "_law_table", "_law_other", "_law_sizes", "_law_cell_here"] []
  a_law_others : Addr
  fd_law_others : FuncData
  F_law_others : Fun K "_law_others" "_law_others" s_law_others a_law_others fd_law_others
  m_law_others : mg "_law_others" = some (.ref a_law_others)
  b_law_others : Binds K fd_law_others ["_law_board", "_law_table", "_law_sizes", "_law_cell_here", "_law_most"] []
  a_law_twins : Addr
  fd_law_twins : FuncData
  F_law_twins : Fun K "_law_twins" "_law_twins" s_law_twins a_law_twins fd_law_twins
  m_law_twins : mg "_law_twins" = some (.ref a_law_twins)
  b_law_twins : Binds K fd_law_twins ["_law_twins_here", "_law_sizes", "_law_most", "_law_cell_here"] []
  a_law : Addr
  fd_law : FuncData
  F_law : Fun K "law" "law" s_law a_law fd_law
  m_law : mg "law" = some (.ref a_law)
  b_law : Binds K fd_law ["_law_script"] []
  n_all : mg "all" = none
  n_bool : mg "bool" = none
  n_dict : mg "dict" = none
  n_int : mg "int" = none
  n_isinstance : mg "isinstance" = none
  n_len : mg "len" = none
  n_list : mg "list" = none
  n_min : mg "min" = none
  n_range : mg "range" = none
  n_sorted : mg "sorted" = none
  n_tuple : mg "tuple" = none
  C_GazeError : Addr
  c_GazeError : mg "GazeError" = some (.ref C_GazeError)
  C_NoBoard : Addr
  c_NoBoard : mg "NoBoard" = some (.ref C_NoBoard)
  C_NoTelling : Addr
  c_NoTelling : mg "NoTelling" = some (.ref C_NoTelling)
  C_Board : Addr
  c_Board : mg "Board" = some (.ref C_Board)
  cl_Board : Cls K C_Board
  no_Board_eyes : NoAttr K C_Board "eyes"
  no_Board_turns : NoAttr K C_Board "turns"
  no_Board_up : NoAttr K C_Board "up"
  no_Board_down : NoAttr K C_Board "down"
  no_Board_most : NoAttr K C_Board "most"
  no_Board_told : NoAttr K C_Board "told"
  mk_Board : Mk K C_Board a_Board_init__
  me_Board_has_eye : Meth K C_Board "has_eye" a_Board_has_eye
  me_Board_has_turn : Meth K C_Board "has_turn" a_Board_has_turn
  me_Board_tell : Meth K C_Board "tell" a_Board_tell
  me_Board_hush : Meth K C_Board "hush" a_Board_hush
  me_Board_word : Meth K C_Board "word" a_Board_word
  me_Board_tellings : Meth K C_Board "tellings" a_Board_tellings
  me_Board_twin : Meth K C_Board "twin" a_Board_twin
  me_Board_keeping : Meth K C_Board "keeping" a_Board_keeping
  me_Board_allowing : Meth K C_Board "allowing" a_Board_allowing
  me_Board_check_spot : Meth K C_Board "check_spot" a_Board_check_spot
  me_Board_check_word : Meth K C_Board "check_word" a_Board_check_word
  xc_NoBoard : XC K C_NoBoard
  xc_NoTelling : XC K C_NoTelling
  mt_NoBoard_GazeError : PySem.W.exmOne K (.ref C_NoBoard) (.ref C_GazeError) = some true
  mt_NoTelling_GazeError : PySem.W.exmOne K (.ref C_NoTelling) (.ref C_GazeError) = some true
  is_NoBoard_NoBoard : PySem.W.kitOne K (.ref C_NoBoard) (.ref C_NoBoard) = some true
  is_NoBoard_NoTelling : PySem.W.kitOne K (.ref C_NoBoard) (.ref C_NoTelling) = some false
  is_NoTelling_NoTelling : PySem.W.kitOne K (.ref C_NoTelling) (.ref C_NoTelling) = some true
  is_NoTelling_NoBoard : PySem.W.kitOne K (.ref C_NoTelling) (.ref C_NoBoard) = some false
  g_EYES_AT_MOST : ∃ t, mg "EYES_AT_MOST" = some (.int 7 t)
  g_TURNS_AT_MOST : ∃ t, mg "TURNS_AT_MOST" = some (.int 12 t)
set_option genInjectivity true
set_option genSizeOf true
section
variable {P : Program} {w : World} {K : PySem.W.Frag} {mg : Str → Option Value} {base : Heap}
seal L2.PE L2.PS L2.PSs L2.PA
def sp_cell (K : PySem.W.Frag) : Sp := fun vs H Q _ => ∃ (a : Addr) (ns : List Int) (k : Int), vs = [.ref a, .int k] ∧ SqL K H a (ns.map V.int) ∧ 0 ≤ k ∧ Q (.int (cellD ns k)) H
theorem ok_law_cell (T : Tx K mg) : FnOk P w K mg base (CXX P w) 1 T.a_law_cell T.fd_law_cell ["_law_script", "_law_k"] (sp_cell K) := by
  refine okN T.F_law_cell sc_law_cell (fun vs H Q E h => ?_) (fun cdv A outer s H vs Q E hr h => ?_)
  · obtain ⟨a, ns, k, rfl, _⟩ := h
    rfl
  · obtain ⟨a, ns, k, rfl, hS, hk, q⟩ := h
    refine ⟨_, (pss_cons (ps_if (pt_cmpR op_lt (pv 1) (pe_callB call_len (by rfl) T.n_len b_len (pa_cons (pv 0) pa_nil)) (nomark _)) (pss_one (ps_ret (pe_ix ix_seq (pv 0) (pv 1) (fun _ _ => rfl)))) pss_nil)
    (pss_one (ps_ret pe_int))), ?_⟩
    walk_at "gz"
    refine ⟨_, lenL hS, ?_⟩
    rw [List.length_map]
    by_cases hlt : k < (ns.length : Int)
    · rw [if_pos hlt]
      have e : ns[k.toNat]? = some (cellD ns k) := by
        unfold cellD
        rw [List.getD_eq_getElem?_getD, List.getElem?_eq_getElem (by omega)]
        rfl
      refine ixL hS ?_ q
      have ek : k = ((k.toNat : Nat) : Int) := by omega
      refine (congrArg (atI _) ek).trans (atI_nat ?_)
      rw [List.getElem?_map, e]
      rfl
    · rw [if_neg hlt]
      have e : cellD ns k = 0 := by
        unfold cellD
        rw [List.getD_eq_getElem?_getD, List.getElem?_eq_none (by omega)]
        rfl
      rw [e] at q
      exact q
def sp_whole : Sp := fun vs H Q _ => ∃ (v : V), vs = [v] ∧ (v = .non ∨ ∃ i, v = .int i) ∧ Q (.bl (isWhole v)) H
theorem ok_law_whole (T : Tx K mg) : FnOk P w K mg base (CXX P w) 1 T.a_law_whole T.fd_law_whole ["_law_found"] sp_whole := by
  refine okN T.F_law_whole sc_law_whole (fun vs H Q E h => ?_) (fun cdv A outer s H vs Q E hr h => ?_)
  · obtain ⟨v, rfl, _⟩ := h
    rfl
  · obtain ⟨v, rfl, hv, q⟩ := h
    refine ⟨_, (pss_one (ps_ret (pe_and (pe_callB call_isiA (by rfl) T.n_isinstance b_isinstance (pa_cons (pv 0) (pa_cons (pe_bltn (v := .ty "int") rfl T.n_int b_int rfl) pa_nil))) (pe_one (pe_not (pe_callB call_isiA (by rfl) T.n_isinstance b_isinstance (pa_cons (pv 0) (pa_cons (pe_bltn (v := .ty "bool") rfl T.n_bool b_bool rfl) pa_nil)))))))), ?_⟩
    rcases hv with rfl | ⟨i, rfl⟩
    · walk_at "gz"
      exact q
    · walk_at "gz"
      exact q
def sp_crossed : Sp := fun vs H Q _ => ∃ (a b : En), vs = [ev a, ev b] ∧ Q (.bl (crossed a b)) H
theorem ok_is_crossed (T : Tx K mg) : FnOk P w K mg base (CXX P w) 1 T.a_is_crossed T.fd_is_crossed ["lo", "hi"] sp_crossed := by
  refine okN T.F_is_crossed sc_is_crossed (fun vs H Q E h => ?_) (fun cdv A outer s H vs Q E hr h => ?_)
  · obtain ⟨a, b, rfl, _⟩ := h
    rfl
  · obtain ⟨a, b, rfl, q⟩ := h
    refine ⟨_, (pss_one (ps_ret (pe_and (pe_cmp (pc_notN (pv 0))) (pe_and (pe_cmp (pc_notN (pv 1))) (pe_one (pe_cmpR op_gt (pv 0) (pv 1) (nomark _))))))), ?_⟩
    rcases a with _ | x
    · walk_at "gz"
      exact q
    rcases b with _ | y
    · walk_at "gz"
      exact q
    walk_at "gz"
    exact q
def okB (e t u d m : Int) : Prop := (1 ≤ e ∧ e ≤ 7) ∧ (1 ≤ t ∧ t ≤ 12) ∧ 0 ≤ u ∧ 0 ≤ d ∧ 0 ≤ m ∧ m ≤ e
def bFs (e t u d m : Int) (p : Addr) : List (Str × V) := [("eyes", .int e), ("turns", .int t), ("up", .int u), ("down", .int d), ("most", .int m), ("told", .ref p)]
def sp_binit (B C : Addr) : Sp := fun vs H Q E => ∃ (x dx : Addr) (e t u d m : Int), vs = [.ref x, .int e, .int t, .int u, .int d, .int m] ∧ H x = some (.ins B dx []) ∧ (¬ okB e t u d m → E (.ref C) none H) ∧
  (okB e t u d m → ∀ p H', H p = none → SameBut x H H' → H' x = some (.ins B dx (bFs e t u d m p)) → H' p = some (.dT []) → Q .non H')
theorem ok_Board_init__ (T : Tx K mg) : FnOk P w K mg base (CXX P w) 1 T.a_Board_init__ T.fd_Board_init__ ["self", "eyes", "turns", "up", "down", "most"] (sp_binit T.C_Board T.C_NoBoard) := by
  refine okX T.F_Board_init__ sc_Board_init__ (fun vs H Q E h => ?_) (fun cdv A outer s H vs Q E hr h => ?_)
  · obtain ⟨x, dx, e, t, u, d, m, rfl, _⟩ := h
    rfl
  · obtain ⟨x, dx, e, t, u, d, m, rfl, hx, q0, q⟩ := h
    refine ⟨_, (pss_cons (ps_if (PW.pt (pw_or (pt_not (pt_chain op_le op_le pe_int (pv 1) (pe_globI T.g_EYES_AT_MOST rfl))) (pw_or1 (pt_not (pt_chain op_le op_le pe_int (pv 2) (pe_globI T.g_TURNS_AT_MOST rfl)))))) (pss_one (ps_raise raise_up rfl T.c_NoBoard T.xc_NoBoard rfl (pa_cons pe_str pa_nil))) pss_nil)
    (pss_cons (ps_if (PW.pt (pw_or (pt_cmpR op_lt (pv 3) pe_int (nomark _)) (pw_or1 (pt_cmpR op_lt (pv 4) pe_int (nomark _))))) (pss_one (ps_raise raise_up rfl T.c_NoBoard T.xc_NoBoard rfl (pa_cons pe_str pa_nil))) pss_nil)
    (pss_cons (ps_if (pt_not (pt_chain op_le op_le pe_int (pv 5) (pv 1))) (pss_one (ps_raise raise_up rfl T.c_NoBoard T.xc_NoBoard rfl (pa_cons pe_str pa_nil))) pss_nil)
    (pss_cons (ps_fld (pv 0) (pv 1) rfl)
    (pss_cons (ps_fld (pv 0) (pv 2) rfl)
    (pss_cons (ps_fld (pv 0) (pv 3) rfl)
    (pss_cons (ps_fld (pv 0) (pv 4) rfl)
    (pss_cons (ps_fld (pv 0) (pv 5) rfl)
    (pss_one (ps_fld (pv 0) pe_dnew2 rfl)))))))))), ?_⟩
    walk_at "gz"
    have no : ∀ D σ, ¬ okB e t u d m → ∀ x, tRaise T.C_NoBoard E (tCons (tC (.str x)) tNil) D σ H := fun D σ z x => ⟨by show 1 ≤ sizeLine; decide, q0 z⟩
    refine ite_by (fun h1 => ite_by (fun h2 => no _ _ (fun z => by unfold okB at z; omega) _) fun h2 => ?_) fun h1 => no _ _ (fun z => by unfold okB at z; omega) _
    refine ite_by (fun h3 => ite_by (fun h4 => no _ _ (fun z => by unfold okB at z; omega) _) fun h4 => ?_) fun h3 => no _ _ (fun z => by unfold okB at z; omega) _
    refine ite_by (fun h5 => no _ _ (fun z => by unfold okB at z; omega) _) fun h5 => ite_by (fun h6 => no _ _ (fun z => by unfold okB at z; omega) _) fun h6 => ?_
    refine ite_by (fun h7 => ite_by (fun h8 => no _ _ (fun z => by unfold okB at z; omega) _) fun h8 => ?_) fun h7 => no _ _ (fun z => by unfold okB at z; omega) _
    replace q := q (by unfold okB; omega)
    refine ⟨_, _, _, hx, T.cl_Board, T.no_Board_eyes, (by show 0 < 1000; decide), _, _, _, upd_same, T.cl_Board, T.no_Board_turns, (by show 1 < 1000; decide), _, _, _, upd_same, T.cl_Board, T.no_Board_up, (by show 2 < 1000; decide), _, _, _, upd_same, T.cl_Board, T.no_Board_down, (by show 3 < 1000; decide), _, _, _, upd_same, T.cl_Board, T.no_Board_most, (by show 4 < 1000; decide), ?_⟩
    rw [upd_upd, upd_upd, upd_upd, upd_upd]
    intro p hp
    have hpx : p ≠ x := fun z => by rw [z, upd_same] at hp; cases hp
    refine ⟨_, _, _, (same_upd hp) _ _ upd_same, T.cl_Board, T.no_Board_told, (by show 5 < 1000; decide), q p _ (by rw [upd_ne hpx] at hp; exact hp) (fun b o hb e => ?_) upd_same ?_⟩
    · rw [upd_ne hb]
      exact (same_upd hp) _ _ (by rw [upd_ne hb]; exact e)
    · rw [upd_ne hpx, upd_same]
structure BrdAt (B : Addr) (H : Hp) (x : Addr) (e t u d m : Int) (p : Addr) (kvs : List (List Key × V)) : Prop where
  ob : ∃ dx, H x = some (.ins B dx (bFs e t u d m p))
  tb : H p = some (.dT kvs)
def sp_haseye (B : Addr) : Sp := fun vs H Q _ => ∃ (x p : Addr) (e t u d m i : Int) (kvs : List (List Key × V)), vs = [.ref x, .int i] ∧ BrdAt B H x e t u d m p kvs ∧ Q (.bl (decide (0 ≤ i ∧ i < e))) H
def sp_hasturn (B : Addr) : Sp := fun vs H Q _ => ∃ (x p : Addr) (e t u d m i : Int) (kvs : List (List Key × V)), vs = [.ref x, .int i] ∧ BrdAt B H x e t u d m p kvs ∧ Q (.bl (decide (0 ≤ i ∧ i < t))) H
theorem ok_Board_has_eye (T : Tx K mg) : FnOk P w K mg base (CXX P w) 1 T.a_Board_has_eye T.fd_Board_has_eye ["self", "eye"] (sp_haseye T.C_Board) := by
  refine okN T.F_Board_has_eye sc_Board_has_eye (fun vs H Q E h => ?_) (fun cdv A outer s H vs Q E hr h => ?_)
  · obtain ⟨x, p, e, t, u, d, m, i, kvs, rfl, _⟩ := h
    rfl
  · obtain ⟨x, p, e, t, u, d, m, i, kvs, rfl, ⟨⟨dx, hx⟩, hp⟩, q⟩ := h
    refine ⟨_, (pss_one (ps_ret (pe_chain op_le op_lt pe_int (pv 1) (pe_fld (pv 0) rfl)))), ?_⟩
    walk_at "gz"
    refine ite_by (fun h1 => ?_) fun h1 => ?_
    · refine ⟨_, _, _, hx, T.cl_Board, T.no_Board_eyes, _, rfl, ?_⟩
      walk_at "gz"
      rw [show decide (0 ≤ i ∧ i < e) = decide (i < e) by simp [h1]] at q
      exact q
    · rw [show decide (0 ≤ i ∧ i < e) = false by simp [h1]] at q
      exact q
theorem ok_Board_has_turn (T : Tx K mg) : FnOk P w K mg base (CXX P w) 1 T.a_Board_has_turn T.fd_Board_has_turn ["self", "turn"] (sp_hasturn T.C_Board) := by
  refine okN T.F_Board_has_turn sc_Board_has_turn (fun vs H Q E h => ?_) (fun cdv A outer s H vs Q E hr h => ?_)
  · obtain ⟨x, p, e, t, u, d, m, i, kvs, rfl, _⟩ := h
    rfl
  · obtain ⟨x, p, e, t, u, d, m, i, kvs, rfl, ⟨⟨dx, hx⟩, hp⟩, q⟩ := h
    refine ⟨_, (pss_one (ps_ret (pe_chain op_le op_lt pe_int (pv 1) (pe_fld (pv 0) rfl)))), ?_⟩
    walk_at "gz"
    refine ite_by (fun h1 => ?_) fun h1 => ?_
    · refine ⟨_, _, _, hx, T.cl_Board, T.no_Board_turns, _, rfl, ?_⟩
      walk_at "gz"
      rw [show decide (0 ≤ i ∧ i < t) = decide (i < t) by simp [h1]] at q
      exact q
    · rw [show decide (0 ≤ i ∧ i < t) = false by simp [h1]] at q
      exact q
def sp_spotX (B C : Addr) : Sp := fun vs H Q E => ∃ (x p : Addr) (e t u d m i j : Int) (kvs : List (List Key × V)), vs = [.ref x, .int i, .int j] ∧ BrdAt B H x e t u d m p kvs ∧ (¬ ((0 ≤ i ∧ i < e) ∧ 0 ≤ j ∧ j < t) → E (.ref C) none H) ∧ ((0 ≤ i ∧ i < e) ∧ 0 ≤ j ∧ j < t → Q .non H)
theorem ok_Board_check_spot (T : Tx K mg) : FnOk P w K mg base (CXX P w) 2 T.a_Board_check_spot T.fd_Board_check_spot ["self", "eye", "turn"] (sp_spotX T.C_Board T.C_NoTelling) := by
  refine okX T.F_Board_check_spot sc_Board_check_spot (fun vs H Q E h => ?_) (fun cdv A outer s H vs Q E hr h => ?_)
  · obtain ⟨x, p, e, t, u, d, m, i, j, kvs, rfl, _⟩ := h
    rfl
  · obtain ⟨x, p, e, t, u, d, m, i, j, kvs, rfl, hb, q0, q⟩ := h
    refine ⟨_, (pss_one (ps_if (PW.pt (pw_or (pt_not (pt_val (pe_meth (pv 0) T.cl_Board T.me_Board_has_eye (ok_Board_has_eye T) (hr.mono (by decide)) T.b_Board_has_eye .nil passE0 (pa_cons (pv 1) pa_nil)))) (pw_or1 (pt_not (pt_val (pe_meth (pv 0) T.cl_Board T.me_Board_has_turn (ok_Board_has_turn T) (hr.mono (by decide)) T.b_Board_has_turn .nil passE0 (pa_cons (pv 2) pa_nil))))))) (pss_one (ps_raise raise_up rfl T.c_NoTelling T.xc_NoTelling rfl (pa_cons pe_str pa_nil))) pss_nil)), ?_⟩
    obtain ⟨⟨dx, hx⟩, hp⟩ := id hb
    walk_at "gz"
    refine ⟨_, _, hx, rfl, x, p, e, t, u, d, m, i, kvs, rfl, hb, ?_⟩
    by_cases h1 : 0 ≤ i ∧ i < e
    · rw [decide_eq_true h1]
      walk_at "gz"
      refine ⟨_, _, hx, rfl, x, p, e, t, u, d, m, j, kvs, rfl, hb, ?_⟩
      by_cases h2 : 0 ≤ j ∧ j < t
      · rw [decide_eq_true h2]
        walk_at "gz"
        exact q ⟨h1, h2⟩
      · rw [decide_eq_false h2]
        walk_at "gz"
        exact ⟨by decide, q0 fun z => h2 z.2⟩
    · rw [decide_eq_false h1]
      walk_at "gz"
      exact ⟨by decide, q0 fun z => h1 z.1⟩
def sp_wordX (B C : Addr) : Sp := fun vs H Q E => ∃ (x p : Addr) (e t u d m i j : Int) (kvs : List (List Key × V)), vs = [.ref x, .int i, .int j] ∧ BrdAt B H x e t u d m p kvs ∧ (valV kvs (spot i j) = none → ∀ H', Same H H' → E (.ref C) none H') ∧ (∀ v, valV kvs (spot i j) = some v → ∀ H', Same H H' → Q .non H')
theorem ok_Board_check_word (T : Tx K mg) : FnOk P w K mg base (CXX P w) 1 T.a_Board_check_word T.fd_Board_check_word ["self", "eye", "turn"] (sp_wordX T.C_Board T.C_NoTelling) := by
  refine okX T.F_Board_check_word sc_Board_check_word (fun vs H Q E h => ?_) (fun cdv A outer s H vs Q E hr h => ?_)
  · obtain ⟨x, p, e, t, u, d, m, i, j, kvs, rfl, _⟩ := h
    rfl
  · obtain ⟨x, p, e, t, u, d, m, i, j, kvs, rfl, hb, q0, q⟩ := h
    refine ⟨_, (pss_one (ps_if (pt_cmp (pc_dnotin (hu_of hr) (pe_tup (pa_cons (pv 1) (pa_cons (pv 2) pa_nil))) (pe_fld (pv 0) rfl))) (pss_one (ps_raise raise_up rfl T.c_NoTelling T.xc_NoTelling rfl (pa_cons pe_str pa_nil))) pss_nil)), ?_⟩
    obtain ⟨⟨dx, hx⟩, hp⟩ := id hb
    walk_at "gz"
    refine ⟨line2, fun k hk => ⟨_, _, _, (same_upd hk) _ _ hx, T.cl_Board, T.no_Board_told, _, rfl, p, rfl, valV kvs (spot i j), DGet.t (k := spot i j) ((same_upd hk) _ _ hp) upd_same, ?_⟩⟩
    cases hv : valV kvs (spot i j) with
    | none => exact ⟨by decide, q0 hv _ (same_upd hk)⟩
    | some v => exact q v hv _ (same_upd hk)
def sp_tellX (B C : Addr) : Sp := fun vs H Q E => ∃ (x p : Addr) (e t u d m i j : Int) (lo hi : En) (kvs : List (List Key × V)), vs = [.ref x, .int i, .int j, ev lo, ev hi] ∧ BrdAt B H x e t u d m p kvs ∧ kvs.length < 1000 ∧ (¬ (((0 ≤ i ∧ i < e) ∧ 0 ≤ j ∧ j < t) ∧ crossed lo hi = false) → E (.ref C) none H) ∧
  (((0 ≤ i ∧ i < e) ∧ 0 ≤ j ∧ j < t) ∧ crossed lo hi = false → ∀ v H', SameBut p H H' → H' p = some (.dT (putK kvs (spot i j) v)) → IsS H' v lo hi → Q .non H')
theorem ok_Board_tell (T : Tx K mg) : FnOk P w K mg base (CXX P w) 3 T.a_Board_tell T.fd_Board_tell ["self", "eye", "turn", "lo", "hi"] (sp_tellX T.C_Board T.C_NoTelling) := by
  refine okX T.F_Board_tell sc_Board_tell (fun vs H Q E h => ?_) (fun cdv A outer s H vs Q E hr h => ?_)
  · obtain ⟨x, p, e, t, u, d, m, i, j, lo, hi, kvs, rfl, _⟩ := h
    rfl
  · obtain ⟨x, p, e, t, u, d, m, i, j, lo, hi, kvs, rfl, hb, hl, q0, q⟩ := h
    refine ⟨_, (pss_cons (ps_expr (pe_meth (pv 0) T.cl_Board T.me_Board_check_spot (ok_Board_check_spot T) (hr.mono (by decide)) T.b_Board_check_spot .nil pass_up (pa_cons (pv 1) (pa_cons (pv 2) pa_nil))))
    (pss_cons (ps_if (pt_val (pe_call (ok_is_crossed T) (hr.mono (by decide)) rfl T.m_is_crossed T.F_is_crossed.kp T.b_is_crossed .nil passE0 (pa_cons (pv 3) (pa_cons (pv 4) pa_nil)))) (pss_one (ps_raise raise_up rfl T.c_NoTelling T.xc_NoTelling rfl (pa_cons pe_str pa_nil))) pss_nil)
    (pss_one (ps_dput (hu_of hr) (pe_fld (pv 0) rfl) (pe_tup (pa_cons (pv 1) (pa_cons (pv 2) pa_nil))) (pe_tup (pa_cons (pv 3) (pa_cons (pv 4) pa_nil))) rfl)))), ?_⟩
    obtain ⟨⟨dx, hx⟩, hp⟩ := id hb
    walk_at "gz"
    refine ⟨_, _, hx, rfl, x, p, e, t, u, d, m, i, j, kvs, rfl, hb, fun z => q0 fun y => z y.1, fun hin => ?_⟩
    refine ⟨lo, hi, rfl, ?_⟩
    cases hc : crossed lo hi with
    | true =>
      walk_at "gz"
      exact ⟨by decide, q0 fun z => by rw [hc] at z; cases z.2⟩
    | false =>
      walk_at "gz"
      refine ⟨line2, fun v hv => ⟨_, _, _, (same_upd hv) _ _ hx, T.cl_Board, T.no_Board_told, _, rfl, line2, fun k hk => ?_⟩⟩
      have s2 := (same_upd (o := .tup [ev lo, ev hi]) hv).trans (same_upd (o := .tup [.int i, .int j]) hk)
      refine ⟨p, rfl, _, DPut.t (k := spot i j) (s2 _ _ hp) upd_same (Nat.lt_trans hl (by decide)), q ⟨hin, hc⟩ (.ref v) _ (fun b o hb2 e => ?_) upd_same ⟨v, rfl, ?_⟩⟩
      · rw [upd_ne hb2]; exact s2 _ _ e
      · have vp : v ≠ p := fun z => by rw [z] at hv; rw [hp] at hv; cases hv
        rw [upd_ne vp]; exact (same_upd hk) _ _ upd_same
def sp_askX (B C : Addr) : Sp := fun vs H Q E => ∃ (x p : Addr) (e t u d m i j : Int) (kvs : List (List Key × V)), vs = [.ref x, .int i, .int j] ∧ BrdAt B H x e t u d m p kvs ∧ (¬ ((0 ≤ i ∧ i < e) ∧ 0 ≤ j ∧ j < t) → E (.ref C) none H) ∧ ((0 ≤ i ∧ i < e) ∧ 0 ≤ j ∧ j < t → ∀ H', Same H H' → Q ((valV kvs (spot i j)).getD .non) H')
theorem ok_Board_word (T : Tx K mg) : FnOk P w K mg base (CXX P w) 3 T.a_Board_word T.fd_Board_word ["self", "eye", "turn"] (sp_askX T.C_Board T.C_NoTelling) := by
  refine okX T.F_Board_word sc_Board_word (fun vs H Q E h => ?_) (fun cdv A outer s H vs Q E hr h => ?_)
  · obtain ⟨x, p, e, t, u, d, m, i, j, kvs, rfl, _⟩ := h
    rfl
  · obtain ⟨x, p, e, t, u, d, m, i, j, kvs, rfl, hb, q0, q⟩ := h
    refine ⟨_, (pss_cons (ps_expr (pe_meth (pv 0) T.cl_Board T.me_Board_check_spot (ok_Board_check_spot T) (hr.mono (by decide)) T.b_Board_check_spot .nil pass_up (pa_cons (pv 1) (pa_cons (pv 2) pa_nil))))
    (pss_one (ps_ret (pe_dget1 (hu_of hr) (pe_fld (pv 0) rfl) (pe_tup (pa_cons (pv 1) (pa_cons (pv 2) pa_nil))) ⟨rfl, rfl, rfl, rfl⟩)))), ?_⟩
    obtain ⟨⟨dx, hx⟩, hp⟩ := id hb
    walk_at "gz"
    refine ⟨_, _, hx, rfl, x, p, e, t, u, d, m, i, j, kvs, rfl, hb, q0, fun hin => ?_⟩
    walk_at "gz"
    exact ⟨_, _, _, hx, T.cl_Board, T.no_Board_told, _, rfl, p, rfl, .inr ⟨kvs, .inl hp⟩, line2, fun k hk => ⟨_, DGet.t (k := spot i j) ((same_upd hk) _ _ hp) upd_same, q hin _ (same_upd hk)⟩⟩
end
section
variable {P : Program} {w : World} {K : PySem.W.Frag} {mg : Str → Option Value} {base : Heap}
seal L2.PE L2.PS L2.PSs L2.PA
structure BrdT (B : Addr) (H : Hp) (x : Addr) (e t u d m : Int) (p : Addr) (tb : Tb) : Prop where
  ob : ∃ dx, H x = some (.ins B dx (bFs e t u d m p))
  tb : TabAt H p tb
theorem BrdT.same {B : Addr} {H H' : Hp} {x p : Addr} {e t u d m : Int} {tb : Tb} (h : BrdT B H x e t u d m p tb) (s : Same H H') : BrdT B H' x e t u d m p tb := let ⟨⟨dx, a⟩, b⟩ := h; ⟨⟨dx, s _ _ a⟩, b.same s⟩
theorem BrdT.but {B : Addr} {H H' : Hp} {x p : Addr} {e t u d m : Int} {tb : Tb} {ps : List Addr} (h : BrdT B H x e t u d m p tb) (s : But ps H H') (c : Dcts H ps) (hp : p ∉ ps) : BrdT B H' x e t u d m p tb := let ⟨⟨dx, a⟩, b⟩ := h; ⟨⟨dx, s.fr c _ _ (fun _ z => nomatch z) a⟩, b.but s c hp⟩
theorem BrdT.now {B : Addr} {H H' : Hp} {x p : Addr} {e t u d m : Int} {tb tb' : Tb} (h : BrdT B H x e t u d m p tb) (s : Fr H H') (hp : TabAt H' p tb') : BrdT B H' x e t u d m p tb' := let ⟨⟨dx, a⟩, _⟩ := h; ⟨⟨dx, s _ _ (fun _ z => nomatch z) a⟩, hp⟩
def sp_hushX (B C : Addr) : Sp := fun vs H Q E => ∃ (x p : Addr) (e t u d m i j : Int) (kvs : List (List Key × V)), vs = [.ref x, .int i, .int j] ∧ BrdAt B H x e t u d m p kvs ∧ (valV kvs (spot i j) = none → ∀ H', Same H H' → E (.ref C) none H') ∧
  (∀ v, valV kvs (spot i j) = some v → ∀ H', SameBut p H H' → H' p = some (.dT (dropK kvs (spot i j))) → Q .non H')
theorem ok_Board_hush (T : Tx K mg) : FnOk P w K mg base (CXX P w) 2 T.a_Board_hush T.fd_Board_hush ["self", "eye", "turn"] (sp_hushX T.C_Board T.C_NoTelling) := by
  refine okX T.F_Board_hush sc_Board_hush (fun vs H Q E h => ?_) (fun cdv A outer s H vs Q E hr h => ?_)
  · obtain ⟨x, p, e, t, u, d, m, i, j, kvs, rfl, _⟩ := h
    rfl
  · obtain ⟨x, p, e, t, u, d, m, i, j, kvs, rfl, hb, q0, q⟩ := h
    refine ⟨_, (pss_cons (ps_expr (pe_meth (pv 0) T.cl_Board T.me_Board_check_word (ok_Board_check_word T) (hr.mono (by decide)) T.b_Board_check_word .nil pass_up (pa_cons (pv 1) (pa_cons (pv 2) pa_nil))))
    (pss_one (ps_expr (pe_dpopT1 (hu_of hr) (pe_fld (pv 0) rfl) (pe_tup (pa_cons (pv 1) (pa_cons (pv 2) pa_nil))) ⟨rfl, rfl, rfl, rfl⟩)))), ?_⟩
    obtain ⟨⟨dx, hx⟩, hp⟩ := id hb
    walk_at "gz"
    refine ⟨_, _, hx, rfl, x, p, e, t, u, d, m, i, j, kvs, rfl, hb, q0, fun v hv H1 s1 => ?_⟩
    have hx1 := s1 _ _ hx
    have hp1 := s1 _ _ hp
    walk_at "gz"
    refine ⟨_, _, _, hx1, T.cl_Board, T.no_Board_told, _, rfl, p, rfl, .inr ⟨kvs, .inl hp1⟩, line2, fun k hk => ?_⟩
    refine ⟨kvs, (same_upd hk) _ _ hp1, spot i j, upd_same, v, hv, q v hv _ (fun b o hb2 e => ?_) upd_same⟩
    rw [upd_ne hb2]; exact (same_upd hk) _ _ (s1 _ _ e)
def sp_tells (B : Addr) : Sp := fun vs H Q _ => ∃ (x p : Addr) (e t u d m : Int) (tb : Tb), vs = [.ref x] ∧ BrdT B H x e t u d m p tb ∧ (tb.map (·.1)).Nodup ∧ tb.length < 64 ∧ ∀ l xs H', Same H H' → H l = none → H' l = some (.lst xs) → All2 (IsTr H') xs (srtT tb) → Q (.ref l) H'
theorem ok_Board_tellings (T : Tx K mg) : FnOk P w K mg base (CXX P w) 1 T.a_Board_tellings T.fd_Board_tellings ["self"] (sp_tells T.C_Board) := by
  refine okN T.F_Board_tellings sc_Board_tellings (fun vs H Q E h => ?_) (fun cdv A outer s H vs Q E hr h => ?_)
  · obtain ⟨x, p, e, t, u, d, m, tb, rfl, _⟩ := h
    rfl
  · obtain ⟨x, p, e, t, u, d, m, tb, rfl, ⟨⟨dx, hx⟩, kvs, hp, hT⟩, hn, h64, q⟩ := h
    refine ⟨_, (pss_one (ps_ret (pe_comp (CompOk.mk (fr := [0]) (ys := ["self"]) rfl (by decide +kernel) rfl (by decide +kernel) rfl rfl (.cons rfl .nil) (.cons rfl rfl rfl rfl .nil) (by decide) rfl) rfl (pi_list (pe_callB (call_sortedD rfl) (by rfl) T.n_sorted b_sorted (pa_cons (pe_fld (pv 0) rfl) pa_nil))) (fun C s2 H2 ex pn => ⟨pts_nil, (pe_tup (pa_cons (pe_ix (ix_seqK (K := K) rfl) (pv 0) pe_int (fun _ _ => rfl)) (pa_cons (pe_ix (ix_seqK (K := K) rfl) (pv 0) pe_int (fun _ _ => rfl)) (pa_cons (pe_dgetA (hu_of hr) (pe_fldK (K := K) (pv 1) rfl) (pv 0) (fun _ _ => rfl)) pa_nil))))⟩)))), ?_⟩
    walk_at "gz"
    refine ⟨_, _, _, hx, T.cl_Board, T.no_Board_told, _, rfl, p, rfl, kvs, hp, keyI tb, keyI_keys hT, keyI_ne, by rw [hT.len]; exact h64, fun l ys hl hk => ?_⟩
    have PS := pts_sort hT hk
    have s1 := same_upd (o := .lst (sortL (keyI tb) .non ys)) hl
    have L1 : upd H l (.lst (sortL (keyI tb) .non ys)) l = some (.lst (sortL (keyI tb) .non ys)) := upd_same
    generalize upd H l (.lst (sortL (keyI tb) .non ys)) = H1 at s1 L1 ⊢
    refine ⟨⟨_, SqL.of L1⟩, blk_of it_list (Nat.le_trans (by rw [PS.len, srtT_len]; exact Nat.le_of_lt h64 : _ ≤ 64) (by decide)) (compGo_new (R := fun H x (r : P2 × S2) => IsPt H x r.1) (R' := fun H y (r : P2 × S2) => IsTr H y r) (f := fun r => r) (bs := []) (fun _ _ _ _ s r => IsPt.same r s) (fun _ _ _ _ s r => IsTr.same r s) (PS.imp fun x r z => IsPt.same z s1) trivial (fun H' s' => SqL.of (s' _ _ L1)) (fun x r _ H' s' hr0 Q h => ?_) (fun x r hr0 H' s' h0 Q h => ?_) fun H2 zs s2 hz => ?_)⟩
    · walk_at "gz"
      exact h
    · obtain ⟨a, rfl, ha⟩ := id h0
      have S := s1.trans s'
      have hT' := hT.imp fun v a b z => IsS.same z S
      obtain ⟨w, hw, iw⟩ := (hT'.val r.1).2 _ (valT_mem hn (srtT_mem hr0))
      walk_at "gz"
      refine ixT (SqT.of ha) rfl (ixT (SqT.of ha) rfl ⟨_, _, _, S _ _ hx, T.cl_Board, T.no_Board_told, _, rfl, p, rfl, w, ?_, ?_⟩)
      · rw [← hw]; exact DGet.t (k := spot r.1.1 r.1.2) (S _ _ hp) ha
      · exact ⟨by decide, fun z hz => h _ _ (same_upd hz) ⟨z, w, rfl, upd_same, IsS.same iw (same_upd hz)⟩⟩
    rw [List.nil_append, List.map_id'] at hz
    exact fun l2 hl2 => q l2 zs _ (s1.trans (s2.trans (same_upd hl2))) ((s1.trans s2).free hl2) upd_same (hz.imp fun x r z => IsTr.same z (same_upd hl2))
def keepT (tb : Tb) (ss : List P2) : Tb := ss.foldl (fun acc s => putT acc s ((valT tb s).getD (none, none))) []
theorem keepT_snoc (tb : Tb) (ss : List P2) (s : P2) : keepT tb (ss ++ [s]) = putT (keepT tb ss) s ((valT tb s).getD (none, none)) := by unfold keepT; rw [List.foldl_append]; rfl
theorem keepT_len (tb : Tb) : ∀ (ss : List P2), (keepT tb ss).length ≤ ss.length := by
  intro ss
  have gen : ∀ (ss : List P2) (acc : Tb), (ss.foldl (fun acc s => putT acc s ((valT tb s).getD (none, none))) acc).length ≤ acc.length + ss.length := by
    intro ss
    induction ss with
    | nil => intro acc; exact Nat.le_refl _
    | cons s ss ih => intro acc; have h1 := ih (putT acc s ((valT tb s).getD (none, none))); have h2 := putT_len acc s ((valT tb s).getD (none, none)); rw [List.foldl_cons, List.length_cons]; omega
  have := gen ss []
  unfold keepT; simpa using this
def sp_keepX (K : PySem.W.Frag) (B C : Addr) : Sp := fun vs H Q E => ∃ (x p a : Addr) (e t u d m : Int) (tb : Tb) (ys : List V) (ss : List P2), vs = [.ref x, .ref a] ∧ BrdT B H x e t u d m p tb ∧ okB e t u d m ∧ SqL K H a ys ∧ Pts H ys ss ∧ ss.length ≤ 100 ∧ ((∃ s ∈ ss, valT tb s = none) → ∀ H', Same H H' → E (.ref C) none H') ∧
  ((∀ s ∈ ss, valT tb s ≠ none) → ∀ x' p' H', Same H H' → H x' = none → H p' = none → BrdT B H' x' e t u d m p' (keepT tb ss) → Q (.ref x') H')
def inv_keep (B : Addr) (H : Hp) (x a x' p' : Addr) (e t u d m : Int) (tb : Tb) (ss : List P2) (i : Nat) (σ : St) (H1 : Hp) : Prop := ∃ z, σ = [some (.ref x), some (.ref a), some (.ref x'), z] ∧ Same H H1 ∧ BrdT B H1 x' e t u d m p' (keepT tb (ss.take i)) ∧ ∀ s ∈ ss.take i, valT tb s ≠ none
theorem ok_Board_keeping (T : Tx K mg) : FnOk P w K mg base (CXX P w) 3 T.a_Board_keeping T.fd_Board_keeping ["self", "spots"] (sp_keepX K T.C_Board T.C_NoTelling) := by
  refine okX T.F_Board_keeping sc_Board_keeping (fun vs H Q E h => ?_) (fun cdv A outer s H vs Q E hr h => ?_)
  · obtain ⟨x, p, a, e, t, u, d, m, tb, ys, ss, rfl, _⟩ := h
    rfl
  · obtain ⟨x, p, a, e, t, u, d, m, tb, ys, ss, rfl, hb, hok, hS, hP, hl, q0, q⟩ := h
    refine ⟨_, (pss_cons (ps_set (i := 2) sc_Board_keeping.nd rfl (Or.inl rfl) (pe_make T.mk_Board (ok_Board_init__ T) (hr.mono (by decide)) rfl T.c_Board T.b_Board_init__ .nil pass_up (pa_cons (pe_fld (pv 0) rfl) (pa_cons (pe_fld (pv 0) rfl) (pa_cons (pe_fld (pv 0) rfl) (pa_cons (pe_fld (pv 0) rfl) (pa_cons (pe_fld (pv 0) rfl) pa_nil)))))))
    (pss_cons (ps_for PassesOwn.leaving rfl (pi_list (pv 1)) (pg_name (i := 3) sc_Board_keeping.nd rfl (Or.inl rfl)) (pss_cons (ps_expr (pe_meth (pv 0) T.cl_Board T.me_Board_check_word (ok_Board_check_word T) (hr.mono (by decide)) T.b_Board_check_word .nil pass_up (pa_cons (pe_ix ix_seq (pv 3) pe_int (fun _ _ => rfl)) (pa_cons (pe_ix ix_seq (pv 3) pe_int (fun _ _ => rfl)) pa_nil))))
        (pss_one (ps_dput (hu_of hr) (pe_fld (pv 2) rfl) (pv 3) (pe_dget (hu_of hr) (pe_fld (pv 0) rfl) (pv 3) (fun _ _ => rfl)) rfl))))
    (pss_one (ps_ret (pv 2))))), ?_⟩
    obtain ⟨⟨dx, hx⟩, kvs, hp, hT⟩ := id hb
    have hlen := hP.len
    walk_at "gz"
    refine ⟨_, _, _, hx, T.cl_Board, T.no_Board_eyes, _, rfl, _, _, _, hx, T.cl_Board, T.no_Board_turns, _, rfl, _, _, _, hx, T.cl_Board, T.no_Board_up, _, rfl, _, _, _, hx, T.cl_Board, T.no_Board_down, _, rfl, _, _, _, hx, T.cl_Board, T.no_Board_most, _, rfl, fun x' dx' hx' hdx' hnd => ?_⟩
    refine ⟨x', dx', e, t, u, d, m, rfl, upd_same, fun z => absurd hok z, fun _ p' H1 hp' s1 X1 P1 => ⟨rfl, ?_⟩⟩
    have M := made_same (C := T.C_Board) (fs := []) hx' hdx' hnd
    have S1 : Same H H1 := fun b o e => s1 b o (fun z => by rw [z, hx'] at e; cases e) (M _ _ e)
    have Hp' : H p' = none := M.free hp'
    refine ⟨⟨_, S1.seq hS⟩, by_list (xs := ys) (inv_keep T.C_Board H x a x' p' e t u d m tb ss) ⟨_, rfl, S1, ⟨⟨_, X1⟩, _, P1, trivial⟩, fun s hs => by simp at hs⟩ ?_ ?_ ?_⟩
    · rintro i σ H2 _ ⟨_, _, s, _⟩
      exact s.seq hS
    · rintro i y σ H2 hy ⟨z, rfl, s2, hb2, hall⟩
      obtain ⟨s, es, hpt⟩ := hP.get hy
      obtain ⟨ad, rfl, had⟩ := id hpt
      have et : ss.take (i + 1) = ss.take i ++ [s] := by rw [List.take_succ, es]; rfl
      have hi : i < ss.length := (List.getElem?_eq_some_iff.mp es).1
      walk_at "gz"
      have hx2 := s2 _ _ hx
      have hp2 := s2 _ _ hp
      have had2 := s2 _ _ had
      have hT2 := hT.imp fun v a b z => IsS.same z s2
      refine ⟨_, _, hx2, rfl, ixT (SqT.of had2) rfl (ixT (SqT.of had2) rfl ⟨x, p, e, t, u, d, m, s.1, s.2, kvs, rfl, ⟨⟨_, hx2⟩, hp2⟩, fun hv H3 s3 => ?_, fun v hv H3 s3 => ?_⟩)⟩
      · refine q0 ⟨s, List.mem_of_getElem? es, ?_⟩ _ (s2.trans s3)
        cases hw : valT tb s with
        | none => rfl
        | some w =>
          obtain ⟨v, h1, _⟩ := (hT2.val s).2 w hw
          rw [hv] at h1; cases h1
      · have S3 := s2.trans s3
        obtain ⟨⟨dx2, X2⟩, kvs2, P2, T2⟩ := hb2.same s3
        have hn : valT tb s ≠ none := fun z => by rw [(hT2.val s).1 z] at hv; cases hv
        obtain ⟨w, hw⟩ := Option.ne_none_iff_exists'.mp hn
        obtain ⟨v', h1, iv⟩ := ((hT.imp fun v a b z => IsS.same z S3).val s).2 w hw
        rw [hv] at h1
        cases h1
        have kl := T2.len
        have kk := keepT_len tb (ss.take i)
        rw [List.length_take] at kk
        walk_at "gz"
        refine ⟨_, _, _, S3 _ _ hx, T.cl_Board, T.no_Board_told, _, rfl, p, rfl, v, ?_, ?_⟩
        · rw [← hv]; exact DGet.t (k := spot s.1 s.2) (S3 _ _ hp) (S3 _ _ had)
        refine ⟨_, _, _, X2, T.cl_Board, T.no_Board_told, _, rfl, p', rfl, _, DPut.t (k := spot s.1 s.2) P2 (S3 _ _ had) (Nat.lt_of_lt_of_le (by omega : _ < 1000) (by decide)), ?_⟩
        have F : Fr H3 (upd H3 p' (.dT (putK kvs2 (spot s.1 s.2) v))) := fr_upd P2
        refine ⟨_, rfl, same_put Hp' S3, ⟨⟨_, F _ _ (fun _ z => nomatch z) X2⟩, _, upd_same, ?_⟩, ?_⟩
        · rw [et, keepT_snoc, hw]
          exact TabAs.put (T2.imp fun _ _ _ z => z.fr F) (iv.fr F)
        · rw [et]
          intro s' hs'
          rcases List.mem_append.mp hs' with z | z
          · exact hall s' z
          · rw [List.mem_singleton.mp z]; exact hn
    · rintro σ H2 ⟨z, rfl, s2, hb2, hall⟩
      walk_at "gz"
      rw [hlen, List.take_length] at hb2 hall
      exact q hall x' p' H2 s2 hx' Hp' hb2
def sp_allowX (B N : Addr) : Sp := fun vs H Q E => ∃ (x p : Addr) (e t u d m mo : Int) (tb : Tb), vs = [.ref x, .int mo] ∧ BrdT B H x e t u d m p tb ∧ okT e t tb ∧ (¬ okB e t u d mo → ∀ H', Same H H' → E (.ref N) none H') ∧
  (okB e t u d mo → ∀ x' p' H', Same H H' → H x' = none → H p' = none → BrdT B H' x' e t u d mo p' tb → Q (.ref x') H')
theorem ok_Board_allowing (T : Tx K mg) : FnOk P w K mg base (CXX P w) 3 T.a_Board_allowing T.fd_Board_allowing ["self", "most"] (sp_allowX T.C_Board T.C_NoBoard) := by
  refine okX T.F_Board_allowing sc_Board_allowing (fun vs H Q E h => ?_) (fun cdv A outer s H vs Q E hr h => ?_)
  · obtain ⟨x, p, e, t, u, d, m, mo, tb, rfl, _⟩ := h
    rfl
  · obtain ⟨x, p, e, t, u, d, m, mo, tb, rfl, hb, hok, q0, q⟩ := h
    refine ⟨_, (pss_cons (ps_set (i := 2) sc_Board_allowing.nd rfl (Or.inl rfl) (pe_make T.mk_Board (ok_Board_init__ T) (hr.mono (by decide)) rfl T.c_Board T.b_Board_init__ .nil pass_up (pa_cons (pe_fld (pv 0) rfl) (pa_cons (pe_fld (pv 0) rfl) (pa_cons (pe_fld (pv 0) rfl) (pa_cons (pe_fld (pv 0) rfl) (pa_cons (pv 1) pa_nil)))))))
    (pss_cons (ps_fld (pv 2) (pe_callTy call_dictD (by rfl) T.n_dict b_dict (pa_cons (pe_fld (pv 0) rfl) pa_nil)) rfl)
    (pss_one (ps_ret (pv 2))))), ?_⟩
    obtain ⟨⟨dx, hx⟩, kvs, hp, hT⟩ := id hb
    walk_at "gz"
    refine ⟨_, _, _, hx, T.cl_Board, T.no_Board_eyes, _, rfl, _, _, _, hx, T.cl_Board, T.no_Board_turns, _, rfl, _, _, _, hx, T.cl_Board, T.no_Board_up, _, rfl, _, _, _, hx, T.cl_Board, T.no_Board_down, _, rfl, fun x' dx' hx' hdx' hnd => ?_⟩
    have M := made_same (C := T.C_Board) (fs := []) hx' hdx' hnd
    refine ⟨x', dx', e, t, u, d, mo, rfl, upd_same, fun z => q0 z _ M, fun hk p' H1 hp' s1 X1 P1 => ⟨rfl, ?_⟩⟩
    have S1 : Same H H1 := fun b o e => s1 b o (fun z => by rw [z, hx'] at e; cases e) (M _ _ e)
    have k1 := hk.1
    have k2 := hk.2.1
    refine ⟨_, _, _, S1 _ _ hx, T.cl_Board, T.no_Board_told, _, rfl, p, rfl, kvs, S1 _ _ hp, hash_nd hT hok (by omega) (by omega), fun l hl => ?_⟩
    have s2 := same_upd (o := .dT kvs) hl
    refine ⟨_, _, _, s2 _ _ X1, T.cl_Board, T.no_Board_told, (by show 6 < 1000; decide), ?_⟩
    have nl : l ≠ x' := fun z => by rw [z, X1] at hl; cases hl
    have S2 : Same H (upd (upd H1 l (.dT kvs)) x' (.ins T.C_Board dx' (putF "told" (.ref l) (bFs e t u d mo p')))) := same_put hx' (S1.trans s2)
    exact q hk x' l _ S2 hx' (S1.free hl) ⟨⟨_, upd_same⟩, kvs, by rw [upd_ne nl]; exact upd_same, hT.imp fun v a b z => IsS.same z S2⟩
def sp_twin (B : Addr) : Sp := fun vs H Q _ => ∃ (x p : Addr) (e t u d m : Int) (tb : Tb), vs = [.ref x] ∧ BrdT B H x e t u d m p tb ∧ okT e t tb ∧ okB e t u d m ∧ ∀ x' p' H', Same H H' → H x' = none → H p' = none → BrdT B H' x' e t u d m p' tb → Q (.ref x') H'
theorem ok_Board_twin (T : Tx K mg) : FnOk P w K mg base (CXX P w) 4 T.a_Board_twin T.fd_Board_twin ["self"] (sp_twin T.C_Board) := by
  refine okN T.F_Board_twin sc_Board_twin (fun vs H Q E h => ?_) (fun cdv A outer s H vs Q E hr h => ?_)
  · obtain ⟨x, p, e, t, u, d, m, tb, rfl, _⟩ := h
    rfl
  · obtain ⟨x, p, e, t, u, d, m, tb, rfl, hb, hok, hk, q⟩ := h
    refine ⟨_, (pss_one (ps_ret (pe_meth (pv 0) T.cl_Board T.me_Board_allowing (ok_Board_allowing T) (hr.mono (by decide)) T.b_Board_allowing .nil passE0 (pa_cons (pe_fld (pv 0) rfl) pa_nil)))), ?_⟩
    obtain ⟨⟨dx, hx⟩, kvs, hp, hT⟩ := id hb
    walk_at "gz"
    exact ⟨_, _, hx, rfl, _, _, _, hx, T.cl_Board, T.no_Board_most, _, rfl, x, p, e, t, u, d, m, m, tb, rfl, hb, hok, fun z => absurd hk z, fun _ => q⟩
end
section
variable {P : Program} {w : World} {K : PySem.W.Frag} {mg : Str → Option Value} {base : Heap}
seal L2.PE L2.PS L2.PSs L2.PA
def sp_pace : Sp := fun vs H Q _ => ∃ (c : Int), vs = [.int c] ∧ ∀ d : Int, 0 ≤ d → Q (.int d) H
theorem ok_law_pace (T : Tx K mg) : FnOk P w K mg base (CXX P w) 1 T.a_law_pace T.fd_law_pace ["_law_cell_here"] sp_pace := by
  refine okN T.F_law_pace sc_law_pace (fun vs H Q E h => ?_) (fun cdv A outer s H vs Q E hr h => ?_)
  · obtain ⟨c, rfl, _⟩ := h
    rfl
  · obtain ⟨c, rfl, q⟩ := h
    refine ⟨_, (pss_cons (ps_if (pt_cmpR op_eq (pe_op op_mod (pv 0) pe_int) pe_int (nomark _)) (pss_one (ps_ret (pe_op op_mod (pe_op op_fdivB (pv 0) pe_int) pe_int))) pss_nil)
    (pss_one (ps_ret (pe_op op_mod (pe_op op_mulB (pe_op op_mod (pe_op op_fdivB (pv 0) pe_int) (pe_op op_pow pe_int pe_int)) (pe_op op_pow pe_int pe_int)) (pe_op op_add (pe_op op_pow pe_int pe_int) pe_int))))), ?_⟩
    walk_at "gzn"
    refine ⟨by decide, ?_⟩
    have b1 := Int.emod_nonneg (c / 2) (show (1000000000000000000000000000000 : Int) ≠ 0 by decide)
    have b2 := Int.emod_lt_of_pos (c / 2) (show (0 : Int) < 1000000000000000000000000000000 by decide)
    split
    · exact ⟨by decide, bd200 (by decide), by decide, q _ (by omega)⟩
    · refine ⟨by decide, bd200 (by decide), ⟨by decide, by decide, by decide⟩, by decide, ⟨by decide, by decide, by decide⟩, mul200 (by omega) (by decide), ⟨by decide, by decide, by decide⟩, ?_⟩
      generalize c / 2 % 1000000000000000000000000000000 * 3315501701285949699224633478459810372516696558535471 = x
      walk_at "gzn"
      exact ⟨by decide, q _ (by omega)⟩
def sp_end : Sp := fun vs H Q _ => ∃ (c : Int), vs = [.int c] ∧ ∀ r : En, Q (ev r) H
theorem ok_law_end (T : Tx K mg) : FnOk P w K mg base (CXX P w) 1 T.a_law_end T.fd_law_end ["_law_cell_here"] sp_end := by
  refine okN T.F_law_end sc_law_end (fun vs H Q E h => ?_) (fun cdv A outer s H vs Q E hr h => ?_)
  · obtain ⟨c, rfl, _⟩ := h
    rfl
  · obtain ⟨c, rfl, q⟩ := h
    refine ⟨_, (pss_cons (ps_if (pt_cmpR op_eq (pe_op op_mod (pv 0) pe_int) pe_int (nomark _)) (pss_one (ps_ret pe_non)) pss_nil)
    (pss_cons (ps_if (pt_cmpR op_lt (pe_op op_mod (pv 0) pe_int) pe_int (nomark _)) (pss_one (ps_ret (pe_op op_sub (pe_op op_mod (pe_op op_fdivB (pv 0) pe_int) pe_int) pe_int))) pss_nil)
    (pss_one (ps_ret (pe_op op_sub (pe_op op_mod (pe_op op_mulB (pe_op op_mod (pe_op op_fdivB (pv 0) pe_int) (pe_op op_pow pe_int pe_int)) (pe_op op_pow pe_int pe_int)) (pe_op op_add (pe_op op_mulB pe_int (pe_op op_pow pe_int pe_int)) pe_int)) (pe_op op_pow pe_int pe_int)))))), ?_⟩
    walk_at "gzn"
    have b1 := Int.emod_nonneg (c / 5) (show (1000000000000000000000000000000 : Int) ≠ 0 by decide)
    have b2 := Int.emod_lt_of_pos (c / 5) (show (0 : Int) < 1000000000000000000000000000000 by decide)
    have b3 : MulB (c / 5 % 1000000000000000000000000000000) 3315501701285949699224633478459810372516696558535471 := mul200 (by omega) (by decide)
    refine ⟨by decide, ite_by (fun h1 => q none) fun h1 => ⟨by decide, ite_by (fun h2 => ?_) fun h2 => ?_⟩⟩
    · refine ⟨by decide, bd200 (by decide), by decide, q (some _)⟩
    · have b4 := b3.1
      and_intros <;> first | exact q (some _) | assumption | exact bd200 (by decide) | exact bd200 (em30 _) | exact mul200 (by decide) (by decide) | exact ⟨by decide, by decide, by decide⟩ | decide | omega
def sp_word : Sp := fun vs H Q _ => ∃ (c : Int), vs = [.int c] ∧ ∀ p lo hi H', Same H H' → H p = none → H' p = some (.tup [ev lo, ev hi]) → Q (.ref p) H'
theorem ok_law_word (T : Tx K mg) : FnOk P w K mg base (CXX P w) 2 T.a_law_word T.fd_law_word ["_law_cell_here"] sp_word := by
  refine okN T.F_law_word sc_law_word (fun vs H Q E h => ?_) (fun cdv A outer s H vs Q E hr h => ?_)
  · obtain ⟨c, rfl, _⟩ := h
    rfl
  · obtain ⟨c, rfl, q⟩ := h
    refine ⟨_, (pss_cons (ps_set (i := 1) sc_law_word.nd rfl (Or.inl rfl) (pe_call (ok_law_end T) (hr.mono (by decide)) rfl T.m_law_end T.F_law_end.kp T.b_law_end .nil passE0 (pa_cons (pe_op op_fdivB (pv 0) pe_int) pa_nil)))
    (pss_cons (ps_if (pt_cmpR op_eq (pe_op op_mod (pv 0) pe_int) pe_int (nomark _)) (pss_one (ps_ret (pe_tup (pa_cons (pv 1) (pa_cons pe_non pa_nil))))) pss_nil)
    (pss_cons (ps_if (pt_cmp (pc_isN (pv 1))) (pss_one (ps_ret (pe_tup (pa_cons pe_non (pa_cons (pe_op op_mod (pv 0) pe_int) pa_nil))))) pss_nil)
    (pss_one (ps_ret (pe_tup (pa_cons (pv 1) (pa_cons (pe_op op_sub (pe_op op_add (pv 1) (pe_op op_mod (pv 0) pe_int)) pe_int) pa_nil)))))))), ?_⟩
    have fin : ∀ (lo hi : En) (p : Addr), H p = none → Q (.ref p) (upd H p (.tup [ev lo, ev hi])) := fun lo hi p hp => q p lo hi _ (same_upd hp) hp upd_same
    walk_at "gzn"
    refine ⟨by decide, bd200 (by decide), _, rfl, fun r => ⟨by decide, ?_⟩⟩
    refine ite_by (fun h1 => ⟨line2, fin r none⟩) fun h1 => ?_
    rcases r with _ | n
    · rw [ev_none, if_pos rfl]
      exact ⟨by decide, line2, fin none (some _)⟩
    · rw [ev_some, if_neg (fun z => nomatch z)]
      refine ⟨by decide, _, rfl, line2, ?_⟩
      exact fin (some n) (some _)
def sp_telling (B : Addr) : Sp := fun vs H Q _ => ∃ (x p a b : Addr) (e t u d m i j : Int) (lo hi : En) (tb : Tb), vs = [.ref x, .ref a, .ref b] ∧ BrdT B H x e t u d m p tb ∧ tb.length < 900 ∧ H a = some (.tup [.int i, .int j]) ∧ H b = some (.tup [ev lo, ev hi]) ∧
  (onB e t (i, j) ∧ crossed lo hi = false → ∀ H', SameBut p H H' → TabAt H' p (putT tb (i, j) (lo, hi)) → Q .non H') ∧ (¬ (onB e t (i, j) ∧ crossed lo hi = false) → ∀ H', Same H H' → Q (.bl true) H')
theorem ok_law_telling (T : Tx K mg) : FnOk P w K mg base (CXX P w) 4 T.a_law_telling T.fd_law_telling ["_law_board", "_law_spot_here", "_law_word_here"] (sp_telling T.C_Board) := by
  refine okN T.F_law_telling sc_law_telling (fun vs H Q E h => ?_) (fun cdv A outer s H vs Q E hr h => ?_)
  · obtain ⟨x, p, a, b, e, t, u, d, m, i, j, lo, hi, tb, rfl, _⟩ := h
    rfl
  · obtain ⟨x, p, a, b, e, t, u, d, m, i, j, lo, hi, tb, rfl, ⟨⟨dx, hx⟩, kvs, hp, hT⟩, hl, ha, hb, q1, q0⟩ := h
    refine ⟨_, (pss_cons (ps_set (i := 3) sc_law_telling.nd rfl (Or.inl rfl) pe_non)
    (pss_cons (ps_try (fun cls _ H1 => cls = .ref T.C_NoTelling ∧ Same H H1 ∧ ¬ (onB e t (i, j) ∧ crossed lo hi = false)) 4 rfl rfl rfl T.c_GazeError sc_law_telling.nd rfl rfl (fun F pn hx => (pss_one (ps_expr (pe_meth (pv 0) T.cl_Board T.me_Board_tell (ok_Board_tell T) (hr.mono (by decide)) T.b_Board_tell .nil hx (pa_cons (pe_ix (ix_seqK (K := K) rfl) (pv 1) pe_int (fun _ _ => rfl)) (pa_cons (pe_ix (ix_seqK (K := K) rfl) (pv 1) pe_int (fun _ _ => rfl)) (pa_cons (pe_ix (ix_seqK (K := K) rfl) (pv 2) pe_int (fun _ _ => rfl)) (pa_cons (pe_ix (ix_seqK (K := K) rfl) (pv 2) pe_int (fun _ _ => rfl)) pa_nil)))))))) (fun A' pn => (pss_one (ps_set (i := 3) sc_law_telling.nd rfl (Or.inl rfl) (pe_and (pe_callB (call_isiX (K := K) rfl) (by rfl) T.n_isinstance b_isinstance (pa_cons (pv 4) (pa_cons (pe_glob (v := .ref T.C_NoTelling) rfl T.c_NoTelling rfl) pa_nil))) (pe_one (pe_not (pe_callB (call_isiX (K := K) rfl) (by rfl) T.n_isinstance b_isinstance (pa_cons (pv 4) (pa_cons (pe_glob (v := .ref T.C_NoBoard) rfl T.c_NoBoard rfl) pa_nil))))))))))
    (pss_one (ps_ret (pv 3))))), ?_⟩
    have kl := hT.len
    walk_at "gz"
    refine ⟨?_, ?_⟩
    · walk_at "gz"
      refine ⟨_, _, hx, rfl, ixT (SqT.of ha) rfl (ixT (SqT.of ha) rfl (ixT (SqT.of hb) rfl (ixT (SqT.of hb) rfl ?_)))⟩
      refine ⟨x, p, e, t, u, d, m, i, j, lo, hi, kvs, rfl, ⟨⟨_, hx⟩, hp⟩, by omega, fun z => ⟨rfl, Same.refl _, z⟩, fun z v H1 s1 hp1 hv => ?_⟩
      walk_at "gz"
      exact q1 z H1 s1 ⟨_, hp1, TabAs.put (s := (i, j)) (w := (lo, hi)) (hT.imp fun _ _ _ y => y.fr (SameBut.fr s1 hp)) hv⟩
    · rintro cls H' ⟨rfl, hs, hz⟩
      refine ⟨_, rfl, T.mt_NoTelling_GazeError, fun a ha => ?_⟩
      walk_at "gz"
      refine isiX upd_same T.xc_NoTelling (fun z => nomatch z) T.is_NoTelling_NoTelling ?_
      walk_at "gz"
      refine isiX upd_same T.xc_NoTelling (fun z => nomatch z) T.is_NoTelling_NoBoard ?_
      walk_at "gz"
      exact q0 hz _ (hs.trans (same_upd ha))
def sp_hushing (B : Addr) : Sp := fun vs H Q _ => ∃ (x p a : Addr) (e t u d m i j : Int) (tb : Tb), vs = [.ref x, .ref a] ∧ BrdT B H x e t u d m p tb ∧ H a = some (.tup [.int i, .int j]) ∧
  (valT tb (i, j) ≠ none → ∀ H', SameBut p H H' → TabAt H' p (dropT tb (i, j)) → Q .non H') ∧ (valT tb (i, j) = none → ∀ H', Same H H' → Q (.bl true) H')
theorem ok_law_hushing (T : Tx K mg) : FnOk P w K mg base (CXX P w) 3 T.a_law_hushing T.fd_law_hushing ["_law_board", "_law_spot_here"] (sp_hushing T.C_Board) := by
  refine okN T.F_law_hushing sc_law_hushing (fun vs H Q E h => ?_) (fun cdv A outer s H vs Q E hr h => ?_)
  · obtain ⟨x, p, a, e, t, u, d, m, i, j, tb, rfl, _⟩ := h
    rfl
  · obtain ⟨x, p, a, e, t, u, d, m, i, j, tb, rfl, ⟨⟨dx, hx⟩, kvs, hp, hT⟩, ha, q1, q0⟩ := h
    refine ⟨_, (pss_cons (ps_set (i := 2) sc_law_hushing.nd rfl (Or.inl rfl) pe_non)
    (pss_cons (ps_try (fun cls _ H1 => cls = .ref T.C_NoTelling ∧ Same H H1 ∧ valT tb (i, j) = none) 3 rfl rfl rfl T.c_GazeError sc_law_hushing.nd rfl rfl (fun F pn hx => (pss_one (ps_expr (pe_meth (pv 0) T.cl_Board T.me_Board_hush (ok_Board_hush T) (hr.mono (by decide)) T.b_Board_hush .nil hx (pa_cons (pe_ix (ix_seqK (K := K) rfl) (pv 1) pe_int (fun _ _ => rfl)) (pa_cons (pe_ix (ix_seqK (K := K) rfl) (pv 1) pe_int (fun _ _ => rfl)) pa_nil)))))) (fun A' pn => (pss_one (ps_set (i := 2) sc_law_hushing.nd rfl (Or.inl rfl) (pe_and (pe_callB (call_isiX (K := K) rfl) (by rfl) T.n_isinstance b_isinstance (pa_cons (pv 3) (pa_cons (pe_glob (v := .ref T.C_NoTelling) rfl T.c_NoTelling rfl) pa_nil))) (pe_one (pe_not (pe_callB (call_isiX (K := K) rfl) (by rfl) T.n_isinstance b_isinstance (pa_cons (pv 3) (pa_cons (pe_glob (v := .ref T.C_NoBoard) rfl T.c_NoBoard rfl) pa_nil))))))))))
    (pss_one (ps_ret (pv 2))))), ?_⟩
    walk_at "gz"
    refine ⟨?_, ?_⟩
    · walk_at "gz"
      refine ⟨_, _, hx, rfl, ixT (SqT.of ha) rfl (ixT (SqT.of ha) rfl ?_)⟩
      refine ⟨x, p, e, t, u, d, m, i, j, kvs, rfl, ⟨⟨_, hx⟩, hp⟩, fun z H1 s1 => ⟨rfl, s1, ?_⟩, fun v hv H1 s1 hp1 => ?_⟩
      · cases hw : valT tb (i, j) with
        | none => rfl
        | some w =>
          obtain ⟨v, h1, _⟩ := (hT.val (i, j)).2 w hw
          rw [z] at h1; cases h1
      · walk_at "gz"
        exact q1 (fun z => by rw [(hT.val (i, j)).1 z] at hv; cases hv) H1 s1 ⟨_, hp1, TabAs.drop (s := (i, j)) (hT.imp fun _ _ _ y => y.fr (SameBut.fr s1 hp))⟩
    · rintro cls H' ⟨rfl, hs, hz⟩
      refine ⟨_, rfl, T.mt_NoTelling_GazeError, fun a ha => ?_⟩
      walk_at "gz"
      refine isiX upd_same T.xc_NoTelling (fun z => nomatch z) T.is_NoTelling_NoTelling ?_
      walk_at "gz"
      refine isiX upd_same T.xc_NoTelling (fun z => nomatch z) T.is_NoTelling_NoBoard ?_
      walk_at "gz"
      exact q0 hz _ (hs.trans (same_upd ha))
def sp_asking (B : Addr) : Sp := fun vs H Q _ => ∃ (x p a : Addr) (e t u d m i j : Int) (tb : Tb), vs = [.ref x, .ref a] ∧ BrdT B H x e t u d m p tb ∧ H a = some (.tup [.int i, .int j]) ∧ ¬ onB e t (i, j) ∧ ∀ H', Same H H' → Q (.bl true) H'
theorem ok_law_asking (T : Tx K mg) : FnOk P w K mg base (CXX P w) 4 T.a_law_asking T.fd_law_asking ["_law_board", "_law_spot_here"] (sp_asking T.C_Board) := by
  refine okN T.F_law_asking sc_law_asking (fun vs H Q E h => ?_) (fun cdv A outer s H vs Q E hr h => ?_)
  · obtain ⟨x, p, a, e, t, u, d, m, i, j, tb, rfl, _⟩ := h
    rfl
  · obtain ⟨x, p, a, e, t, u, d, m, i, j, tb, rfl, ⟨⟨dx, hx⟩, kvs, hp, hT⟩, ha, hno, q0⟩ := h
    refine ⟨_, (pss_cons (ps_set (i := 2) sc_law_asking.nd rfl (Or.inl rfl) pe_non)
    (pss_cons (ps_try (fun cls _ H1 => cls = .ref T.C_NoTelling ∧ Same H H1) 3 rfl rfl rfl T.c_GazeError sc_law_asking.nd rfl rfl (fun F pn hx => (pss_one (ps_expr (pe_meth (pv 0) T.cl_Board T.me_Board_word (ok_Board_word T) (hr.mono (by decide)) T.b_Board_word .nil hx (pa_cons (pe_ix (ix_seqK (K := K) rfl) (pv 1) pe_int (fun _ _ => rfl)) (pa_cons (pe_ix (ix_seqK (K := K) rfl) (pv 1) pe_int (fun _ _ => rfl)) pa_nil)))))) (fun A' pn => (pss_one (ps_set (i := 2) sc_law_asking.nd rfl (Or.inl rfl) (pe_and (pe_callB (call_isiX (K := K) rfl) (by rfl) T.n_isinstance b_isinstance (pa_cons (pv 3) (pa_cons (pe_glob (v := .ref T.C_NoTelling) rfl T.c_NoTelling rfl) pa_nil))) (pe_one (pe_not (pe_callB (call_isiX (K := K) rfl) (by rfl) T.n_isinstance b_isinstance (pa_cons (pv 3) (pa_cons (pe_glob (v := .ref T.C_NoBoard) rfl T.c_NoBoard rfl) pa_nil))))))))))
    (pss_one (ps_ret (pv 2))))), ?_⟩
    walk_at "gz"
    refine ⟨?_, ?_⟩
    · walk_at "gz"
      refine ⟨_, _, hx, rfl, ixT (SqT.of ha) rfl (ixT (SqT.of ha) rfl ?_)⟩
      exact ⟨x, p, e, t, u, d, m, i, j, kvs, rfl, ⟨⟨_, hx⟩, hp⟩, fun z => ⟨rfl, Same.refl _⟩, fun z => absurd z hno⟩
    · rintro cls H' ⟨rfl, hs⟩
      refine ⟨_, rfl, T.mt_NoTelling_GazeError, fun a ha => ?_⟩
      walk_at "gz"
      refine isiX upd_same T.xc_NoTelling (fun z => nomatch z) T.is_NoTelling_NoTelling ?_
      walk_at "gz"
      refine isiX upd_same T.xc_NoTelling (fun z => nomatch z) T.is_NoTelling_NoBoard ?_
      walk_at "gz"
      exact q0 _ (hs.trans (same_upd ha))
def sp_lkeep (K : PySem.W.Frag) (B : Addr) : Sp := fun vs H Q _ => ∃ (x p a : Addr) (e t u d m : Int) (tb : Tb) (ys : List V) (ss : List P2), vs = [.ref x, .ref a] ∧ BrdT B H x e t u d m p tb ∧ okB e t u d m ∧ SqL K H a ys ∧ Pts H ys ss ∧ ss.length ≤ 100 ∧ (∃ s ∈ ss, valT tb s = none) ∧ ∀ H', Same H H' → Q (.bl true) H'
theorem ok_law_keeping (T : Tx K mg) : FnOk P w K mg base (CXX P w) 4 T.a_law_keeping T.fd_law_keeping ["_law_board", "_law_spots"] (sp_lkeep K T.C_Board) := by
  refine okN T.F_law_keeping sc_law_keeping (fun vs H Q E h => ?_) (fun cdv A outer s H vs Q E hr h => ?_)
  · obtain ⟨x, p, a, e, t, u, d, m, tb, ys, ss, rfl, _⟩ := h
    rfl
  · obtain ⟨x, p, a, e, t, u, d, m, tb, ys, ss, rfl, hb, hok, hS, hP, hl, hno, q0⟩ := h
    refine ⟨_, (pss_cons (ps_set (i := 2) sc_law_keeping.nd rfl (Or.inl rfl) pe_non)
    (pss_cons (ps_try (fun cls _ H1 => cls = .ref T.C_NoTelling ∧ Same H H1) 3 rfl rfl rfl T.c_GazeError sc_law_keeping.nd rfl rfl (fun F pn hx => (pss_one (ps_expr (pe_meth (pv 0) T.cl_Board T.me_Board_keeping (ok_Board_keeping T) (hr.mono (by decide)) T.b_Board_keeping .nil hx (pa_cons (pv 1) pa_nil))))) (fun A' pn => (pss_one (ps_set (i := 2) sc_law_keeping.nd rfl (Or.inl rfl) (pe_and (pe_callB (call_isiX (K := K) rfl) (by rfl) T.n_isinstance b_isinstance (pa_cons (pv 3) (pa_cons (pe_glob (v := .ref T.C_NoTelling) rfl T.c_NoTelling rfl) pa_nil))) (pe_one (pe_not (pe_callB (call_isiX (K := K) rfl) (by rfl) T.n_isinstance b_isinstance (pa_cons (pv 3) (pa_cons (pe_glob (v := .ref T.C_NoBoard) rfl T.c_NoBoard rfl) pa_nil))))))))))
    (pss_one (ps_ret (pv 2))))), ?_⟩
    obtain ⟨⟨dx, hx⟩, _⟩ := id hb
    walk_at "gz"
    refine ⟨?_, ?_⟩
    · walk_at "gz"
      exact ⟨_, _, hx, rfl, x, p, a, e, t, u, d, m, tb, ys, ss, rfl, hb, hok, hS, hP, hl, fun _ H1 s1 => ⟨rfl, s1⟩, fun z => let ⟨s, h1, h2⟩ := hno; absurd h2 (z s h1)⟩
    · rintro cls H' ⟨rfl, hs⟩
      refine ⟨_, rfl, T.mt_NoTelling_GazeError, fun a ha => ?_⟩
      walk_at "gz"
      refine isiX upd_same T.xc_NoTelling (fun z => nomatch z) T.is_NoTelling_NoTelling ?_
      walk_at "gz"
      refine isiX upd_same T.xc_NoTelling (fun z => nomatch z) T.is_NoTelling_NoBoard ?_
      walk_at "gz"
      exact q0 _ (hs.trans (same_upd ha))
def sp_lallow (B : Addr) : Sp := fun vs H Q _ => ∃ (x p : Addr) (e t u d m mo : Int) (tb : Tb), vs = [.ref x, .int mo] ∧ BrdT B H x e t u d m p tb ∧ okT e t tb ∧ ¬ okB e t u d mo ∧ ∀ H', Same H H' → Q (.bl true) H'
theorem ok_law_allowing (T : Tx K mg) : FnOk P w K mg base (CXX P w) 4 T.a_law_allowing T.fd_law_allowing ["_law_board", "_law_most"] (sp_lallow T.C_Board) := by
  refine okN T.F_law_allowing sc_law_allowing (fun vs H Q E h => ?_) (fun cdv A outer s H vs Q E hr h => ?_)
  · obtain ⟨x, p, e, t, u, d, m, mo, tb, rfl, _⟩ := h
    rfl
  · obtain ⟨x, p, e, t, u, d, m, mo, tb, rfl, hb, hok, hno, q0⟩ := h
    refine ⟨_, (pss_cons (ps_set (i := 2) sc_law_allowing.nd rfl (Or.inl rfl) pe_non)
    (pss_cons (ps_try (fun cls _ H1 => cls = .ref T.C_NoBoard ∧ Same H H1) 3 rfl rfl rfl T.c_GazeError sc_law_allowing.nd rfl rfl (fun F pn hx => (pss_one (ps_expr (pe_meth (pv 0) T.cl_Board T.me_Board_allowing (ok_Board_allowing T) (hr.mono (by decide)) T.b_Board_allowing .nil hx (pa_cons (pv 1) pa_nil))))) (fun A' pn => (pss_one (ps_set (i := 2) sc_law_allowing.nd rfl (Or.inl rfl) (pe_and (pe_callB (call_isiX (K := K) rfl) (by rfl) T.n_isinstance b_isinstance (pa_cons (pv 3) (pa_cons (pe_glob (v := .ref T.C_NoBoard) rfl T.c_NoBoard rfl) pa_nil))) (pe_one (pe_not (pe_callB (call_isiX (K := K) rfl) (by rfl) T.n_isinstance b_isinstance (pa_cons (pv 3) (pa_cons (pe_glob (v := .ref T.C_NoTelling) rfl T.c_NoTelling rfl) pa_nil))))))))))
    (pss_one (ps_ret (pv 2))))), ?_⟩
    obtain ⟨⟨dx, hx⟩, _⟩ := id hb
    walk_at "gz"
    refine ⟨?_, ?_⟩
    · walk_at "gz"
      exact ⟨_, _, hx, rfl, x, p, e, t, u, d, m, mo, tb, rfl, hb, hok, fun _ H1 s1 => ⟨rfl, s1⟩, fun z => absurd z hno⟩
    · rintro cls H' ⟨rfl, hs⟩
      refine ⟨_, rfl, T.mt_NoBoard_GazeError, fun a ha => ?_⟩
      walk_at "gz"
      refine isiX upd_same T.xc_NoBoard (fun z => nomatch z) T.is_NoBoard_NoBoard ?_
      walk_at "gz"
      refine isiX upd_same T.xc_NoBoard (fun z => nomatch z) T.is_NoBoard_NoTelling ?_
      walk_at "gz"
      exact q0 _ (hs.trans (same_upd ha))
end
section
variable {P : Program} {w : World} {K : PySem.W.Frag} {mg : Str → Option Value} {base : Heap}
seal L2.PE L2.PS L2.PSs L2.PA
def sp_alike : Sp := fun vs H Q _ => ∃ (v w : V), vs = [v, w] ∧ ((v = .non ∧ w = .non) ∨ ∃ lo hi, IsS H v lo hi ∧ IsS H w lo hi) ∧ ∀ H', Same H H' → Q (.bl true) H'
theorem ok_law_alike (T : Tx K mg) : FnOk P w K mg base (CXX P w) 2 T.a_law_alike T.fd_law_alike ["_law_found", "_law_due"] sp_alike := by
  refine okN T.F_law_alike sc_law_alike (fun vs H Q E h => ?_) (fun cdv A outer s H vs Q E hr h => ?_)
  · obtain ⟨v, w, rfl, _⟩ := h
    rfl
  · obtain ⟨v, w, rfl, hv, q⟩ := h
    refine ⟨_, (pss_cons (ps_if (PW.pt (pw_or (pt_cmp (pc_isN (pv 1))) (pw_or1 (pt_not (pt_val (pe_callB call_isiA (by rfl) T.n_isinstance b_isinstance (pa_cons (pv 0) (pa_cons (pe_bltn (v := .ty "tuple") rfl T.n_tuple b_tuple rfl) pa_nil)))))))) (pss_one (ps_ret (pe_and (pe_cmp (pc_isN (pv 1))) (pe_one (pe_cmp (pc_isN (pv 0))))))) pss_nil)
    (pss_one (ps_ret (pe_and (pe_cmpR (op_eqD hr.units) (pv 0) (pv 1) (nomark _)) (pe_one (pe_callB (call_allL rfl) (by rfl) T.n_all b_all (pa_cons (pe_comp (CompOk.mk (fr := []) (ys := []) rfl (by decide +kernel) rfl (by decide +kernel) rfl rfl .nil .nil (by decide) rfl) rfl (pi_tup (pv 0)) (fun C s2 H2 ex pn => ⟨pts_nil, (pe_or (pe_cmp (pc_isN (pv 0))) (pe_one (pe_call (ok_law_whole T) (hr.mono (by decide)) rfl T.m_law_whole T.F_law_whole.kp T.b_law_whole .nil passE0 (pa_cons (pv 0) pa_nil))))⟩)) pa_nil))))))), ?_⟩
    rcases hv with ⟨rfl, rfl⟩ | ⟨lo, hi, hv, hw⟩
    · walk_at "gz"
      exact q _ (Same.refl _)
    · obtain ⟨p, rfl, hp⟩ := id hv
      obtain ⟨r, rfl, hr0⟩ := id hw
      walk_at "gz"
      refine isi_tup hp ?_
      walk_at "gz"
      refine eq_IsS hv hw ⟨_, rfl, ?_⟩
      walk_at "gz"
      refine ⟨⟨_, SqT.of hp⟩, blk_of it_tup (by show 2 ≤ sizeLine; decide) (compGo_map (p := fun _ => true) (f := fun _ => .bl true) (SqT.of hp) (fun x _ Q h => ?_) (fun x hx0 _ Q h => ?_) ?_)⟩
      · walk_at "gz"
        exact h
      · obtain ⟨e', rfl⟩ : ∃ e' : En, x = ev e' := by
          simp at hx0
          rcases hx0 with h | h
          · exact ⟨_, h⟩
          · exact ⟨_, h⟩
        rcases e' with _ | n
        · walk_at "gz"
          exact h
        · walk_at "gz"
          refine ⟨_, rfl, .inr ⟨_, rfl⟩, ?_⟩
          simp only [isWhole]
          exact h
      · intro m hm
        refine ⟨m, rfl, [true, true], SqL.of upd_same, ?_⟩
        walk_at "gz"
        exact q _ (same_upd hm)
def SzAt (H : Hp) (z : Addr) (e t u d : Int) : Prop := H z = some (.tup [.int e, .int t, .int u, .int d])
def sp_spot : Sp := fun vs H Q _ => ∃ (c e t u d : Int) (z : Addr), vs = [.int c, .ref z] ∧ SzAt H z e t u d ∧ 1 ≤ e ∧ 1 ≤ t ∧ ∀ a i j H', Same H H' → H a = none → H' a = some (.tup [.int i, .int j]) → Q (.ref a) H'
theorem ok_law_spot (T : Tx K mg) : FnOk P w K mg base (CXX P w) 1 T.a_law_spot T.fd_law_spot ["_law_cell_here", "_law_sizes"] sp_spot := by
  refine okN T.F_law_spot sc_law_spot (fun vs H Q E h => ?_) (fun cdv A outer s H vs Q E hr h => ?_)
  · obtain ⟨c, e, t, u, d, z, rfl, _⟩ := h
    rfl
  · obtain ⟨c, e, t, u, d, z, rfl, hz, he, ht, q⟩ := h
    refine ⟨_, (pss_one (ps_ret (pe_tup (pa_cons (pe_op op_sub (pe_op op_mod (pv 0) (pe_op op_add (pe_ix ix_seq (pv 1) pe_int (fun _ _ => rfl)) pe_int)) pe_int) (pa_cons (pe_op op_sub (pe_op op_mod (pe_op op_fdivB (pv 0) pe_int) (pe_op op_add (pe_ix ix_seq (pv 1) pe_int (fun _ _ => rfl)) pe_int)) pe_int) pa_nil))))), ?_⟩
    unfold SzAt at hz
    walk_at "gz"
    refine ixT (SqT.of hz) rfl ?_
    walk_at "gz"
    exact ⟨by omega, by decide, bd200 (by decide), ixT (SqT.of hz) rfl ⟨_, rfl, by omega, line2, fun p hp => q p _ _ _ (same_upd hp) hp upd_same⟩⟩
def sp_there : Sp := fun vs H Q _ => ∃ (a z : Addr) (i j e t u d : Int), vs = [.ref a, .ref z] ∧ H a = some (.tup [.int i, .int j]) ∧ SzAt H z e t u d ∧ Q (.bl (decide (onB e t (i, j)))) H
theorem ok_law_there (T : Tx K mg) : FnOk P w K mg base (CXX P w) 1 T.a_law_there T.fd_law_there ["_law_spot_here", "_law_sizes"] sp_there := by
  refine okN T.F_law_there sc_law_there (fun vs H Q E h => ?_) (fun cdv A outer s H vs Q E hr h => ?_)
  · obtain ⟨a, z, i, j, e, t, u, d, rfl, _⟩ := h
    rfl
  · obtain ⟨a, z, i, j, e, t, u, d, rfl, ha, hz, q⟩ := h
    refine ⟨_, (pss_one (ps_ret (pe_and (pe_chain op_le op_lt pe_int (pe_ix ix_seq (pv 0) pe_int (fun _ _ => rfl)) (pe_ix ix_seq (pv 1) pe_int (fun _ _ => rfl))) (pe_one (pe_chain op_le op_lt pe_int (pe_ix ix_seq (pv 0) pe_int (fun _ _ => rfl)) (pe_ix ix_seq (pv 1) pe_int (fun _ _ => rfl))))))), ?_⟩
    unfold SzAt at hz
    walk_at "gz"
    refine ixT (SqT.of ha) rfl ?_
    walk_at "gz"
    refine ite_by (fun h1 => ixT (SqT.of hz) rfl ⟨_, rfl, ite_by (fun h2 => ixT (SqT.of ha) rfl ⟨_, rfl, ite_by (fun h3 => ixT (SqT.of hz) rfl ⟨_, rfl, _, rfl, ?_⟩) fun h3 => ?_⟩) fun h2 => ?_⟩) fun h1 => ?_
    · rw [show decide (j < t) = decide (onB e t (i, j)) by simp [onB, h1, h2, h3]]; exact q
    · rw [show decide (onB e t (i, j)) = false from decide_eq_false fun z => h3 z.2.1] at q; exact q
    · rw [show decide (onB e t (i, j)) = false from decide_eq_false fun z => h2 z.1.2] at q; exact q
    · rw [show decide (onB e t (i, j)) = false from decide_eq_false fun z => h1 z.1.1] at q; exact q
def sp_values (B : Addr) : Sp := fun vs H Q _ => ∃ (x p z : Addr) (e t u d m : Int) (tb : Tb), vs = [.ref x, .ref z, .int m] ∧ BrdT B H x e t u d m p tb ∧ SzAt H z e t u d ∧ ∀ H', Same H H' → Q (.bl true) H'
theorem ok_law_values (T : Tx K mg) : FnOk P w K mg base (CXX P w) 2 T.a_law_values T.fd_law_values ["_law_board", "_law_sizes", "_law_most"] (sp_values T.C_Board) := by
  refine okN T.F_law_values sc_law_values (fun vs H Q E h => ?_) (fun cdv A outer s H vs Q E hr h => ?_)
  · obtain ⟨x, p, z, e, t, u, d, m, tb, rfl, _⟩ := h
    rfl
  · obtain ⟨x, p, z, e, t, u, d, m, tb, rfl, ⟨⟨dx, hx⟩, _⟩, hz, q⟩ := h
    refine ⟨_, (pss_cons (ps_if (pt_cmpR (op_neD hr.units) (pe_tup (pa_cons (pe_fld (pv 0) rfl) (pa_cons (pe_fld (pv 0) rfl) (pa_cons (pe_fld (pv 0) rfl) (pa_cons (pe_fld (pv 0) rfl) pa_nil))))) (pv 1) (nomark _)) (pss_one (ps_ret pe_bl)) pss_nil)
    (pss_one (ps_ret (pe_and (pe_cmpR op_eq (pe_fld (pv 0) rfl) (pv 2) (nomark _)) (pe_one (pe_call (ok_law_whole T) (hr.mono (by decide)) rfl T.m_law_whole T.F_law_whole.kp T.b_law_whole .nil passE0 (pa_cons (pe_fld (pv 0) rfl) pa_nil))))))), ?_⟩
    unfold SzAt at hz
    walk_at "gz"
    refine ⟨_, _, _, hx, T.cl_Board, T.no_Board_eyes, _, rfl, _, _, _, hx, T.cl_Board, T.no_Board_turns, _, rfl, _, _, _, hx, T.cl_Board, T.no_Board_up, _, rfl, _, _, _, hx, T.cl_Board, T.no_Board_down, _, rfl, by decide, fun a ha => ?_⟩
    have s1 := same_upd (o := .tup [V.int e, .int t, .int u, .int d]) ha
    refine eq_dat (n := 3) (d := .tuple [.int e, .int t, .int u, .int d]) (.tup (SqT.of upd_same) (.cons (.int _) (.cons (.int _) (.cons (.int _) (.cons (.int _) .nil))))) (.tup (SqT.of (s1 _ _ hz)) (.cons (.int _) (.cons (.int _) (.cons (.int _) (.cons (.int _) .nil))))) rfl (by decide) ⟨_, rfl, ?_⟩
    walk_at "gz"
    refine ⟨_, _, _, s1 _ _ hx, T.cl_Board, T.no_Board_most, _, rfl, ?_⟩
    walk_at "gz"
    refine ⟨_, _, _, s1 _ _ hx, T.cl_Board, T.no_Board_most, _, rfl, _, rfl, .inr ⟨_, rfl⟩, ?_⟩
    simp only [isWhole]
    exact q _ s1
def sp_stands (K : PySem.W.Frag) (B : Addr) : Sp := fun vs H Q _ => ∃ (x p r : Addr) (e t u d m : Int) (tb : Tb), vs = [.ref x, .ref r] ∧ BrdT B H x e t u d m p tb ∧ TabAt H r tb ∧ (tb.map (·.1)).Nodup ∧ tb.length < 64 ∧ ∀ H', Same H H' → Q (.bl true) H'
def inv_stands (H : Hp) (x r l k : Addr) (_ : Nat) (σ : St) (H1 : Hp) : Prop := ∃ (e1 e2 : Option V), σ = [some (.ref x), some (.ref r), some (.ref l), some (.ref k), e1, e2] ∧ Same H H1
theorem ok_law_stands (T : Tx K mg) : FnOk P w K mg base (CXX P w) 3 T.a_law_stands T.fd_law_stands ["_law_board", "_law_table"] (sp_stands K T.C_Board) := by
  refine okN T.F_law_stands sc_law_stands (fun vs H Q E h => ?_) (fun cdv A outer s H vs Q E hr h => ?_)
  · obtain ⟨x, p, r, e, t, u, d, m, tb, rfl, _⟩ := h
    rfl
  · obtain ⟨x, p, r, e, t, u, d, m, tb, rfl, hb, hR, hn, h64, q⟩ := h
    refine ⟨_, (pss_cons (ps_set (i := 2) sc_law_stands.nd rfl (Or.inl rfl) (pe_meth0 (pv 0) T.cl_Board T.me_Board_tellings (ok_Board_tellings T) (hr.mono (by decide)) T.b_Board_tellings .nil passE0))
    (pss_cons (ps_if (PW.pt (pw_or (pt_not (pt_val (pe_callB call_isiA (by rfl) T.n_isinstance b_isinstance (pa_cons (pv 2) (pa_cons (pe_bltn (v := .ty "list") rfl T.n_list b_list rfl) pa_nil))))) (pw_or1 (pt_cmpR op_ne (pe_callB call_len (by rfl) T.n_len b_len (pa_cons (pv 2) pa_nil)) (pe_callB call_lenD (by rfl) T.n_len b_len (pa_cons (pv 1) pa_nil)) (nomark _))))) (pss_one (ps_ret pe_bl)) pss_nil)
    (pss_cons (ps_set (i := 3) sc_law_stands.nd rfl (Or.inl rfl) (pe_callB call_sortedT (by rfl) T.n_sorted b_sorted (pa_cons (pe_callTy (call_listD rfl) (by rfl) T.n_list b_list (pa_cons (pv 1) pa_nil)) pa_nil)))
    (pss_cons (ps_for PassesOwn.never rfl (pi_range1 rfl T.n_range (pa_cons (pe_callB call_len (by rfl) T.n_len b_len (pa_cons (pv 2) pa_nil)) pa_nil)) (pg_name (i := 4) sc_law_stands.nd rfl (Or.inl rfl)) (pss_cons (ps_set (i := 5) sc_law_stands.nd rfl (Or.inl rfl) (pe_ix ix_seq (pv 2) (pv 4) (fun _ _ => rfl)))
        (pss_cons (ps_if (PW.pt (pw_or (pt_not (pt_val (pe_callB call_isiA (by rfl) T.n_isinstance b_isinstance (pa_cons (pv 5) (pa_cons (pe_bltn (v := .ty "tuple") rfl T.n_tuple b_tuple rfl) pa_nil))))) (pw_or (pt_cmpR op_ne (pe_callB call_len (by rfl) T.n_len b_len (pa_cons (pv 5) pa_nil)) pe_int (nomark _)) (pw_or1 (pt_cmpR (op_neD hr.units) (pe_tup (pa_cons (pe_ix ix_seq (pv 5) pe_int (fun _ _ => rfl)) (pa_cons (pe_ix ix_seq (pv 5) pe_int (fun _ _ => rfl)) pa_nil))) (pe_ix ix_seq (pv 3) (pv 4) (fun _ _ => rfl)) (nomark _)))))) (pss_one (ps_ret pe_bl)) pss_nil)
        (pss_cons (ps_if (PW.pt (pw_or (pt_not (pt_val (pe_call (ok_law_whole T) (hr.mono (by decide)) rfl T.m_law_whole T.F_law_whole.kp T.b_law_whole .nil passE0 (pa_cons (pe_ix ix_seq (pv 5) pe_int (fun _ _ => rfl)) pa_nil)))) (pw_or1 (pt_not (pt_val (pe_call (ok_law_whole T) (hr.mono (by decide)) rfl T.m_law_whole T.F_law_whole.kp T.b_law_whole .nil passE0 (pa_cons (pe_ix ix_seq (pv 5) pe_int (fun _ _ => rfl)) pa_nil))))))) (pss_one (ps_ret pe_bl)) pss_nil)
        (pss_one (ps_if (pt_not (pt_val (pe_call (ok_law_alike T) (hr.mono (by decide)) rfl T.m_law_alike T.F_law_alike.kp T.b_law_alike .nil passE0 (pa_cons (pe_ix ix_seq (pv 5) pe_int (fun _ _ => rfl)) (pa_cons (pe_dget (hu_of hr) (pv 1) (pe_ix ix_seq (pv 3) (pv 4) (fun _ _ => rfl)) (fun _ _ => rfl)) pa_nil))))) (pss_one (ps_ret pe_bl)) pss_nil))))))
    (pss_one (ps_ret pe_bl)))))), ?_⟩
    obtain ⟨⟨dx, hx⟩, _⟩ := id hb
    walk_at "gz"
    refine ⟨_, _, hx, rfl, x, p, e, t, u, d, m, tb, rfl, hb, hn, h64, fun l xs H1 s1 hl L1 A1 => ?_⟩
    obtain ⟨kvs, hr1, hT⟩ := hR.same s1
    have xl := A1.len
    rw [srtT_len] at xl
    have kl := hT.len
    walk_at "gz"
    refine isi_lst L1 ?_
    walk_at "gz"
    refine ⟨_, lenL (SqL.of L1), ?_⟩
    walk_at "gz"
    refine ⟨kvs, hr1, ?_⟩
    rw [if_neg (fun z => z (by omega))]
    refine ⟨kvs, hr1, fun l1 ys hl1 hk => ?_⟩
    have PT := All2.bind (hT.pts hk)
    have yl := PT.len
    have s2 := same_upd (o := .lst ys) hl1
    have Y2 : upd H1 l1 (.lst ys) l1 = some (.lst ys) := upd_same
    generalize upd H1 l1 (.lst ys) = H2 at s2 Y2 ⊢
    refine ⟨ys, SqL.of Y2, keyI tb, keyT_pts (PT.imp fun x r z => IsPt.same z s2), by omega, fun k hk1 => ?_⟩
    have s3 := s2.trans (same_upd (o := .lst (sortL (keyI tb) .non ys)) hk1)
    have K3 : upd H2 k (.lst (sortL (keyI tb) .non ys)) k = some (.lst (sortL (keyI tb) .non ys)) := upd_same
    have PS : All2 (fun x (r : P2 × S2) => IsPt (upd H2 k (.lst (sortL (keyI tb) .non ys))) x r.1) (sortL (keyI tb) .non ys) (srtT tb) := All2.sort (PT.imp fun x r z => IsPt.same z s3)
    generalize upd H2 k (.lst (sortL (keyI tb) .non ys)) = H3 at s3 K3 PS ⊢
    generalize sortL (keyI tb) .non ys = zs at K3 PS
    have S3 := s1.trans s3
    have L3 := s3 _ _ L1
    have A3 := A1.imp fun x r z => IsTr.same z s3
    have R3 := s3 _ _ hr1
    have T3 := hT.imp fun v a b z => IsS.same z s3
    walk_at "gz"
    refine ⟨_, lenL (SqL.of L3), by omega, by omega, by_range (inv_stands H3 x r l k) ⟨_, _, rfl, Same.refl _⟩ ?_ ?_⟩
    · rintro i σ H4 hi ⟨e1, e2, rfl, s4⟩
      have hi' : i < (srtT tb).length := by rw [srtT_len]; omega
      have er : (srtT tb)[i]? = some (srtT tb)[i] := List.getElem?_eq_getElem hi'
      obtain ⟨y, ey, a, w, rfl, ha, hw⟩ := A3.at er
      obtain ⟨k1, ek, b, rfl, hb1⟩ := PS.at er
      have mr := srtT_mem (List.mem_of_getElem? er)
      generalize (srtT tb)[i] = row at ha hw hb1 mr
      obtain ⟨v, hv, iv⟩ := ((T3.imp fun v a b z => IsS.same z s4).val row.1).2 _ (valT_mem hn mr)
      have ax : atI xs (0 + (i : Int)) = some (.ref a) := by rw [Int.zero_add]; exact atI_nat ey
      have az : atI zs (0 + (i : Int)) = some (.ref b) := by rw [Int.zero_add]; exact atI_nat ek
      have ha4 := s4 _ _ ha
      have hb4 := s4 _ _ hb1
      have L4 := s4 _ _ L3
      have K4 := s4 _ _ K3
      walk_at "gz"
      refine ixL (SqL.of L4) ax ?_
      walk_at "gz"
      refine isi_tup ha4 ?_
      walk_at "gz"
      refine ⟨_, lenT (SqT.of ha4), ?_⟩
      walk_at "gz"
      rw [if_neg (by decide)]
      refine ixT (SqT.of ha4) rfl (ixT (SqT.of ha4) rfl ⟨line2, fun c hc => ?_⟩)
      have s5 := same_upd (o := .tup [V.int row.1.1, .int row.1.2]) hc
      refine ixL (SqL.of (s5 _ _ K4)) az (eq_dat (n := 3) (d := .tuple [.int row.1.1, .int row.1.2]) (.tup (SqT.of upd_same) (.cons (.int _) (.cons (.int _) .nil))) (.tup (SqT.of (s5 _ _ hb4)) (.cons (.int _) (.cons (.int _) .nil))) rfl (by decide) ⟨_, rfl, ?_⟩)
      rw [if_neg (by decide)]
      have ha5 := s5 _ _ ha4
      refine ixT (SqT.of ha5) rfl ⟨_, rfl, .inr ⟨_, rfl⟩, _, rfl, ?_⟩
      refine ite_by (fun z => Bool.noConfusion (show true = false from z)) fun _ => ?_
      refine ixT (SqT.of ha5) rfl ⟨_, rfl, .inr ⟨_, rfl⟩, _, rfl, ?_⟩
      refine ite_by (fun z => Bool.noConfusion (show true = false from z)) fun _ => ?_
      refine ixT (SqT.of ha5) rfl (ixL (SqL.of (s5 _ _ K4)) az ⟨v, by rw [← hv]; exact DGet.t (k := spot row.1.1 row.1.2) (s5 _ _ (s4 _ _ R3)) (s5 _ _ hb4), _, _, rfl, .inr ⟨_, _, IsS.same hw (s4.trans s5), iv.same s5⟩, fun H6 s6 => ⟨_, rfl, ?_⟩⟩)
      rw [if_neg (by decide)]
      exact ⟨_, _, rfl, s4.trans (s5.trans s6)⟩
    · rintro σ H4 ⟨e1, e2, rfl, s4⟩
      walk_at "gz"
      exact q _ (S3.trans s4)
end
section
variable {P : Program} {w : World} {K : PySem.W.Frag} {mg : Str → Option Value} {base : Heap}
seal L2.PE L2.PS L2.PSs L2.PA
theorem _root_.Gz.Fr.tup {H H' : Hp} {b : Addr} {xs : List V} (f : Fr H H') (h : H b = some (.tup xs)) : H' b = some (.tup xs) := f _ _ (fun _ z => nomatch z) h
theorem _root_.Gz.Fr.lst {H H' : Hp} {b : Addr} {xs : List V} (f : Fr H H') (h : H b = some (.lst xs)) : H' b = some (.lst xs) := f _ _ (fun _ z => nomatch z) h
def sp_deed (B : Addr) : Sp := fun vs H Q _ => ∃ (x p r z : Addr) (e t u d m c c2 : Int) (tb : Tb), vs = [.ref x, .ref r, .ref z, .int c, .int c2] ∧ BrdT B H x e t u d m p tb ∧ TabAt H r tb ∧ p ≠ r ∧ SzAt H z e t u d ∧ 1 ≤ e ∧ 1 ≤ t ∧ okT e t tb ∧ tb.length < 900 ∧
  ∀ tb' H', But [p, r] H H' → TabAt H' p tb' → TabAt H' r tb' → okT e t tb' → tb'.length ≤ tb.length + 1 → Q (.bl true) H'
theorem ok_law_deed (T : Tx K mg) : FnOk P w K mg base (CXX P w) 5 T.a_law_deed T.fd_law_deed ["_law_board", "_law_table", "_law_sizes", "_law_cell_here", "_law_more"] (sp_deed T.C_Board) := by
  refine okN T.F_law_deed sc_law_deed (fun vs H Q E h => ?_) (fun cdv A outer s H vs Q E hr h => ?_)
  · obtain ⟨x, p, r, z, e, t, u, d, m, c, c2, tb, rfl, _⟩ := h
    rfl
  · obtain ⟨x, p, r, z, e, t, u, d, m, c, c2, tb, rfl, hb, hR, hpr, hz, he, ht, hok, hl, q⟩ := h
    refine ⟨_, (pss_cons (ps_set (i := 5) sc_law_deed.nd rfl (Or.inl rfl) (pe_call (ok_law_spot T) (hr.mono (by decide)) rfl T.m_law_spot T.F_law_spot.kp T.b_law_spot .nil passE0 (pa_cons (pe_op op_fdivB (pv 3) pe_int) (pa_cons (pv 2) pa_nil))))
    (pss_cons (ps_if (pt_cmpR op_lt (pe_op op_mod (pv 3) pe_int) pe_int (nomark _)) (pss_cons (ps_set (i := 6) sc_law_deed.nd rfl (Or.inl rfl) (pe_call (ok_law_word T) (hr.mono (by decide)) rfl T.m_law_word T.F_law_word.kp T.b_law_word .nil passE0 (pa_cons (pv 4) pa_nil)))
        (pss_cons (ps_set (i := 7) sc_law_deed.nd rfl (Or.inl rfl) (pe_call (ok_law_there T) (hr.mono (by decide)) rfl T.m_law_there T.F_law_there.kp T.b_law_there .nil passE0 (pa_cons (pv 5) (pa_cons (pv 2) pa_nil))))
        (pss_cons (ps_if (PW.pt (pw_and (pt_cmp (pc_notN (pe_ix ix_seq (pv 6) pe_int (fun _ _ => rfl)))) (pw_and1 (pt_cmp (pc_notN (pe_ix ix_seq (pv 6) pe_int (fun _ _ => rfl))))))) (pss_one (ps_set (i := 7) sc_law_deed.nd rfl (Or.inl rfl) (pe_and (pv 7) (pe_one (pe_cmpR op_le (pe_ix ix_seq (pv 6) pe_int (fun _ _ => rfl)) (pe_ix ix_seq (pv 6) pe_int (fun _ _ => rfl)) (nomark _)))))) pss_nil)
        (pss_cons (ps_set (i := 8) sc_law_deed.nd rfl (Or.inl rfl) (pe_call (ok_law_telling T) (hr.mono (by decide)) rfl T.m_law_telling T.F_law_telling.kp T.b_law_telling .nil passE0 (pa_cons (pv 0) (pa_cons (pv 5) (pa_cons (pv 6) pa_nil)))))
        (pss_cons (ps_if (pt_val (pv 7)) (pss_one (ps_dput (hu_of hr) (pv 1) (pv 5) (pv 6) rfl)) pss_nil)
        (pss_one (ps_ret (pe_ifExp (pt_val (pv 7)) (pe_cmp (pc_isN (pv 8))) (pe_cmpR op_isS (pv 8) pe_bl (nomark _)))))))))) pss_nil)
    (pss_cons (ps_set (i := 8) sc_law_deed.nd rfl (Or.inl rfl) (pe_call (ok_law_hushing T) (hr.mono (by decide)) rfl T.m_law_hushing T.F_law_hushing.kp T.b_law_hushing .nil passE0 (pa_cons (pv 0) (pa_cons (pv 5) pa_nil))))
    (pss_cons (ps_if (pt_cmp (pc_din (hu_of hr) (pv 5) (pv 1))) (pss_cons (ps_expr (pe_dpopT1 (hu_of hr) (pv 1) (pv 5) ⟨rfl, rfl, rfl, rfl⟩))
        (pss_one (ps_ret (pe_cmp (pc_isN (pv 8)))))) pss_nil)
    (pss_one (ps_ret (pe_cmpR op_isS (pv 8) pe_bl (nomark _)))))))), ?_⟩
    walk_at "gz"
    refine ⟨by decide, bd200 (by decide), _, e, t, u, d, z, rfl, hz, he, ht, fun a i j H1 s1 ha0 ha => ⟨by decide, ?_⟩⟩
    have hb1 := hb.same s1
    have hR1 := hR.same s1
    have hz1 : SzAt H1 z e t u d := s1 _ _ hz
    walk_at "gz"
    refine ite_by (fun h1 => ?_) fun h1 => ?_
    · walk_at "gz"
      refine ⟨_, rfl, fun b lo hi H2 s2 hb0 hB => ?_⟩
      have hb2 := hb1.same s2
      have hR2 := hR1.same s2
      have hz2 : SzAt H2 z e t u d := s2 _ _ hz1
      have ha2 := s2 _ _ ha
      walk_at "gz"
      refine ⟨a, z, i, j, e, t, u, d, rfl, ha2, hz2, ?_⟩
      obtain ⟨kp, hp2, hTp⟩ := id hb2.tb
      have good : onB e t (i, j) ∧ crossed lo hi = false → ∀ H3, SameBut p H2 H3 → TabAt H3 p (putT tb (i, j) (lo, hi)) → ∃ H4, DPut H3 r (.ref a) (.ref b) H4 ∧ Q (.bl true) H4 := fun hg H3 s3 T3 => by
        have F3 := SameBut.fr s3 hp2
        obtain ⟨kr, hr3, hTr⟩ := hR2.but (SameBut.but (ps := [p]) s3 (.head _)) (dcts1 hp2) (fun y => hpr (List.mem_singleton.mp y).symm)
        have ha3 := F3.tup ha2
        have hB3 := F3.tup hB
        have kl := hTr.len
        have F4 := fr_upd (o := .dT (putK kr (spot i j) (.ref b))) hr3
        refine ⟨_, DPut.t (k := spot i j) (v := .ref b) hr3 ha3 (Nat.lt_of_lt_of_le (by omega : _ < 1000) (by decide)), q (putT tb (i, j) (lo, hi)) _ (fun c o hc e => ?_) (T3.fr F4 fun _ e => by rw [upd_ne hpr]; exact e) ⟨_, upd_same, TabAs.put (s := (i, j)) (w := (lo, hi)) (hTr.imp fun _ _ _ y => y.fr F4) ⟨b, rfl, F4.tup hB3⟩⟩ (hok.put hg.1) (putT_len _ _ _)⟩
        rw [upd_ne (fun y => hc (by simp [y]))]
        exact s3 _ _ (fun y => hc (by simp [y])) (s2 _ _ (s1 _ _ e))
      have bad : ∀ H3, Same H2 H3 → Q (.bl true) H3 := fun H3 s3 => q tb H3 ((s1.trans (s2.trans s3)).but) (hb2.tb.same s3) (hR2.same s3) hok (by omega)
      refine ixT (SqT.of hB) rfl ?_
      rcases lo with _ | n
      · walk_at "gz"
        refine ⟨x, p, a, b, e, t, u, d, m, i, j, none, hi, tb, rfl, hb2, hl, ha2, hB, fun y H3 s3 T3 => ?_, fun y H3 s3 => ?_⟩
        · dsimp only; rw [if_pos y.1]
          obtain ⟨H4, g1, g2⟩ := good y H3 s3 T3
          exact ⟨H4, g1, by rw [if_pos y.1, decide_eq_true (show V.non = V.non from rfl)]; exact g2⟩
        · have nz : ¬ onB e t (i, j) := fun y' => y ⟨y', crossed_n _⟩
          dsimp only; rw [if_neg nz, if_neg nz]; exact ⟨true, rfl, bad H3 s3⟩
      · walk_at "gz"
        refine ixT (SqT.of hB) rfl ?_
        rcases hi with _ | k
        · walk_at "gz"
          refine ⟨x, p, a, b, e, t, u, d, m, i, j, some n, none, tb, rfl, hb2, hl, ha2, hB, fun y H3 s3 T3 => ?_, fun y H3 s3 => ?_⟩
          · dsimp only; rw [if_pos y.1]
            obtain ⟨H4, g1, g2⟩ := good y H3 s3 T3
            exact ⟨H4, g1, by rw [if_pos y.1, decide_eq_true (show V.non = V.non from rfl)]; exact g2⟩
          · have nz : ¬ onB e t (i, j) := fun y' => y ⟨y', crossed_m _⟩
            dsimp only; rw [if_neg nz, if_neg nz]; exact ⟨true, rfl, bad H3 s3⟩
        · walk_at "gz"
          refine ite_by (fun on => ?_) fun on => ?_
          · refine ixT (SqT.of hB) rfl (ixT (SqT.of hB) rfl ⟨_, rfl, _, rfl, ?_⟩)
            refine ⟨x, p, a, b, e, t, u, d, m, i, j, some n, some k, tb, rfl, hb2, hl, ha2, hB, fun y H3 s3 T3 => ?_, fun y H3 s3 => ?_⟩
            · have nk : n ≤ k := by have := y.2; rw [crossed_ss] at this; have := of_decide_eq_false this; omega
              dsimp only; rw [if_pos nk]
              obtain ⟨H4, g1, g2⟩ := good y H3 s3 T3
              exact ⟨H4, g1, by rw [if_pos nk, decide_eq_true (show V.non = V.non from rfl)]; exact g2⟩
            · have nk : ¬ n ≤ k := fun y' => y ⟨on, by rw [crossed_ss]; exact decide_eq_false (by omega)⟩
              dsimp only; rw [if_neg nk, if_neg nk]; exact ⟨true, rfl, bad H3 s3⟩
          · exact ⟨x, p, a, b, e, t, u, d, m, i, j, some n, some k, tb, rfl, hb2, hl, ha2, hB, fun y => absurd y.1 on, fun y H3 s3 => ⟨true, rfl, bad H3 s3⟩⟩
    · walk_at "gz"
      obtain ⟨kp, hp1, hTp⟩ := id hb1.tb
      refine ⟨x, p, a, e, t, u, d, m, i, j, tb, rfl, hb1, ha, fun hv H3 s3 T3 => ?_, fun hv H3 s3 => ?_⟩
      · have F3 := SameBut.fr s3 hp1
        obtain ⟨kr, hr3, hTr⟩ := hR1.but (SameBut.but (ps := [p]) s3 (.head _)) (dcts1 hp1) (fun y => hpr (List.mem_singleton.mp y).symm)
        have ha3 := F3.tup ha
        obtain ⟨w, hw⟩ := Option.ne_none_iff_exists'.mp hv
        obtain ⟨v, hv', _⟩ := (hTr.val (i, j)).2 w hw
        have F4 := fr_upd (o := .dT (dropK kr (spot i j))) hr3
        refine ⟨some v, by rw [← hv']; exact DGet.t (k := spot i j) hr3 ha3, ?_⟩
        rw [if_pos (show (some v).isSome = true from rfl), decide_eq_true (show V.non = V.non from rfl)]
        refine ⟨.inr ⟨kr, .inl hr3⟩, kr, hr3, spot i j, ha3, v, hv', q (dropT tb (i, j)) _ (fun c o hc e => ?_) (T3.fr F4 fun _ e => by rw [upd_ne hpr]; exact e) ⟨_, upd_same, TabAs.drop (s := (i, j)) (hTr.imp fun _ _ _ y => y.fr F4)⟩ hok.drop (Nat.le_succ_of_le (dropT_len _ _))⟩
        rw [upd_ne (fun y => hc (by simp [y]))]
        exact s3 _ _ (fun y => hc (by simp [y])) (s1 _ _ e)
      · obtain ⟨kr, hr3, hTr⟩ := id (hR1.same s3)
        refine ⟨none, by rw [← (hTr.val (i, j)).1 hv]; exact DGet.t (k := spot i j) hr3 (s3 _ _ ha), ?_⟩
        rw [if_neg (by simp)]
        exact ⟨true, rfl, q tb H3 ((s1.trans s3).but) (hb1.tb.same s3) (hR1.same s3) hok (by omega)⟩
def sp_looked (K : PySem.W.Frag) (B : Addr) : Sp := fun vs H Q _ => ∃ (x p r z : Addr) (e t u d m c : Int) (tb : Tb), vs = [.ref x, .ref r, .ref z, .int c] ∧ BrdT B H x e t u d m p tb ∧ TabAt H r tb ∧ SzAt H z e t u d ∧ 1 ≤ e ∧ 1 ≤ t ∧ okT e t tb ∧ tb.length < 64 ∧ ∀ H', Same H H' → Q (.bl true) H'
theorem ok_law_looked (T : Tx K mg) : FnOk P w K mg base (CXX P w) 5 T.a_law_looked T.fd_law_looked ["_law_board", "_law_table", "_law_sizes", "_law_cell_here"] (sp_looked K T.C_Board) := by
  refine okN T.F_law_looked sc_law_looked (fun vs H Q E h => ?_) (fun cdv A outer s H vs Q E hr h => ?_)
  · obtain ⟨x, p, r, z, e, t, u, d, m, c, tb, rfl, _⟩ := h
    rfl
  · obtain ⟨x, p, r, z, e, t, u, d, m, c, tb, rfl, hb, hR, hz, he, ht, hok, hl, q⟩ := h
    refine ⟨_, (pss_cons (ps_set (i := 4) sc_law_looked.nd rfl (Or.inl rfl) (pe_call (ok_law_spot T) (hr.mono (by decide)) rfl T.m_law_spot T.F_law_spot.kp T.b_law_spot .nil passE0 (pa_cons (pe_op op_fdivB (pv 3) pe_int) (pa_cons (pv 2) pa_nil))))
    (pss_cons (ps_if (pt_not (pt_val (pe_call (ok_law_there T) (hr.mono (by decide)) rfl T.m_law_there T.F_law_there.kp T.b_law_there .nil passE0 (pa_cons (pv 4) (pa_cons (pv 2) pa_nil))))) (pss_one (ps_if (pt_cmpR op_isnotS (pe_call (ok_law_asking T) (hr.mono (by decide)) rfl T.m_law_asking T.F_law_asking.kp T.b_law_asking .nil passE0 (pa_cons (pv 0) (pa_cons (pv 4) pa_nil))) pe_bl (nomark _)) (pss_one (ps_ret pe_bl)) pss_nil)) (pss_one (ps_if (pt_not (pt_val (pe_call (ok_law_alike T) (hr.mono (by decide)) rfl T.m_law_alike T.F_law_alike.kp T.b_law_alike .nil passE0 (pa_cons (pe_meth (pv 0) T.cl_Board T.me_Board_word (ok_Board_word T) (hr.mono (by decide)) T.b_Board_word .nil passE0 (pa_cons (pe_ix ix_seq (pv 4) pe_int (fun _ _ => rfl)) (pa_cons (pe_ix ix_seq (pv 4) pe_int (fun _ _ => rfl)) pa_nil))) (pa_cons (pe_dget1 (hu_of hr) (pv 1) (pv 4) ⟨rfl, rfl, rfl, rfl⟩) pa_nil))))) (pss_one (ps_ret pe_bl)) pss_nil)))
    (pss_cons (ps_set (i := 5) sc_law_looked.nd rfl (Or.inl rfl) (pe_meth0 (pv 0) T.cl_Board T.me_Board_tellings (ok_Board_tellings T) (hr.mono (by decide)) T.b_Board_tellings .nil passE0))
    (pss_cons (ps_expr (pe_bm0 PySem.F.plainAttrs_list PySem.F.slot_list_clear PySem.F.type_list_clear mt_clear (pv 5)))
    (pss_one (ps_ret (pe_call (ok_law_stands T) (hr.mono (by decide)) rfl T.m_law_stands T.F_law_stands.kp T.b_law_stands .nil passE0 (pa_cons (pv 0) (pa_cons (pv 1) pa_nil))))))))), ?_⟩
    have fin : ∀ H1, Same H H1 → sp_tells T.C_Board [.ref x] H1 (fun v H1 => tyV K "list" v H1 ∧ rClear v [] H1 fun _ H1 => sp_stands K T.C_Board [.ref x, .ref r] H1 Q E0) E0 := fun H1 s1 => by
      refine ⟨x, p, e, t, u, d, m, tb, rfl, hb.same s1, hok.1, hl, fun l xs H2 s2 hl0 L2 _ => ⟨.inl ⟨rfl, _, SqL.of L2⟩, l, xs, rfl, rfl, L2, ?_⟩⟩
      have S2 : Same H (upd H2 l (.lst [])) := same_put (s1.free hl0) (s1.trans s2)
      exact ⟨x, p, r, e, t, u, d, m, tb, rfl, hb.same S2, hR.same S2, hok.1, hl, fun H3 s3 => q _ (S2.trans s3)⟩
    walk_at "gz"
    refine ⟨by decide, bd200 (by decide), _, e, t, u, d, z, rfl, hz, he, ht, fun a i j H1 s1 ha0 ha => ?_⟩
    have hb1 := hb.same s1
    have hR1 := hR.same s1
    have hz1 : SzAt H1 z e t u d := s1 _ _ hz
    walk_at "gz"
    refine ⟨a, z, i, j, e, t, u, d, rfl, ha, hz1, ?_⟩
    walk_at "gz"
    refine ite_by (fun hno => ?_) fun hno => ?_
    · refine ⟨x, p, a, e, t, u, d, m, i, j, tb, rfl, hb1, ha, hno, fun H2 s2 => ⟨true, rfl, ?_⟩⟩
      rw [if_neg (by decide)]
      obtain ⟨⟨dx, hx⟩, _⟩ := hb1.same s2
      exact ⟨_, _, hx, rfl, fin _ (s1.trans s2)⟩
    · obtain ⟨⟨dx, hx⟩, kvs, hp, hT⟩ := id hb1
      refine ⟨_, _, hx, rfl, ixT (SqT.of ha) rfl (ixT (SqT.of ha) rfl ⟨x, p, e, t, u, d, m, i, j, kvs, rfl, ⟨⟨_, hx⟩, hp⟩, fun y => absurd (Decidable.not_not.mp hno) y, fun _ H2 s2 => ?_⟩)⟩
      obtain ⟨kr, hr2, hTr⟩ := hR1.same s2
      refine ⟨.inr ⟨kr, .inl hr2⟩, _, DGet.t (k := spot i j) hr2 (s2 _ _ ha), _, _, rfl, ?_, fun H3 s3 => ⟨_, rfl, ?_⟩⟩
      · cases hv : valT tb (i, j) with
        | none => exact .inl ⟨by rw [(hT.val (i, j)).1 hv]; rfl, by rw [(hTr.val (i, j)).1 hv]; rfl⟩
        | some w =>
          obtain ⟨v1, e1, i1⟩ := ((hT.imp fun _ _ _ y => IsS.same y s2).val (i, j)).2 w hv
          obtain ⟨v2, e2, i2⟩ := (hTr.val (i, j)).2 w hv
          rw [e1, e2]
          exact .inr ⟨_, _, i1, i2⟩
      · rw [if_neg (by decide)]
        obtain ⟨⟨dx', hx'⟩, _⟩ := hb1.same (s2.trans s3)
        exact ⟨_, _, hx', rfl, fin _ (s1.trans (s2.trans s3))⟩
end
section
variable {P : Program} {w : World} {K : PySem.W.Frag} {mg : Str → Option Value} {base : Heap}
seal L2.PE L2.PS L2.PSs L2.PA
theorem tab_put {H : Hp} {r a b : Addr} {i j : Int} {lo hi : En} {tb : Tb} (h : TabAt H r tb) (ha : H a = some (.tup [.int i, .int j])) (hb : H b = some (.tup [ev lo, ev hi])) (hl : tb.length < 900) : ∃ H', DPut H r (.ref a) (.ref b) H' ∧ SameBut r H H' ∧ TabAt H' r (putT tb (i, j) (lo, hi)) := by
  obtain ⟨kr, hr, hT⟩ := h
  have F := fr_upd (o := .dT (putK kr (spot i j) (.ref b))) hr
  have kl := hT.len
  exact ⟨_, DPut.t (k := spot i j) (v := .ref b) hr ha (Nat.lt_of_lt_of_le (by omega : _ < 1000) (by decide)), fun c o hc e => by rw [upd_ne hc]; exact e, _, upd_same, TabAs.put (s := (i, j)) (w := (lo, hi)) (hT.imp fun _ _ _ y => y.fr F) ⟨b, rfl, F.tup hb⟩⟩
theorem sb_fr {H H' : Hp} {q : Addr} {tb : Tb} (s : SameBut q H H') (hq : TabAt H q tb) : Fr H H' := let ⟨_, h, _⟩ := hq; SameBut.fr s h
theorem _root_.Gz.TabAt.sb {H H' : Hp} {y q : Addr} {tb tb' : Tb} (h : TabAt H y tb) (s : SameBut q H H') (hq : TabAt H q tb') (ne : y ≠ q) : TabAt H' y tb := h.fr (sb_fr s hq) fun _ e => s _ _ ne e
theorem BrdT.sb {B : Addr} {H H' : Hp} {x p q : Addr} {e t u d m : Int} {tb tb' : Tb} (h : BrdT B H x e t u d m p tb) (s : SameBut q H H') (hq : TabAt H q tb') (ne : p ≠ q) : BrdT B H' x e t u d m p tb := h.now (sb_fr s hq) (h.tb.sb s hq ne)
structure Four (B : Addr) (e t u d m m' i j : Int) (x x' p p' r r' a : Addr) (H : Hp) (tb tb' tq tq' : Tb) : Prop where
  b : BrdT B H x e t u d m p tb
  b' : BrdT B H x' e t u d m' p' tb'
  r : TabAt H r tq
  r' : TabAt H r' tq'
  a : H a = some (.tup [.int i, .int j])
section
variable {B : Addr} {e t u d m m' i j : Int} {x x' p p' r r' a : Addr} {H H' : Hp} {tb tb' tq tq' tn : Tb}
theorem Four.same (f : Four B e t u d m m' i j x x' p p' r r' a H tb tb' tq tq') (s : Same H H') : Four B e t u d m m' i j x x' p p' r r' a H' tb tb' tq tq' := ⟨f.b.same s, f.b'.same s, f.r.same s, f.r'.same s, s _ _ f.a⟩
theorem Four.atp' (f : Four B e t u d m m' i j x x' p p' r r' a H tb tb' tq tq') (s : SameBut p' H H') (h : TabAt H' p' tn) (n : [p, p', r, r'].Nodup) : Four B e t u d m m' i j x x' p p' r r' a H' tb tn tq tq' := by
  simp only [List.nodup_cons, List.mem_cons, List.not_mem_nil, or_false, not_or] at n
  exact ⟨f.b.sb s f.b'.tb n.1.1, f.b'.now (sb_fr s f.b'.tb) h, f.r.sb s f.b'.tb (Ne.symm n.2.1.1), f.r'.sb s f.b'.tb (Ne.symm n.2.1.2), (sb_fr s f.b'.tb).tup f.a⟩
theorem Four.atp (f : Four B e t u d m m' i j x x' p p' r r' a H tb tb' tq tq') (s : SameBut p H H') (h : TabAt H' p tn) (n : [p, p', r, r'].Nodup) : Four B e t u d m m' i j x x' p p' r r' a H' tn tb' tq tq' := by
  simp only [List.nodup_cons, List.mem_cons, List.not_mem_nil, or_false, not_or] at n
  exact ⟨f.b.now (sb_fr s f.b.tb) h, f.b'.sb s f.b.tb (Ne.symm n.1.1), f.r.sb s f.b.tb (Ne.symm n.1.2.1), f.r'.sb s f.b.tb (Ne.symm n.1.2.2), (sb_fr s f.b.tb).tup f.a⟩
theorem Four.atr (f : Four B e t u d m m' i j x x' p p' r r' a H tb tb' tq tq') (s : SameBut r H H') (h : TabAt H' r tn) (n : [p, p', r, r'].Nodup) : Four B e t u d m m' i j x x' p p' r r' a H' tb tb' tn tq' := by
  simp only [List.nodup_cons, List.mem_cons, List.not_mem_nil, or_false, not_or] at n
  exact ⟨f.b.sb s f.r n.1.2.1, f.b'.sb s f.r n.2.1.1, h, f.r'.sb s f.r (Ne.symm n.2.2.1), (sb_fr s f.r).tup f.a⟩
theorem Four.atr' (f : Four B e t u d m m' i j x x' p p' r r' a H tb tb' tq tq') (s : SameBut r' H H') (h : TabAt H' r' tn) (n : [p, p', r, r'].Nodup) : Four B e t u d m m' i j x x' p p' r r' a H' tb tb' tq tn := by
  simp only [List.nodup_cons, List.mem_cons, List.not_mem_nil, or_false, not_or] at n
  exact ⟨f.b.sb s f.r' n.1.2.2, f.b'.sb s f.r' n.2.1.2, f.r.sb s f.r' n.2.2.1, h, (sb_fr s f.r').tup f.a⟩
end
def sp_apart (B : Addr) : Sp := fun vs H Q _ => ∃ (x x' p p' r r' z : Addr) (e t u d m m' c : Int) (tb tb' : Tb), vs = [.ref x, .ref x', .ref r, .ref r', .ref z, .int c] ∧ BrdT B H x e t u d m p tb ∧ BrdT B H x' e t u d m' p' tb' ∧ TabAt H r tb ∧ TabAt H r' tb' ∧ [p, p', r, r'].Nodup ∧ SzAt H z e t u d ∧ 1 ≤ e ∧ 1 ≤ t ∧ okT e t tb ∧ okT e t tb' ∧ tb.length < 60 ∧ tb'.length < 60 ∧
  ∀ tb2 H', But [p, p', r, r'] H H' → TabAt H' p tb2 → TabAt H' r tb2 → okT e t tb2 → tb2.length ≤ tb.length + 1 → Q (.bl true) H'
theorem ok_law_apart (T : Tx K mg) : FnOk P w K mg base (CXX P w) 5 T.a_law_apart T.fd_law_apart ["_law_board", "_law_made", "_law_table", "_law_other", "_law_sizes", "_law_cell_here"] (sp_apart T.C_Board) := by
  refine okN T.F_law_apart sc_law_apart (fun vs H Q E h => ?_) (fun cdv A outer s H vs Q E hr h => ?_)
  · obtain ⟨x, x', p, p', r, r', z, e, t, u, d, m, m', c, tb, tb', rfl, _⟩ := h
    rfl
  · obtain ⟨x, x', p, p', r, r', z, e, t, u, d, m, m', c, tb, tb', rfl, hb, hb', hR, hR', hnd, hz, he, ht, hok, hok', hl, hl', q⟩ := h
    refine ⟨_, (pss_cons (ps_set (i := 6) sc_law_apart.nd rfl (Or.inl rfl) (pe_tup (pa_cons (pe_op op_mod (pv 5) (pe_ix ix_seq (pv 4) pe_int (fun _ _ => rfl))) (pa_cons (pe_op op_mod (pe_op op_fdivB (pv 5) pe_int) (pe_ix ix_seq (pv 4) pe_int (fun _ _ => rfl))) pa_nil))))
    (pss_cons (ps_if (pt_cmp (pc_notN (pe_call (ok_law_telling T) (hr.mono (by decide)) rfl T.m_law_telling T.F_law_telling.kp T.b_law_telling .nil passE0 (pa_cons (pv 1) (pa_cons (pv 6) (pa_cons (pe_tup (pa_cons pe_non (pa_cons (pe_op op_mod (pv 5) (pe_op op_pow pe_int pe_int)) pa_nil))) pa_nil)))))) (pss_one (ps_ret pe_bl)) pss_nil)
    (pss_cons (ps_dput (hu_of hr) (pv 3) (pv 6) (pe_tup (pa_cons pe_non (pa_cons (pe_op op_mod (pv 5) (pe_op op_pow pe_int pe_int)) pa_nil))) rfl)
    (pss_cons (ps_if (pt_not (pt_val (pe_call (ok_law_stands T) (hr.mono (by decide)) rfl T.m_law_stands T.F_law_stands.kp T.b_law_stands .nil passE0 (pa_cons (pv 0) (pa_cons (pv 2) pa_nil))))) (pss_one (ps_ret pe_bl)) pss_nil)
    (pss_cons (ps_if (pt_cmp (pc_notN (pe_call (ok_law_telling T) (hr.mono (by decide)) rfl T.m_law_telling T.F_law_telling.kp T.b_law_telling .nil passE0 (pa_cons (pv 0) (pa_cons (pv 6) (pa_cons (pe_tup (pa_cons (pe_op op_mod (pv 5) (pe_op op_pow pe_int pe_int)) (pa_cons pe_non pa_nil))) pa_nil)))))) (pss_one (ps_ret pe_bl)) pss_nil)
    (pss_cons (ps_dput (hu_of hr) (pv 2) (pv 6) (pe_tup (pa_cons (pe_op op_mod (pv 5) (pe_op op_pow pe_int pe_int)) (pa_cons pe_non pa_nil))) rfl)
    (pss_one (ps_ret (pe_call (ok_law_stands T) (hr.mono (by decide)) rfl T.m_law_stands T.F_law_stands.kp T.b_law_stands .nil passE0 (pa_cons (pv 1) (pa_cons (pv 3) pa_nil))))))))))), ?_⟩
    have hz' : H z = some (.tup [.int e, .int t, .int u, .int d]) := hz
    walk_at "gzn"
    refine ixT (SqT.of hz') rfl ?_
    walk_at "gzn"
    refine ⟨by omega, by decide, bd200 (by decide), ixT (SqT.of hz') rfl ⟨_, rfl, by omega, line2, fun a ha0 => ?_⟩⟩
    have on : onB e t (c % e, c / 7 % t) := ⟨⟨Int.emod_nonneg _ (by omega), Int.emod_lt_of_pos _ (by omega)⟩, Int.emod_nonneg _ (by omega), Int.emod_lt_of_pos _ (by omega)⟩
    generalize c % e = i at on ⊢
    generalize c / 7 % t = j at on ⊢
    have s1 := same_upd (o := .tup [V.int i, .int j]) ha0
    have A1 : upd H a (.tup [V.int i, .int j]) a = some (.tup [V.int i, .int j]) := upd_same
    generalize upd H a (.tup [V.int i, .int j]) = H1 at s1 A1 ⊢
    walk_at "gzn"
    have f1 : Four T.C_Board e t u d m m' i j x x' p p' r r' a H1 tb tb' tb tb' := ⟨hb.same s1, hb'.same s1, hR.same s1, hR'.same s1, A1⟩
    have cp : CPow 10 50 := ⟨by decide, by decide, by decide⟩
    refine ⟨cp, by decide, line2, fun b hb0 => ?_⟩
    generalize c % 100000000000000000000000000000000000000000000000000 = n
    have s2 := same_upd (o := .tup [V.non, .int n]) hb0
    have B2 : upd H1 b (.tup [V.non, .int n]) b = some (.tup [ev none, ev (some n)]) := upd_same
    generalize upd H1 b (.tup [V.non, .int n]) = H2 at s2 B2 ⊢
    have f2 := f1.same s2
    refine ⟨x', p', a, b, e, t, u, d, m', i, j, none, some n, tb', rfl, f2.b', by omega, f2.a, B2, fun _ H3 s3 T3 => ?_, fun y => absurd ⟨on, crossed_n _⟩ y⟩
    dsimp only
    rw [if_neg (fun z => z rfl)]
    have f3 := f2.atp' s3 T3 hnd
    refine ⟨cp, by decide, line2, fun b2 hb20 => ?_⟩
    have s4 := same_upd (o := .tup [V.non, .int n]) hb20
    have B4 : upd H3 b2 (.tup [V.non, .int n]) b2 = some (.tup [ev none, ev (some n)]) := upd_same
    generalize upd H3 b2 (.tup [V.non, .int n]) = H4 at s4 B4 ⊢
    have f4 := f3.same s4
    obtain ⟨H5, D5, s5, T5⟩ := tab_put f4.r' f4.a B4 (by omega)
    have f5 := f4.atr' s5 T5 hnd
    refine ⟨H5, D5, x, p, r, e, t, u, d, m, tb, rfl, f5.b, f5.r, hok.1, by omega, fun H6 s6 => ⟨_, rfl, ?_⟩⟩
    rw [if_neg (by decide)]
    have f6 := f5.same s6
    refine ⟨cp, by decide, line2, fun b3 hb30 => ?_⟩
    have s7 := same_upd (o := .tup [V.int n, .non]) hb30
    have B7 : upd H6 b3 (.tup [V.int n, .non]) b3 = some (.tup [ev (some n), ev none]) := upd_same
    generalize upd H6 b3 (.tup [V.int n, .non]) = H7 at s7 B7 ⊢
    have f7 := f6.same s7
    refine ⟨x, p, a, b3, e, t, u, d, m, i, j, some n, none, tb, rfl, f7.b, by omega, f7.a, B7, fun _ H8 s8 T8 => ?_, fun y => absurd ⟨on, crossed_m _⟩ y⟩
    dsimp only
    rw [if_neg (fun z => z rfl)]
    have f8 := f7.atp s8 T8 hnd
    refine ⟨cp, by decide, line2, fun b4 hb40 => ?_⟩
    have s9 := same_upd (o := .tup [V.int n, .non]) hb40
    have B9 : upd H8 b4 (.tup [V.int n, .non]) b4 = some (.tup [ev (some n), ev none]) := upd_same
    generalize upd H8 b4 (.tup [V.int n, .non]) = H9 at s9 B9 ⊢
    have f9 := f8.same s9
    obtain ⟨H10, D10, s10, T10⟩ := tab_put f9.r f9.a B9 (by omega)
    have f10 := f9.atr s10 T10 hnd
    have l1 := putT_len tb' (i, j) (none, some n)
    have l2 := putT_len tb (i, j) (some n, none)
    refine ⟨H10, D10, x', p', r', e, t, u, d, m', _, rfl, f10.b', f10.r', (hok'.put on).1, by omega, fun H11 s11 => ?_⟩
    have f11 := f10.same s11
    refine q _ H11 (fun c o hc e => ?_) f11.b.tb f11.r (hok.put on) l2
    simp only [List.mem_cons, List.not_mem_nil, or_false, not_or] at hc
    exact s11 _ _ (s10 _ _ hc.2.2.1 (s9 _ _ (s8 _ _ hc.1 (s7 _ _ (s6 _ _ (s5 _ _ hc.2.2.2 (s4 _ _ (s3 _ _ hc.2.1 (s2 _ _ (s1 _ _ e))))))))))
structure Tw where
  x : Addr
  p : Addr
  r : Addr
  tb : Tb
def TwAt (B : Addr) (e t u d m : Int) (H : Hp) (v : V) (k : Tw) : Prop := ∃ b, v = .ref b ∧ H b = some (.tup [.ref k.x, .ref k.r]) ∧ BrdT B H k.x e t u d m k.p k.tb ∧ TabAt H k.r k.tb ∧ okT e t k.tb ∧ k.tb.length < 60
def dcs (ks : List Tw) : List Addr := ks.flatMap fun k => [k.p, k.r]
def sp_twins (K : PySem.W.Frag) (B : Addr) : Sp := fun vs H Q _ => ∃ (a z : Addr) (e t u d m c : Int) (ys : List V) (ks : List Tw), vs = [.ref a, .ref z, .int m, .int c] ∧ SqL K H a ys ∧ All2 (TwAt B e t u d m H) ys ks ∧ (dcs ks).Nodup ∧ SzAt H z e t u d ∧ 1 ≤ e ∧ 1 ≤ t ∧ ks.length ≤ 10 ∧ ∀ H', But (dcs ks) H H' → Q (.bl true) H'
def inv_twins (B : Addr) (e t u d m c : Int) (H : Hp) (a z : Addr) (ys : List V) (ks : List Tw) (i : Nat) (σ : St) (H1 : Hp) : Prop := ∃ (e1 e2 e3 : Option V), σ = [some (.ref a), some (.ref z), some (.int m), some (.int c), e1, e2, e3] ∧ But (dcs ks) H H1 ∧ All2 (TwAt B e t u d m H1) (ys.drop i) (ks.drop i) ∧ (dcs (ks.drop i)).Nodup
theorem dcs_app (a b : List Tw) : dcs (a ++ b) = dcs a ++ dcs b := by unfold dcs; rw [List.flatMap_append]
theorem TwAt.sb {B : Addr} {e t u d m : Int} {H H' : Hp} {v : V} {k : Tw} {q : Addr} {tb : Tb} (h : TwAt B e t u d m H v k) (s : SameBut q H H') (hq : TabAt H q tb) (n1 : k.p ≠ q) (n2 : k.r ≠ q) : TwAt B e t u d m H' v k := by
  obtain ⟨b, e1, h1, h2, h3, h4⟩ := h
  exact ⟨b, e1, (sb_fr s hq).tup h1, h2.sb s hq n1, h3.sb s hq n2, h4⟩
theorem TwAt.same {B : Addr} {e t u d m : Int} {H H' : Hp} {v : V} {k : Tw} (h : TwAt B e t u d m H v k) (s : Same H H') : TwAt B e t u d m H' v k := by
  obtain ⟨b, e1, h1, h2, h3, h4⟩ := h
  exact ⟨b, e1, s _ _ h1, h2.same s, h3.same s, h4⟩
theorem All2.mapm {α : Type} {R R' : V → α → Prop} : ∀ {xs : List V} {as : List α}, All2 R xs as → (∀ x a, a ∈ as → R x a → R' x a) → All2 R' xs as
  | [], [], _, _ => trivial
  | _ :: _, _ :: _, h, f => ⟨f _ _ (.head _) h.1, All2.mapm h.2 fun x a ha => f x a (.tail _ ha)⟩
  | [], _ :: _, h, _ => h.elim
  | _ :: _, [], h, _ => h.elim
theorem ok_law_twins (T : Tx K mg) : FnOk P w K mg base (CXX P w) 5 T.a_law_twins T.fd_law_twins ["_law_twins_here", "_law_sizes", "_law_most", "_law_cell_here"] (sp_twins K T.C_Board) := by
  refine okN T.F_law_twins sc_law_twins (fun vs H Q E h => ?_) (fun cdv A outer s H vs Q E hr h => ?_)
  · obtain ⟨a, z, e, t, u, d, m, c, ys, ks, rfl, _⟩ := h
    rfl
  · obtain ⟨a, z, e, t, u, d, m, c, ys, ks, rfl, hS, hA, hnd, hz, he, ht, hl, q⟩ := h
    refine ⟨_, (pss_cons (ps_for PassesOwn.never rfl (pi_list (pv 0)) (pg_tup rfl (pgs_cons (pg_name (i := 4) sc_law_twins.nd rfl (Or.inl rfl)) (pgs_cons (pg_name (i := 5) sc_law_twins.nd rfl (Or.inl rfl)) pgs_nil))) (pss_cons (ps_if (PW.pt (pw_or (pt_not (pt_val (pe_call (ok_law_stands T) (hr.mono (by decide)) rfl T.m_law_stands T.F_law_stands.kp T.b_law_stands .nil passE0 (pa_cons (pv 4) (pa_cons (pv 5) pa_nil))))) (pw_or1 (pt_not (pt_val (pe_call (ok_law_values T) (hr.mono (by decide)) rfl T.m_law_values T.F_law_values.kp T.b_law_values .nil passE0 (pa_cons (pv 4) (pa_cons (pv 1) (pa_cons (pv 2) pa_nil))))))))) (pss_one (ps_ret pe_bl)) pss_nil)
        (pss_cons (ps_set (i := 6) sc_law_twins.nd rfl (Or.inl rfl) (pe_tup (pa_cons (pe_op op_mod (pv 3) (pe_ix ix_seq (pv 1) pe_int (fun _ _ => rfl))) (pa_cons (pe_op op_mod (pe_op op_fdivB (pv 3) pe_int) (pe_ix ix_seq (pv 1) pe_int (fun _ _ => rfl))) pa_nil))))
        (pss_one (ps_if (pt_cmp (pc_notN (pe_call (ok_law_telling T) (hr.mono (by decide)) rfl T.m_law_telling T.F_law_telling.kp T.b_law_telling .nil passE0 (pa_cons (pv 4) (pa_cons (pv 6) (pa_cons (pe_tup (pa_cons (pe_op op_mod (pv 3) (pe_op op_pow pe_int pe_int)) (pa_cons pe_non pa_nil))) pa_nil)))))) (pss_one (ps_ret pe_bl)) pss_nil)))))
    (pss_one (ps_ret pe_bl))), ?_⟩
    walk_at "gzn"
    have Dc : Dcts H (dcs ks) := fun b hb => by
      obtain ⟨k, hk, hb2⟩ := List.mem_flatMap.mp hb
      obtain ⟨i, hi, ei⟩ := List.mem_iff_getElem.mp hk
      obtain ⟨v, _, b0, _, _, h1, h2, _⟩ := hA.at (List.getElem?_eq_getElem hi)
      rw [ei] at h1 h2
      simp only [List.mem_cons, List.not_mem_nil, or_false] at hb2
      rcases hb2 with rfl | rfl
      · exact h1.tb.dct
      · exact h2.dct
    refine ⟨⟨_, hS⟩, by_list (xs := ys) (inv_twins T.C_Board e t u d m c H a z ys ks) ⟨_, _, _, rfl, (Same.refl H).but, hA, hnd⟩ ?_ ?_ ?_⟩
    · rintro i σ H1 _ ⟨_, _, _, _, s, _⟩
      exact seq_fr hS (s.fr Dc)
    · rintro i y σ H1 hy ⟨e1, e2, e3, rfl, s1, hA1, nd1⟩
      have hlen := hA.len
      obtain ⟨hi, ey⟩ := List.getElem?_eq_some_iff.mp hy
      have hik : i < ks.length := by omega
      rw [List.drop_eq_getElem_cons hi, List.drop_eq_getElem_cons hik, ey] at hA1
      rw [List.drop_eq_getElem_cons hik] at nd1
      have mk : ks[i] ∈ ks := List.getElem_mem hik
      generalize ks[i] = k at hA1 nd1 mk
      obtain ⟨⟨b, rfl, hbt, hB, hR, hok, hl1⟩, hrest⟩ := hA1
      have kp : k.p ∈ dcs ks := List.mem_flatMap.mpr ⟨k, mk, .head _⟩
      have nd2 : k.p ∉ dcs (ks.drop (i + 1)) ∧ (dcs (ks.drop (i + 1))).Nodup := by
        have e0 : dcs (k :: ks.drop (i + 1)) = k.p :: k.r :: dcs (ks.drop (i + 1)) := rfl
        rw [e0, List.nodup_cons, List.nodup_cons] at nd1
        exact ⟨fun z => nd1.1 (.tail _ z), nd1.2.2⟩
      have hz1 : SzAt H1 z e t u d := (s1.fr Dc).tup hz
      refine ⟨b, _, rfl, SqT.of hbt, rfl, ?_⟩
      walk_at "gzn"
      have cp : CPow 10 50 := ⟨by decide, by decide, by decide⟩
      refine ⟨k.x, k.p, k.r, e, t, u, d, m, k.tb, rfl, hB, hR, hok.1, by omega, fun H2 s2 => ⟨_, rfl, ?_⟩⟩
      rw [if_neg (by decide)]
      refine ⟨k.x, k.p, z, e, t, u, d, m, k.tb, rfl, hB.same s2, s2 _ _ hz1, fun H3 s3 => ⟨_, rfl, ?_⟩⟩
      rw [if_neg (by decide)]
      have S3 := s2.trans s3
      have hz3 : H3 z = some (.tup [.int e, .int t, .int u, .int d]) := S3 _ _ hz1
      refine ixT (SqT.of hz3) rfl ⟨_, rfl, by omega, by decide, bd200 (by decide), ixT (SqT.of hz3) rfl ⟨_, rfl, by omega, line2, fun a1 ha1 => ⟨cp, by decide, line2, fun a2 ha2 => ?_⟩⟩⟩
      have on : onB e t (c % e, c / 7 % t) := ⟨⟨Int.emod_nonneg _ (by omega), Int.emod_lt_of_pos _ (by omega)⟩, Int.emod_nonneg _ (by omega), Int.emod_lt_of_pos _ (by omega)⟩
      have s4 := same_upd (o := .tup [V.int (c % e), .int (c / 7 % t)]) ha1
      have s5 := same_upd (o := .tup [V.int (c % 100000000000000000000000000000000000000000000000000), .non]) ha2
      have S5 := S3.trans (s4.trans s5)
      refine ⟨k.x, k.p, a1, a2, e, t, u, d, m, _, _, some _, none, k.tb, rfl, hB.same S5, by omega, s5 _ _ upd_same, upd_same, fun _ H6 s6 T6 => ?_, fun y => absurd ⟨on, crossed_m _⟩ y⟩
      dsimp only
      rw [if_neg (fun z => z rfl)]
      exact ⟨_, _, _, rfl, fun c o hc e => s6 _ _ (fun z => hc (z ▸ kp)) (S5 _ _ (s1 _ _ hc e)), All2.mapm hrest fun x k' hk' h => (h.same S5).sb s6 (hB.same S5).tb (fun z => nd2.1 (List.mem_flatMap.mpr ⟨k', hk', by simp [z]⟩)) (fun z => nd2.1 (List.mem_flatMap.mpr ⟨k', hk', by simp [z]⟩)), nd2.2⟩
    · rintro σ H1 ⟨e1, e2, e3, rfl, s1, hA1, nd1⟩
      walk_at "gzn"
      exact q _ s1
end
section
variable {P : Program} {w : World} {K : PySem.W.Frag} {mg : Str → Option Value} {base : Heap}
seal L2.PE L2.PS L2.PSs L2.PA
def datP (s : P2) : PyData := .tuple [.int s.1, .int s.2]
theorem pts_dat {K : PySem.W.Frag} {H : Hp} : ∀ {xs : List V} {ss : List P2}, Pts H xs ss → Dats K H xs (ss.map datP)
  | [], [], _ => .nil
  | x :: xs, s :: ss, ⟨⟨a, e, ha⟩, t⟩ => by
    subst e
    exact .cons (.tup (SqT.of ha) (.cons (.int _) (.cons (.int _) .nil))) (pts_dat t)
  | [], _ :: _, h => h.elim
  | _ :: _, [], h => h.elim
theorem plain_pts : ∀ (ss : List P2), plainDs 1 (ss.map datP) = true
  | [] => rfl
  | s :: ss => by
    rw [List.map_cons]
    simp only [plainDs, plain_pts ss, Bool.and_true]
    rfl
theorem eq_pts {K : PySem.W.Frag} {H : Hp} {a b : Addr} {xs ys : List V} {ss : List P2} {neg : Bool} {Q : VK} (ha : SqL K H a xs) (hb : SqL K H b ys) (h : Pts H xs ss) (h' : Pts H ys ss) (q : Q (.bl (!neg)) H) : rEqD K neg (.ref a) (.ref b) H Q :=
  eq_dat (n := 2) (.lst ha (pts_dat h)) (.lst hb (pts_dat h')) (by simp only [plainD, plain_pts]) (by decide) q
theorem plain_trs : ∀ (tb : Tb), plainDs 2 (tb.map datTr) = true
  | [] => rfl
  | r :: tb => by
    rw [List.map_cons]
    simp only [plainDs, plain_trs tb, Bool.and_true]
    obtain ⟨⟨i, j⟩, lo, hi⟩ := r
    rcases lo with _ | lo <;> rcases hi with _ | hi <;> rfl
theorem eq_trs {K : PySem.W.Frag} {H : Hp} {a b : Addr} {xs ys : List V} {tb : Tb} {neg : Bool} {Q : VK} (ha : SqL K H a xs) (hb : SqL K H b ys) (h : All2 (IsTr H) xs tb) (h' : All2 (IsTr H) ys tb) (q : Q (.bl (!neg)) H) : rEqD K neg (.ref a) (.ref b) H Q :=
  eq_dat (n := 3) (.lst ha (tr_dat h)) (.lst hb (tr_dat h')) (by simp only [plainD, plain_trs]) (by decide) q
def putsT (acc rows : Tb) : Tb := rows.foldl (fun a r => putT a r.1 r.2) acc
theorem putT_new {tb : Tb} {s : P2} {w : S2} (h : s ∉ tb.map (·.1)) : putT tb s w = tb ++ [(s, w)] := by
  unfold putT
  rw [if_neg]
  rw [List.any_eq_true]
  rintro ⟨r, hr, e⟩
  exact h (List.mem_map.mpr ⟨r, hr, by simpa using e⟩)
theorem putT_same {tb : Tb} {r : P2 × S2} (hn : (tb.map (·.1)).Nodup) (h : r ∈ tb) : putT tb r.1 r.2 = tb := by
  unfold putT
  rw [if_pos (List.any_eq_true.mpr ⟨r, h, by simp⟩)]
  have : ∀ x ∈ tb, (if x.1 = r.1 then (x.1, r.2) else x) = x := fun x hx => by
    split
    · rename_i e
      have h1 := valT_mem hn hx
      have h2 := valT_mem hn h
      rw [e, h2] at h1
      exact Prod.ext rfl (Option.some.inj h1)
    · rfl
  rw [List.map_congr_left this]; exact List.map_id' _
theorem putsT_new : ∀ (rows acc : Tb), ((acc ++ rows).map (·.1)).Nodup → putsT acc rows = acc ++ rows
  | [], acc, _ => by simp [putsT]
  | r :: rows, acc, hn => by
    have e : acc ++ r :: rows = (acc ++ [r]) ++ rows := by simp
    have hr : r.1 ∉ acc.map (·.1) := by
      rw [List.map_append, List.nodup_append] at hn
      exact fun z => hn.2.2 _ z _ (by simp) rfl
    show putsT (putT acc r.1 r.2) rows = _
    rw [putT_new hr, e]
    rw [e] at hn
    exact putsT_new rows _ hn
theorem putsT_id {rows : Tb} (hn : (rows.map (·.1)).Nodup) : putsT [] rows = rows := putsT_new rows [] hn
theorem keep_puts {tb : Tb} : ∀ (rows acc : Tb), (∀ r ∈ rows, valT tb r.1 = some r.2) → (rows.map (·.1)).foldl (fun acc s => putT acc s ((valT tb s).getD (none, none))) acc = putsT acc rows
  | [], _, _ => rfl
  | r :: rows, acc, h => by
    have h1 := h r (.head _)
    rw [List.map_cons, List.foldl_cons, h1]
    exact keep_puts rows _ fun r hr => h r (.tail _ hr)
theorem keep_rows {tb rows : Tb} (hn : (rows.map (·.1)).Nodup) (h : ∀ r ∈ rows, valT tb r.1 = some r.2) : keepT tb (rows.map (·.1) ++ (rows.map (·.1)).take 1) = rows := by
  have h1 : keepT tb (rows.map (·.1)) = rows := (keep_puts rows [] h).trans (putsT_id hn)
  cases rows with
  | nil => rfl
  | cons r rest =>
    have e : ((r :: rest).map (·.1)).take 1 = [r.1] := rfl
    rw [e, keepT_snoc, h1, h r (.head _)]
    exact putT_same hn (.head _)
theorem tab_puts {H : Hp} : ∀ {kvs acc : List (List Key × V)} {rows tacc : Tb}, TabAs H acc tacc → TabAs H kvs rows → TabAs H (putsK acc kvs) (putsT tacc rows)
  | [], _, [], _, h, _ => h
  | kv :: kvs, acc, r :: rows, tacc, h, h' => by
    show TabAs H (putsK (putK acc kv.1 kv.2) kvs) (putsT (putT tacc r.1 r.2) rows)
    refine tab_puts (rows := rows) (kvs := kvs) ?_ h'.2
    rw [h'.1.1]
    exact h.put (s := r.1) (w := r.2) h'.1.2
  | [], _, _ :: _, _, _, h' => h'.elim
  | _ :: _, _, [], _, _, h' => h'.elim
def IsRw (H : Hp) (v : V) (r : P2 × S2) : Prop := ∃ p b w, v = .ref p ∧ H p = some (.tup [.ref b, w]) ∧ H b = some (.tup [.int r.1.1, .int r.1.2]) ∧ IsS H w r.2.1 r.2.2
theorem IsRw.same {H H' : Hp} {v : V} {r : P2 × S2} (h : IsRw H v r) (s : Same H H') : IsRw H' v r := let ⟨p, b, w, e, h1, h2, h3⟩ := h; ⟨p, b, w, e, s _ _ h1, s _ _ h2, h3.same s⟩
theorem rows_kvs {H : Hp} : ∀ {zs : List V} {rows : Tb}, All2 (IsRw H) zs rows → ∃ kvs, All2 (IsRow H) zs kvs ∧ TabAs H kvs rows
  | [], [], _ => ⟨[], trivial, trivial⟩
  | z :: zs, r :: rows, ⟨⟨p, b, w, e, h1, h2, h3⟩, t⟩ => by
    obtain ⟨kvs, a1, a2⟩ := rows_kvs t
    exact ⟨(spot r.1.1 r.1.2, w) :: kvs, ⟨⟨p, b, e, h1, h2⟩, a1⟩, ⟨rfl, h3⟩, a2⟩
  | [], _ :: _, h => h.elim
  | _ :: _, [], h => h.elim
theorem range_getD {α : Type} (l : List α) (d : α) : (List.range l.length).map (fun k => l.getD k d) = l := by
  apply List.ext_getElem
  · simp
  · intro i h1 h2
    simp [List.getD_eq_getElem?_getD, h2]
def partT (tb : Tb) (f : Nat → Bool) : Tb := ((List.range tb.length).filter f).map fun k => tb.getD k ((0, 0), (none, none))
theorem partT_sub (tb : Tb) (f : Nat → Bool) : (partT tb f).Sublist tb := by
  have h := (List.filter_sublist (p := f) (l := List.range tb.length)).map fun k => tb.getD k ((0, 0), (none, none))
  rw [range_getD] at h
  exact h
theorem All2.part {α : Type} {R : V → α → Prop} {xs : List V} {as : List α} {d : α} (h : All2 R xs as) (f : Nat → Bool) : All2 R (((List.range as.length).filter f).map fun k => xs.getD k .non) (((List.range as.length).filter f).map fun k => as.getD k d) := by
  have gen : ∀ l : List Nat, (∀ i ∈ l, i < as.length) → All2 R (l.map fun i => xs.getD i .non) (l.map fun i => as.getD i d) := by
    intro l
    induction l with
    | nil => intro _; exact trivial
    | cons i l ih =>
      intro q
      have hi := q i (.head _)
      obtain ⟨x, ex, hx⟩ := h.at (List.getElem?_eq_getElem hi)
      refine ⟨?_, ih fun j hj => q j (.tail _ hj)⟩
      show R (xs.getD i .non) (as.getD i d)
      rw [List.getD_eq_getElem?_getD, List.getD_eq_getElem?_getD, ex, List.getElem?_eq_getElem hi]
      exact hx
  exact gen _ fun i hi => List.mem_range.mp (List.mem_filter.mp hi).1
theorem nd_le {α : Type} [DecidableEq α] : ∀ {l m : List α}, l.Nodup → (∀ x ∈ l, x ∈ m) → l.length ≤ m.length
  | [], _, _, _ => Nat.zero_le _
  | x :: l, m, hn, h => by
    rw [List.nodup_cons] at hn
    have hx := h x (.head _)
    have := nd_le (l := l) (m := m.erase x) hn.2 fun y hy => (List.mem_erase_of_ne (fun z : y = x => hn.1 (z ▸ hy))).mpr (h y (.tail _ hy))
    rw [List.length_erase_of_mem hx] at this
    have : 0 < m.length := List.length_pos_of_mem hx
    rw [List.length_cons]; omega
def allS (e : Int) (n : Nat) : List P2 := (List.range n).map fun (k : Nat) => ((k : Int) % e, (k : Int) / e)
theorem nd_map {α β : Type} {f : α → β} : ∀ {l : List α}, l.Nodup → (∀ x ∈ l, ∀ y ∈ l, f x = f y → x = y) → (l.map f).Nodup
  | [], _, _ => List.nodup_nil
  | x :: l, hn, h => by
    rw [List.nodup_cons] at hn
    rw [List.map_cons, List.nodup_cons]
    refine ⟨fun z => ?_, nd_map hn.2 fun a ha b hb => h a (.tail _ ha) b (.tail _ hb)⟩
    obtain ⟨y, hy, e⟩ := List.mem_map.mp z
    exact hn.1 (h y (.tail _ hy) x (.head _) e ▸ hy)
theorem allS_nd {e : Int} (he : 1 ≤ e) (n : Nat) : (allS e n).Nodup := by
  refine nd_map List.nodup_range fun a _ b _ h => ?_
  have h1 := congrArg Prod.fst h
  have h2 := congrArg Prod.snd h
  dsimp only at h1 h2
  have a1 := Int.emod_add_mul_ediv (a : Int) e
  have b1 := Int.emod_add_mul_ediv (b : Int) e
  rw [h1, h2] at a1
  omega
theorem free_some {e : Int} {n : Nat} {tb : Tb} (he : 1 ≤ e) (h : tb.length < n) : ((allS e n).filter fun s => !(valT tb s).isSome) ≠ [] := fun z => by
  have : ∀ s ∈ allS e n, s ∈ tb.map (·.1) := fun s hs => by
    rw [List.filter_eq_nil_iff] at z
    have := z s hs
    simp only [Bool.not_eq_true', Bool.not_eq_false, Option.isSome_iff_exists] at this
    obtain ⟨w, hw⟩ := this
    exact List.mem_map.mpr ⟨_, valT_in hw, rfl⟩
  have := nd_le (allS_nd he n) this
  rw [List.length_map] at this
  unfold allS at this
  rw [List.length_map, List.length_range] at this
  omega
end
section
variable {P : Program} {w : World} {K : PySem.W.Frag} {mg : Str → Option Value} {base : Heap}
seal L2.PE L2.PS L2.PSs L2.PA
theorem off_none {e t : Int} {tb : Tb} {s : P2} (h : okT e t tb) (hs : ¬ onB e t s) : valT tb s = none := valT_none fun z => by
  obtain ⟨r, hr, e⟩ := List.mem_map.mp z
  exact hs (e ▸ h.2 r hr)
def inv_off (H : Hp) (x r z k l h x' : Addr) (c m : Int) (_ : Nat) (σ : St) (H1 : Hp) : Prop := ∃ (e1 e2 e3 e4 : Option V), σ = [some (.ref x), some (.ref r), some (.ref z), some (.int c), some (.int m), some (.ref k), some (.ref l), some (.ref h), some (.ref x'), e1, e2, e3, e4] ∧ Same H H1
def sp_others (K : PySem.W.Frag) (B : Addr) : Sp := fun vs H Q _ => ∃ (x p r z : Addr) (e t u d m c : Int) (tb : Tb), vs = [.ref x, .ref r, .ref z, .int c, .int m] ∧ BrdT B H x e t u d m p tb ∧ TabAt H r tb ∧ p ≠ r ∧ SzAt H z e t u d ∧ okB e t u d m ∧ okT e t tb ∧ tb.length ≤ 50 ∧
  ∀ tb2 H', But [p, r] H H' → TabAt H' p tb2 → TabAt H' r tb2 → okT e t tb2 → tb2.length ≤ 58 → Q (.bl true) H'
theorem ok_law_others (T : Tx K mg) : FnOk P w K mg base (CXX P w) 6 T.a_law_others T.fd_law_others ["_law_board", "_law_table", "_law_sizes", "_law_cell_here", "_law_most"] (sp_others K T.C_Board) := by
  refine okN T.F_law_others sc_law_others (fun vs H Q E h => ?_) (fun cdv A outer s H vs Q E hr h => ?_)
  · obtain ⟨x, p, r, z, e, t, u, d, m, c, tb, rfl, _⟩ := h
    rfl
  · obtain ⟨x, p, r, z, e, t, u, d, m, c, tb, rfl, hb, hR, hpr, hz, hkB, hok, hl, q⟩ := h
    refine ⟨_, (pss_cons (ps_set (i := 5) sc_law_others.nd rfl (Or.inr rfl) (pe_callB call_sortedT (by rfl) T.n_sorted b_sorted (pa_cons (pe_callTy (call_listD rfl) (by rfl) T.n_list b_list (pa_cons (pv 1) pa_nil)) pa_nil)))
    (pss_cons (ps_setComp (i := 6) (CompOk.mk (fr := [5, 3]) (ys := ["_law_some", "_law_cell_here"]) rfl (by decide +kernel) rfl (by decide +kernel) rfl rfl (.cons rfl (.cons rfl .nil)) (.cons rfl rfl rfl rfl (.cons rfl rfl rfl rfl .nil)) (by decide) rfl) rfl sc_law_others.nd rfl rfl (pi_range1 rfl T.n_range (pa_cons (pe_callB call_len (by rfl) T.n_len b_len (pa_cons (pv 5) pa_nil)) pa_nil)) (fun C s2 H2 ex pn => ⟨(pts_one (pt_cmpR op_eq (pe_op op_mod (pe_op op_fdivB (pv 2) (pe_op op_add (pv 0) pe_int)) pe_int) pe_int (nomark _))), (pe_ix (ix_seqK (K := K) rfl) (pv 1) (pv 0) (fun _ _ => rfl))⟩))
    (pss_cons (ps_set (i := 7) sc_law_others.nd rfl (Or.inl rfl) (pe_op op_cat (pv 6) (pe_slice sl_list (pv 6) po_none (po_some pe_int))))
    (pss_cons (ps_set (i := 8) sc_law_others.nd rfl (Or.inl rfl) (pe_meth (pv 0) T.cl_Board T.me_Board_keeping (ok_Board_keeping T) (hr.mono (by decide)) T.b_Board_keeping .nil passE0 (pa_cons (pv 7) pa_nil)))
    (pss_cons (ps_if (pt_cmpR (op_neD hr.units) (pv 7) (pe_op op_cat (pv 6) (pe_slice sl_list (pv 6) po_none (po_some pe_int))) (nomark _)) (pss_one (ps_ret pe_bl)) pss_nil)
    (pss_cons (ps_for PassesOwn.never rfl (pi_list (pe_lst (pa_cons (pe_tup (pa_cons (pe_un un_neg pe_int) (pa_cons pe_int pa_nil))) (pa_cons (pe_tup (pa_cons pe_int (pa_cons (pe_un un_neg pe_int) pa_nil))) (pa_cons (pe_tup (pa_cons (pe_ix ix_seq (pv 2) pe_int (fun _ _ => rfl)) (pa_cons pe_int pa_nil))) (pa_cons (pe_tup (pa_cons pe_int (pa_cons (pe_ix ix_seq (pv 2) pe_int (fun _ _ => rfl)) pa_nil))) pa_nil)))))) (pg_name (i := 9) sc_law_others.nd rfl (Or.inl rfl)) (pss_one (ps_if (pt_cmpR op_isnotS (pe_call (ok_law_keeping T) (hr.mono (by decide)) rfl T.m_law_keeping T.F_law_keeping.kp T.b_law_keeping .nil passE0 (pa_cons (pv 0) (pa_cons (pe_op op_cat (pv 6) (pe_lst (pa_cons (pv 9) pa_nil))) pa_nil))) pe_bl (nomark _)) (pss_one (ps_ret pe_bl)) pss_nil)))
    (pss_cons (ps_set (i := 10) sc_law_others.nd rfl (Or.inl rfl) (pe_callTy (call_dictP rfl (Nat.lt_of_le_of_lt (Nat.add_le_add_left (by decide : 8 ≤ 64) _) hr.units)) (by rfl) T.n_dict b_dict (pa_cons (pe_comp (CompOk.mk (fr := [1]) (ys := ["_law_table"]) rfl (by decide +kernel) rfl (by decide +kernel) rfl rfl (.cons rfl .nil) (.cons rfl rfl rfl rfl .nil) (by decide) rfl) rfl (pi_list (pv 6)) (fun C s2 H2 ex pn => ⟨pts_nil, (pe_tup (pa_cons (pv 0) (pa_cons (pe_dgetA (hu_of hr) (pv 1) (pv 0) (fun _ _ => rfl)) pa_nil)))⟩)) pa_nil)))
    (pss_cons (ps_if (PW.pt (pw_or (pt_not (pt_val (pe_call (ok_law_stands T) (hr.mono (by decide)) rfl T.m_law_stands T.F_law_stands.kp T.b_law_stands .nil passE0 (pa_cons (pv 8) (pa_cons (pv 10) pa_nil))))) (pw_or1 (pt_not (pt_val (pe_call (ok_law_values T) (hr.mono (by decide)) rfl T.m_law_values T.F_law_values.kp T.b_law_values .nil passE0 (pa_cons (pv 8) (pa_cons (pv 2) (pa_cons (pv 4) pa_nil))))))))) (pss_one (ps_ret pe_bl)) pss_nil)
    (pss_cons (ps_if (pt_cmpR op_lt (pe_callB call_len (by rfl) T.n_len b_len (pa_cons (pv 5) pa_nil)) (pe_op op_mulB (pe_ix ix_seq (pv 2) pe_int (fun _ _ => rfl)) (pe_ix ix_seq (pv 2) pe_int (fun _ _ => rfl))) (nomark _)) (pss_cons (ps_setComp (i := 11) (CompOk.mk (fr := [2]) (ys := ["_law_sizes"]) rfl (by decide +kernel) rfl (by decide +kernel) rfl rfl (.cons rfl .nil) (.cons rfl rfl rfl rfl .nil) (by decide) rfl) rfl sc_law_others.nd rfl rfl (pi_range1 rfl T.n_range (pa_cons (pe_op op_mulB (pe_ix ix_seq (pv 2) pe_int (fun _ _ => rfl)) (pe_ix ix_seq (pv 2) pe_int (fun _ _ => rfl))) pa_nil)) (fun C s2 H2 ex pn => ⟨pts_nil, (pe_tup (pa_cons (pe_op op_mod (pv 0) (pe_ix (ix_seqK (K := K) rfl) (pv 1) pe_int (fun _ _ => rfl))) (pa_cons (pe_op op_fdivB (pv 0) (pe_ix (ix_seqK (K := K) rfl) (pv 1) pe_int (fun _ _ => rfl))) pa_nil)))⟩))
        (pss_cons (ps_setComp (i := 11) (CompOk.mk (fr := [1]) (ys := ["_law_table"]) rfl (by decide +kernel) rfl (by decide +kernel) rfl rfl (.cons rfl .nil) (.cons rfl rfl rfl rfl .nil) (by decide) rfl) rfl sc_law_others.nd rfl rfl (pi_list (pv 11)) (fun C s2 H2 ex pn => ⟨(pts_one (pt_cmp (pc_dnotinA (hu_of hr) (pv 0) (pv 1)))), (pv 0)⟩))
        (pss_one (ps_if (pt_cmpR op_isnotS (pe_call (ok_law_keeping T) (hr.mono (by decide)) rfl T.m_law_keeping T.F_law_keeping.kp T.b_law_keeping .nil passE0 (pa_cons (pv 0) (pa_cons (pe_op op_cat (pv 6) (pe_lst (pa_cons (pe_ix ix_seq (pv 11) (pe_op op_mod (pv 3) (pe_callB call_len (by rfl) T.n_len b_len (pa_cons (pv 11) pa_nil))) (fun _ _ => rfl)) pa_nil))) pa_nil))) pe_bl (nomark _)) (pss_one (ps_ret pe_bl)) pss_nil)))) pss_nil)
    (pss_cons (ps_if (pt_not (pt_val (pe_call (ok_law_apart T) (hr.mono (by decide)) rfl T.m_law_apart T.F_law_apart.kp T.b_law_apart .nil passE0 (pa_cons (pv 0) (pa_cons (pv 8) (pa_cons (pv 1) (pa_cons (pv 10) (pa_cons (pv 2) (pa_cons (pv 3) pa_nil))))))))) (pss_one (ps_ret pe_bl)) pss_nil)
    (pss_cons (ps_set (i := 12) sc_law_others.nd rfl (Or.inl rfl) (pe_op op_sub (pe_op op_mod (pe_op op_fdivB (pv 3) pe_int) (pe_op op_add (pe_ix ix_seq (pv 2) pe_int (fun _ _ => rfl)) pe_int)) pe_int))
    (pss_cons (ps_if (pt_not (pt_chain op_le op_le pe_int (pv 12) (pe_ix ix_seq (pv 2) pe_int (fun _ _ => rfl)))) (pss_one (ps_ret (pe_cmpR op_isS (pe_call (ok_law_allowing T) (hr.mono (by decide)) rfl T.m_law_allowing T.F_law_allowing.kp T.b_law_allowing .nil passE0 (pa_cons (pv 0) (pa_cons (pv 12) pa_nil))) pe_bl (nomark _)))) pss_nil)
    (pss_cons (ps_set (i := 8) sc_law_others.nd rfl (Or.inl rfl) (pe_meth (pv 0) T.cl_Board T.me_Board_allowing (ok_Board_allowing T) (hr.mono (by decide)) T.b_Board_allowing .nil passE0 (pa_cons (pv 12) pa_nil)))
    (pss_cons (ps_if (PW.pt (pw_or (pt_not (pt_val (pe_call (ok_law_stands T) (hr.mono (by decide)) rfl T.m_law_stands T.F_law_stands.kp T.b_law_stands .nil passE0 (pa_cons (pv 8) (pa_cons (pv 1) pa_nil))))) (pw_or1 (pt_not (pt_val (pe_call (ok_law_values T) (hr.mono (by decide)) rfl T.m_law_values T.F_law_values.kp T.b_law_values .nil passE0 (pa_cons (pv 8) (pa_cons (pv 2) (pa_cons (pv 12) pa_nil))))))))) (pss_one (ps_ret pe_bl)) pss_nil)
    (pss_one (ps_ret (pe_call (ok_law_apart T) (hr.mono (by decide)) rfl T.m_law_apart T.F_law_apart.kp T.b_law_apart .nil passE0 (pa_cons (pv 0) (pa_cons (pv 8) (pa_cons (pv 1) (pa_cons (pe_callTy call_dictD (by rfl) T.n_dict b_dict (pa_cons (pv 1) pa_nil)) (pa_cons (pv 2) (pa_cons (pe_op op_fdivB (pv 3) pe_int) pa_nil))))))))))))))))))))))), ?_⟩
    walk_at "gzn"
    obtain ⟨kr, hr0, hTr⟩ := id hR
    obtain ⟨he, ht, _⟩ := id hkB
    have he1 := he.1
    have ht1 := ht.1
    refine ⟨kr, hr0, fun l1 ys hl1 hk => ?_⟩
    have PT := All2.bind (hTr.pts hk)
    have yl := PT.len
    have s1 := same_upd (o := .lst ys) hl1
    have Y1 : upd H l1 (.lst ys) l1 = some (.lst ys) := upd_same
    generalize upd H l1 (.lst ys) = H1 at s1 Y1 ⊢
    refine ⟨ys, SqL.of Y1, keyI tb, keyT_pts (PT.imp fun x r z => IsPt.same z s1), by omega, fun k1 hk1 => ?_⟩
    have s2 := s1.trans (same_upd (o := .lst (sortL (keyI tb) .non ys)) hk1)
    have K2 : upd H1 k1 (.lst (sortL (keyI tb) .non ys)) k1 = some (.lst (sortL (keyI tb) .non ys)) := upd_same
    have PS : All2 (fun x (r : P2 × S2) => IsPt (upd H1 k1 (.lst (sortL (keyI tb) .non ys))) x r.1) (sortL (keyI tb) .non ys) (srtT tb) := All2.sort (PT.imp fun x r z => IsPt.same z s2)
    generalize upd H1 k1 (.lst (sortL (keyI tb) .non ys)) = H2 at s2 K2 PS ⊢
    generalize sortL (keyI tb) .non ys = zs at K2 PS
    have zl := PS.len
    rw [srtT_len] at zl
    walk_at "gzn"
    refine ⟨_, lenL (SqL.of K2), ?_⟩
    rw [Int.toNat_natCast]
    refine ⟨by omega, by omega, blk_of it_rng (Nat.le_trans (by rw [List.length_map, List.length_range]; omega : _ ≤ 100) (by decide)) (compGo_all (R := fun x (k : Nat) => x = V.int (0 + (k : Int))) (p := fun (k : Nat) => decide (c / (0 + (k : Int) + 1) % 2 = 0)) (f := fun k => zs.getD k .non) trivial (All2.map_nat (f := fun k => 0 + (k : Int)) (List.range zs.length)) (fun y k hk hy Q h => ?_) (fun y k hk hp hy Q h => ?_) fun l hl0 => ?_)⟩
    · subst hy
      have := List.mem_range.mp hk
      walk_at "gzn"
      exact ⟨by omega, Bd.up (n := 20) (by show ((0 : Int) + (k : Int) + 1).natAbs < 2 ^ 20; omega) (by decide), by decide, h⟩
    · subst hy
      have hk' := List.mem_range.mp hk
      walk_at "gzn"
      refine ixL (SqL.of K2) ?_ h
      rw [Int.zero_add]
      refine atI_nat ?_
      rw [List.getD_eq_getElem?_getD, List.getElem?_eq_getElem hk']; rfl
    rw [List.nil_append]
    have PR := All2.part (d := ((0, 0), (none, none))) PS (fun (k : Nat) => decide (c / (0 + (k : Int) + 1) % 2 = 0))
    have sub := partT_sub (srtT tb) (fun (k : Nat) => decide (c / (0 + (k : Int) + 1) % 2 = 0))
    unfold partT at sub
    rw [srtT_len, ← zl] at PR sub
    generalize ((List.range zs.length).filter fun (k : Nat) => decide (c / (0 + (k : Int) + 1) % 2 = 0)).map (fun k => zs.getD k V.non) = vs at PR ⊢
    generalize ((List.range zs.length).filter fun (k : Nat) => decide (c / (0 + (k : Int) + 1) % 2 = 0)).map (fun k => (srtT tb).getD k ((0, 0), (none, none))) = rows at PR sub
    have rn : (rows.map (·.1)).Nodup := (srtT_ok hok).1.sublist (sub.map _)
    have rv : ∀ r ∈ rows, valT tb r.1 = some r.2 := fun r hr => valT_mem hok.1 (srtT_mem (sub.subset hr))
    have rok : okT e t rows := ⟨rn, fun r hr => hok.2 r (srtT_mem (sub.subset hr))⟩
    have rl : rows.length ≤ 50 := by have := sub.length_le; rw [srtT_len] at this; omega
    have vl := PR.len
    have PV : Pts H2 vs (rows.map (·.1)) := All2.bmap PR
    clear PR sub
    have s3 := same_upd (o := .lst vs) hl0
    have L3 : upd H2 l (.lst vs) l = some (.lst vs) := upd_same
    generalize upd H2 l (.lst vs) = H3 at s3 L3 ⊢
    have S3 := s2.trans s3
    have PV3 := PV.same s3
    have cut1 : cutV vs none (some 1) = vs.take 1 := cutV_to vs 1
    have lt1 : (vs.take 1).length ≤ 1 := by rw [List.length_take]; omega
    refine ⟨l, rfl, vs, SqL.of L3, fun p1 hp1 => ?_⟩
    rw [cut1]
    have s4 := same_upd (o := .lst (vs.take 1)) hp1
    have L4 := s4 _ _ L3
    have M4 : upd H3 p1 (.lst (vs.take 1)) p1 = some (.lst (vs.take 1)) := upd_same
    generalize upd H3 p1 (.lst (vs.take 1)) = H4 at s4 L4 M4 ⊢
    refine ⟨l, rfl, vs, L4, _, M4, Nat.le_trans (by omega : _ ≤ 100) (by decide), fun p2 hp2 => ?_⟩
    have s5 := same_upd (o := .lst (vs ++ vs.take 1)) hp2
    have N5 : upd H4 p2 (.lst (vs ++ vs.take 1)) p2 = some (.lst (vs ++ vs.take 1)) := upd_same
    generalize upd H4 p2 (.lst (vs ++ vs.take 1)) = H5 at s5 N5 ⊢
    have S35 := s4.trans s5
    have S5 := S3.trans S35
    obtain ⟨⟨dx5, hx5⟩, _⟩ := hb.same S5
    have PV5 := PV3.same S35
    have PH : ∀ H', Same H5 H' → Pts H' (vs ++ vs.take 1) (rows.map (·.1) ++ (rows.map (·.1)).take 1) := fun H' s => (PV5.same s).app (All2.take 1 (PV5.same s))
    have inR : ∀ s ∈ rows.map (·.1) ++ (rows.map (·.1)).take 1, valT tb s ≠ none := fun s hs => by
      have : s ∈ rows.map (·.1) := by
        rcases List.mem_append.mp hs with h | h
        · exact h
        · exact List.mem_of_mem_take h
      obtain ⟨r, hr, rfl⟩ := List.mem_map.mp this
      rw [rv r hr]; exact fun z => nomatch z
    refine ⟨_, _, hx5, rfl, x, p, p2, e, t, u, d, m, tb, _, _, rfl, hb.same S5, hkB, SqL.of N5, PH _ (Same.refl _), ?_, fun ⟨s, h1, h2⟩ => absurd h2 (inR s h1), fun _ x' p' H6 s6 hx' hp' hB6 => ?_⟩
    · rw [List.length_append, List.length_take, List.length_map]; omega
    rw [keep_rows rn rv] at hB6
    have L6 := (S35.trans s6) _ _ L3
    have S6 := S5.trans s6
    refine ⟨l, rfl, vs, SqL.of L6, fun p3 hp3 => ?_⟩
    rw [cut1]
    have s7 := same_upd (o := .lst (vs.take 1)) hp3
    have L7 := s7 _ _ L6
    have M7 : upd H6 p3 (.lst (vs.take 1)) p3 = some (.lst (vs.take 1)) := upd_same
    generalize upd H6 p3 (.lst (vs.take 1)) = H7 at s7 L7 M7 ⊢
    refine ⟨l, rfl, vs, L7, _, M7, Nat.le_trans (by omega : _ ≤ 100) (by decide), fun p4 hp4 => ?_⟩
    have s8 := same_upd (o := .lst (vs ++ vs.take 1)) hp4
    have N8 : upd H7 p4 (.lst (vs ++ vs.take 1)) p4 = some (.lst (vs ++ vs.take 1)) := upd_same
    generalize upd H7 p4 (.lst (vs ++ vs.take 1)) = H8 at s8 N8 ⊢
    have s68 := s7.trans s8
    refine eq_pts (SqL.of ((s6.trans s68) _ _ N5)) (SqL.of N8) (PH _ (s6.trans s68)) (PH _ (s6.trans s68)) ⟨_, rfl, ?_⟩
    have S8 := S6.trans s68
    have B8 := hB6.same s68
    have L8 := s68 _ _ L6
    have PV8 := PV5.same (s6.trans s68)
    have z8 : H8 z = some (.tup [.int e, .int t, .int u, .int d]) := S8 _ _ hz
    have X' : H x' = none := S5.free hx'
    have P' : H p' = none := S5.free hp'
    have k8 := (s3.trans (S35.trans (s6.trans s68))) _ _ K2
    clear PH N5 N8 M4 M7 L3 L4 L6 L7 hp1 hp2 hp3 hp4
    walk_at "gzn"
    refine ⟨line2, fun q1 hq1 => ⟨line2, fun q2 hq2 => ?_⟩⟩
    have t1 := same_upd (o := .tup [V.int (-1), .int 0]) hq1
    have t2 := same_upd (o := .tup [V.int 0, .int (-1)]) hq2
    refine ixT (SqT.of ((t1.trans t2) _ _ z8)) rfl ⟨line2, fun q3 hq3 => ?_⟩
    have t3 := same_upd (o := .tup [V.int e, .int 0]) hq3
    refine ixT (SqT.of ((t1.trans (t2.trans t3)) _ _ z8)) rfl ⟨line2, fun q4 hq4 => ⟨by decide, fun q5 hq5 => ?_⟩⟩
    have t4 := same_upd (o := .tup [V.int 0, .int t]) hq4
    have t5 := same_upd (o := .lst [V.ref q1, .ref q2, .ref q3, .ref q4]) hq5
    have s9 := t1.trans (t2.trans (t3.trans (t4.trans t5)))
    have PQ : Pts (upd (upd (upd (upd (upd H8 q1 (.tup [V.int (-1), .int 0])) q2 (.tup [V.int 0, .int (-1)])) q3 (.tup [V.int e, .int 0])) q4 (.tup [V.int 0, .int t])) q5 (.lst [V.ref q1, .ref q2, .ref q3, .ref q4])) [V.ref q1, .ref q2, .ref q3, .ref q4] [(-1, 0), (0, -1), (e, 0), (0, t)] :=
      ⟨⟨q1, rfl, (t2.trans (t3.trans (t4.trans t5))) _ _ upd_same⟩, ⟨q2, rfl, (t3.trans (t4.trans t5)) _ _ upd_same⟩, ⟨q3, rfl, (t4.trans t5) _ _ upd_same⟩, ⟨q4, rfl, t5 _ _ upd_same⟩, trivial⟩
    have L9 : upd (upd (upd (upd (upd H8 q1 (.tup [V.int (-1), .int 0])) q2 (.tup [V.int 0, .int (-1)])) q3 (.tup [V.int e, .int 0])) q4 (.tup [V.int 0, .int t])) q5 (.lst [V.ref q1, .ref q2, .ref q3, .ref q4]) q5 = some (.lst [V.ref q1, .ref q2, .ref q3, .ref q4]) := upd_same
    generalize upd (upd (upd (upd (upd H8 q1 (.tup [V.int (-1), .int 0])) q2 (.tup [V.int 0, .int (-1)])) q3 (.tup [V.int e, .int 0])) q4 (.tup [V.int 0, .int t])) q5 (.lst [V.ref q1, .ref q2, .ref q3, .ref q4]) = H9 at s9 PQ L9 ⊢
    clear t1 t2 t3 t4 t5 hq1 hq2 hq3 hq4 hq5
    have S9 := S8.trans s9
    have B9 := B8.same s9
    have V9 := s9 _ _ L8
    have PV9 := PV8.same s9
    have z9 := s9 _ _ z8
    have k9 := s9 _ _ k8
    have offK : ∀ (H' : Hp) (y : V) (s : P2) (R : VK), Same H9 H' → IsPt H' y s → valT tb s = none → (∀ H2, Same H' H2 → R (.bl true) H2) → 1 ≤ sizeLine ∧ ∀ p, H' p = none → ∃ xs, upd H' p (.lst [y]) l = some (.lst xs) ∧ ∃ zs, upd H' p (.lst [y]) p = some (.lst zs) ∧ xs.length + zs.length ≤ sizeLine ∧ ∀ p_1, upd H' p (.lst [y]) p_1 = none → sp_lkeep K T.C_Board [.ref x, .ref p_1] (upd (upd H' p (.lst [y])) p_1 (.lst (xs ++ zs))) R E0 := fun H' y s R s' hy hs hR => by
      refine ⟨by decide, fun a1 ha1 => ?_⟩
      have u1 := same_upd (o := .lst [y]) ha1
      refine ⟨vs, u1 _ _ (s' _ _ V9), [y], upd_same, Nat.le_trans (by rw [List.length_singleton]; omega : _ ≤ 100) (by decide), fun a2 ha2 => ?_⟩
      have u2 := u1.trans (same_upd (o := .lst (vs ++ [y])) ha2)
      refine ⟨x, p, a2, e, t, u, d, m, tb, _, rows.map (·.1) ++ [s], rfl, hb.same (S9.trans (s'.trans u2)), hkB, SqL.of upd_same, All2.snoc (PV9.same (s'.trans u2)) (hy.same u2), ?_, ⟨s, by simp, hs⟩, fun H3 s3 => hR _ (u2.trans s3)⟩
      rw [List.length_append, List.length_map, List.length_singleton]; omega
    refine ⟨⟨_, SqL.of L9⟩, by_list (xs := [V.ref q1, .ref q2, .ref q3, .ref q4]) (inv_off H9 x r z k1 l p2 x' c m) ⟨_, _, _, _, rfl, Same.refl _⟩ ?_ ?_ ?_⟩
    · rintro i σ H10 _ ⟨_, _, _, _, _, s10⟩
      exact SqL.of (s10 _ _ L9)
    · rintro i y σ H10 hy ⟨e1, e2, e3, e4, rfl, s10⟩
      obtain ⟨s, es, hys⟩ := PQ.get hy
      have off : ¬ onB e t s := fun z => by
        have := List.mem_of_getElem? es
        simp only [List.mem_cons, List.not_mem_nil, or_false] at this
        unfold onB at z
        rcases this with rfl | rfl | rfl | rfl <;> dsimp only at z <;> omega
      walk_at "gzn"
      refine offK H10 y s _ s10 (hys.same s10) (off_none hok off) fun H11 s11 => ⟨_, rfl, ?_⟩
      rw [if_neg (by decide)]
      exact ⟨_, _, _, _, rfl, s10.trans s11⟩
    rintro σ H10 ⟨e1, e2, e3, e4, rfl, s10⟩
    have S10 := S9.trans s10
    have B10 := B9.same s10
    have V10 := s10 _ _ V9
    have PV10 := PV9.same s10
    have z10 := s10 _ _ z9
    have k10 := s10 _ _ k9
    walk_at "gzn"
    have PB10 : All2 (fun x (b : P2 × S2) => IsPt H10 x b.1) vs rows := All2.bind PV10
    refine ⟨⟨_, SqL.of V10⟩, blk_of it_list (Nat.le_trans (by omega : _ ≤ 100) (by decide)) (compGo_new (R := fun H y (r : P2 × S2) => IsPt H y r.1) (R' := fun H y (r : P2 × S2) => IsRw H y r) (f := fun r => r) (bs := []) (fun _ _ _ _ s r => IsPt.same r s) (fun _ _ _ _ s r => IsRw.same r s) PB10 trivial (fun H' s' => SqL.of (s' _ _ V10)) (fun y row _ H' s' hy Q h => ?_) (fun y row hrow H' s' hy Q h => ?_) fun H11 zs2 s11 hz2 => ?_)⟩
    · walk_at "gzn"
      exact h
    · obtain ⟨a, rfl, ha⟩ := id hy
      obtain ⟨kq, hq, hTq⟩ := hR.same (S10.trans s')
      obtain ⟨v, hv, iv⟩ := (hTq.val row.1).2 _ (rv row hrow)
      walk_at "gzn"
      refine ⟨v, by rw [← hv]; exact DGet.t (k := spot row.1.1 row.1.2) hq ha, line2, fun b hb0 => h _ _ (same_upd hb0) ⟨b, a, v, rfl, upd_same, (same_upd hb0) _ _ ha, iv.same (same_upd hb0)⟩⟩
    rw [List.nil_append, List.map_id'] at hz2
    intro l2 hl2
    have s12 := s11.trans (same_upd (o := .lst zs2) hl2)
    have L12 : upd H11 l2 (.lst zs2) l2 = some (.lst zs2) := upd_same
    obtain ⟨kvs2, RW2, TW2⟩ := rows_kvs (hz2.imp fun x r z => IsRw.same z (same_upd (o := .lst zs2) hl2))
    generalize upd H11 l2 (.lst zs2) = H12 at s12 L12 RW2 TW2 ⊢
    refine ⟨l2, rfl, zs2, SqL.of L12, kvs2, RW2, fun r' hr' => ?_⟩
    have s13 := s12.trans (same_upd (o := .dT (putsK [] kvs2)) hr')
    have R13 : TabAt (upd H12 r' (.dT (putsK [] kvs2))) r' rows := ⟨_, upd_same, by
      have := tab_puts (acc := []) (tacc := []) trivial (TW2.imp fun v a b z => IsS.same z (same_upd (o := .dT (putsK [] kvs2)) hr'))
      rwa [putsT_id rn] at this⟩
    have R' : H r' = none := (S10.trans s12).free hr'
    have P2' : p' ≠ r' := fun z => by
      have := (B10.same s12).tb.ne hr'
      exact this z
    generalize upd H12 r' (.dT (putsK [] kvs2)) = H13 at s13 R13 ⊢
    refine ⟨x', p', r', e, t, u, d, m, rows, rfl, B10.same s13, R13, rn, by omega, fun H14 s14 => ⟨_, rfl, ?_⟩⟩
    rw [if_neg (by decide)]
    refine ⟨x', p', z, e, t, u, d, m, rows, rfl, B10.same (s13.trans s14), (s13.trans s14) _ _ z10, fun H15 s15 => ⟨_, rfl, ?_⟩⟩
    rw [if_neg (by decide)]
    have S15 := s13.trans (s14.trans s15)
    have z15 := S15 _ _ z10
    refine ⟨_, lenL (SqL.of (S15 _ _ k10)), ixT (SqT.of z15) rfl (ixT (SqT.of z15) rfl ⟨_, rfl, _, rfl, mul200 (by omega) (by omega), ?_⟩)⟩
    have nd4 : [p, p', r, r'].Nodup := by
      have h1 : p ≠ p' := hb.tb.ne P'
      have h2 : p ≠ r' := hb.tb.ne R'
      have h3 : r ≠ p' := hR.ne P'
      have h4 : r ≠ r' := hR.ne R'
      simp only [List.nodup_cons, List.mem_cons, List.not_mem_nil, or_false, not_or, not_false_eq_true, List.nodup_nil, and_true]
      exact ⟨⟨h1, hpr, h2⟩, ⟨Ne.symm h3, P2'⟩, h4⟩
    have key : ∀ (R : VK), (∀ tb2 H16, But [p, r] H H16 → TabAt H16 p tb2 → TabAt H16 r tb2 → okT e t tb2 → tb2.length ≤ 51 → R (.bl true) H16) → ∀ H', Same H15 H' → sp_apart T.C_Board [.ref x, .ref x', .ref r, .ref r', .ref z, .int c] H' R E0 := fun R hR2 H' s' => by
      have SS := S10.trans (S15.trans s')
      refine ⟨x, x', p, p', r, r', z, e, t, u, d, m, m, c, tb, rows, rfl, hb.same SS, B10.same (S15.trans s'), hR.same SS, R13.same (s14.trans (s15.trans s')), nd4, s' _ _ z15, he1, ht1, hok, rok, by omega, by omega, fun tb2 H16 bt h1 h2 h3 h4 => hR2 tb2 H16 (But.new SS bt fun b hb2 hb3 => ?_) h1 h2 h3 (by omega)⟩
      simp only [List.mem_cons, List.not_mem_nil, or_false, not_or] at hb2 hb3
      rcases hb2 with rfl | rfl | rfl | rfl
      · exact absurd rfl hb3.1
      · exact P'
      · exact absurd rfl hb3.2
      · exact R'
    have het : 0 ≤ e * t ∧ e * t ≤ 84 := by rcases (by omega : e = 1 ∨ e = 2 ∨ e = 3 ∨ e = 4 ∨ e = 5 ∨ e = 6 ∨ e = 7) with h | h | h | h | h | h | h <;> rw [h] <;> omega
    refine ite_by (fun hlt => ?fr) fun hge => key _ ?ap _ (Same.refl _)
    case' fr =>
      refine ixT (SqT.of z15) rfl (ixT (SqT.of z15) rfl ⟨_, rfl, _, rfl, mul200 (by omega) (by omega), by omega, by omega, ?_⟩)
      obtain ⟨n, hn⟩ : ∃ n : Nat, e * t = (n : Int) := ⟨(e * t).toNat, by omega⟩
      rw [hn] at hlt het ⊢
      rw [Int.toNat_natCast]
      refine blk_of it_rng (Nat.le_trans (by rw [List.length_map, List.length_range]; omega : _ ≤ 100) (by decide)) (compGo_new (R := fun _ x (k : Nat) => x = V.int (0 + (k : Int))) (R' := fun H y (k : Nat) => IsPt H y ((k : Int) % e, (k : Int) / e)) (f := fun k => k) (bs := []) (fun _ _ _ _ _ r => r) (fun _ _ _ _ s r => IsPt.same r s) (All2.map_nat (f := fun k => 0 + (k : Int)) (List.range n)) trivial (fun _ _ => trivial) (fun y k _ H' s' hy Q h => ?_) (fun y k hk H' s' hy Q h => ?_) fun H16 ws s16 hw => ?_)
      · walk_at "gzn"
        exact h
      · subst hy
        have zz := s' _ _ z15
        walk_at "gzn"
        exact ixT (SqT.of zz) rfl ⟨_, rfl, by omega, ixT (SqT.of zz) rfl ⟨_, rfl, by omega, Bd.up (n := 20) (by show e.natAbs < 2 ^ 20; omega) (by decide), line2, fun b hb0 => h _ _ (same_upd hb0) ⟨b, rfl, by rw [upd_same, Int.zero_add]⟩⟩⟩
      rw [List.nil_append, List.map_id'] at hw
      have PA16 : Pts H16 ws (allS e n) := All2.bmap hw
      have wl := hw.len
      rw [List.length_range] at wl
      intro l3 hl3
      have s17 := s16.trans (same_upd (o := .lst ws) hl3)
      have L17 : upd H16 l3 (.lst ws) l3 = some (.lst ws) := upd_same
      have PA17 := PA16.same (same_upd (o := .lst ws) hl3)
      generalize upd H16 l3 (.lst ws) = H17 at s17 L17 PA17 ⊢
      refine ⟨l3, rfl, ⟨_, SqL.of L17⟩, blk_of it_list (Nat.le_trans (by omega : _ ≤ 100) (by decide)) (compGo_sel (R := fun H y (s : P2) => IsPt H y s) (p := fun s => !(valT tb s).isSome) (fun _ _ _ _ s r => IsPt.same r s) PA17 (fun H' s' => SqL.of (s' _ _ L17)) (fun y s _ H' s' hy Q h => ?_) (fun y H' s' Q h => ?_) fun H18 us s18 hu => ?_)⟩
      · obtain ⟨a, rfl, ha⟩ := id hy
        obtain ⟨kq, hq, hTq⟩ := hR.same (S10.trans (S15.trans (s17.trans s')))
        have ev : (valV kq (spot s.1 s.2)).isSome = (valT tb s).isSome := by
          cases hv : valT tb s with
          | none => rw [(hTq.val s).1 hv]; rfl
          | some w => obtain ⟨v, h1, _⟩ := (hTq.val s).2 w hv; rw [h1]; rfl
        walk_at "gzn"
        refine ⟨_, DGet.t (k := spot s.1 s.2) hq ha, ?_⟩
        rw [ev]; exact h _ (Same.refl _)
      · walk_at "gzn"
        exact h
      rw [List.nil_append]
      intro l4 hl4
      have fs := free_some (e := e) (n := n) (tb := tb) he1 (by omega)
      have ul := hu.len
      generalize hF : (allS e n).filter (fun s => !(valT tb s).isSome) = fl at hu fs ul
      have fp : 0 < fl.length := List.length_pos_iff.mpr fs
      have s19 := s18.trans (same_upd (o := .lst us) hl4)
      have L19 : upd H18 l4 (.lst us) l4 = some (.lst us) := upd_same
      have PU := Pts.same hu (same_upd (o := .lst us) hl4)
      generalize upd H18 l4 (.lst us) = H19 at s19 L19 PU ⊢
      have c1 := Int.emod_nonneg c (show (us.length : Int) ≠ 0 by omega)
      have c2 := Int.emod_lt_of_pos c (show (0 : Int) < us.length by omega)
      obtain ⟨j, hj, ej⟩ : ∃ j : Nat, j < fl.length ∧ c % (us.length : Int) = (j : Int) := ⟨(c % (us.length : Int)).toNat, by omega, by omega⟩
      obtain ⟨y, ey, hy⟩ := PU.at (List.getElem?_eq_getElem hj)
      have hnone : valT tb fl[j] = none := by
        have : fl[j] ∈ (allS e n).filter (fun s => !(valT tb s).isSome) := hF ▸ List.getElem_mem hj
        have := (List.mem_filter.mp this).2
        cases hv : valT tb fl[j] with
        | none => rfl
        | some w => rw [hv] at this; cases this
      refine ⟨_, lenL (SqL.of L19), by omega, ixL (SqL.of L19) (by rw [ej]; exact atI_nat ey) (offK H19 y _ _ (s10.trans (S15.trans (s17.trans s19))) hy hnone fun H20 s20 => ⟨_, rfl, ?_⟩)⟩
      rw [if_neg (by decide)]
      refine key _ ?ap2 _ (s17.trans (s19.trans s20))
    all_goals
      intro tb2 H16 bt16 hp16 hr16 hok2 hl2'
      refine ⟨_, rfl, ?_⟩
      rw [if_neg (by decide)]
      have Dc : Dcts H [p, r] := fun b hb2 => by
        simp only [List.mem_cons, List.not_mem_nil, or_false] at hb2
        rcases hb2 with rfl | rfl
        · exact hb.tb.dct
        · exact hR.dct
      have F16 := bt16.fr Dc
      have z16 : H16 z = some (.tup [.int e, .int t, .int u, .int d]) := F16.tup hz
      have b16 := hb.now F16 hp16
      refine ⟨by decide, bd200 (by decide), ixT (SqT.of z16) rfl ⟨_, rfl, by omega, ?_⟩⟩
      have al : ∀ (o : Int), ¬ (0 ≤ o ∧ o ≤ e) → sp_lallow T.C_Board [.ref x, .int o] H16 (fun x H1 => ∃ a, x = V.bl a ∧ Q (V.bl (a == true)) H1) E0 := fun o ho => ⟨x, p, e, t, u, d, m, o, tb2, rfl, b16, hok2, fun z => ho ⟨z.2.2.2.2.1, z.2.2.2.2.2⟩, fun H17 s17 => ⟨true, rfl, q tb2 H17 (bt16.trans s17.but) (hp16.same s17) (hr16.same s17) hok2 (by omega)⟩⟩
      generalize c / 2 % (e + 3) - 1 = o
      refine ite_by (fun h0 => ixT (SqT.of z16) rfl ⟨_, rfl, ite_by (fun h1 => al o (fun z => h1 z.2)) fun h1 => ?_⟩) fun h0 => al o (fun z => h0 z.1)
      obtain ⟨⟨dx16, hx16⟩, _⟩ := id b16
      refine ⟨_, _, hx16, rfl, x, p, e, t, u, d, m, o, tb2, rfl, b16, hok2, fun z => absurd ⟨hkB.1, hkB.2.1, hkB.2.2.1, hkB.2.2.2.1, h0, Decidable.not_not.mp h1⟩ z, fun _ x2 p2' H17 s17 hx2 hp2' B17 => ?_⟩
      refine ⟨x2, p2', r, e, t, u, d, o, tb2, rfl, B17, hr16.same s17, hok2.1, by omega, fun H18 s18 => ⟨_, rfl, ?_⟩⟩
      rw [if_neg (by decide)]
      refine ⟨x2, p2', z, e, t, u, d, o, tb2, rfl, B17.same s18, (s17.trans s18) _ _ z16, fun H19 s19 => ⟨_, rfl, ?_⟩⟩
      rw [if_neg (by decide)]
      have SQ := s17.trans (s18.trans s19)
      obtain ⟨kq, hq, hTq⟩ := hr16.same SQ
      refine ⟨kq, hq, hash_nd hTq hok2 he.2 ht.2, fun l5 hl5 => ⟨by decide, bd200 (by decide), ?_⟩⟩
      have s20 := same_upd (o := .dT kq) hl5
      have SS := SQ.trans s20
      have T20 : TabAt (upd H19 l5 (.dT kq)) l5 tb2 := ⟨kq, upd_same, hTq.imp fun v a b z => IsS.same z s20⟩
      have L5 := SQ.free hl5
      have g1 : p ≠ p2' := hp16.ne hp2'
      have g2 : p ≠ l5 := hp16.ne L5
      have g3 : r ≠ p2' := hr16.ne hp2'
      have g4 : r ≠ l5 := hr16.ne L5
      have g5 : p2' ≠ l5 := (B17.tb.same (s18.trans s19)).ne hl5
      refine ⟨x, x2, p, p2', r, l5, z, e, t, u, d, m, o, c / 3, tb2, tb2, rfl, b16.same SS, B17.same (s18.trans (s19.trans s20)), hr16.same SS, T20, ?_, SS _ _ z16, he1, ht1, hok2, hok2, by omega, by omega, fun tb3 H21 bt h1 h2 h3 h4 => q tb3 H21 (bt16.trans (But.new SS bt fun b hb2 hb3 => ?_)) h1 h2 h3 (by omega)⟩
      · simp only [List.nodup_cons, List.mem_cons, List.not_mem_nil, or_false, not_or, not_false_eq_true, List.nodup_nil, and_true]
        exact ⟨⟨g1, hpr, g2⟩, ⟨Ne.symm g3, g5⟩, g4⟩
      · simp only [List.mem_cons, List.not_mem_nil, or_false, not_or] at hb2 hb3
        rcases hb2 with rfl | rfl | rfl | rfl
        · exact absurd rfl hb3.1
        · exact hp2'
        · exact absurd rfl hb3.2
        · exact L5
end
section
variable {P : Program} {w : World} {K : PySem.W.Frag} {mg : Str → Option Value} {base : Heap}
seal L2.PE L2.PS L2.PSs L2.PA
theorem step6 {k : Int} {i : Nat} (h : i < stepN 6 k 2) : 6 + (i : Int) * 2 < k := by
  unfold stepN Builtin.Range.rangeSize at h
  rw [if_pos (by decide)] at h
  split at h
  · omega
  · simp at h
theorem step6_le (k : Int) (hk : k ≤ 61) : stepN 6 k 2 ≤ 28 := by
  unfold stepN Builtin.Range.rangeSize
  rw [if_pos (by decide)]
  split
  · omega
  · simp
theorem tab_lst {H : Hp} {q l : Addr} {tb : Tb} {ys : List V} {o : HO} (h : TabAt H q tb) (hl : H l = some (.lst ys)) : TabAt (upd H l o) q tb := by
  obtain ⟨k, hk, hT⟩ := h
  exact ⟨k, by rw [upd_ne (fun z => by rw [z, hl] at hk; cases hk)]; exact hk, hT.imp fun _ _ _ z => IsS.put z hl⟩
theorem brd_lst {B : Addr} {e t u d m : Int} {H : Hp} {x p l : Addr} {tb : Tb} {ys : List V} {o : HO} (h : BrdT B H x e t u d m p tb) (hl : H l = some (.lst ys)) : BrdT B (upd H l o) x e t u d m p tb := by
  obtain ⟨⟨dx, hx⟩, hT⟩ := h
  exact ⟨⟨dx, by rw [upd_ne (fun z => by rw [z, hl] at hx; cases hx)]; exact hx⟩, tab_lst hT hl⟩
theorem tr_lst {H : Hp} {l : Addr} {ys : List V} {o : HO} {v : V} {r : P2 × S2} (h : IsTr H v r) (hl : H l = some (.lst ys)) : IsTr (upd H l o) v r := by
  obtain ⟨a, w, e, ha, hw⟩ := h
  exact ⟨a, w, e, by rw [upd_ne (fun z => by rw [z, hl] at ha; cases ha)]; exact ha, IsS.put hw hl⟩
def HeldAt (h w : Addr) (H : Hp) (v : V) : Prop := ∃ (b f g : Addr) (xs : List V) (rows : Tb), v = .ref b ∧ H b = some (.tup [.ref f, .ref g]) ∧ (f ≠ h ∧ f ≠ w) ∧ (g ≠ h ∧ g ≠ w) ∧ H f = some (.lst xs) ∧ H g = some (.lst xs) ∧ All2 (IsTr H) xs rows
structure Own (H : Hp) (p r h w : Addr) : Prop where
  p : ∃ k, H p = some (.dT k)
  r : ∃ k, H r = some (.dT k)
  h : ∃ xs, H h = some (.lst xs)
  w : ∃ xs, H w = some (.lst xs)
section
variable {H H' H2 : Hp} {p r h w b : Addr}
theorem own_keep {o : HO} (O : Own H p r h w) (bt : But [p, r, h, w] H H') (e : H b = some o) (h1 : ∀ k, o ≠ .dT k) (h2 : (∀ xs, o ≠ .lst xs) ∨ (b ≠ h ∧ b ≠ w)) : H' b = some o := by
  refine bt b o (fun z => ?_) e
  simp only [List.mem_cons, List.not_mem_nil, or_false] at z
  obtain ⟨⟨k1, e1⟩, ⟨k2, e2⟩, ⟨x1, e3⟩, x2, e4⟩ := O
  rcases z with rfl | rfl | rfl | rfl
  · rw [e1] at e; exact h1 _ (Option.some.inj e).symm
  · rw [e2] at e; exact h1 _ (Option.some.inj e).symm
  · rcases h2 with h2 | h2
    · rw [e3] at e; exact h2 _ (Option.some.inj e).symm
    · exact h2.1 rfl
  · rcases h2 with h2 | h2
    · rw [e4] at e; exact h2 _ (Option.some.inj e).symm
    · exact h2.2 rfl
theorem own_tup {xs : List V} (O : Own H p r h w) (bt : But [p, r, h, w] H H') (e : H b = some (.tup xs)) : H' b = some (.tup xs) := own_keep O bt e (fun _ z => nomatch z) (.inl fun _ z => nomatch z)
theorem own_S {v : V} {x y : En} (O : Own H p r h w) (bt : But [p, r, h, w] H H') (e : IsS H v x y) : IsS H' v x y := let ⟨q, e1, e2⟩ := e; ⟨q, e1, own_tup O bt e2⟩
theorem own_held {v : V} (O : Own H p r h w) (bt : But [p, r, h, w] H H') (e : HeldAt h w H v) : HeldAt h w H' v := by
  obtain ⟨b, f, g, xs, rows, e1, h1, h2, h3, h4, h5, h6⟩ := e
  exact ⟨b, f, g, xs, rows, e1, own_tup O bt h1, h2, h3, own_keep O bt h4 (fun _ z => nomatch z) (.inr h2), own_keep O bt h5 (fun _ z => nomatch z) (.inr h3), h6.imp fun x r ⟨a, w, e, ha, hw⟩ => ⟨a, w, e, own_tup O bt ha, own_S O bt hw⟩⟩
theorem own_tab {q : Addr} {tb : Tb} (O : Own H p r h w) (bt : But [p, r, h, w] H H') (e : TabAt H q tb) (h1 : q ≠ p) (h2 : q ≠ r) : TabAt H' q tb := by
  obtain ⟨k, hk, hT⟩ := e
  refine ⟨k, bt q _ (fun z => ?_) hk, hT.imp fun _ _ _ z => own_S O bt z⟩
  obtain ⟨_, _, ⟨x1, e3⟩, x2, e4⟩ := O
  simp only [List.mem_cons, List.not_mem_nil, or_false] at z
  rcases z with rfl | rfl | rfl | rfl
  · exact h1 rfl
  · exact h2 rfl
  · rw [e3] at hk; cases hk
  · rw [e4] at hk; cases hk
theorem own_tw {B : Addr} {e t u d m : Int} {v : V} {k : Tw} (O : Own H p r h w) (bt : But [p, r, h, w] H H') (x : TwAt B e t u d m H v k) (h1 : k.p ≠ p) (h2 : k.p ≠ r) (h3 : k.r ≠ p) (h4 : k.r ≠ r) : TwAt B e t u d m H' v k := by
  obtain ⟨b, e1, a1, ⟨⟨dx, a2⟩, a3⟩, a4, a5⟩ := x
  exact ⟨b, e1, own_tup O bt a1, ⟨⟨dx, own_keep O bt a2 (fun _ z => nomatch z) (.inl fun _ z => nomatch z)⟩, own_tab O bt a3 h1 h2⟩, own_tab O bt a4 h3 h4, a5⟩
theorem same_but (s : Same H2 H) (bt : But [p, r, h, w] H H') (h1 : H2 p = none) (h2 : H2 r = none) (h3 : H2 h = none) (h4 : H2 w = none) : Same H2 H' := fun b o e => bt b o (fun z => by
  simp only [List.mem_cons, List.not_mem_nil, or_false] at z
  rcases z with rfl | rfl | rfl | rfl
  · rw [h1] at e; cases e
  · rw [h2] at e; cases e
  · rw [h3] at e; cases e
  · rw [h4] at e; cases e) (s b o e)
end
structure Inv17 (B : Addr) (e t u d m : Int) (H2 : Hp) (x p r h w : Addr) (n : Nat) (H : Hp) (tb : Tb) (hs ts : List V) (ks : List Tw) : Prop where
  s : Same H2 H
  b : BrdT B H x e t u d m p tb
  rt : TabAt H r tb
  ok : okT e t tb
  l : tb.length ≤ n
  hd : H h = some (.lst hs)
  hh : ∀ v ∈ hs, HeldAt h w H v
  hl : hs.length ≤ n
  wd : H w = some (.lst ts)
  ww : All2 (TwAt B e t u d m H) ts ks
  wl : ks.length ≤ 3
  nd : (p :: r :: dcs ks).Nodup
def inv17 (B : Addr) (e t u d m : Int) (H2 : Hp) (a z x p r h w : Addr) (i : Nat) (σ : St) (H1 : Hp) : Prop := ∃ (e1 e2 e3 e4 : Option V) (tb : Tb) (hs ts : List V) (ks : List Tw), σ = [some (.ref a), some (.ref z), some (.int m), some (.ref x), some (.ref r), some (.ref h), some (.ref w), e1, e2, e3, e4] ∧ Inv17 B e t u d m H2 x p r h w i H1 tb hs ts ks
theorem Inv17.own {B : Addr} {e t u d m : Int} {H2 H : Hp} {x p r h w : Addr} {n : Nat} {tb : Tb} {hs ts : List V} {ks : List Tw} (I : Inv17 B e t u d m H2 x p r h w n H tb hs ts ks) : Own H p r h w := ⟨I.b.tb.dct, I.rt.dct, ⟨_, I.hd⟩, _, I.wd⟩
theorem dcs_mem {ks : List Tw} {k : Tw} (h : k ∈ ks) : k.p ∈ dcs ks ∧ k.r ∈ dcs ks := ⟨List.mem_flatMap.mpr ⟨k, h, .head _⟩, List.mem_flatMap.mpr ⟨k, h, .tail _ (.head _)⟩⟩
theorem Inv17.tws {B : Addr} {e t u d m : Int} {H2 H H' : Hp} {x p r h w : Addr} {n : Nat} {tb : Tb} {hs ts : List V} {ks : List Tw} (I : Inv17 B e t u d m H2 x p r h w n H tb hs ts ks) (bt : But [p, r, h, w] H H') : All2 (TwAt B e t u d m H') ts ks := All2.mapm I.ww fun v k hk hv => by
  have nd := I.nd
  rw [List.nodup_cons, List.nodup_cons] at nd
  obtain ⟨m1, m2⟩ := dcs_mem hk
  exact own_tw I.own bt hv (fun z => nd.1 (.tail _ (z ▸ m1))) (fun z => nd.2.1 (z ▸ m1)) (fun z => nd.1 (.tail _ (z ▸ m2))) (fun z => nd.2.1 (z ▸ m2))
theorem HeldAt.fr {h w : Addr} {H H' : Hp} {v : V} (x : HeldAt h w H v) (f : Fr H H') : HeldAt h w H' v := by
  obtain ⟨b, f', g, xs, rows, e1, h1, h2, h3, h4, h5, h6⟩ := x
  exact ⟨b, f', g, xs, rows, e1, f.tup h1, h2, h3, f.lst h4, f.lst h5, h6.imp fun x r z => IsTr.fr z f⟩
theorem dct2 {H : Hp} {p r : Addr} (hp : ∃ k, H p = some (.dT k)) (hr : ∃ k, H r = some (.dT k)) : Dcts H [p, r] := fun b hb => by
  simp only [List.mem_cons, List.not_mem_nil, or_false] at hb
  rcases hb with rfl | rfl
  · exact hp
  · exact hr
theorem but4 {H H' : Hp} {p r h w : Addr} (bt : But [p, r] H H') : But [p, r, h, w] H H' := bt.mono fun b hb => by
  simp only [List.mem_cons, List.not_mem_nil, or_false] at hb ⊢
  rcases hb with rfl | rfl <;> simp
def inv_h (H : Hp) (a z x r h w : Addr) (m : Int) (_ : Nat) (σ : St) (H1 : Hp) : Prop := ∃ (e1 e2 e3 e4 : Option V), σ = [some (.ref a), some (.ref z), some (.int m), some (.ref x), some (.ref r), some (.ref h), some (.ref w), e1, e2, e3, e4] ∧ H1 = H
def sp_law (K : PySem.W.Frag) : Sp := fun vs H Q _ => ∃ (a : Addr) (ns : List Int), vs = [.ref a] ∧ SqL K H a (ns.map V.int) ∧ ns.length ≤ 63 ∧ ∀ H', Q (.bl true) H'
theorem ok_law (T : Tx K mg) : FnOk P w K mg base (CXX P w) 7 T.a_law T.fd_law ["_law_script"] (sp_law K) := by
  refine okN T.F_law sc_law (fun vs H Q E h => ?_) (fun cdv A outer s H vs Q E hr h => ?_)
  · obtain ⟨a, ns, rfl, _⟩ := h
    rfl
  · obtain ⟨a, ns, rfl, hS, hn, q⟩ := h
    refine ⟨_, (pss_cons (ps_set (i := 1) sc_law.nd rfl (Or.inl rfl) (pe_tup (pa_cons (pe_op op_add pe_int (pe_op op_mod (pe_call (ok_law_cell T) (hr.mono (by decide)) rfl T.m_law_cell T.F_law_cell.kp T.b_law_cell .nil passE0 (pa_cons (pv 0) (pa_cons pe_int pa_nil))) pe_int)) (pa_cons (pe_op op_add pe_int (pe_op op_mod (pe_call (ok_law_cell T) (hr.mono (by decide)) rfl T.m_law_cell T.F_law_cell.kp T.b_law_cell .nil passE0 (pa_cons (pv 0) (pa_cons pe_int pa_nil))) pe_int)) pa_nil))))
    (pss_cons (ps_set (i := 1) sc_law.nd rfl (Or.inl rfl) (pe_op op_catT (pv 1) (pe_tup (pa_cons (pe_call (ok_law_pace T) (hr.mono (by decide)) rfl T.m_law_pace T.F_law_pace.kp T.b_law_pace .nil passE0 (pa_cons (pe_call (ok_law_cell T) (hr.mono (by decide)) rfl T.m_law_cell T.F_law_cell.kp T.b_law_cell .nil passE0 (pa_cons (pv 0) (pa_cons pe_int pa_nil))) pa_nil)) (pa_cons (pe_call (ok_law_pace T) (hr.mono (by decide)) rfl T.m_law_pace T.F_law_pace.kp T.b_law_pace .nil passE0 (pa_cons (pe_call (ok_law_cell T) (hr.mono (by decide)) rfl T.m_law_cell T.F_law_cell.kp T.b_law_cell .nil passE0 (pa_cons (pv 0) (pa_cons pe_int pa_nil))) pa_nil)) pa_nil)))))
    (pss_cons (ps_set (i := 2) sc_law.nd rfl (Or.inl rfl) (pe_op op_mod (pe_call (ok_law_cell T) (hr.mono (by decide)) rfl T.m_law_cell T.F_law_cell.kp T.b_law_cell .nil passE0 (pa_cons (pv 0) (pa_cons pe_int pa_nil))) (pe_op op_add (pe_ix ix_seq (pv 1) pe_int (fun _ _ => rfl)) pe_int)))
    (pss_cons (ps_set (i := 3) sc_law.nd rfl (Or.inl rfl) (pe_make T.mk_Board (ok_Board_init__ T) (hr.mono (by decide)) rfl T.c_Board T.b_Board_init__ .nil passE0 (pa_cons (pe_ix ix_seq (pv 1) pe_int (fun _ _ => rfl)) (pa_cons (pe_ix ix_seq (pv 1) pe_int (fun _ _ => rfl)) (pa_cons (pe_ix ix_seq (pv 1) pe_int (fun _ _ => rfl)) (pa_cons (pe_ix ix_seq (pv 1) pe_int (fun _ _ => rfl)) (pa_cons (pv 2) pa_nil)))))))
    (pss_cons (ps_set (i := 4) sc_law.nd rfl (Or.inl rfl) pe_dnew2)
    (pss_cons (ps_set (i := 5) sc_law.nd rfl (Or.inl rfl) (pe_lst pa_nil))
    (pss_cons (ps_set (i := 6) sc_law.nd rfl (Or.inl rfl) (pe_lst pa_nil))
    (pss_cons (ps_for PassesOwn.never rfl (pi_range3 rfl T.n_range (pa_cons pe_int (pa_cons (pe_op op_sub (pe_callB (call_min2 rfl) (by rfl) T.n_min b_min (pa_cons (pe_callB call_len (by rfl) T.n_len b_len (pa_cons (pv 0) pa_nil)) (pa_cons pe_int pa_nil))) pe_int) (pa_cons pe_int pa_nil)))) (pg_name (i := 7) sc_law.nd rfl (Or.inl rfl)) (pss_cons (ps_if (pt_not (pt_val (pe_call (ok_law_deed T) (hr.mono (by decide)) rfl T.m_law_deed T.F_law_deed.kp T.b_law_deed .nil passE0 (pa_cons (pv 3) (pa_cons (pv 4) (pa_cons (pv 1) (pa_cons (pe_ix ix_seq (pv 0) (pv 7) (fun _ _ => rfl)) (pa_cons (pe_ix ix_seq (pv 0) (pe_op op_add (pv 7) pe_int) (fun _ _ => rfl)) pa_nil)))))))) (pss_one (ps_ret pe_bl)) pss_nil)
        (pss_cons (ps_if (pt_not (pt_val (pe_call (ok_law_looked T) (hr.mono (by decide)) rfl T.m_law_looked T.F_law_looked.kp T.b_law_looked .nil passE0 (pa_cons (pv 3) (pa_cons (pv 4) (pa_cons (pv 1) (pa_cons (pe_ix ix_seq (pv 0) (pe_op op_add (pv 7) pe_int) (fun _ _ => rfl)) pa_nil))))))) (pss_one (ps_ret pe_bl)) pss_nil)
        (pss_cons (ps_set (i := 8) sc_law.nd rfl (Or.inl rfl) (pe_meth0 (pv 3) T.cl_Board T.me_Board_tellings (ok_Board_tellings T) (hr.mono (by decide)) T.b_Board_tellings .nil passE0))
        (pss_cons (ps_expr (pe_bm PySem.F.plainAttrs_list PySem.F.slot_list_append PySem.F.type_list_append mt_append (pv 5) (pa_cons (pe_tup (pa_cons (pv 8) (pa_cons (pe_callTy call_list_of (by rfl) T.n_list b_list (pa_cons (pv 8) pa_nil)) pa_nil))) pa_nil)))
        (pss_one (ps_if (PW.pt (pw_and (pt_cmpR op_eq (pe_op op_mod (pe_ix ix_seq (pv 0) (pv 7) (fun _ _ => rfl)) pe_int) pe_int (nomark _)) (pw_and1 (pt_cmpR op_lt (pe_callB call_len (by rfl) T.n_len b_len (pa_cons (pv 6) pa_nil)) pe_int (nomark _))))) (pss_one (ps_expr (pe_bm PySem.F.plainAttrs_list PySem.F.slot_list_append PySem.F.type_list_append mt_append (pv 6) (pa_cons (pe_tup (pa_cons (pe_meth0 (pv 3) T.cl_Board T.me_Board_twin (ok_Board_twin T) (hr.mono (by decide)) T.b_Board_twin .nil passE0) (pa_cons (pe_callTy call_dictD (by rfl) T.n_dict b_dict (pa_cons (pv 4) pa_nil)) pa_nil))) pa_nil)))) pss_nil)))))))
    (pss_cons (ps_set (i := 9) sc_law.nd rfl (Or.inl rfl) (pe_call (ok_law_cell T) (hr.mono (by decide)) rfl T.m_law_cell T.F_law_cell.kp T.b_law_cell .nil passE0 (pa_cons (pv 0) (pa_cons pe_int pa_nil))))
    (pss_cons (ps_if (PW.pt (pw_or (pt_not (pt_val (pe_call (ok_law_others T) (hr.mono (by decide)) rfl T.m_law_others T.F_law_others.kp T.b_law_others .nil passE0 (pa_cons (pv 3) (pa_cons (pv 4) (pa_cons (pv 1) (pa_cons (pv 9) (pa_cons (pv 2) pa_nil)))))))) (pw_or1 (pt_not (pt_val (pe_call (ok_law_twins T) (hr.mono (by decide)) rfl T.m_law_twins T.F_law_twins.kp T.b_law_twins .nil passE0 (pa_cons (pv 6) (pa_cons (pv 1) (pa_cons (pv 2) (pa_cons (pv 9) pa_nil)))))))))) (pss_one (ps_ret pe_bl)) pss_nil)
    (pss_cons (ps_for PassesOwn.never rfl (pi_list (pv 5)) (pg_tup rfl (pgs_cons (pg_name (i := 8) sc_law.nd rfl (Or.inl rfl)) (pgs_cons (pg_name (i := 10) sc_law.nd rfl (Or.inl rfl)) pgs_nil))) (pss_one (ps_if (pt_cmpR (op_neD hr.units) (pv 8) (pv 10) (nomark _)) (pss_one (ps_ret pe_bl)) pss_nil)))
    (pss_one (ps_ret (pe_and (pe_call (ok_law_stands T) (hr.mono (by decide)) rfl T.m_law_stands T.F_law_stands.kp T.b_law_stands .nil passE0 (pa_cons (pv 3) (pa_cons (pv 4) pa_nil))) (pe_one (pe_call (ok_law_values T) (hr.mono (by decide)) rfl T.m_law_values T.F_law_values.kp T.b_law_values .nil passE0 (pa_cons (pv 3) (pa_cons (pv 1) (pa_cons (pv 2) pa_nil))))))))))))))))))), ?_⟩
    walk_at "gzn"
    refine ⟨a, ns, 0, rfl, hS, by decide, ?_⟩
    have he : 1 ≤ 1 + cellD ns 0 % 7 ∧ 1 + cellD ns 0 % 7 ≤ 7 := by omega
    walk_at "gzn"
    refine ⟨by decide, a, ns, 1, rfl, hS, by decide, _, rfl, by decide, line2, fun z0 hz0 => ?_⟩
    generalize 1 + cellD ns 0 % 7 = e at he ⊢
    have ht : 1 ≤ 1 + cellD ns 1 % 12 ∧ 1 + cellD ns 1 % 12 ≤ 12 := by omega
    generalize 1 + cellD ns 1 % 12 = t at ht ⊢
    have s1 := same_upd (o := .tup [V.int e, .int t]) hz0
    have Z1 : upd H z0 (.tup [V.int e, .int t]) z0 = some (.tup [V.int e, .int t]) := upd_same
    generalize upd H z0 (.tup [V.int e, .int t]) = H1 at s1 Z1 ⊢
    walk_at "gzn"
    refine ⟨a, ns, 2, rfl, s1.seq hS, by decide, _, rfl, fun u hu => ⟨a, ns, 3, rfl, s1.seq hS, by decide, _, rfl, fun d hd => ⟨line2, fun z1 hz1 => ?_⟩⟩⟩
    have s2 := same_upd (o := .tup [V.int u, .int d]) hz1
    refine ⟨z0, z1, _, _, rfl, rfl, SqT.of (s2 _ _ Z1), SqT.of upd_same, (fun z => nomatch z), (by show 4 ≤ sizeLine; decide), (fun z => nomatch z), fun _ z hz => ?_⟩
    have s3 := s1.trans (s2.trans (same_upd (o := .tup [V.int e, .int t, .int u, .int d]) hz))
    have Z2 : upd (upd H1 z1 (.tup [V.int u, .int d])) z (.tup [V.int e, .int t, .int u, .int d]) z = some (.tup [V.int e, .int t, .int u, .int d]) := upd_same
    generalize eH2 : upd (upd H1 z1 (.tup [V.int u, .int d])) z (.tup [V.int e, .int t, .int u, .int d]) = H2 at s3 Z2
    rw [show upd (upd H1 z1 (.tup [V.int u, .int d])) z (.tup ([V.int e, .int t] ++ [V.int u, .int d])) = H2 from eH2]
    clear eH2 hz hz1 hz0 s1 s2 Z1
    have S2 := s3.seq hS
    have m1 := Int.emod_nonneg (cellD ns 4) (show e + 1 ≠ 0 by omega)
    have m2 := Int.emod_lt_of_pos (cellD ns 4) (show 0 < e + 1 by omega)
    refine ⟨a, ns, 4, rfl, S2, by decide, ixT (SqT.of Z2) rfl ⟨_, rfl, _, rfl, by omega, ?_⟩⟩
    generalize cellD ns 4 % (e + 1) = m at m1 m2 ⊢
    have hkB : okB e t u d m := by unfold okB; omega
    refine ixT (SqT.of Z2) rfl (ixT (SqT.of Z2) rfl (ixT (SqT.of Z2) rfl (ixT (SqT.of Z2) rfl ?_)))
    intro x dx hx hdx hnd
    refine ⟨x, dx, e, t, u, d, m, rfl, upd_same, fun z => absurd hkB z, fun _ p H3 hp s3' X3 P3 => ⟨rfl, fun r hr0 => ⟨by decide, fun h hh => ⟨by decide, fun w hw => ?_⟩⟩⟩⟩
    have M := made_same (C := T.C_Board) (fs := []) hx hdx hnd
    have S3 : Same H2 H3 := fun b o e => s3' b o (fun z => by rw [z, hx] at e; cases e) (M _ _ e)
    have P0 := M.free hp
    have t1 := same_upd (o := .dT []) hr0
    have t2 := same_upd (o := .lst []) hh
    have t3 := same_upd (o := .lst []) hw
    have R0 : H2 r = none := S3.free hr0
    have H0 : H2 h = none := (S3.trans t1).free hh
    have W0 : H2 w = none := (S3.trans (t1.trans t2)).free hw
    have npr : p ≠ r := fun z => by rw [z, hr0] at P3; cases P3
    have nhw : h ≠ w := fun z => by have := hw; rw [← z, upd_same] at this; cases this
    have I0 : Inv17 T.C_Board e t u d m H2 x p r h w 0 (upd (upd (upd H3 r (.dT [])) h (.lst [])) w (.lst [])) [] [] [] [] := by
      refine ⟨S3.trans (t1.trans (t2.trans t3)), ⟨⟨dx, (t1.trans (t2.trans t3)) _ _ X3⟩, [], (t1.trans (t2.trans t3)) _ _ P3, trivial⟩, ⟨[], (t2.trans t3) _ _ upd_same, trivial⟩, okT.nil, Nat.le_refl _, t3 _ _ upd_same, fun v hv => (by cases hv), Nat.le_refl _, upd_same, trivial, by decide, ?_⟩
      show [p, r].Nodup
      simp [npr]
    generalize upd (upd (upd H3 r (.dT [])) h (.lst [])) w (.lst []) = H4 at I0 ⊢
    clear t1 t2 t3 hw hh hr0 P3 X3 s3' S3 M hp hnd hdx
    walk_at "gzn"
    refine ⟨_, lenL (I0.s.seq S2), ?_⟩
    rw [List.length_map]
    have hb62 : (if (62 : Int) < (ns.length : Int) then (62 : Int) else (ns.length : Int)) - 1 ≤ 61 ∧ (if (62 : Int) < (ns.length : Int) then (62 : Int) else (ns.length : Int)) - 1 < ns.length ∧ -1 ≤ (if (62 : Int) < (ns.length : Int) then (62 : Int) else (ns.length : Int)) - 1 := by split <;> omega
    generalize (if (62 : Int) < (ns.length : Int) then (62 : Int) else (ns.length : Int)) - 1 = nn at hb62 ⊢
    have sl := step6_le nn hb62.1
    refine ⟨by omega, by omega, by omega, by omega, by omega, by omega, by omega, by_step (inv17 T.C_Board e t u d m H2 a z x p r h w) ⟨_, _, _, _, _, _, _, _, rfl, I0⟩ ?_ ?_⟩
    · rintro i σ H5 hi ⟨e1, e2, e3, e4, tb, hs, ts, ks, rfl, I⟩
      have hi6 := step6 hi
      have hi28 : i < 28 := by omega
      obtain ⟨c1, ec1⟩ := at_script (ns := ns) (k := 6 + (i : Int) * 2) (by omega) (by omega)
      obtain ⟨c2, ec2⟩ := at_script (ns := ns) (k := 6 + (i : Int) * 2 + 1) (by omega) (by omega)
      have A5 := I.s.seq S2
      have l5 := I.l
      have l5' := I.hl
      walk_at "gzn"
      refine ixL A5 ec1 (ixL A5 ec2 ⟨x, p, r, z, e, t, u, d, m, c1, c2, tb, rfl, I.b, I.rt, npr, I.s _ _ Z2, he.1, ht.1, I.ok, by omega, fun tb' H6 bt6 hp6 hr6 hok6 hl6 => ⟨_, rfl, ?_⟩⟩)
      rw [if_neg (by decide)]
      have B6 : But [p, r, h, w] H5 H6 := but4 bt6
      have F6 := bt6.fr (dct2 I.b.tb.dct I.rt.dct)
      have b6 := I.b.now F6 hp6
      have s6 := same_but I.s B6 P0 R0 H0 W0
      refine ixL (s6.seq S2) ec2 ⟨x, p, r, z, e, t, u, d, m, c2, tb', rfl, b6, hr6, s6 _ _ Z2, he.1, ht.1, hok6, by omega, fun H7 s7 => ⟨_, rfl, ?_⟩⟩
      rw [if_neg (by decide)]
      have b7 := b6.same s7
      obtain ⟨⟨dx7, hx7⟩, _⟩ := id b7
      have h7 := s7 _ _ (F6.lst I.hd)
      have w7 := s7 _ _ (F6.lst I.wd)
      refine ⟨_, _, hx7, rfl, x, p, e, t, u, d, m, tb', rfl, b7, hok6.1, by omega, fun f xs H8 s8 hf F8 A8 => ?_⟩
      have h8 := s8 _ _ h7
      have w8 := s8 _ _ w7
      refine ⟨.inl ⟨rfl, _, SqL.of h8⟩, f, rfl, xs, .inl (SqL.of F8), fun g hg => ⟨line2, fun b hb => ?_⟩⟩
      have s9 := same_upd (o := .lst xs) hg
      have s10 := same_upd (o := .tup [V.ref f, .ref g]) hb
      have G10 := s10 _ _ (upd_same (H := H8) (a := g) (o := .lst xs))
      have T10 : upd (upd H8 g (.lst xs)) b (.tup [V.ref f, .ref g]) b = some (.tup [V.ref f, .ref g]) := upd_same
      have s910 := s9.trans s10
      generalize upd (upd H8 g (.lst xs)) b (.tup [V.ref f, .ref g]) = H10 at s910 G10 T10 ⊢
      have h10 := s910 _ _ h8
      have w10 := s910 _ _ w8
      refine ⟨hs, h10, Nat.lt_of_lt_of_le (by omega : _ < 1000) (by decide), ?_⟩
      have fh : f ≠ h := fun z => by rw [z, h7] at hf; cases hf
      have fw : f ≠ w := fun z => by rw [z, w7] at hf; cases hf
      have gh : g ≠ h := fun z => by rw [z, h8] at hg; cases hg
      have gw : g ≠ w := fun z => by rw [z, w8] at hg; cases hg
      have bt11 : But [p, r, h, w] H5 (upd H10 h (.lst (hs ++ [.ref b]))) := fun c o hc e => by
        rw [upd_ne (fun z => hc (by simp [z]))]
        exact s910 _ _ (s8 _ _ (s7 _ _ (B6 _ _ hc e)))
      have I11 : Inv17 T.C_Board e t u d m H2 x p r h w (i + 1) (upd H10 h (.lst (hs ++ [.ref b]))) tb' (hs ++ [.ref b]) ts ks := by
        refine ⟨same_but I.s bt11 P0 R0 H0 W0, brd_lst (b7.same (s8.trans s910)) h10, tab_lst (hr6.same (s7.trans (s8.trans s910))) h10, hok6, by omega, upd_same, fun v hv => ?_, by rw [List.length_append, List.length_singleton]; omega, by rw [upd_ne (Ne.symm nhw)]; exact w10, I.tws bt11, I.wl, I.nd⟩
        rcases List.mem_append.mp hv with hv | hv
        · exact own_held I.own bt11 (I.hh v hv)
        · rw [List.mem_singleton.mp hv]
          refine ⟨b, f, g, xs, srtT tb', rfl, ?_, ⟨fh, fw⟩, ⟨gh, gw⟩, by rw [upd_ne fh]; exact s910 _ _ F8, by rw [upd_ne gh]; exact G10, A8.imp fun x r z => tr_lst (IsTr.same z s910) h10⟩
          rw [upd_ne (fun z => by rw [z, h10] at T10; cases T10)]; exact T10
      generalize upd H10 h (.lst (hs ++ [.ref b])) = H11 at I11 ⊢
      refine ixL (I11.s.seq S2) ec1 ⟨_, rfl, by decide, ite_by (fun h5 => ?_) fun h5 => ⟨_, _, _, _, _, _, _, _, rfl, I11⟩⟩
      refine ⟨_, lenL (SqL.of I11.wd), ite_by (fun h3 => ?_) fun h3 => ⟨_, _, _, _, _, _, _, _, rfl, I11⟩⟩
      have tl := I11.ww.len
      have k3 : ks.length < 3 := by omega
      have l11 := I11.l
      obtain ⟨⟨dx11, hx11⟩, _⟩ := id I11.b
      refine ⟨.inl ⟨rfl, _, SqL.of I11.wd⟩, _, _, hx11, rfl, x, p, e, t, u, d, m, tb', rfl, I11.b, I11.ok, hkB, fun x2 p2 H12 s12 hx2 hp2 B12 => ?_⟩
      obtain ⟨kq, hq, hTq⟩ := I11.rt.same s12
      refine ⟨kq, hq, hash_nd hTq I11.ok he.2 ht.2, fun r2 hr2 => ⟨line2, fun b2 hb2 => ?_⟩⟩
      have s13 := same_upd (o := .dT kq) hr2
      have s14 := same_upd (o := .tup [V.ref x2, .ref r2]) hb2
      have T14 : upd (upd H12 r2 (.dT kq)) b2 (.tup [V.ref x2, .ref r2]) b2 = some (.tup [V.ref x2, .ref r2]) := upd_same
      have R14 : TabAt (upd (upd H12 r2 (.dT kq)) b2 (.tup [V.ref x2, .ref r2])) r2 tb' := ⟨kq, s14 _ _ upd_same, hTq.imp fun v a b z => IsS.same z (s13.trans s14)⟩
      have s134 := s13.trans s14
      generalize upd (upd H12 r2 (.dT kq)) b2 (.tup [V.ref x2, .ref r2]) = H14 at s134 T14 R14 ⊢
      have S14 := s12.trans s134
      have w14 := S14 _ _ I11.wd
      refine ⟨ts, w14, Nat.lt_of_lt_of_le (by omega : _ < 1000) (by decide), _, _, _, _, tb', hs ++ [.ref b], ts ++ [.ref b2], ks ++ [⟨x2, p2, r2, tb'⟩], rfl, ?_⟩
      have bt15 : But [p, r, h, w] H11 (upd H14 w (.lst (ts ++ [.ref b2]))) := fun c o hc e => by
        rw [upd_ne (fun z => hc (by simp [z]))]
        exact S14 _ _ e
      have dc : ∀ b ∈ p :: r :: dcs ks, ∃ k, H11 b = some (.dT k) := fun b hb => by
        rcases List.mem_cons.mp hb with rfl | hb
        · exact I11.own.p
        rcases List.mem_cons.mp hb with rfl | hb
        · exact I11.own.r
        obtain ⟨k, hk, hb2⟩ := List.mem_flatMap.mp hb
        obtain ⟨i, hi, ei⟩ := List.mem_iff_getElem.mp hk
        obtain ⟨v, _, b0, _, _, h1, h2, _⟩ := I11.ww.at (List.getElem?_eq_getElem hi)
        rw [ei] at h1 h2
        simp only [List.mem_cons, List.not_mem_nil, or_false] at hb2
        rcases hb2 with rfl | rfl
        · exact h1.tb.dct
        · exact h2.dct
      refine ⟨same_but I11.s bt15 P0 R0 H0 W0, brd_lst (I11.b.same S14) w14, tab_lst (I11.rt.same S14) w14, I11.ok, I11.l, by rw [upd_ne nhw]; exact S14 _ _ I11.hd, fun v hv => own_held I11.own bt15 (I11.hh v hv), I11.hl, upd_same, All2.snoc (I11.tws bt15) ⟨b2, rfl, ?_, brd_lst (B12.same s134) w14, tab_lst R14 w14, I11.ok, by show tb'.length < 60; omega⟩, by rw [List.length_append, List.length_singleton]; omega, ?_⟩
      · rw [upd_ne (fun z => by rw [z, w14] at T14; cases T14)]; exact T14
      · rw [dcs_app, show p :: r :: (dcs ks ++ dcs [⟨x2, p2, r2, tb'⟩]) = ((p :: r :: dcs ks) ++ [p2]) ++ [r2] by simp [dcs]]
        refine nd_snoc (nd_snoc I11.nd fun z => ?_) fun z => ?_
        · obtain ⟨k, hk⟩ := dc _ z
          rw [hp2] at hk; cases hk
        · rcases List.mem_append.mp z with z | z
          · obtain ⟨k, hk⟩ := dc _ z
            rw [s12 _ _ hk] at hr2; cases hr2
          · obtain ⟨k, hk⟩ := B12.tb.dct
            rw [List.mem_singleton.mp z, hk] at hr2; cases hr2
    · rintro σ H5 ⟨e1, e2, e3, e4, tb, hs, ts, ks, rfl, I⟩
      have l5 := I.l
      have l5' := I.wl
      walk_at "gzn"
      refine ⟨a, ns, 5, rfl, I.s.seq S2, by decide, x, p, r, z, e, t, u, d, m, _, tb, rfl, I.b, I.rt, npr, I.s _ _ Z2, hkB, I.ok, by omega, fun tb2 H6 bt6 hp6 hr6 hok6 hl6 => ⟨_, rfl, ?_⟩⟩
      rw [if_neg (by decide)]
      have B6 : But [p, r, h, w] H5 H6 := but4 bt6
      have F6 := bt6.fr (dct2 I.b.tb.dct I.rt.dct)
      have b6 := I.b.now F6 hp6
      have s6 := same_but I.s B6 P0 R0 H0 W0
      have W6 := I.tws B6
      have nd := I.nd
      rw [List.nodup_cons, List.nodup_cons] at nd
      refine ⟨w, z, e, t, u, d, m, _, ts, ks, rfl, SqL.of (F6.lst I.wd), W6, nd.2.2, s6 _ _ Z2, he.1, ht.1, by omega, fun H7 bt7 => ⟨_, rfl, ?_⟩⟩
      rw [if_neg (by decide)]
      have D6 : Dcts H6 (dcs ks) := fun b hb => by
        obtain ⟨k, hk, hb2⟩ := List.mem_flatMap.mp hb
        obtain ⟨i, hi, ei⟩ := List.mem_iff_getElem.mp hk
        obtain ⟨v, _, b0, _, _, h1, h2, _⟩ := W6.at (List.getElem?_eq_getElem hi)
        rw [ei] at h1 h2
        simp only [List.mem_cons, List.not_mem_nil, or_false] at hb2
        rcases hb2 with rfl | rfl
        · exact h1.tb.dct
        · exact h2.dct
      have F7 := bt7.fr D6
      have h7 := F7.lst (F6.lst I.hd)
      have hh7 : ∀ v ∈ hs, HeldAt h w H7 v := fun v hv => ((I.hh v hv).fr F6).fr F7
      have b7 := b6.but bt7 D6 fun z => nd.1 (.tail _ z)
      have r7 := hr6.but bt7 D6 nd.2.1
      have z7 : SzAt H7 z e t u d := F7.tup (s6 _ _ Z2)
      refine ⟨⟨_, SqL.of h7⟩, by_list (xs := hs) (inv_h H7 a z x r h w m) ⟨_, _, _, _, rfl, rfl⟩ ?_ ?_ ?_⟩
      · rintro i σ H8 _ ⟨_, _, _, _, _, rfl⟩
        exact SqL.of h7
      · rintro i y σ H8 hy ⟨e1, e2, e3, e4, rfl, rfl⟩
        obtain ⟨b, f, g, xs, rows, rfl, g1, g2, g3, g4, g5, g6⟩ := hh7 y (List.mem_of_getElem? hy)
        refine ⟨b, _, rfl, SqT.of g1, rfl, ?_⟩
        walk_at "gzn"
        refine eq_trs (SqL.of g4) (SqL.of g5) g6 g6 ⟨_, rfl, ?_⟩
        walk_at "gzn"
        exact ⟨_, _, _, _, rfl, rfl⟩
      · rintro σ H8 ⟨e1, e2, e3, e4, rfl, rfl⟩
        walk_at "gzn"
        refine ⟨x, p, r, e, t, u, d, m, tb2, rfl, b7, r7, hok6.1, by omega, fun H9 s9 => ⟨_, rfl, ?_⟩⟩
        rw [if_pos rfl]
        exact ⟨x, p, z, e, t, u, d, m, tb2, rfl, b7.same s9, s9 _ _ z7, fun H10 _ => q _⟩
end
theorem fin_mk {l : PySem.W.OpenLaw} {w : World} {K : PySem.W.Frag} {h : Heap} {mg : Str → Option Value} {fa : Addr} (X : K.In h) (G : h.Ns mainGlobals mg) (hfa : mg "law" = some (.ref fa))
    {f_is_crossed : Addr} {od_is_crossed an_is_crossed : Option Addr} {sl_is_crossed : Array (Option Value)} {oc_is_crossed kV_is_crossed dc_is_crossed pm_is_crossed cd_is_crossed ct_is_crossed : Value}
    {f_Board_init__ : Addr} {od_Board_init__ an_Board_init__ : Option Addr} {sl_Board_init__ : Array (Option Value)} {oc_Board_init__ kV_Board_init__ dc_Board_init__ pm_Board_init__ cd_Board_init__ ct_Board_init__ : Value}
    {f_Board_has_eye : Addr} {od_Board_has_eye an_Board_has_eye : Option Addr} {sl_Board_has_eye : Array (Option Value)} {oc_Board_has_eye kV_Board_has_eye dc_Board_has_eye pm_Board_has_eye cd_Board_has_eye ct_Board_has_eye : Value}
    {f_Board_has_turn : Addr} {od_Board_has_turn an_Board_has_turn : Option Addr} {sl_Board_has_turn : Array (Option Value)} {oc_Board_has_turn kV_Board_has_turn dc_Board_has_turn pm_Board_has_turn cd_Board_has_turn ct_Board_has_turn : Value}
    {f_Board_tell : Addr} {od_Board_tell an_Board_tell : Option Addr} {sl_Board_tell : Array (Option Value)} {oc_Board_tell kV_Board_tell dc_Board_tell pm_Board_tell cd_Board_tell ct_Board_tell : Value}
    {f_Board_hush : Addr} {od_Board_hush an_Board_hush : Option Addr} {sl_Board_hush : Array (Option Value)} {oc_Board_hush kV_Board_hush dc_Board_hush pm_Board_hush cd_Board_hush ct_Board_hush : Value}
    {f_Board_word : Addr} {od_Board_word an_Board_word : Option Addr} {sl_Board_word : Array (Option Value)} {oc_Board_word kV_Board_word dc_Board_word pm_Board_word cd_Board_word ct_Board_word : Value}
    {f_Board_tellings : Addr} {od_Board_tellings an_Board_tellings : Option Addr} {sl_Board_tellings : Array (Option Value)} {oc_Board_tellings kV_Board_tellings dc_Board_tellings pm_Board_tellings cd_Board_tellings ct_Board_tellings : Value}
    {f_Board_twin : Addr} {od_Board_twin an_Board_twin : Option Addr} {sl_Board_twin : Array (Option Value)} {oc_Board_twin kV_Board_twin dc_Board_twin pm_Board_twin cd_Board_twin ct_Board_twin : Value}
    {f_Board_keeping : Addr} {od_Board_keeping an_Board_keeping : Option Addr} {sl_Board_keeping : Array (Option Value)} {oc_Board_keeping kV_Board_keeping dc_Board_keeping pm_Board_keeping cd_Board_keeping ct_Board_keeping : Value}
    {f_Board_allowing : Addr} {od_Board_allowing an_Board_allowing : Option Addr} {sl_Board_allowing : Array (Option Value)} {oc_Board_allowing kV_Board_allowing dc_Board_allowing pm_Board_allowing cd_Board_allowing ct_Board_allowing : Value}
    {f_Board_check_spot : Addr} {od_Board_check_spot an_Board_check_spot : Option Addr} {sl_Board_check_spot : Array (Option Value)} {oc_Board_check_spot kV_Board_check_spot dc_Board_check_spot pm_Board_check_spot cd_Board_check_spot ct_Board_check_spot : Value}
    {f_Board_check_word : Addr} {od_Board_check_word an_Board_check_word : Option Addr} {sl_Board_check_word : Array (Option Value)} {oc_Board_check_word kV_Board_check_word dc_Board_check_word pm_Board_check_word cd_Board_check_word ct_Board_check_word : Value}
    {f_law_cell : Addr} {od_law_cell an_law_cell : Option Addr} {sl_law_cell : Array (Option Value)} {oc_law_cell kV_law_cell dc_law_cell pm_law_cell cd_law_cell ct_law_cell : Value}
    {f_law_whole : Addr} {od_law_whole an_law_whole : Option Addr} {sl_law_whole : Array (Option Value)} {oc_law_whole kV_law_whole dc_law_whole pm_law_whole cd_law_whole ct_law_whole : Value}
    {f_law_end : Addr} {od_law_end an_law_end : Option Addr} {sl_law_end : Array (Option Value)} {oc_law_end kV_law_end dc_law_end pm_law_end cd_law_end ct_law_end : Value}
    {f_law_word : Addr} {od_law_word an_law_word : Option Addr} {sl_law_word : Array (Option Value)} {oc_law_word kV_law_word dc_law_word pm_law_word cd_law_word ct_law_word : Value}
    {f_law_pace : Addr} {od_law_pace an_law_pace : Option Addr} {sl_law_pace : Array (Option Value)} {oc_law_pace kV_law_pace dc_law_pace pm_law_pace cd_law_pace ct_law_pace : Value}
    {f_law_telling : Addr} {od_law_telling an_law_telling : Option Addr} {sl_law_telling : Array (Option Value)} {oc_law_telling kV_law_telling dc_law_telling pm_law_telling cd_law_telling ct_law_telling : Value}
    {f_law_hushing : Addr} {od_law_hushing an_law_hushing : Option Addr} {sl_law_hushing : Array (Option Value)} {oc_law_hushing kV_law_hushing dc_law_hushing pm_law_hushing cd_law_hushing ct_law_hushing : Value}
    {f_law_asking : Addr} {od_law_asking an_law_asking : Option Addr} {sl_law_asking : Array (Option Value)} {oc_law_asking kV_law_asking dc_law_asking pm_law_asking cd_law_asking ct_law_asking : Value}
    {f_law_keeping : Addr} {od_law_keeping an_law_keeping : Option Addr} {sl_law_keeping : Array (Option Value)} {oc_law_keeping kV_law_keeping dc_law_keeping pm_law_keeping cd_law_keeping ct_law_keeping : Value}
    {f_law_allowing : Addr} {od_law_allowing an_law_allowing : Option Addr} {sl_law_allowing : Array (Option Value)} {oc_law_allowing kV_law_allowing dc_law_allowing pm_law_allowing cd_law_allowing ct_law_allowing : Value}
    {f_law_alike : Addr} {od_law_alike an_law_alike : Option Addr} {sl_law_alike : Array (Option Value)} {oc_law_alike kV_law_alike dc_law_alike pm_law_alike cd_law_alike ct_law_alike : Value}
    {f_law_stands : Addr} {od_law_stands an_law_stands : Option Addr} {sl_law_stands : Array (Option Value)} {oc_law_stands kV_law_stands dc_law_stands pm_law_stands cd_law_stands ct_law_stands : Value}
    {f_law_spot : Addr} {od_law_spot an_law_spot : Option Addr} {sl_law_spot : Array (Option Value)} {oc_law_spot kV_law_spot dc_law_spot pm_law_spot cd_law_spot ct_law_spot : Value}
    {f_law_there : Addr} {od_law_there an_law_there : Option Addr} {sl_law_there : Array (Option Value)} {oc_law_there kV_law_there dc_law_there pm_law_there cd_law_there ct_law_there : Value}
    {f_law_deed : Addr} {od_law_deed an_law_deed : Option Addr} {sl_law_deed : Array (Option Value)} {oc_law_deed kV_law_deed dc_law_deed pm_law_deed cd_law_deed ct_law_deed : Value}
    {f_law_looked : Addr} {od_law_looked an_law_looked : Option Addr} {sl_law_looked : Array (Option Value)} {oc_law_looked kV_law_looked dc_law_looked pm_law_looked cd_law_looked ct_law_looked : Value}
    {f_law_values : Addr} {od_law_values an_law_values : Option Addr} {sl_law_values : Array (Option Value)} {oc_law_values kV_law_values dc_law_values pm_law_values cd_law_values ct_law_values : Value}
    {f_law_apart : Addr} {od_law_apart an_law_apart : Option Addr} {sl_law_apart : Array (Option Value)} {oc_law_apart kV_law_apart dc_law_apart pm_law_apart cd_law_apart ct_law_apart : Value}
    {f_law_others : Addr} {od_law_others an_law_others : Option Addr} {sl_law_others : Array (Option Value)} {oc_law_others kV_law_others dc_law_others pm_law_others cd_law_others ct_law_others : Value}
    {f_law_twins : Addr} {od_law_twins an_law_twins : Option Addr} {sl_law_twins : Array (Option Value)} {oc_law_twins kV_law_twins dc_law_twins pm_law_twins cd_law_twins ct_law_twins : Value}
    {f_law : Addr} {od_law an_law : Option Addr} {sl_law : Array (Option Value)} {oc_law kV_law dc_law pm_law cd_law ct_law : Value}
    {C_GazeError : Addr}
    {C_NoBoard : Addr}
    {C_NoTelling : Addr}
    {C_Board : Addr}
    {cd_GazeError : ClassData}
    {tk_EYES_AT_MOST : Tok}
    {tk_TURNS_AT_MOST : Tok}
    (a_is_crossed : PySem.W.nsIn K mainGlobals "is_crossed" = some (some (.ref f_is_crossed))) (l_is_crossed : K.lookup f_is_crossed = some ⟨oc_is_crossed, od_is_crossed, .func (PySem.W.fnOf "is_crossed" "is_crossed" (defArgs s_is_crossed) (defBody s_is_crossed) (defScope s_is_crossed) .none kV_is_crossed dc_is_crossed pm_is_crossed an_is_crossed cd_is_crossed ct_is_crossed), sl_is_crossed⟩) (c_is_crossed : PySem.W.codeIn K cd_is_crossed "is_crossed" = true) (k_is_crossed : PySem.W.keepIn K (.ref f_is_crossed) = true)
    (a_Board_init__ : PySem.W.findIn K (.ref C_Board) "__init__" = some (some (.ref f_Board_init__))) (l_Board_init__ : K.lookup f_Board_init__ = some ⟨oc_Board_init__, od_Board_init__, .func (PySem.W.fnOf "__init__" "Board.__init__" (defArgs s_Board_init__) (defBody s_Board_init__) (defScope s_Board_init__) .none kV_Board_init__ dc_Board_init__ pm_Board_init__ an_Board_init__ cd_Board_init__ ct_Board_init__), sl_Board_init__⟩) (c_Board_init__ : PySem.W.codeIn K cd_Board_init__ "Board.__init__" = true) (k_Board_init__ : PySem.W.keepIn K (.ref f_Board_init__) = true)
    (a_Board_has_eye : PySem.W.findIn K (.ref C_Board) "has_eye" = some (some (.ref f_Board_has_eye))) (l_Board_has_eye : K.lookup f_Board_has_eye = some ⟨oc_Board_has_eye, od_Board_has_eye, .func (PySem.W.fnOf "has_eye" "Board.has_eye" (defArgs s_Board_has_eye) (defBody s_Board_has_eye) (defScope s_Board_has_eye) .none kV_Board_has_eye dc_Board_has_eye pm_Board_has_eye an_Board_has_eye cd_Board_has_eye ct_Board_has_eye), sl_Board_has_eye⟩) (c_Board_has_eye : PySem.W.codeIn K cd_Board_has_eye "Board.has_eye" = true) (k_Board_has_eye : PySem.W.keepIn K (.ref f_Board_has_eye) = true)
    (a_Board_has_turn : PySem.W.findIn K (.ref C_Board) "has_turn" = some (some (.ref f_Board_has_turn))) (l_Board_has_turn : K.lookup f_Board_has_turn = some ⟨oc_Board_has_turn, od_Board_has_turn, .func (PySem.W.fnOf "has_turn" "Board.has_turn" (defArgs s_Board_has_turn) (defBody s_Board_has_turn) (defScope s_Board_has_turn) .none kV_Board_has_turn dc_Board_has_turn pm_Board_has_turn an_Board_has_turn cd_Board_has_turn ct_Board_has_turn), sl_Board_has_turn⟩) (c_Board_has_turn : PySem.W.codeIn K cd_Board_has_turn "Board.has_turn" = true) (k_Board_has_turn : PySem.W.keepIn K (.ref f_Board_has_turn) = true)
    (a_Board_tell : PySem.W.findIn K (.ref C_Board) "tell" = some (some (.ref f_Board_tell))) (l_Board_tell : K.lookup f_Board_tell = some ⟨oc_Board_tell, od_Board_tell, .func (PySem.W.fnOf "tell" "Board.tell" (defArgs s_Board_tell) (defBody s_Board_tell) (defScope s_Board_tell) .none kV_Board_tell dc_Board_tell pm_Board_tell an_Board_tell cd_Board_tell ct_Board_tell), sl_Board_tell⟩) (c_Board_tell : PySem.W.codeIn K cd_Board_tell "Board.tell" = true) (k_Board_tell : PySem.W.keepIn K (.ref f_Board_tell) = true)
    (a_Board_hush : PySem.W.findIn K (.ref C_Board) "hush" = some (some (.ref f_Board_hush))) (l_Board_hush : K.lookup f_Board_hush = some ⟨oc_Board_hush, od_Board_hush, .func (PySem.W.fnOf "hush" "Board.hush" (defArgs s_Board_hush) (defBody s_Board_hush) (defScope s_Board_hush) .none kV_Board_hush dc_Board_hush pm_Board_hush an_Board_hush cd_Board_hush ct_Board_hush), sl_Board_hush⟩) (c_Board_hush : PySem.W.codeIn K cd_Board_hush "Board.hush" = true) (k_Board_hush : PySem.W.keepIn K (.ref f_Board_hush) = true)
    (a_Board_word : PySem.W.findIn K (.ref C_Board) "word" = some (some (.ref f_Board_word))) (l_Board_word : K.lookup f_Board_word = some ⟨oc_Board_word, od_Board_word, .func (PySem.W.fnOf "word" "Board.word" (defArgs s_Board_word) (defBody s_Board_word) (defScope s_Board_word) .none kV_Board_word dc_Board_word pm_Board_word an_Board_word cd_Board_word ct_Board_word), sl_Board_word⟩) (c_Board_word : PySem.W.codeIn K cd_Board_word "Board.word" = true) (k_Board_word : PySem.W.keepIn K (.ref f_Board_word) = true)
    (a_Board_tellings : PySem.W.findIn K (.ref C_Board) "tellings" = some (some (.ref f_Board_tellings))) (l_Board_tellings : K.lookup f_Board_tellings = some ⟨oc_Board_tellings, od_Board_tellings, .func (PySem.W.fnOf "tellings" "Board.tellings" (defArgs s_Board_tellings) (defBody s_Board_tellings) (defScope s_Board_tellings) .none kV_Board_tellings dc_Board_tellings pm_Board_tellings an_Board_tellings cd_Board_tellings ct_Board_tellings), sl_Board_tellings⟩) (c_Board_tellings : PySem.W.codeIn K cd_Board_tellings "Board.tellings" = true) (k_Board_tellings : PySem.W.keepIn K (.ref f_Board_tellings) = true)
    (a_Board_twin : PySem.W.findIn K (.ref C_Board) "twin" = some (some (.ref f_Board_twin))) (l_Board_twin : K.lookup f_Board_twin = some ⟨oc_Board_twin, od_Board_twin, .func (PySem.W.fnOf "twin" "Board.twin" (defArgs s_Board_twin) (defBody s_Board_twin) (defScope s_Board_twin) .none kV_Board_twin dc_Board_twin pm_Board_twin an_Board_twin cd_Board_twin ct_Board_twin), sl_Board_twin⟩) (c_Board_twin : PySem.W.codeIn K cd_Board_twin "Board.twin" = true) (k_Board_twin : PySem.W.keepIn K (.ref f_Board_twin) = true)
    (a_Board_keeping : PySem.W.findIn K (.ref C_Board) "keeping" = some (some (.ref f_Board_keeping))) (l_Board_keeping : K.lookup f_Board_keeping = some ⟨oc_Board_keeping, od_Board_keeping, .func (PySem.W.fnOf "keeping" "Board.keeping" (defArgs s_Board_keeping) (defBody s_Board_keeping) (defScope s_Board_keeping) .none kV_Board_keeping dc_Board_keeping pm_Board_keeping an_Board_keeping cd_Board_keeping ct_Board_keeping), sl_Board_keeping⟩) (c_Board_keeping : PySem.W.codeIn K cd_Board_keeping "Board.keeping" = true) (k_Board_keeping : PySem.W.keepIn K (.ref f_Board_keeping) = true)
    (a_Board_allowing : PySem.W.findIn K (.ref C_Board) "allowing" = some (some (.ref f_Board_allowing))) (l_Board_allowing : K.lookup f_Board_allowing = some ⟨oc_Board_allowing, od_Board_allowing, .func (PySem.W.fnOf "allowing" "Board.allowing" (defArgs s_Board_allowing) (defBody s_Board_allowing) (defScope s_Board_allowing) .none kV_Board_allowing dc_Board_allowing pm_Board_allowing an_Board_allowing cd_Board_allowing ct_Board_allowing), sl_Board_allowing⟩) (c_Board_allowing : PySem.W.codeIn K cd_Board_allowing "Board.allowing" = true) (k_Board_allowing : PySem.W.keepIn K (.ref f_Board_allowing) = true)
    (a_Board_check_spot : PySem.W.findIn K (.ref C_Board) "check_spot" = some (some (.ref f_Board_check_spot))) (l_Board_check_spot : K.lookup f_Board_check_spot = some ⟨oc_Board_check_spot, od_Board_check_spot, .func (PySem.W.fnOf "check_spot" "Board.check_spot" (defArgs s_Board_check_spot) (defBody s_Board_check_spot) (defScope s_Board_check_spot) .none kV_Board_check_spot dc_Board_check_spot pm_Board_check_spot an_Board_check_spot cd_Board_check_spot ct_Board_check_spot), sl_Board_check_spot⟩) (c_Board_check_spot : PySem.W.codeIn K cd_Board_check_spot "Board.check_spot" = true) (k_Board_check_spot : PySem.W.keepIn K (.ref f_Board_check_spot) = true)
    (a_Board_check_word : PySem.W.findIn K (.ref C_Board) "check_word" = some (some (.ref f_Board_check_word))) (l_Board_check_word : K.lookup f_Board_check_word = some ⟨oc_Board_check_word, od_Board_check_word, .func (PySem.W.fnOf "check_word" "Board.check_word" (defArgs s_Board_check_word) (defBody s_Board_check_word) (defScope s_Board_check_word) .none kV_Board_check_word dc_Board_check_word pm_Board_check_word an_Board_check_word cd_Board_check_word ct_Board_check_word), sl_Board_check_word⟩) (c_Board_check_word : PySem.W.codeIn K cd_Board_check_word "Board.check_word" = true) (k_Board_check_word : PySem.W.keepIn K (.ref f_Board_check_word) = true)
    (a_law_cell : PySem.W.nsIn K mainGlobals "_law_cell" = some (some (.ref f_law_cell))) (l_law_cell : K.lookup f_law_cell = some ⟨oc_law_cell, od_law_cell, .func (PySem.W.fnOf "_law_cell" "_law_cell" (defArgs s_law_cell) (defBody s_law_cell) (defScope s_law_cell) .none kV_law_cell dc_law_cell pm_law_cell an_law_cell cd_law_cell ct_law_cell), sl_law_cell⟩) (c_law_cell : PySem.W.codeIn K cd_law_cell "_law_cell" = true) (k_law_cell : PySem.W.keepIn K (.ref f_law_cell) = true)
    (a_law_whole : PySem.W.nsIn K mainGlobals "_law_whole" = some (some (.ref f_law_whole))) (l_law_whole : K.lookup f_law_whole = some ⟨oc_law_whole, od_law_whole, .func (PySem.W.fnOf "_law_whole" "_law_whole" (defArgs s_law_whole) (defBody s_law_whole) (defScope s_law_whole) .none kV_law_whole dc_law_whole pm_law_whole an_law_whole cd_law_whole ct_law_whole), sl_law_whole⟩) (c_law_whole : PySem.W.codeIn K cd_law_whole "_law_whole" = true) (k_law_whole : PySem.W.keepIn K (.ref f_law_whole) = true)
    (a_law_end : PySem.W.nsIn K mainGlobals "_law_end" = some (some (.ref f_law_end))) (l_law_end : K.lookup f_law_end = some ⟨oc_law_end, od_law_end, .func (PySem.W.fnOf "_law_end" "_law_end" (defArgs s_law_end) (defBody s_law_end) (defScope s_law_end) .none kV_law_end dc_law_end pm_law_end an_law_end cd_law_end ct_law_end), sl_law_end⟩) (c_law_end : PySem.W.codeIn K cd_law_end "_law_end" = true) (k_law_end : PySem.W.keepIn K (.ref f_law_end) = true)
    (a_law_word : PySem.W.nsIn K mainGlobals "_law_word" = some (some (.ref f_law_word))) (l_law_word : K.lookup f_law_word = some ⟨oc_law_word, od_law_word, .func (PySem.W.fnOf "_law_word" "_law_word" (defArgs s_law_word) (defBody s_law_word) (defScope s_law_word) .none kV_law_word dc_law_word pm_law_word an_law_word cd_law_word ct_law_word), sl_law_word⟩) (c_law_word : PySem.W.codeIn K cd_law_word "_law_word" = true) (k_law_word : PySem.W.keepIn K (.ref f_law_word) = true)
    (a_law_pace : PySem.W.nsIn K mainGlobals "_law_pace" = some (some (.ref f_law_pace))) (l_law_pace : K.lookup f_law_pace = some ⟨oc_law_pace, od_law_pace, .func (PySem.W.fnOf "_law_pace" "_law_pace" (defArgs s_law_pace) (defBody s_law_pace) (defScope s_law_pace) .none kV_law_pace dc_law_pace pm_law_pace an_law_pace cd_law_pace ct_law_pace), sl_law_pace⟩) (c_law_pace : PySem.W.codeIn K cd_law_pace "_law_pace" = true) (k_law_pace : PySem.W.keepIn K (.ref f_law_pace) = true)
    (a_law_telling : PySem.W.nsIn K mainGlobals "_law_telling" = some (some (.ref f_law_telling))) (l_law_telling : K.lookup f_law_telling = some ⟨oc_law_telling, od_law_telling, .func (PySem.W.fnOf "_law_telling" "_law_telling" (defArgs s_law_telling) (defBody s_law_telling) (defScope s_law_telling) .none kV_law_telling dc_law_telling pm_law_telling an_law_telling cd_law_telling ct_law_telling), sl_law_telling⟩) (c_law_telling : PySem.W.codeIn K cd_law_telling "_law_telling" = true) (k_law_telling : PySem.W.keepIn K (.ref f_law_telling) = true)
    (a_law_hushing : PySem.W.nsIn K mainGlobals "_law_hushing" = some (some (.ref f_law_hushing))) (l_law_hushing : K.lookup f_law_hushing = some ⟨oc_law_hushing, od_law_hushing, .func (PySem.W.fnOf "_law_hushing" "_law_hushing" (defArgs s_law_hushing) (defBody s_law_hushing) (defScope s_law_hushing) .none kV_law_hushing dc_law_hushing pm_law_hushing an_law_hushing cd_law_hushing ct_law_hushing), sl_law_hushing⟩) (c_law_hushing : PySem.W.codeIn K cd_law_hushing "_law_hushing" = true) (k_law_hushing : PySem.W.keepIn K (.ref f_law_hushing) = true)
    (a_law_asking : PySem.W.nsIn K mainGlobals "_law_asking" = some (some (.ref f_law_asking))) (l_law_asking : K.lookup f_law_asking = some ⟨oc_law_asking, od_law_asking, .func (PySem.W.fnOf "_law_asking" "_law_asking" (defArgs s_law_asking) (defBody s_law_asking) (defScope s_law_asking) .none kV_law_asking dc_law_asking pm_law_asking an_law_asking cd_law_asking ct_law_asking), sl_law_asking⟩) (c_law_asking : PySem.W.codeIn K cd_law_asking "_law_asking" = true) (k_law_asking : PySem.W.keepIn K (.ref f_law_asking) = true)
    (a_law_keeping : PySem.W.nsIn K mainGlobals "_law_keeping" = some (some (.ref f_law_keeping))) (l_law_keeping : K.lookup f_law_keeping = some ⟨oc_law_keeping, od_law_keeping, .func (PySem.W.fnOf "_law_keeping" "_law_keeping" (defArgs s_law_keeping) (defBody s_law_keeping) (defScope s_law_keeping) .none kV_law_keeping dc_law_keeping pm_law_keeping an_law_keeping cd_law_keeping ct_law_keeping), sl_law_keeping⟩) (c_law_keeping : PySem.W.codeIn K cd_law_keeping "_law_keeping" = true) (k_law_keeping : PySem.W.keepIn K (.ref f_law_keeping) = true)
    (a_law_allowing : PySem.W.nsIn K mainGlobals "_law_allowing" = some (some (.ref f_law_allowing))) (l_law_allowing : K.lookup f_law_allowing = some ⟨oc_law_allowing, od_law_allowing, .func (PySem.W.fnOf "_law_allowing" "_law_allowing" (defArgs s_law_allowing) (defBody s_law_allowing) (defScope s_law_allowing) .none kV_law_allowing dc_law_allowing pm_law_allowing an_law_allowing cd_law_allowing ct_law_allowing), sl_law_allowing⟩) (c_law_allowing : PySem.W.codeIn K cd_law_allowing "_law_allowing" = true) (k_law_allowing : PySem.W.keepIn K (.ref f_law_allowing) = true)
    (a_law_alike : PySem.W.nsIn K mainGlobals "_law_alike" = some (some (.ref f_law_alike))) (l_law_alike : K.lookup f_law_alike = some ⟨oc_law_alike, od_law_alike, .func (PySem.W.fnOf "_law_alike" "_law_alike" (defArgs s_law_alike) (defBody s_law_alike) (defScope s_law_alike) .none kV_law_alike dc_law_alike pm_law_alike an_law_alike cd_law_alike ct_law_alike), sl_law_alike⟩) (c_law_alike : PySem.W.codeIn K cd_law_alike "_law_alike" = true) (k_law_alike : PySem.W.keepIn K (.ref f_law_alike) = true)
    (a_law_stands : PySem.W.nsIn K mainGlobals "_law_stands" = some (some (.ref f_law_stands))) (l_law_stands : K.lookup f_law_stands = some ⟨oc_law_stands, od_law_stands, .func (PySem.W.fnOf "_law_stands" "_law_stands" (defArgs s_law_stands) (defBody s_law_stands) (defScope s_law_stands) .none kV_law_stands dc_law_stands pm_law_stands an_law_stands cd_law_stands ct_law_stands), sl_law_stands⟩) (c_law_stands : PySem.W.codeIn K cd_law_stands "_law_stands" = true) (k_law_stands : PySem.W.keepIn K (.ref f_law_stands) = true)
    (a_law_spot : PySem.W.nsIn K mainGlobals "_law_spot" = some (some (.ref f_law_spot))) (l_law_spot : K.lookup f_law_spot = some ⟨oc_law_spot, od_law_spot, .func (PySem.W.fnOf "_law_spot" "_law_spot" (defArgs s_law_spot) (defBody s_law_spot) (defScope s_law_spot) .none kV_law_spot dc_law_spot pm_law_spot an_law_spot cd_law_spot ct_law_spot), sl_law_spot⟩) (c_law_spot : PySem.W.codeIn K cd_law_spot "_law_spot" = true) (k_law_spot : PySem.W.keepIn K (.ref f_law_spot) = true)
    (a_law_there : PySem.W.nsIn K mainGlobals "_law_there" = some (some (.ref f_law_there))) (l_law_there : K.lookup f_law_there = some ⟨oc_law_there, od_law_there, .func (PySem.W.fnOf "_law_there" "_law_there" (defArgs s_law_there) (defBody s_law_there) (defScope s_law_there) .none kV_law_there dc_law_there pm_law_there an_law_there cd_law_there ct_law_there), sl_law_there⟩) (c_law_there : PySem.W.codeIn K cd_law_there "_law_there" = true) (k_law_there : PySem.W.keepIn K (.ref f_law_there) = true)
    (a_law_deed : PySem.W.nsIn K mainGlobals "_law_deed" = some (some (.ref f_law_deed))) (l_law_deed : K.lookup f_law_deed = some ⟨oc_law_deed, od_law_deed, .func (PySem.W.fnOf "_law_deed" "_law_deed" (defArgs s_law_deed) (defBody s_law_deed) (defScope s_law_deed) .none kV_law_deed dc_law_deed pm_law_deed an_law_deed cd_law_deed ct_law_deed), sl_law_deed⟩) (c_law_deed : PySem.W.codeIn K cd_law_deed "_law_deed" = true) (k_law_deed : PySem.W.keepIn K (.ref f_law_deed) = true)
    (a_law_looked : PySem.W.nsIn K mainGlobals "_law_looked" = some (some (.ref f_law_looked))) (l_law_looked : K.lookup f_law_looked = some ⟨oc_law_looked, od_law_looked, .func (PySem.W.fnOf "_law_looked" "_law_looked" (defArgs s_law_looked) (defBody s_law_looked) (defScope s_law_looked) .none kV_law_looked dc_law_looked pm_law_looked an_law_looked cd_law_looked ct_law_looked), sl_law_looked⟩) (c_law_looked : PySem.W.codeIn K cd_law_looked "_law_looked" = true) (k_law_looked : PySem.W.keepIn K (.ref f_law_looked) = true)
    (a_law_values : PySem.W.nsIn K mainGlobals "_law_values" = some (some (.ref f_law_values))) (l_law_values : K.lookup f_law_values = some ⟨oc_law_values, od_law_values, .func (PySem.W.fnOf "_law_values" "_law_values" (defArgs s_law_values) (defBody s_law_values) (defScope s_law_values) .none kV_law_values dc_law_values pm_law_values an_law_values cd_law_values ct_law_values), sl_law_values⟩) (c_law_values : PySem.W.codeIn K cd_law_values "_law_values" = true) (k_law_values : PySem.W.keepIn K (.ref f_law_values) = true)
    (a_law_apart : PySem.W.nsIn K mainGlobals "_law_apart" = some (some (.ref f_law_apart))) (l_law_apart : K.lookup f_law_apart = some ⟨oc_law_apart, od_law_apart, .func (PySem.W.fnOf "_law_apart" "_law_apart" (defArgs s_law_apart) (defBody s_law_apart) (defScope s_law_apart) .none kV_law_apart dc_law_apart pm_law_apart an_law_apart cd_law_apart ct_law_apart), sl_law_apart⟩) (c_law_apart : PySem.W.codeIn K cd_law_apart "_law_apart" = true) (k_law_apart : PySem.W.keepIn K (.ref f_law_apart) = true)
    (a_law_others : PySem.W.nsIn K mainGlobals "_law_others" = some (some (.ref f_law_others))) (l_law_others : K.lookup f_law_others = some ⟨oc_law_others, od_law_others, .func (PySem.W.fnOf "_law_others" "_law_others" (defArgs s_law_others) (defBody s_law_others) (defScope s_law_others) .none kV_law_others dc_law_others pm_law_others an_law_others cd_law_others ct_law_others), sl_law_others⟩) (c_law_others : PySem.W.codeIn K cd_law_others "_law_others" = true) (k_law_others : PySem.W.keepIn K (.ref f_law_others) = true)
    (a_law_twins : PySem.W.nsIn K mainGlobals "_law_twins" = some (some (.ref f_law_twins))) (l_law_twins : K.lookup f_law_twins = some ⟨oc_law_twins, od_law_twins, .func (PySem.W.fnOf "_law_twins" "_law_twins" (defArgs s_law_twins) (defBody s_law_twins) (defScope s_law_twins) .none kV_law_twins dc_law_twins pm_law_twins an_law_twins cd_law_twins ct_law_twins), sl_law_twins⟩) (c_law_twins : PySem.W.codeIn K cd_law_twins "_law_twins" = true) (k_law_twins : PySem.W.keepIn K (.ref f_law_twins) = true)
    (a_law : PySem.W.nsIn K mainGlobals "law" = some (some (.ref f_law))) (l_law : K.lookup f_law = some ⟨oc_law, od_law, .func (PySem.W.fnOf "law" "law" (defArgs s_law) (defBody s_law) (defScope s_law) .none kV_law dc_law pm_law an_law cd_law ct_law), sl_law⟩) (c_law : PySem.W.codeIn K cd_law "law" = true) (k_law : PySem.W.keepIn K (.ref f_law) = true)
    (z_all : PySem.W.nsIn K mainGlobals "all" = some none)
    (z_bool : PySem.W.nsIn K mainGlobals "bool" = some none)
    (z_dict : PySem.W.nsIn K mainGlobals "dict" = some none)
    (z_int : PySem.W.nsIn K mainGlobals "int" = some none)
    (z_isinstance : PySem.W.nsIn K mainGlobals "isinstance" = some none)
    (z_len : PySem.W.nsIn K mainGlobals "len" = some none)
    (z_list : PySem.W.nsIn K mainGlobals "list" = some none)
    (z_min : PySem.W.nsIn K mainGlobals "min" = some none)
    (z_range : PySem.W.nsIn K mainGlobals "range" = some none)
    (z_sorted : PySem.W.nsIn K mainGlobals "sorted" = some none)
    (z_tuple : PySem.W.nsIn K mainGlobals "tuple" = some none)
    (e_GazeError : PySem.W.nsIn K mainGlobals "GazeError" = some (some (.ref C_GazeError)))
    (e_NoBoard : PySem.W.nsIn K mainGlobals "NoBoard" = some (some (.ref C_NoBoard)))
    (e_NoTelling : PySem.W.nsIn K mainGlobals "NoTelling" = some (some (.ref C_NoTelling)))
    (e_Board : PySem.W.nsIn K mainGlobals "Board" = some (some (.ref C_Board)))
    (pg_Board : PySem.W.plainGet K C_Board Str.empty = true) (hd_Board : PySem.W.hasDictIn K C_Board = true) (po_Board : PySem.W.plainOver K C_Board = true) (sa_Board : PySem.W.findIn K (.ref C_Board) "__setattr__" = some (some (.builtin "object.__setattr__")))
    (no_Board_eyes : PySem.W.findIn K (.ref C_Board) "eyes" = some none)
    (no_Board_turns : PySem.W.findIn K (.ref C_Board) "turns" = some none)
    (no_Board_up : PySem.W.findIn K (.ref C_Board) "up" = some none)
    (no_Board_down : PySem.W.findIn K (.ref C_Board) "down" = some none)
    (no_Board_most : PySem.W.findIn K (.ref C_Board) "most" = some none)
    (no_Board_told : PySem.W.findIn K (.ref C_Board) "told" = some none)
    (fn_Board_init__ : PySem.W.isFn K (.ref f_Board_init__) = true)
    (mk_Board : PySem.W.makesIn K C_Board = true) (kc_Board : PySem.W.keepIn K (.ref C_Board) = true)
    (fn_Board_has_eye : PySem.W.isFn K (.ref f_Board_has_eye) = true)
    (fn_Board_has_turn : PySem.W.isFn K (.ref f_Board_has_turn) = true)
    (fn_Board_tell : PySem.W.isFn K (.ref f_Board_tell) = true)
    (fn_Board_hush : PySem.W.isFn K (.ref f_Board_hush) = true)
    (fn_Board_word : PySem.W.isFn K (.ref f_Board_word) = true)
    (fn_Board_tellings : PySem.W.isFn K (.ref f_Board_tellings) = true)
    (fn_Board_twin : PySem.W.isFn K (.ref f_Board_twin) = true)
    (fn_Board_keeping : PySem.W.isFn K (.ref f_Board_keeping) = true)
    (fn_Board_allowing : PySem.W.isFn K (.ref f_Board_allowing) = true)
    (fn_Board_check_spot : PySem.W.isFn K (.ref f_Board_check_spot) = true)
    (fn_Board_check_word : PySem.W.isFn K (.ref f_Board_check_word) = true)
    (x1_NoBoard : PySem.W.excIn K C_NoBoard [.type "ValueError", .type "Exception", .type "BaseException", .type "object"] "ValueError.__new__" = true)
    (x2_NoBoard : PySem.W.mroIn K C_NoBoard (.type "object") = some true)
    (x3_NoBoard : PySem.W.mroIn K C_NoBoard (.type "BaseException") = some true)
    (x4_NoBoard : PySem.W.findIn K (.ref C_NoBoard) "__getattribute__" = some (some (.builtin "BaseException.__getattribute__")))
    (x5_NoBoard : PySem.W.findIn K (.ref C_NoBoard) "__getattr__" = some none)
    (x6_NoBoard : PySem.W.findIn K (.ref C_NoBoard) "__class__" = some (some (.builtin "object.__class__")))
    (x1_NoTelling : PySem.W.excIn K C_NoTelling [.type "ValueError", .type "Exception", .type "BaseException", .type "object"] "ValueError.__new__" = true)
    (x2_NoTelling : PySem.W.mroIn K C_NoTelling (.type "object") = some true)
    (x3_NoTelling : PySem.W.mroIn K C_NoTelling (.type "BaseException") = some true)
    (x4_NoTelling : PySem.W.findIn K (.ref C_NoTelling) "__getattribute__" = some (some (.builtin "BaseException.__getattribute__")))
    (x5_NoTelling : PySem.W.findIn K (.ref C_NoTelling) "__getattr__" = some none)
    (x6_NoTelling : PySem.W.findIn K (.ref C_NoTelling) "__class__" = some (some (.builtin "object.__class__")))
    (g1_GazeError : PySem.W.clsIn K C_GazeError = some cd_GazeError)
    (g2_GazeError : PySem.W.typeIn K (.ref C_GazeError) = some (.type "type"))
    (g4_GazeError : PySem.W.subIn K (.ref C_GazeError) (.type "BaseException") = some true)
    (g3_NoBoard_GazeError : PySem.W.subIn K (.ref C_NoBoard) (.ref C_GazeError) = some true)
    (g3_NoTelling_GazeError : PySem.W.subIn K (.ref C_NoTelling) (.ref C_GazeError) = some true)
    (yis_NoBoard_NoBoard : PySem.W.kitOne K (.ref C_NoBoard) (.ref C_NoBoard) = some true)
    (yis_NoBoard_NoTelling : PySem.W.kitOne K (.ref C_NoBoard) (.ref C_NoTelling) = some false)
    (yis_NoTelling_NoTelling : PySem.W.kitOne K (.ref C_NoTelling) (.ref C_NoTelling) = some true)
    (yis_NoTelling_NoBoard : PySem.W.kitOne K (.ref C_NoTelling) (.ref C_NoBoard) = some false)
    (zEYES_AT_MOST : PySem.W.nsIn K mainGlobals "EYES_AT_MOST" = some (some (.int 7 tk_EYES_AT_MOST)))
    (zTURNS_AT_MOST : PySem.W.nsIn K mainGlobals "TURNS_AT_MOST" = some (some (.int 12 tk_TURNS_AT_MOST)))
    : ∃ fd : FuncData, (∀ (s : Shared) (v : Value), BindsTo s fd ⟨[v], []⟩ [("_law_script", v)]) ∧ ∀ base : Heap, K.In base → base.Ns mainGlobals mg → FnOk l.prog w K mg base (CXX l.prog w) 7 fa fd ["_law_script"] (sp_law K) := by
  have e := hfa.symm.trans (PySem.W.mg_of X G a_law)
  cases e
  have F_is_crossed := fun_mk (st := s_is_crossed) l_is_crossed c_is_crossed k_is_crossed
  have b_is_crossed := F_is_crossed.binds (ps := ["lo", "hi"]) fun _ _ _ _ _ _ us hl => match us, hl with | [_, _], _ => rfl
  have F_Board_init__ := fun_mk (st := s_Board_init__) l_Board_init__ c_Board_init__ k_Board_init__
  have b_Board_init__ := F_Board_init__.binds (ps := ["self", "eyes", "turns", "up", "down", "most"]) fun _ _ _ _ _ _ us hl => match us, hl with | [_, _, _, _, _, _], _ => rfl
  have F_Board_has_eye := fun_mk (st := s_Board_has_eye) l_Board_has_eye c_Board_has_eye k_Board_has_eye
  have b_Board_has_eye := F_Board_has_eye.binds (ps := ["self", "eye"]) fun _ _ _ _ _ _ us hl => match us, hl with | [_, _], _ => rfl
  have F_Board_has_turn := fun_mk (st := s_Board_has_turn) l_Board_has_turn c_Board_has_turn k_Board_has_turn
  have b_Board_has_turn := F_Board_has_turn.binds (ps := ["self", "turn"]) fun _ _ _ _ _ _ us hl => match us, hl with | [_, _], _ => rfl
  have F_Board_tell := fun_mk (st := s_Board_tell) l_Board_tell c_Board_tell k_Board_tell
  have b_Board_tell := F_Board_tell.binds (ps := ["self", "eye", "turn", "lo", "hi"]) fun _ _ _ _ _ _ us hl => match us, hl with | [_, _, _, _, _], _ => rfl
  have F_Board_hush := fun_mk (st := s_Board_hush) l_Board_hush c_Board_hush k_Board_hush
  have b_Board_hush := F_Board_hush.binds (ps := ["self", "eye", "turn"]) fun _ _ _ _ _ _ us hl => match us, hl with | [_, _, _], _ => rfl
  have F_Board_word := fun_mk (st := s_Board_word) l_Board_word c_Board_word k_Board_word
  have b_Board_word := F_Board_word.binds (ps := ["self", "eye", "turn"]) fun _ _ _ _ _ _ us hl => match us, hl with | [_, _, _], _ => rfl
  have F_Board_tellings := fun_mk (st := s_Board_tellings) l_Board_tellings c_Board_tellings k_Board_tellings
  have b_Board_tellings := F_Board_tellings.binds (ps := ["self"]) fun _ _ _ _ _ _ us hl => match us, hl with | [_], _ => rfl
  have F_Board_twin := fun_mk (st := s_Board_twin) l_Board_twin c_Board_twin k_Board_twin
  have b_Board_twin := F_Board_twin.binds (ps := ["self"]) fun _ _ _ _ _ _ us hl => match us, hl with | [_], _ => rfl
  have F_Board_keeping := fun_mk (st := s_Board_keeping) l_Board_keeping c_Board_keeping k_Board_keeping
  have b_Board_keeping := F_Board_keeping.binds (ps := ["self", "spots"]) fun _ _ _ _ _ _ us hl => match us, hl with | [_, _], _ => rfl
  have F_Board_allowing := fun_mk (st := s_Board_allowing) l_Board_allowing c_Board_allowing k_Board_allowing
  have b_Board_allowing := F_Board_allowing.binds (ps := ["self", "most"]) fun _ _ _ _ _ _ us hl => match us, hl with | [_, _], _ => rfl
  have F_Board_check_spot := fun_mk (st := s_Board_check_spot) l_Board_check_spot c_Board_check_spot k_Board_check_spot
  have b_Board_check_spot := F_Board_check_spot.binds (ps := ["self", "eye", "turn"]) fun _ _ _ _ _ _ us hl => match us, hl with | [_, _, _], _ => rfl
  have F_Board_check_word := fun_mk (st := s_Board_check_word) l_Board_check_word c_Board_check_word k_Board_check_word
  have b_Board_check_word := F_Board_check_word.binds (ps := ["self", "eye", "turn"]) fun _ _ _ _ _ _ us hl => match us, hl with | [_, _, _], _ => rfl
  have F_law_cell := fun_mk (st := s_law_cell) l_law_cell c_law_cell k_law_cell
  have b_law_cell := F_law_cell.binds (ps := ["_law_script", "_law_k"]) fun _ _ _ _ _ _ us hl => match us, hl with | [_, _], _ => rfl
  have F_law_whole := fun_mk (st := s_law_whole) l_law_whole c_law_whole k_law_whole
  have b_law_whole := F_law_whole.binds (ps := ["_law_found"]) fun _ _ _ _ _ _ us hl => match us, hl with | [_], _ => rfl
  have F_law_end := fun_mk (st := s_law_end) l_law_end c_law_end k_law_end
  have b_law_end := F_law_end.binds (ps := ["_law_cell_here"]) fun _ _ _ _ _ _ us hl => match us, hl with | [_], _ => rfl
  have F_law_word := fun_mk (st := s_law_word) l_law_word c_law_word k_law_word
  have b_law_word := F_law_word.binds (ps := ["_law_cell_here"]) fun _ _ _ _ _ _ us hl => match us, hl with | [_], _ => rfl
  have F_law_pace := fun_mk (st := s_law_pace) l_law_pace c_law_pace k_law_pace
  have b_law_pace := F_law_pace.binds (ps := ["_law_cell_here"]) fun _ _ _ _ _ _ us hl => match us, hl with | [_], _ => rfl
  have F_law_telling := fun_mk (st := s_law_telling) l_law_telling c_law_telling k_law_telling
  have b_law_telling := F_law_telling.binds (ps := ["_law_board", "_law_spot_here", "_law_word_here"]) fun _ _ _ _ _ _ us hl => match us, hl with | [_, _, _], _ => rfl
  have F_law_hushing := fun_mk (st := s_law_hushing) l_law_hushing c_law_hushing k_law_hushing
  have b_law_hushing := F_law_hushing.binds (ps := ["_law_board", "_law_spot_here"]) fun _ _ _ _ _ _ us hl => match us, hl with | [_, _], _ => rfl
  have F_law_asking := fun_mk (st := s_law_asking) l_law_asking c_law_asking k_law_asking
  have b_law_asking := F_law_asking.binds (ps := ["_law_board", "_law_spot_here"]) fun _ _ _ _ _ _ us hl => match us, hl with | [_, _], _ => rfl
  have F_law_keeping := fun_mk (st := s_law_keeping) l_law_keeping c_law_keeping k_law_keeping
  have b_law_keeping := F_law_keeping.binds (ps := ["_law_board", "_law_spots"]) fun _ _ _ _ _ _ us hl => match us, hl with | [_, _], _ => rfl
  have F_law_allowing := fun_mk (st := s_law_allowing) l_law_allowing c_law_allowing k_law_allowing
  have b_law_allowing := F_law_allowing.binds (ps := ["_law_board", "_law_most"]) fun _ _ _ _ _ _ us hl => match us, hl with | [_, _], _ => rfl
  have F_law_alike := fun_mk (st := s_law_alike) l_law_alike c_law_alike k_law_alike
  have b_law_alike := F_law_alike.binds (ps := ["_law_found", "_law_due"]) fun _ _ _ _ _ _ us hl => match us, hl with | [_, _], _ => rfl
  have F_law_stands := fun_mk (st := s_law_stands) l_law_stands c_law_stands k_law_stands
  have b_law_stands := F_law_stands.binds (ps := ["_law_board", "_law_table"]) fun _ _ _ _ _ _ us hl => match us, hl with | [_, _], _ => rfl
  have F_law_spot := fun_mk (st := s_law_spot) l_law_spot c_law_spot k_law_spot
  have b_law_spot := F_law_spot.binds (ps := ["_law_cell_here", "_law_sizes"]) fun _ _ _ _ _ _ us hl => match us, hl with | [_, _], _ => rfl
  have F_law_there := fun_mk (st := s_law_there) l_law_there c_law_there k_law_there
  have b_law_there := F_law_there.binds (ps := ["_law_spot_here", "_law_sizes"]) fun _ _ _ _ _ _ us hl => match us, hl with | [_, _], _ => rfl
  have F_law_deed := fun_mk (st := s_law_deed) l_law_deed c_law_deed k_law_deed
  have b_law_deed := F_law_deed.binds (ps := ["_law_board", "_law_table", "_law_sizes", "_law_cell_here", "_law_more"]) fun _ _ _ _ _ _ us hl => match us, hl with | [_, _, _, _, _], _ => rfl
  have F_law_looked := fun_mk (st := s_law_looked) l_law_looked c_law_looked k_law_looked
  have b_law_looked := F_law_looked.binds (ps := ["_law_board", "_law_table", "_law_sizes", "_law_cell_here"]) fun _ _ _ _ _ _ us hl => match us, hl with | [_, _, _, _], _ => rfl
  have F_law_values := fun_mk (st := s_law_values) l_law_values c_law_values k_law_values
  have b_law_values := F_law_values.binds (ps := ["_law_board", "_law_sizes", "_law_most"]) fun _ _ _ _ _ _ us hl => match us, hl with | [_, _, _], _ => rfl
  have F_law_apart := fun_mk (st := s_law_apart) l_law_apart c_law_apart k_law_apart
  have b_law_apart := F_law_apart.binds (ps := ["_law_board", "_law_made", "_law_table", "_law_other", "_law_sizes", "_law_cell_here"]) fun _ _ _ _ _ _ us hl => match us, hl with | [_, _, _, _, _, _], _ => rfl
  have F_law_others := fun_mk (st := s_law_others) l_law_others c_law_others k_law_others
  have b_law_others := F_law_others.binds (ps := ["_law_board", "_law_table", "_law_sizes", "_law_cell_here", "_law_most"]) fun _ _ _ _ _ _ us hl => match us, hl with | [_, _, _, _, _], _ => rfl
  have F_law_twins := fun_mk (st := s_law_twins) l_law_twins c_law_twins k_law_twins
  have b_law_twins := F_law_twins.binds (ps := ["_law_twins_here", "_law_sizes", "_law_most", "_law_cell_here"]) fun _ _ _ _ _ _ us hl => match us, hl with | [_, _, _, _], _ => rfl
  have F_law := fun_mk (st := s_law) l_law c_law k_law
  have b_law := F_law.binds (ps := ["_law_script"]) fun _ _ _ _ _ _ us hl => match us, hl with | [_], _ => rfl
  have T : ∃ T : Tx K mg, T.a_law = fa ∧ T.fd_law = PySem.W.fnOf "law" "law" (defArgs s_law) (defBody s_law) (defScope s_law) .none kV_law dc_law pm_law an_law cd_law ct_law := ⟨{ a_is_crossed := f_is_crossed, fd_is_crossed := _, F_is_crossed := F_is_crossed, b_is_crossed := b_is_crossed, m_is_crossed := PySem.W.mg_of X G a_is_crossed, a_Board_init__ := f_Board_init__, fd_Board_init__ := _, F_Board_init__ := F_Board_init__, b_Board_init__ := b_Board_init__, a_Board_has_eye := f_Board_has_eye, fd_Board_has_eye := _, F_Board_has_eye := F_Board_has_eye, b_Board_has_eye := b_Board_has_eye, a_Board_has_turn := f_Board_has_turn, fd_Board_has_turn := _, F_Board_has_turn := F_Board_has_turn, b_Board_has_turn := b_Board_has_turn, a_Board_tell := f_Board_tell, fd_Board_tell := _, F_Board_tell := F_Board_tell, b_Board_tell := b_Board_tell, a_Board_hush := f_Board_hush, fd_Board_hush := _, F_Board_hush := F_Board_hush, b_Board_hush := b_Board_hush, a_Board_word := f_Board_word, fd_Board_word := _, F_Board_word := F_Board_word, b_Board_word := b_Board_word, a_Board_tellings := f_Board_tellings, fd_Board_tellings := _, F_Board_tellings := F_Board_tellings, b_Board_tellings := b_Board_tellings, a_Board_twin := f_Board_twin, fd_Board_twin := _, F_Board_twin := F_Board_twin, b_Board_twin := b_Board_twin, a_Board_keeping := f_Board_keeping, fd_Board_keeping := _, F_Board_keeping := F_Board_keeping, b_Board_keeping := b_Board_keeping, a_Board_allowing := f_Board_allowing, fd_Board_allowing := _, F_Board_allowing := F_Board_allowing, b_Board_allowing := b_Board_allowing, a_Board_check_spot := f_Board_check_spot, fd_Board_check_spot := _, F_Board_check_spot := F_Board_check_spot, b_Board_check_spot := b_Board_check_spot, a_Board_check_word := f_Board_check_word, fd_Board_check_word := _, F_Board_check_word := F_Board_check_word, b_Board_check_word := b_Board_check_word, a_law_cell := f_law_cell, fd_law_cell := _, F_law_cell := F_law_cell, b_law_cell := b_law_cell, m_law_cell := PySem.W.mg_of X G a_law_cell, a_law_whole := f_law_whole, fd_law_whole := _, F_law_whole := F_law_whole, b_law_whole := b_law_whole, m_law_whole := PySem.W.mg_of X G a_law_whole, a_law_end := f_law_end, fd_law_end := _, F_law_end := F_law_end, b_law_end := b_law_end, m_law_end := PySem.W.mg_of X G a_law_end, a_law_word := f_law_word, fd_law_word := _, F_law_word := F_law_word, b_law_word := b_law_word, m_law_word := PySem.W.mg_of X G a_law_word, a_law_pace := f_law_pace, fd_law_pace := _, F_law_pace := F_law_pace, b_law_pace := b_law_pace, m_law_pace := PySem.W.mg_of X G a_law_pace, a_law_telling := f_law_telling, fd_law_telling := _, F_law_telling := F_law_telling, b_law_telling := b_law_telling, m_law_telling := PySem.W.mg_of X G a_law_telling, a_law_hushing := f_law_hushing, fd_law_hushing := _, F_law_hushing := F_law_hushing, b_law_hushing := b_law_hushing, m_law_hushing := PySem.W.mg_of X G a_law_hushing, a_law_asking := f_law_asking, fd_law_asking := _, F_law_asking := F_law_asking, b_law_asking := b_law_asking, m_law_asking := PySem.W.mg_of X G a_law_asking, a_law_keeping := f_law_keeping, fd_law_keeping := _, F_law_keeping := F_law_keeping, b_law_keeping := b_law_keeping, m_law_keeping := PySem.W.mg_of X G a_law_keeping, a_law_allowing := f_law_allowing, fd_law_allowing := _, F_law_allowing := F_law_allowing, b_law_allowing := b_law_allowing, m_law_allowing := PySem.W.mg_of X G a_law_allowing, a_law_alike := f_law_alike, fd_law_alike := _, F_law_alike := F_law_alike, b_law_alike := b_law_alike, m_law_alike := PySem.W.mg_of X G a_law_alike, a_law_stands := f_law_stands, fd_law_stands := _, F_law_stands := F_law_stands, b_law_stands := b_law_stands, m_law_stands := PySem.W.mg_of X G a_law_stands, a_law_spot := f_law_spot, fd_law_spot := _, F_law_spot := F_law_spot, b_law_spot := b_law_spot, m_law_spot := PySem.W.mg_of X G a_law_spot, a_law_there := f_law_there, fd_law_there := _, F_law_there := F_law_there, b_law_there := b_law_there, m_law_there := PySem.W.mg_of X G a_law_there, a_law_deed := f_law_deed, fd_law_deed := _, F_law_deed := F_law_deed, b_law_deed := b_law_deed, m_law_deed := PySem.W.mg_of X G a_law_deed, a_law_looked := f_law_looked, fd_law_looked := _, F_law_looked := F_law_looked, b_law_looked := b_law_looked, m_law_looked := PySem.W.mg_of X G a_law_looked, a_law_values := f_law_values, fd_law_values := _, F_law_values := F_law_values, b_law_values := b_law_values, m_law_values := PySem.W.mg_of X G a_law_values, a_law_apart := f_law_apart, fd_law_apart := _, F_law_apart := F_law_apart, b_law_apart := b_law_apart, m_law_apart := PySem.W.mg_of X G a_law_apart, a_law_others := f_law_others, fd_law_others := _, F_law_others := F_law_others, b_law_others := b_law_others, m_law_others := PySem.W.mg_of X G a_law_others, a_law_twins := f_law_twins, fd_law_twins := _, F_law_twins := F_law_twins, b_law_twins := b_law_twins, m_law_twins := PySem.W.mg_of X G a_law_twins, a_law := fa, fd_law := _, F_law := F_law, b_law := b_law, m_law := PySem.W.mg_of X G a_law, n_all := PySem.W.mg_none_of X G z_all, n_bool := PySem.W.mg_none_of X G z_bool, n_dict := PySem.W.mg_none_of X G z_dict, n_int := PySem.W.mg_none_of X G z_int, n_isinstance := PySem.W.mg_none_of X G z_isinstance, n_len := PySem.W.mg_none_of X G z_len, n_list := PySem.W.mg_none_of X G z_list, n_min := PySem.W.mg_none_of X G z_min, n_range := PySem.W.mg_none_of X G z_range, n_sorted := PySem.W.mg_none_of X G z_sorted, n_tuple := PySem.W.mg_none_of X G z_tuple, C_GazeError := C_GazeError, c_GazeError := PySem.W.mg_of X G e_GazeError, C_NoBoard := C_NoBoard, c_NoBoard := PySem.W.mg_of X G e_NoBoard, C_NoTelling := C_NoTelling, c_NoTelling := PySem.W.mg_of X G e_NoTelling, C_Board := C_Board, c_Board := PySem.W.mg_of X G e_Board, cl_Board := ⟨pg_Board, hd_Board, po_Board, sa_Board⟩, no_Board_eyes := no_Board_eyes, no_Board_turns := no_Board_turns, no_Board_up := no_Board_up, no_Board_down := no_Board_down, no_Board_most := no_Board_most, no_Board_told := no_Board_told, mk_Board := ⟨mk_Board, a_Board_init__, fn_Board_init__, kc_Board⟩, me_Board_has_eye := ⟨a_Board_has_eye, fn_Board_has_eye, k_Board_has_eye⟩, me_Board_has_turn := ⟨a_Board_has_turn, fn_Board_has_turn, k_Board_has_turn⟩, me_Board_tell := ⟨a_Board_tell, fn_Board_tell, k_Board_tell⟩, me_Board_hush := ⟨a_Board_hush, fn_Board_hush, k_Board_hush⟩, me_Board_word := ⟨a_Board_word, fn_Board_word, k_Board_word⟩, me_Board_tellings := ⟨a_Board_tellings, fn_Board_tellings, k_Board_tellings⟩, me_Board_twin := ⟨a_Board_twin, fn_Board_twin, k_Board_twin⟩, me_Board_keeping := ⟨a_Board_keeping, fn_Board_keeping, k_Board_keeping⟩, me_Board_allowing := ⟨a_Board_allowing, fn_Board_allowing, k_Board_allowing⟩, me_Board_check_spot := ⟨a_Board_check_spot, fn_Board_check_spot, k_Board_check_spot⟩, me_Board_check_word := ⟨a_Board_check_word, fn_Board_check_word, k_Board_check_word⟩, xc_NoBoard := ⟨x1_NoBoard, x2_NoBoard, x3_NoBoard, x4_NoBoard, x5_NoBoard, x6_NoBoard⟩, xc_NoTelling := ⟨x1_NoTelling, x2_NoTelling, x3_NoTelling, x4_NoTelling, x5_NoTelling, x6_NoTelling⟩, mt_NoBoard_GazeError := exm_of g1_GazeError g2_GazeError g3_NoBoard_GazeError g4_GazeError, mt_NoTelling_GazeError := exm_of g1_GazeError g2_GazeError g3_NoTelling_GazeError g4_GazeError, is_NoBoard_NoBoard := yis_NoBoard_NoBoard, is_NoBoard_NoTelling := yis_NoBoard_NoTelling, is_NoTelling_NoTelling := yis_NoTelling_NoTelling, is_NoTelling_NoBoard := yis_NoTelling_NoBoard, g_EYES_AT_MOST := ⟨_, PySem.W.mg_of X G zEYES_AT_MOST⟩, g_TURNS_AT_MOST := ⟨_, PySem.W.mg_of X G zTURNS_AT_MOST⟩ }, rfl, rfl⟩
  obtain ⟨T, e1, e2⟩ := T
  refine ⟨PySem.W.fnOf "law" "law" (defArgs s_law) (defBody s_law) (defScope s_law) .none kV_law dc_law pm_law an_law cd_law ct_law, fun s v => .of_eq rfl, fun base _ _ => ?_⟩
  rw [← e1, ← e2]
  exact ok_law T
theorem walk {l : PySem.W.OpenLaw} {q : Program} {loose : List Str} {XP : (Str → Option Value) → Heap → Prop} {YP : World → Heap → Prop} {d : DefRec} {K : Params → PySem.W.Frag} (hn : l.most = some 63) (hdf : d.params.defaults = [])
    (hY : ∀ (w : World) (h : Heap), YP w h → (K w.params).In h)
    (F : ∀ (w : World) (mg : Str → Option Value) (fa : Addr) (h : Heap), (K w.params).In h → h.Ns mainGlobals mg → mg d.name = some (.ref fa) →
      ∃ fd : FuncData, (∀ (s : Shared) (u : Value), BindsTo s fd ⟨[u], []⟩ [("_law_script", u)]) ∧ ∀ base : Heap, (K w.params).In base → base.Ns mainGlobals mg → FnOk l.prog w (K w.params) mg base (CXX l.prog w) 7 fa fd ["_law_script"] (sp_law (K w.params))) :
    PySem.W.WalkO q loose XP YP l.row.toRowW d [] (fun f vs => PySem.call f vs) :=
  L2.walk_of (n := 63) (k := 7) (x := "_law_script") (CX := fun w => CXX l.prog w) (sp := fun w => sp_law (K w.params)) hn (by decide) hdf ⟨rfl, by decide, by decide⟩ hY F (fun _ _ a ns hl _ hS => ⟨a, ns, rfl, hS, hl, fun _ => rfl⟩) fun _ _ _ _ _ z => noCXX z
end K17
def PySem.W.Fast.tw10195549475021255940 : Unit := ()
def PySem.W.Fast.tw14694609453650931269 : Unit := ()
def PySem.W.Fast.tw6766739697172640839 : Unit := ()
def PySem.W.Fast.tw10783531738006813095 : Unit := ()
def PySem.W.Fast.tw16763248188626732871 : Unit := ()
def PySem.W.Fast.tw2635436309586067122 : Unit := ()
def PySem.W.Fast.tw15950327439562741271 : Unit := ()
def PySem.W.Fast.tw9350435500723223511 : Unit := ()
def PySem.W.Fast.tw10167346272944238172 : Unit := ()
def PySem.W.Fast.tw13343901501786552925 : Unit := ()
def PySem.W.Fast.tw3066659589724779280 : Unit := ()
def PySem.W.Fast.tw12340935282925273436 : Unit := ()
def PySem.W.Fast.tw735180572790081823 : Unit := ()
def PySem.W.Fast.tw2515158457329363691 : Unit := ()
def PySem.W.Fast.tw6692194885432222919 : Unit := ()
def PySem.W.Fast.tw13209083770183588766 : Unit := ()
def PySem.W.Fast.tw7391636882383287089 : Unit := ()
def PySem.W.Fast.tw15631682533146286702 : Unit := ()
def PySem.W.Fast.tw3985893033832737135 : Unit := ()
def PySem.W.Fast.tw4900825673280728006 : Unit := ()
def PySem.W.Fast.tw14651944003125511149 : Unit := ()
def PySem.W.Fast.tw3672730023282406780 : Unit := ()
def PySem.W.Fast.tw9324551130530805596 : Unit := ()
def PySem.W.Fast.tw11726422901771216534 : Unit := ()
def PySem.W.Fast.tw16704771360283488968 : Unit := ()
def PySem.W.Fast.tw13498288996936590025 : Unit := ()
def PySem.W.Fast.tw12688534960078344132 : Unit := ()
def PySem.W.Fast.tw18155479026488019129 : Unit := ()
def PySem.W.Fast.tw2690680488954212098 : Unit := ()
def PySem.W.Fast.tw2006460211140138966 : Unit := ()
def PySem.W.Fast.tw10067151483745274792 : Unit := ()
def PySem.W.Fast.tw2142086698249465305 : Unit := ()
def PySem.W.Fast.tw1218239391362722086 : Unit := ()
def PySem.W.Fast.tw10405112621737265283 : Unit := ()
def PySem.W.Fast.tw260515043370987555 : Unit := ()
def PySem.W.Fast.tw13990176650697315209 : Unit := ()
def PySem.W.Fast.tw871227945903201547 : Unit := ()
def PySem.W.Fast.tw12312588418538803360 : Unit := ()
def PySem.W.Fast.tw17918040746977801481 : Unit := ()
def PySem.W.Fast.tw6066384476816839875 : Unit := ()
def PySem.W.Fast.tw12229787989319129441 : Unit := ()
def PySem.W.Fast.tw12548087642885461032 : Unit := ()
def PySem.W.Fast.tw16005593780525988814 : Unit := ()
def PySem.W.Fast.tw6053319804196247449 : Unit := ()
def PySem.W.Fast.tw369407214033182594 : Unit := ()
def PySem.W.Fast.tw691783343476538381 : Unit := ()
def PySem.W.Fast.tw905020822243717728 : Unit := ()
def PySem.W.Fast.tw9560137898608903755 : Unit := ()
def PySem.W.Fast.tw6206780815097296155 : Unit := ()
def PySem.W.Fast.tw2640195202252784700 : Unit := ()
def PySem.W.Fast.tw10563522162906647 : Unit := ()
def PySem.W.Fast.tw16532023731143294354 : Unit := ()
def PySem.W.Fast.tw5393620581219554838 : Unit := ()
def PySem.W.Fast.tw9241704358177021282 : Unit := ()
def PySem.W.Fast.tw2737972858774807086 : Unit := ()
def PySem.W.Fast.tw7948432808695521721 : Unit := ()
def PySem.W.Fast.tw3760437554263489837 : Unit := ()
def PySem.W.Fast.tw7153174957660998507 : Unit := ()
def PySem.W.Fast.tw10309592241326781311 : Unit := ()
def PySem.W.Fast.tw16255380581278695899 : Unit := ()
def PySem.W.Fast.tw17479665169544758486 : Unit := ()
def PySem.W.Fast.tw3180429364736196316 : Unit := ()
def PySem.W.Fast.tw6061365289444348047 : Unit := ()
def PySem.W.Fast.tw4239539918743300141 : Unit := ()
def PySem.W.Fast.tw11938194214088859357 : Unit := ()
def PySem.W.Fast.tw12145689888046910902 : Unit := ()
def PySem.W.Fast.tw17965297213488200796 : Unit := ()
def PySem.W.Fast.tw8569286587463667685 : Unit := ()
def PySem.W.Fast.tw13265037231804509504 : Unit := ()
def PySem.W.Fast.tw5966778543594127106 : Unit := ()
def PySem.W.Fast.tw4779768486616366775 : Unit := ()
def PySem.W.Fast.tw12092924430143286139 : Unit := ()
def PySem.W.Fast.tw4882551747347380422 : Unit := ()
def PySem.W.Fast.tw17448232714025114168 : Unit := ()
def PySem.W.Fast.tw17673364647987682505 : Unit := ()
def PySem.W.Fast.tw5048261925537732787 : Unit := ()
def PySem.W.Fast.tw17875431532328718931 : Unit := ()
def PySem.W.Fast.tw5846067893016537679 : Unit := ()
def PySem.W.Fast.tw5775110496571352017 : Unit := ()
def PySem.W.Fast.tw15921799697225198453 : Unit := ()
def PySem.W.Fast.tw4014544407995976333 : Unit := ()
def PySem.W.Fast.tw14659675135461387039 : Unit := ()
def PySem.W.Fast.tw3966314975411618781 : Unit := ()
def PySem.W.Fast.tw2724406587369669814 : Unit := ()
def PySem.W.Fast.tw15724883382778585136 : Unit := ()
def PySem.W.Fast.tw10247493675855128751 : Unit := ()
def PySem.W.Fast.tw13974728776550413081 : Unit := ()
def PySem.W.Fast.tw6995531902602235763 : Unit := ()
def PySem.W.Fast.tw676446409563274343 : Unit := ()
def PySem.W.Fast.tw10084996051924834666 : Unit := ()
def PySem.W.Fast.tw4018025728451143183 : Unit := ()
def PySem.W.Fast.tw1115755278156807063 : Unit := ()
def PySem.W.Fast.tw11666843163676851343 : Unit := ()
def PySem.W.Fast.tw4839226956711150441 : Unit := ()
def PySem.W.Fast.tw6914073454261721087 : Unit := ()
def PySem.W.Fast.tw2521483785658371108 : Unit := ()
def PySem.W.Fast.tw11513214581158778141 : Unit := ()
def PySem.W.Fast.tw10411092598235020539 : Unit := ()
def PySem.W.Fast.tw2244877240232469337 : Unit := ()
def PySem.W.Fast.tw9716713671936474082 : Unit := ()
def PySem.W.Fast.tw1960181250152629050 : Unit := ()
def PySem.W.Fast.tw12125905290703773321 : Unit := ()
def PySem.W.Fast.tw12199440931208286287 : Unit := ()
def PySem.W.Fast.tw220491318339875566 : Unit := ()
def PySem.W.Fast.tw15250207168366843244 : Unit := ()
def PySem.W.Fast.tw11673952902183040317 : Unit := ()
def PySem.W.Fast.tw5091810772891851120 : Unit := ()
def PySem.W.Fast.tw10276607758179788100 : Unit := ()
def PySem.W.Fast.tw3945199898119237301 : Unit := ()
def PySem.W.Fast.tw2260870038400005280 : Unit := ()
def PySem.W.Fast.tw17302924618081026283 : Unit := ()
def PySem.W.Fast.tw15906077647292631003 : Unit := ()
def PySem.W.Fast.tw17393377121678920848 : Unit := ()
def PySem.W.Fast.tw789954848686863891 : Unit := ()
def PySem.W.Fast.tw15000695599753650490 : Unit := ()
def PySem.W.Fast.tw11912343690815744057 : Unit := ()
def PySem.W.Fast.tw16197419781827898593 : Unit := ()
def PySem.W.Fast.tw17473913252348708450 : Unit := ()
def PySem.W.Fast.tw6261415986464893261 : Unit := ()
def PySem.W.Fast.tw13444583867322832412 : Unit := ()
def PySem.W.Fast.tw1297309099987547891 : Unit := ()
def PySem.W.Fast.tw7967277785003344209 : Unit := ()
def PySem.W.Fast.tw10758560541337158382 : Unit := ()
def PySem.W.Fast.tw15073068648568700545 : Unit := ()
def PySem.W.Fast.tw11515529367638402458 : Unit := ()
def PySem.W.Fast.tw9494101058953927721 : Unit := ()
def PySem.W.Fast.tw5942964770526695766 : Unit := ()
def PySem.W.Fast.tw3022716765917357022 : Unit := ()
def PySem.W.Fast.tw17800625447737746888 : Unit := ()
def PySem.W.Fast.tw13365536560802883713 : Unit := ()
def PySem.W.Fast.tw12586884816575263784 : Unit := ()
def PySem.W.Fast.tw14198778832414791133 : Unit := ()
def PySem.W.Fast.tw826274101960548292 : Unit := ()
def PySem.W.Fast.tw4825760281771958007 : Unit := ()
def PySem.W.Fast.tw510091720316299354 : Unit := ()
def PySem.W.Fast.tw14426521832818626910 : Unit := ()
def PySem.W.Fast.tw13712771684272937546 : Unit := ()
def PySem.W.Fast.tw39585695152474240 : Unit := ()
def PySem.W.Fast.tw5846185562370269350 : Unit := ()
def PySem.W.Fast.tw3911487283723869003 : Unit := ()
def PySem.W.Fast.tw5134392261628830122 : Unit := ()
def PySem.W.Fast.tw14745127805772354778 : Unit := ()
def PySem.W.Fast.tw1041042889590095086 : Unit := ()
def PySem.W.Fast.tw16505752620636428600 : Unit := ()
def PySem.W.Fast.tw677323228199182738 : Unit := ()
def PySem.W.Fast.tw11163318077706642889 : Unit := ()
def PySem.W.Fast.tw1080715075357639898 : Unit := ()
def PySem.W.Fast.tw6825886875085299901 : Unit := ()
def PySem.W.Fast.tw15604134140816268379 : Unit := ()
def PySem.W.Fast.tw6936663897283835589 : Unit := ()
def PySem.W.Fast.tw1568060768628480624 : Unit := ()
def PySem.W.Fast.tw1683430983887873750 : Unit := ()
def PySem.W.Fast.tw8070752212615570483 : Unit := ()
def PySem.W.Fast.tw5583272949297006991 : Unit := ()
def PySem.W.Fast.tw17754470030875039889 : Unit := ()
def PySem.W.Fast.tw18251731639239477672 : Unit := ()
def PySem.W.Fast.tw3513549028179482570 : Unit := ()
def PySem.W.Fast.tw6775157650687865233 : Unit := ()
def PySem.W.Fast.tw10224143794621162192 : Unit := ()
def PySem.W.Fast.tw2635885686979832765 : Unit := ()
def PySem.W.Fast.tw2835099475791759112 : Unit := ()
def PySem.W.Fast.tw1538684360672454334 : Unit := ()
def PySem.W.Fast.tw14201696722765019622 : Unit := ()
def PySem.W.Fast.tw5814720264014925646 : Unit := ()
def PySem.W.Fast.tw6300602437883415330 : Unit := ()
def PySem.W.Fast.tw2405425380710050802 : Unit := ()
def PySem.W.Fast.tw8354006020541194929 : Unit := ()
def PySem.W.Fast.tw3985368234882226829 : Unit := ()
def PySem.W.Fast.tw1767550134277493356 : Unit := ()
def PySem.W.Fast.tw5641024625527026291 : Unit := ()
def PySem.W.Fast.tw18300954168553851114 : Unit := ()
def PySem.W.Fast.tw14904649925008681377 : Unit := ()
def PySem.W.Fast.tw8252917796104720083 : Unit := ()
def PySem.W.Fast.tw8659286760509080753 : Unit := ()
def PySem.W.Fast.tw7000569468873535148 : Unit := ()
def PySem.W.Fast.tw3684594495607373078 : Unit := ()
def PySem.W.Fast.tw748541210669331410 : Unit := ()
def PySem.W.Fast.tw17359697277950285768 : Unit := ()
def PySem.W.Fast.tw2032875392471077967 : Unit := ()
def PySem.W.Fast.tw12270169554874460676 : Unit := ()
def PySem.W.Fast.tw81641005132668955 : Unit := ()
def PySem.W.Fast.tw4243618468633776874 : Unit := ()
def PySem.W.Fast.tw6385712897850372695 : Unit := ()
def PySem.W.Fast.tw7824715689534331216 : Unit := ()
def PySem.W.Fast.tw4895440139347212006 : Unit := ()
def PySem.W.Fast.tw16483320774290141280 : Unit := ()
def PySem.W.Fast.tw2669382140590736064 : Unit := ()
def PySem.W.Fast.tw15519853677797509992 : Unit := ()
def PySem.W.Fast.tw6700013865994091151 : Unit := ()
def PySem.W.Fast.tw6888260514543000938 : Unit := ()
def PySem.W.Fast.tw11741579428367693148 : Unit := ()
def PySem.W.Fast.tw14668847924289327958 : Unit := ()
def PySem.W.Fast.tw1839517398540119381 : Unit := ()
def PySem.W.Fast.tw15130635216239477901 : Unit := ()
def PySem.W.Fast.tw17666426258941543558 : Unit := ()
def PySem.W.Fast.tw7837651014909642449 : Unit := ()
def PySem.W.Fast.tw18044075715921682690 : Unit := ()
def PySem.W.Fast.tw17544712412747572430 : Unit := ()
def PySem.W.Fast.tw7585693322199364474 : Unit := ()
def PySem.W.Fast.tw1537960231572353050 : Unit := ()
def PySem.W.Fast.tw5136390254350942156 : Unit := ()
def PySem.W.Fast.tw7029733285404582472 : Unit := ()
def PySem.W.Fast.tw671898065471417448 : Unit := ()
def PySem.W.Fast.tw13912928310751307931 : Unit := ()
def PySem.W.Fast.tw121896937896214424 : Unit := ()
def PySem.W.Fast.tw2763995242086746534 : Unit := ()
def PySem.W.Fast.tw8510767975637544069 : Unit := ()
def PySem.W.Fast.tw17111502716335513418 : Unit := ()
def PySem.W.Fast.tw12467468570767138682 : Unit := ()
def PySem.W.Fast.tw11234691841833487504 : Unit := ()
def PySem.W.Fast.tw9373825565808153750 : Unit := ()
def PySem.W.Fast.tw667338501549954949 : Unit := ()
def PySem.W.Fast.tw5385066721952582770 : Unit := ()
def PySem.W.Fast.tw5145022297199438836 : Unit := ()
def PySem.W.Fast.tw2097863938980896381 : Unit := ()
def PySem.W.Fast.tw3167195520800135917 : Unit := ()
def PySem.W.Fast.tw709318902442715484 : Unit := ()
def PySem.W.Fast.tw13254225092413868749 : Unit := ()
def PySem.W.Fast.tw5705388799059164214 : Unit := ()
def PySem.W.Fast.tw578031771919336246 : Unit := ()
def PySem.W.Fast.tw14112547477288668950 : Unit := ()
def PySem.W.Fast.tw1002283043141169379 : Unit := ()
def PySem.W.Fast.tw10658762242980098619 : Unit := ()
def PySem.W.Fast.tw16635881498751969948 : Unit := ()
def PySem.W.Fast.tw13127902451815656670 : Unit := ()
def PySem.W.Fast.tw1312825136882061951 : Unit := ()
def PySem.W.Fast.tw4101003144172084584 : Unit := ()
def PySem.W.Fast.tw16070242263057405882 : Unit := ()
def PySem.W.Fast.tw429655486860500851 : Unit := ()
def PySem.W.Fast.tw9605917785558120984 : Unit := ()
def PySem.W.Fast.tw6532770023464363037 : Unit := ()
def PySem.W.Fast.tw4254917159506878907 : Unit := ()
def PySem.W.Fast.tw8731792398335152057 : Unit := ()
def PySem.W.Fast.tw16698727610488190678 : Unit := ()
def PySem.W.Fast.tw10983318481803197550 : Unit := ()
def PySem.W.Fast.tw3469583526481954992 : Unit := ()
def PySem.W.Fast.tw7623118919447935897 : Unit := ()
def PySem.W.Fast.tw2647622624326239398 : Unit := ()
def PySem.W.Fast.tw7480253756341155921 : Unit := ()
def PySem.W.Fast.tw3378132567870565013 : Unit := ()
def PySem.W.Fast.tw8340576107805784221 : Unit := ()
def PySem.W.Fast.tw3165923966273346112 : Unit := ()
def PySem.W.Fast.tw10238440685697817797 : Unit := ()
def PySem.W.Fast.tw16343282513046804739 : Unit := ()
def PySem.W.Fast.tw11265272989737530081 : Unit := ()
def PySem.W.Fast.tw16133301936575196128 : Unit := ()
def PySem.W.Fast.tw13932650862287830388 : Unit := ()
def PySem.W.Fast.tw14965662603684717353 : Unit := ()
def PySem.W.Fast.tw8983728841759835368 : Unit := ()
def PySem.W.Fast.tw11465478580831363349 : Unit := ()
def PySem.W.Fast.tw13789017917611909275 : Unit := ()
def PySem.W.Fast.tw3852748799112290882 : Unit := ()
def PySem.W.Fast.tw16039272640137356730 : Unit := ()
def PySem.W.Fast.tw16073589304602455898 : Unit := ()
def PySem.W.Fast.tw16437765444489439038 : Unit := ()
def PySem.W.Fast.tw5138762790309314837 : Unit := ()
def PySem.W.Fast.tw6997364725667631975 : Unit := ()
def PySem.W.Fast.tw10763944235605001576 : Unit := ()
def PySem.W.Fast.tw16442698632319655707 : Unit := ()
def PySem.W.Fast.tw3927076220721906308 : Unit := ()
def PySem.W.Fast.tw16088577020312057499 : Unit := ()
def PySem.W.Fast.tw11870855933148159069 : Unit := ()
def PySem.W.Fast.tw2091859222587959416 : Unit := ()
def PySem.W.Fast.tw8458314054842771252 : Unit := ()
def PySem.W.Fast.tw11832108688993579387 : Unit := ()
def PySem.W.Fast.tw10287208268193314281 : Unit := ()
open PySem PySem.W PyProof.Rows
set_option maxRecDepth 100000 in
set_option maxHeartbeats 0 in
theorem PySem.Challenge.cw_gaze_k17_deeds_on_a_board_holds : PySem.Challenge.rw_gaze_k17_deeds_on_a_board.Holds := by
  w_on; o_law; k_head; (case hw => w_witness2)
  k_fill
  refine K17.walk (l := PySem.Challenge.rw_gaze_k17_deeds_on_a_board) rfl rfl (fun w h Y => PySem.W.kIn_of Y) ?F
  case F =>
    intro w mg fa h KX G hmg
    refine' K17.fin_mk KX G hmg ?a_is_crossed ?l_is_crossed ?c_is_crossed ?k_is_crossed ?a_Board_init__ ?l_Board_init__ ?c_Board_init__ ?k_Board_init__ ?a_Board_has_eye ?l_Board_has_eye ?c_Board_has_eye ?k_Board_has_eye ?a_Board_has_turn ?l_Board_has_turn ?c_Board_has_turn ?k_Board_has_turn ?a_Board_tell ?l_Board_tell ?c_Board_tell ?k_Board_tell ?a_Board_hush ?l_Board_hush ?c_Board_hush ?k_Board_hush ?a_Board_word ?l_Board_word ?c_Board_word ?k_Board_word ?a_Board_tellings ?l_Board_tellings ?c_Board_tellings ?k_Board_tellings ?a_Board_twin ?l_Board_twin ?c_Board_twin ?k_Board_twin ?a_Board_keeping ?l_Board_keeping ?c_Board_keeping ?k_Board_keeping ?a_Board_allowing ?l_Board_allowing ?c_Board_allowing ?k_Board_allowing ?a_Board_check_spot ?l_Board_check_spot ?c_Board_check_spot ?k_Board_check_spot ?a_Board_check_word ?l_Board_check_word ?c_Board_check_word ?k_Board_check_word ?a_law_cell ?l_law_cell ?c_law_cell ?k_law_cell ?a_law_whole ?l_law_whole ?c_law_whole ?k_law_whole ?a_law_end ?l_law_end ?c_law_end ?k_law_end ?a_law_word ?l_law_word ?c_law_word ?k_law_word ?a_law_pace ?l_law_pace ?c_law_pace ?k_law_pace ?a_law_telling ?l_law_telling ?c_law_telling ?k_law_telling ?a_law_hushing ?l_law_hushing ?c_law_hushing ?k_law_hushing ?a_law_asking ?l_law_asking ?c_law_asking ?k_law_asking ?a_law_keeping ?l_law_keeping ?c_law_keeping ?k_law_keeping ?a_law_allowing ?l_law_allowing ?c_law_allowing ?k_law_allowing ?a_law_alike ?l_law_alike ?c_law_alike ?k_law_alike ?a_law_stands ?l_law_stands ?c_law_stands ?k_law_stands ?a_law_spot ?l_law_spot ?c_law_spot ?k_law_spot ?a_law_there ?l_law_there ?c_law_there ?k_law_there ?a_law_deed ?l_law_deed ?c_law_deed ?k_law_deed ?a_law_looked ?l_law_looked ?c_law_looked ?k_law_looked ?a_law_values ?l_law_values ?c_law_values ?k_law_values ?a_law_apart ?l_law_apart ?c_law_apart ?k_law_apart ?a_law_others ?l_law_others ?c_law_others ?k_law_others ?a_law_twins ?l_law_twins ?c_law_twins ?k_law_twins ?a_law ?l_law ?c_law ?k_law ?z_all ?z_bool ?z_dict ?z_int ?z_isinstance ?z_len ?z_list ?z_min ?z_range ?z_sorted ?z_tuple ?e_GazeError ?e_NoBoard ?e_NoTelling ?e_Board ?pg_Board ?hd_Board ?po_Board ?sa_Board ?no_Board_eyes ?no_Board_turns ?no_Board_up ?no_Board_down ?no_Board_most ?no_Board_told ?fn_Board_init__ ?mk_Board ?kc_Board ?fn_Board_has_eye ?fn_Board_has_turn ?fn_Board_tell ?fn_Board_hush ?fn_Board_word ?fn_Board_tellings ?fn_Board_twin ?fn_Board_keeping ?fn_Board_allowing ?fn_Board_check_spot ?fn_Board_check_word ?x1_NoBoard ?x2_NoBoard ?x3_NoBoard ?x4_NoBoard ?x5_NoBoard ?x6_NoBoard ?x1_NoTelling ?x2_NoTelling ?x3_NoTelling ?x4_NoTelling ?x5_NoTelling ?x6_NoTelling ?g1_GazeError ?g2_GazeError ?g4_GazeError ?g3_NoBoard_GazeError ?g3_NoTelling_GazeError ?yis_NoBoard_NoBoard ?yis_NoBoard_NoTelling ?yis_NoTelling_NoTelling ?yis_NoTelling_NoBoard ?zEYES_AT_MOST ?zTURNS_AT_MOST
    (case e_GazeError => k_is)
    (case e_NoBoard => k_is)
    (case e_NoTelling => k_is)
    (case e_Board => k_is)
    (case a_is_crossed => k_is)
    (case l_is_crossed => k_is)
    (case c_is_crossed => k_is)
    (case k_is_crossed => k_is)
    (case a_Board_init__ => k_is)
    (case l_Board_init__ => k_is)
    (case c_Board_init__ => k_is)
    (case k_Board_init__ => k_is)
    (case a_Board_has_eye => k_is)
    (case l_Board_has_eye => k_is)
    (case c_Board_has_eye => k_is)
    (case k_Board_has_eye => k_is)
    (case a_Board_has_turn => k_is)
    (case l_Board_has_turn => k_is)
    (case c_Board_has_turn => k_is)
    (case k_Board_has_turn => k_is)
    (case a_Board_tell => k_is)
    (case l_Board_tell => k_is)
    (case c_Board_tell => k_is)
    (case k_Board_tell => k_is)
    (case a_Board_hush => k_is)
    (case l_Board_hush => k_is)
    (case c_Board_hush => k_is)
    (case k_Board_hush => k_is)
    (case a_Board_word => k_is)
    (case l_Board_word => k_is)
    (case c_Board_word => k_is)
    (case k_Board_word => k_is)
    (case a_Board_tellings => k_is)
    (case l_Board_tellings => k_is)
    (case c_Board_tellings => k_is)
    (case k_Board_tellings => k_is)
    (case a_Board_twin => k_is)
    (case l_Board_twin => k_is)
    (case c_Board_twin => k_is)
    (case k_Board_twin => k_is)
    (case a_Board_keeping => k_is)
    (case l_Board_keeping => k_is)
    (case c_Board_keeping => k_is)
    (case k_Board_keeping => k_is)
    (case a_Board_allowing => k_is)
    (case l_Board_allowing => k_is)
    (case c_Board_allowing => k_is)
    (case k_Board_allowing => k_is)
    (case a_Board_check_spot => k_is)
    (case l_Board_check_spot => k_is)
    (case c_Board_check_spot => k_is)
    (case k_Board_check_spot => k_is)
    (case a_Board_check_word => k_is)
    (case l_Board_check_word => k_is)
    (case c_Board_check_word => k_is)
    (case k_Board_check_word => k_is)
    (case a_law_cell => k_is)
    (case l_law_cell => k_is)
    (case c_law_cell => k_is)
    (case k_law_cell => k_is)
    (case a_law_whole => k_is)
    (case l_law_whole => k_is)
    (case c_law_whole => k_is)
    (case k_law_whole => k_is)
    (case a_law_end => k_is)
    (case l_law_end => k_is)
    (case c_law_end => k_is)
    (case k_law_end => k_is)
    (case a_law_word => k_is)
    (case l_law_word => k_is)
    (case c_law_word => k_is)
    (case k_law_word => k_is)
    (case a_law_pace => k_is)
    (case l_law_pace => k_is)
    (case c_law_pace => k_is)
    (case k_law_pace => k_is)
    (case a_law_telling => k_is)
    (case l_law_telling => k_is)
    (case c_law_telling => k_is)
    (case k_law_telling => k_is)
    (case a_law_hushing => k_is)
    (case l_law_hushing => k_is)
    (case c_law_hushing => k_is)
    (case k_law_hushing => k_is)
    (case a_law_asking => k_is)
    (case l_law_asking => k_is)
    (case c_law_asking => k_is)
    (case k_law_asking => k_is)
    (case a_law_keeping => k_is)
    (case l_law_keeping => k_is)
    (case c_law_keeping => k_is)
    (case k_law_keeping => k_is)
    (case a_law_allowing => k_is)
    (case l_law_allowing => k_is)
    (case c_law_allowing => k_is)
    (case k_law_allowing => k_is)
    (case a_law_alike => k_is)
    (case l_law_alike => k_is)
    (case c_law_alike => k_is)
    (case k_law_alike => k_is)
    (case a_law_stands => k_is)
    (case l_law_stands => k_is)
    (case c_law_stands => k_is)
    (case k_law_stands => k_is)
    (case a_law_spot => k_is)
    (case l_law_spot => k_is)
    (case c_law_spot => k_is)
    (case k_law_spot => k_is)
    (case a_law_there => k_is)
    (case l_law_there => k_is)
    (case c_law_there => k_is)
    (case k_law_there => k_is)
    (case a_law_deed => k_is)
    (case l_law_deed => k_is)
    (case c_law_deed => k_is)
    (case k_law_deed => k_is)
    (case a_law_looked => k_is)
    (case l_law_looked => k_is)
    (case c_law_looked => k_is)
    (case k_law_looked => k_is)
    (case a_law_values => k_is)
    (case l_law_values => k_is)
    (case c_law_values => k_is)
    (case k_law_values => k_is)
    (case a_law_apart => k_is)
    (case l_law_apart => k_is)
    (case c_law_apart => k_is)
    (case k_law_apart => k_is)
    (case a_law_others => k_is)
    (case l_law_others => k_is)
    (case c_law_others => k_is)
    (case k_law_others => k_is)
    (case a_law_twins => k_is)
    (case l_law_twins => k_is)
    (case c_law_twins => k_is)
    (case k_law_twins => k_is)
    (case a_law => k_is)
    (case l_law => k_is)
    (case c_law => k_is)
    (case k_law => k_is)
    (case z_all => k_is)
    (case z_bool => k_is)
    (case z_dict => k_is)
    (case z_int => k_is)
    (case z_isinstance => k_is)
    (case z_len => k_is)
    (case z_list => k_is)
    (case z_min => k_is)
    (case z_range => k_is)
    (case z_sorted => k_is)
    (case z_tuple => k_is)
    (case pg_Board => k_is)
    (case hd_Board => k_is)
    (case po_Board => k_is)
    (case sa_Board => k_is)
    (case no_Board_eyes => k_is)
    (case no_Board_turns => k_is)
    (case no_Board_up => k_is)
    (case no_Board_down => k_is)
    (case no_Board_most => k_is)
    (case no_Board_told => k_is)
    (case fn_Board_init__ => k_is)
    (case mk_Board => k_is)
    (case kc_Board => k_is)
    (case fn_Board_has_eye => k_is)
    (case fn_Board_has_turn => k_is)
    (case fn_Board_tell => k_is)
    (case fn_Board_hush => k_is)
    (case fn_Board_word => k_is)
    (case fn_Board_tellings => k_is)
    (case fn_Board_twin => k_is)
    (case fn_Board_keeping => k_is)
    (case fn_Board_allowing => k_is)
    (case fn_Board_check_spot => k_is)
    (case fn_Board_check_word => k_is)
    (case x1_NoBoard => k_exc)
    (case x2_NoBoard => k_is)
    (case x3_NoBoard => k_is)
    (case x4_NoBoard => k_is)
    (case x5_NoBoard => k_is)
    (case x6_NoBoard => k_is)
    (case x1_NoTelling => k_exc)
    (case x2_NoTelling => k_is)
    (case x3_NoTelling => k_is)
    (case x4_NoTelling => k_is)
    (case x5_NoTelling => k_is)
    (case x6_NoTelling => k_is)
    (case g1_GazeError => k_is)
    (case g2_GazeError => k_is)
    (case g4_GazeError => k_is)
    (case g3_NoBoard_GazeError => k_is)
    (case g3_NoTelling_GazeError => k_is)
    (case yis_NoBoard_NoBoard => kit_is)
    (case yis_NoBoard_NoTelling => kit_is)
    (case yis_NoTelling_NoTelling => kit_is)
    (case yis_NoTelling_NoBoard => kit_is)
    (case zEYES_AT_MOST => k_is)
    (case zTURNS_AT_MOST => k_is)
#print axioms PySem.Challenge.cw_gaze_k17_deeds_on_a_board_holds
