import PyProof.Rows.All
import Wide.All
import OpenK.AllK
import Wide.FinOn
import Lean
import PyProof.EqAt
import PyProof.EqKinds
import PyProof.TupleCall
import PyProof.ExcArgs
import PySem.Challenge.RW_stairrows_k17_slides_refused
namespace L2
theorem om1 {a b c : Nat} (h : a ≤ b) (k : Nat.ble b c = true) : a ≤ c := Nat.le_trans h (Nat.le_of_ble_eq_true k)
theorem om2 {a b c : Nat} (h : a < b) (k : Nat.ble b c = true) : a < c := Nat.lt_of_lt_of_le h (Nat.le_of_ble_eq_true k)
theorem om3 {a b c : Nat} (h : a < b) (k : Nat.ble b c = true) : a ≤ c := Nat.le_of_lt (Nat.lt_of_lt_of_le h (Nat.le_of_ble_eq_true k))
theorem om4 {a b c : Nat} (h : a ≤ b) (k : Nat.blt b c = true) : a < c := Nat.lt_of_le_of_lt h (Nat.le_of_ble_eq_true k)
end L2
local macro_rules | `(tactic| trivial) => `(tactic| first | assumption | exact L2.om1 (by assumption) rfl | exact L2.om2 (by assumption) rfl | exact L2.om3 (by assumption) rfl | exact L2.om4 (by assumption) rfl | lia | omega)
set_option Elab.async false
set_option bootstrap.genMatcherCode false
set_option linter.all false
set_option maxRecDepth 100000
namespace L2
open PySem PySem.Spec PyProof.Rows
noncomputable abbrev Key := Sum Int Str
noncomputable def keyIs : Key → Value → Bool
  | .inl k, v => Value.isInt k v
  | .inr x, v => Value.isStrOf x v
noncomputable def keyH (w : World) : Key → Int
  | .inl k => hashInt k
  | .inr x => hashStr w x
theorem keyIs_shape : ∀ {k : Key} {v : Value}, keyIs k v = true → (∃ i t, k = Sum.inl i ∧ v = Value.int i t) ∨ (∃ x t, k = Sum.inr x ∧ v = Value.str x t)
  | .inl i, v, h => by
    obtain ⟨t, e⟩ := Value.isInt_shape (k := i) (v := v) h
    exact .inl ⟨i, t, rfl, e⟩
  | .inr x, v, h => by
    obtain ⟨t, e⟩ := Value.isStrOf_shape (x := x) (v := v) h
    exact .inr ⟨x, t, rfl, e⟩
theorem key_ll (a b : Int) : decide ((Sum.inl a : Key) = Sum.inl b) = (a == b) := by
  by_cases e : a = b
  · subst e; simp
  · have h : ¬ (Sum.inl a : Key) = Sum.inl b := fun q => e (Sum.inl.inj q)
    rw [decide_eq_false h]
    exact (beq_eq_false_iff_ne.mpr e).symm
theorem key_rr (a b : Str) : decide ((Sum.inr a : Key) = Sum.inr b) = decide (a = b) := by
  by_cases e : a = b
  · subst e; simp
  · have h : ¬ (Sum.inr a : Key) = Sum.inr b := fun q => e (Sum.inr.inj q)
    rw [decide_eq_false h, decide_eq_false e]
theorem key_lr (a : Int) (b : Str) : decide ((Sum.inl a : Key) = Sum.inr b) = false := decide_eq_false (fun q => nomatch q)
theorem key_rl (a : Str) (b : Int) : decide ((Sum.inr a : Key) = Sum.inl b) = false := decide_eq_false (fun q => nomatch q)
noncomputable def mixKind (prog : Program) (w : World) : PySem.KeyKind prog w Key where
  is := keyIs
  hash := keyH w
  inj := fun v a b ha hb => by
    rcases keyIs_shape ha with ⟨i, t, rfl, rfl⟩ | ⟨x, t, rfl, rfl⟩
    · rcases keyIs_shape hb with ⟨j, u, rfl, e⟩ | ⟨y, u, rfl, e⟩
      · injection e with e1 _; rw [e1]
      · exact nomatch e
    · rcases keyIs_shape hb with ⟨j, u, rfl, e⟩ | ⟨y, u, rfl, e⟩
      · exact nomatch e
      · injection e with e1 _; rw [e1]
  byValue := fun k v h => by
    rcases keyIs_shape h with ⟨i, t, rfl, rfl⟩ | ⟨x, t, rfl, rfl⟩ <;> rfl
  pyHash := fun hv h => by
    rcases keyIs_shape hv with ⟨i, t, rfl, rfl⟩ | ⟨x, t, rfl, rfl⟩
    · exact wpAny_pyHash_int h
    · exact wpAny_pyHash_str h
  eqBool := fun hu hv h => by
    rcases keyIs_shape hu with ⟨i, t, rfl, rfl⟩ | ⟨x, t, rfl, rfl⟩
    · rcases keyIs_shape hv with ⟨j, u, rfl, rfl⟩ | ⟨y, u, rfl, rfl⟩
      · rw [key_ll] at h; exact wpAny_eqBool_int h
      · rw [key_lr] at h; exact SeqAt.EqAt.int_str i t y u _ _ _ _ h
    · rcases keyIs_shape hv with ⟨j, u, rfl, rfl⟩ | ⟨y, u, rfl, rfl⟩
      · rw [key_rl] at h; exact SeqAt.EqAt.str_int x t j u _ _ _ _ h
      · rw [key_rr] at h; exact wpAny_eqBool_str h
  «strs» := fun k x t v h => by
    rcases keyIs_shape h with ⟨i, u, rfl, e⟩ | ⟨y, u, rfl, e⟩
    · exact nomatch e
    · injection e with e1 _
      subst e1
      cases v <;> rfl
end L2
namespace L2
open PySem PySem.Spec PyProof.Rows
inductive V where
  | non | bl (b : Bool) | int (i : Int) | str (x : Str) | byt (b : Array UInt8) | flt (b : UInt64) | ref (a : Addr) | ty (n : String)
  deriving DecidableEq
noncomputable def RelV : V → Value → Prop
  | .non, u => u = Value.none
  | .bl b, u => u = Value.bool b
  | .int i, u => ∃ t, u = Value.int i t
  | .str x, u => ∃ t, u = Value.str x t
  | .byt b, u => ∃ t, u = Value.bytes b t
  | .flt b, u => ∃ t, u = Value.float b t
  | .ref a, u => u = Value.ref a
  | .ty n, u => u = Value.type n
noncomputable abbrev Vals : List V → List Value → Prop := Paired RelV
theorem paired_get {α β : Type} {F : α → β → Prop} {xs : List α} {us : List β} (h : Paired F xs us) : ∀ {i : Nat} {x : α}, xs[i]? = some x → ∃ u, us[i]? = some u ∧ F x u := by
  induction h with
  | nil => intro i x e; exact nomatch (show (none : Option α) = some x from e)
  | cons r t ih =>
    intro i x e
    cases i with
    | zero => cases (show some _ = some x from e); exact ⟨_, rfl, r⟩
    | succ i => exact ih e
theorem paired_flip {α β : Type} {F : α → β → Prop} {xs : List α} {us : List β} (h : Paired F xs us) : Paired (fun u x => F x u) us xs := by
  induction h with
  | nil => exact .nil
  | cons r t ih => exact .cons r ih
theorem paired_app {α β : Type} {F : α → β → Prop} {xs ys : List α} {us ws : List β} (h : Paired F xs us) (s : Paired F ys ws) : Paired F (xs ++ ys) (us ++ ws) := by
  induction h with
  | nil => exact s
  | cons r t ih => exact .cons r ih
theorem paired_drop {α β : Type} {F : α → β → Prop} {xs : List α} {us : List β} (n : Nat) (h : Paired F xs us) : Paired F (xs.drop n) (us.drop n) := by
  induction h generalizing n with
  | nil => rw [List.drop_nil, List.drop_nil]; exact .nil
  | cons r t ih =>
    cases n with
    | zero => exact .cons r t
    | succ n => exact ih n
theorem paired_take {α β : Type} {F : α → β → Prop} {xs : List α} {us : List β} (n : Nat) (h : Paired F xs us) : Paired F (xs.take n) (us.take n) := by
  induction h generalizing n with
  | nil => rw [List.take_nil, List.take_nil]; exact .nil
  | cons r t ih =>
    cases n with
    | zero => exact .nil
    | succ n => exact .cons r (ih n)
theorem paired_set {α β : Type} {F : α → β → Prop} {x : α} {u : β} (r : F x u) {xs : List α} {us : List β} (i : Nat) (h : Paired F xs us) : Paired F (xs.set i x) (us.set i u) := by
  induction h generalizing i with
  | nil => exact .nil
  | cons q t ih =>
    cases i with
    | zero => exact .cons r t
    | succ i => exact .cons q (ih i)
theorem Vals.length {xs : List V} {us : List Value} (r : Vals xs us) : xs.length = us.length := Paired.length r
theorem Vals.get {xs : List V} {us : List Value} {i : Nat} {x : V} (h : Vals xs us) (e : xs[i]? = some x) : ∃ u, us[i]? = some u ∧ RelV x u := paired_get h e
theorem Vals.set {x : V} {u : Value} (r : RelV x u) {xs : List V} {us : List Value} (i : Nat) (h : Vals xs us) : Vals (xs.set i x) (us.set i u) := paired_set r i h
theorem Vals.append {xs ys : List V} {us ws : List Value} (h : Vals xs us) (s : Vals ys ws) : Vals (xs ++ ys) (us ++ ws) := paired_app h s
theorem Vals.take {xs : List V} {us : List Value} (n : Nat) (h : Vals xs us) : Vals (xs.take n) (us.take n) := paired_take n h
theorem Vals.drop {xs : List V} {us : List Value} (n : Nat) (h : Vals xs us) : Vals (xs.drop n) (us.drop n) := paired_drop n h
noncomputable def RelO : Option V → Option Value → Prop
  | some v, some u => RelV v u
  | none, none => True
  | _, _ => False
noncomputable def KV {κ : Type} : List (κ × V) → List (κ × Value) → Prop := Paired fun (p : κ × V) (q : κ × Value) => p.1 = q.1 ∧ RelV p.2 q.2
noncomputable def kV : Key → V
  | .inl i => .int i
  | .inr x => .str x
inductive HO where
    | lst (xs : List V)
    | tup (xs : List V)
    | dK (kvs : List (Key × V)) | dT (kvs : List (List Key × V))
    | set (S : Int → Bool) (n : Nat)
    | ins (C dx : Addr) (fs : List (Str × V))
    | own (x : Addr)
    | xd (fs : List (Str × V))
    | met (f x : Addr)
    | rng (lo hi : Int)
    | frz (o : Obj) (u : HO)
    | tbl (ps : Array Value)
    | ext (φ : Heap → Prop)
noncomputable abbrev Hp := Addr → Option HO
noncomputable def upd (H : Hp) (a : Addr) (o : HO) : Hp := fun b => if b = a then some o else H b
theorem upd_same {H : Hp} {a : Addr} {o : HO} : upd H a o a = some o := by unfold upd; rw [if_pos rfl]
theorem upd_ne {H : Hp} {a b : Addr} {o : HO} (h : b ≠ a) : upd H a o b = H b := by unfold upd; rw [if_neg h]
theorem upd_upd {H : Hp} {a : Addr} {o u : HO} : upd (upd H a o) a u = upd H a u := by
  funext b; unfold upd; split <;> rfl
theorem ne_of {H : Hp} {a b : Addr} {o u : HO} (h : H a = some o) (h' : H b = some u) (d : o ≠ u) : a ≠ b := by
  intro e; subst e; rw [h] at h'; exact d (Option.some.inj h')
theorem ne_of_none {H : Hp} {a b : Addr} {o : HO} (h : H a = some o) (h' : H b = none) : a ≠ b := by
  intro e; subst e; rw [h] at h'; cases h'
section
variable (P : Program) (w : World)
noncomputable def ObjOk (H : Hp) (h : Heap) (a : Addr) : HO → Prop
  | .lst xs => xs.length ≤ sizeLine ∧ ∃ (its : List Value) (n : Nat), Vals xs its ∧ h.get? a = some { cls := .type "list", data := .seq its.toArray n }
  | .tup xs => xs.length ≤ sizeLine ∧ ∃ its : List Value, Vals xs its ∧ IsTup h a its.toArray
  | .dK kvs => kvs.length ≤ sizeLine ∧ (a == sysModules) = false ∧ ∃ vs, KV kvs vs ∧ h.DictOf (mixKind P w) a vs
  | .dT kvs => kvs.length ≤ sizeLine ∧ (a == sysModules) = false ∧ ∃ xs : List (List Key × Addr × Value),
      Paired (fun (p : List Key × V) (q : List Key × Addr × Value) => p.1 = q.1 ∧ H q.2.1 = some (.tup (p.1.map kV)) ∧ RelV p.2 q.2.2) kvs xs ∧
      ∃ o es ep, h.get? a = some o ∧ o.ExactDict ∧ o.data = .dict es ep ∧ es.toList = xs.map (entryOfKey (tupleKind (mixKind P w))) ∧ (xs.map (·.1)).Nodup
  | .set S n => h.SetOf (intKind P w) a S n
  | .ins C dx fs => H dx = some (.own a) ∧ fs.length ≤ 1000 ∧ dx ≠ a ∧ h.get? a = some (PySem.W.instObj C dx) ∧
      ∃ mA, h.Ns1 dx mA ∧ (∀ f, RelO (fs.lookup f) (mA f)) ∧ PySem.Within mA (fs.map (·.1))
  | .own _ => ∃ o, h.get? a = some o
  | .xd fs => ∃ mA, h.Ns1 a mA ∧ ∀ f, RelO (fs.lookup f) (mA f)
  | .rng lo hi => ∃ t u v, h.get? a = some { cls := .type "range", data := .fields #[.int lo t, .int hi u, .int 1 v] }
  | .frz o u => h.get? a = some o ∧ ObjOk H h a u
  | .tbl ps => h.get? a = some { cls := .none, data := .fields ps }
  | .met f x => h.get? a = some (PySem.W.methodObj (.ref f) (.ref x))
  | .ext φ => φ h ∧ (∃ o, h.get? a = some o) ∧ ∀ h1 h2 : Heap, φ h1 → (∀ o, h1.get? a = some o → h2.get? a = some o) → φ h2
noncomputable def HOk (H : Hp) (h : Heap) : Prop := ∀ a o, H a = some o → ObjOk P w H h a o
end
section
variable {P : Program} {w : World} {H H' : Hp} {h h' : Heap} {a : Addr} {o : HO}
theorem ObjOk.lt (x : ObjOk P w H h a o) : a < h.objs.size := by
  cases o with
  | lst xs => obtain ⟨_, _, _, _, e⟩ := x; exact Heap.lt_size e
  | tup xs => obtain ⟨_, _, _, p⟩ := x; exact p.lt
  | dK kvs => obtain ⟨_, _, _, _, o, _, _, e, _⟩ := x; exact Heap.lt_size e
  | dT kvs => obtain ⟨_, _, _, _, o, _, _, e, _⟩ := x; exact Heap.lt_size e
  | set S n => obtain ⟨o, _, _, _, e, _⟩ := x; exact Heap.lt_size e
  | ins C dx fs => obtain ⟨_, _, _, e, _⟩ := x; exact Heap.lt_size e
  | own y => obtain ⟨_, e⟩ := x; exact Heap.lt_size e
  | xd fs => obtain ⟨_, ⟨_, _, _, e, _⟩, _⟩ := x; exact Heap.lt_size e
  | rng lo hi => obtain ⟨_, _, _, e⟩ := x; exact Heap.lt_size e
  | frz ob u => obtain ⟨e, _⟩ := x; exact Heap.lt_size e
  | tbl ps => exact Heap.lt_size (show h.get? a = some _ from x)
  | met f y => exact Heap.lt_size (show h.get? a = some _ from x)
  | ext φ => obtain ⟨_, ⟨_, e⟩, _⟩ := x; exact Heap.lt_size e
theorem Paired.mapP {α β : Type} {F G : α → β → Prop} {l₁ : List α} {l₂ : List β} (h : Paired F l₁ l₂) (f : ∀ a b, F a b → G a b) : Paired G l₁ l₂ := by
  induction h with
  | nil => exact .nil
  | cons r t ih => exact .cons (f _ _ r) ih
theorem ObjOk.stay (x : ObjOk P w H h a o) (k : ∀ b u, (b = a ∨ H b = some (.own a)) → h.get? b = some u → h'.get? b = some u)
    (ho : ∀ b, H b = some (.own a) → H' b = some (.own a)) (ht : ∀ b xs, H b = some (.tup xs) → H' b = some (.tup xs)) : ObjOk P w H' h' a o := by
  induction o with
  | lst xs => obtain ⟨z, its, n, r, e⟩ := x; exact ⟨z, its, n, r, k _ _ (.inl rfl) e⟩
  | tup xs => obtain ⟨z, its, r, ob, e, c⟩ := x; exact ⟨z, its, r, ob, k _ _ (.inl rfl) e, c⟩
  | dK kvs => obtain ⟨z, y, vs, r, ob, es, ep, e, c⟩ := x; exact ⟨z, y, vs, r, ob, es, ep, k _ _ (.inl rfl) e, c⟩
  | dT kvs =>
    obtain ⟨z, y, xs, r, ob, es, ep, e, c⟩ := x
    exact ⟨z, y, xs, Paired.mapP r fun p q z => ⟨z.1, ht _ _ z.2.1, z.2.2⟩, ob, es, ep, k _ _ (.inl rfl) e, c⟩
  | set S n => obtain ⟨ob, es, ep, t, e, c⟩ := x; exact ⟨ob, es, ep, t, k _ _ (.inl rfl) e, c⟩
  | ins C dx fs =>
    obtain ⟨d, z, ne, e, mA, ⟨od, es, ep, e2, c⟩, r⟩ := x
    exact ⟨ho _ d, z, ne, k _ _ (.inl rfl) e, mA, ⟨od, es, ep, k _ _ (.inr d) e2, c⟩, r⟩
  | own y => obtain ⟨ob, e⟩ := x; exact ⟨ob, k _ _ (.inl rfl) e⟩
  | xd fs => obtain ⟨mA, ⟨od, es, ep, e, c⟩, r⟩ := x; exact ⟨mA, ⟨od, es, ep, k _ _ (.inl rfl) e, c⟩, r⟩
  | rng lo hi => obtain ⟨t, u, v, e⟩ := x; exact ⟨t, u, v, k _ _ (.inl rfl) e⟩
  | frz ob u ih => obtain ⟨e, q⟩ := x; exact ⟨k _ _ (.inl rfl) e, ih q⟩
  | tbl ps =>
    have e : h.get? a = some { cls := .none, data := .fields ps } := x
    show h'.get? a = some { cls := .none, data := .fields ps }
    exact k a _ (.inl rfl) e
  | met f y =>
    have e : h.get? a = some (PySem.W.methodObj (.ref f) (.ref y)) := x
    show h'.get? a = some (PySem.W.methodObj (.ref f) (.ref y))
    exact k a _ (.inl rfl) e
  | ext φ => obtain ⟨p, ⟨o, e⟩, st⟩ := x; exact ⟨st _ _ p fun o q => k _ _ (.inl rfl) q, ⟨o, k _ _ (.inl rfl) e⟩, st⟩
theorem HOk.lt (x : HOk P w H h) (e : H a = some o) : a < h.objs.size := (x a o e).lt
theorem HOk.fresh (x : HOk P w H h) (e : h.objs.size ≤ a) : H a = none := by
  cases q : H a with
  | none => rfl
  | some u => exact absurd (Nat.lt_of_lt_of_le (x.lt q) e) (Nat.lt_irrefl _)
theorem HOk.kept (x : HOk P w H h) (k : ∀ b u, h.get? b = some u → h'.get? b = some u) : HOk P w H h' := fun a o e =>
  (x a o e).stay (fun b u _ q => k b u q) (fun _ q => q) fun _ _ q => q
theorem HOk.laid (x : HOk P w H h) (k : ∀ b u, h.get? b = some u → h'.get? b = some u) (hp : h.objs.size ≤ a) (new : ObjOk P w (upd H a o) h' a o) : HOk P w (upd H a o) h' := fun b u e => by
  have hn := x.fresh hp
  by_cases hb : b = a
  · subst hb; rw [upd_same] at e; cases e; exact new
  · rw [upd_ne hb] at e
    exact (x b u e).stay (fun c v _ q => k c v q) (fun c q => by rw [upd_ne (ne_of_none q hn)]; exact q) fun c xs q => by rw [upd_ne (ne_of_none q hn)]; exact q
end
noncomputable def Rd (H : Hp) (a : Addr) (u : HO) : Prop := H a = some u ∨ ∃ o, H a = some (.frz o u)
theorem Rd.ok {P : Program} {w : World} {H : Hp} {h : Heap} {a : Addr} {u : HO} (r : Rd H a u) (x : HOk P w H h) : ObjOk P w H h a u := by
  rcases r with r | ⟨o, r⟩
  · exact x a u r
  · obtain ⟨_, q⟩ := x a _ r
    exact q
noncomputable def Mut : Option HO → Prop
  | some (.lst _) => True
  | some (.dK _) => True
  | some (.dT _) => True
  | some (.set _ _) => True
  | some (.ins _ _ _) => True
  | some (.ext _) => True
  | _ => False
section
variable {P : Program} {w : World} {H : Hp} {h h' : Heap} {x e : Addr} {o' : HO}
theorem HOk.write (ok : HOk P w H h) (mu : Mut (H x)) (he : e = x ∨ H e = some (.own x)) (k : ∀ b u, b ≠ e → h.get? b = some u → h'.get? b = some u) (heo : ∃ u, h'.get? e = some u)
    (new : ObjOk P w (upd H x o') h' x o') : HOk P w (upd H x o') h' := fun b u q => by
  have nown : ∀ c y, H c = some (.own y) → c ≠ x := fun c y r z => by subst z; rw [r] at mu; exact mu
  have ntup : ∀ c xs, H c = some (.tup xs) → c ≠ x := fun c xs r z => by subst z; rw [r] at mu; exact mu
  by_cases hb : b = x
  · subst hb; rw [upd_same] at q; cases q; exact new
  · rw [upd_ne hb] at q
    by_cases hbe : b = e
    · have q' : H b = some (.own x) := by
        rcases he with z | z
        · exact absurd (hbe.trans z) hb
        · rw [hbe]; exact z
      rw [q] at q'; cases q'
      obtain ⟨v, hv⟩ := heo
      exact ⟨v, by rw [hbe]; exact hv⟩
    · refine (ok b u q).stay (fun c v hc r => k c v ?_ r) (fun c r => by rw [upd_ne (nown c b r)]; exact r) fun c xs r => by rw [upd_ne (ntup c xs r)]; exact r
      rcases hc with rfl | hc
      · exact hbe
      · rintro rfl
        rcases he with z | z
        · exact nown c b hc z
        · rw [hc] at z; cases z; exact hb rfl
end
structure Un (fs ex : List Addr) (H H' : Hp) (h h' : Heap) : Prop where
  keep : ∀ b o, h.get? b = some o → H b = none → b ∉ fs → b ∉ ex → h'.get? b = some o
  slot : ∀ b o, h.get? b = some o → H b = none → b ∈ fs → b ∉ ex → ∃ sl, h'.get? b = some { o with slots := sl }
  free : ∀ b o, h.get? b = some o → H b = none → b ∉ ex → H' b = none
  there : ∀ b o, h.get? b = some o → b ∉ ex → ∃ o', h'.get? b = some o'
  tups : ∀ b xs, H b = some (.tup xs) → H' b = some (.tup xs)
  frzs : ∀ b o u, H b = some (.frz o u) → H' b = some (.frz o u)
  tbls : ∀ b ps, H b = some (.tbl ps) → ∃ more, H' b = some (.tbl (ps ++ more))
section
variable {fs fs' ex ex' : List Addr} {H H1 H2 : Hp} {h h1 h2 h' : Heap} {a x e : Addr} {o : HO}
theorem Un.any (u : Un fs ex H H1 h h1) {b : Addr} {ob : Obj} (q : h.get? b = some ob) (n : H b = none) (hx : b ∉ ex) : ∃ sl, h1.get? b = some { ob with slots := sl } := by
  by_cases hb : b ∈ fs
  · exact u.slot b ob q n hb hx
  · exact ⟨ob.slots, u.keep b ob q n hb hx⟩
theorem Un.kept (k : ∀ b u, h.get? b = some u → h'.get? b = some u) : Un fs ex H H h h' :=
  ⟨fun b ob q _ _ _ => k b ob q, fun b ob q _ _ _ => ⟨ob.slots, k b ob q⟩, fun _ _ _ n _ => n, fun b ob q _ => ⟨ob, k b ob q⟩, fun _ _ q => q, fun _ _ _ q => q, fun _ ps q => ⟨#[], by rw [q]; simp⟩⟩
theorem Un.refl : Un fs ex H H h h := Un.kept fun _ _ q => q
theorem Un.laid (k : ∀ b u, h.get? b = some u → h'.get? b = some u) (hp : h.objs.size ≤ a) (hn : H a = none) : Un fs ex H (upd H a o) h h' where
  keep := fun b u q _ _ _ => k b u q
  slot := fun b u q _ _ _ => ⟨u.slots, k b u q⟩
  free := fun b u q n _ => by rw [upd_ne (Nat.ne_of_lt (Nat.lt_of_lt_of_le (Heap.lt_size q) hp))]; exact n
  there := fun b u q _ => ⟨u, k b u q⟩
  tups := fun b xs q => by rw [upd_ne (ne_of_none q hn)]; exact q
  frzs := fun b u xs q => by rw [upd_ne (ne_of_none q hn)]; exact q
  tbls := fun b ps q => ⟨#[], by rw [upd_ne (ne_of_none q hn), q]; simp⟩
theorem Un.write (mu : Mut (H x)) (he : e = x ∨ H e = some (.own x)) (k : ∀ b u, b ≠ e → h.get? b = some u → h'.get? b = some u) (heo : ∃ u, h'.get? e = some u) : Un fs ex H (upd H x o) h h' := by
  have hx : ∀ b, H b = none → b ≠ x := fun b n z => by subst z; rw [n] at mu; exact mu
  have hb : ∀ b, H b = none → b ≠ e := fun b n z => by
    subst z
    rcases he with r | r
    · exact hx b n r
    · rw [n] at r; cases r
  have hm : ∀ b u, H b = some u → ¬ Mut (some u) → b ≠ x := fun b u q nm z => by subst z; rw [q] at mu; exact nm mu
  refine ⟨fun b u q n _ _ => k b u (hb b n) q, fun b u q n _ _ => ⟨u.slots, k b u (hb b n) q⟩, fun b u q n _ => by rw [upd_ne (hx b n)]; exact n, fun b u q _ => ?_,
    fun b xs q => by rw [upd_ne (hm b _ q fun z => z)]; exact q, fun b u xs q => by rw [upd_ne (hm b _ q fun z => z)]; exact q, fun b ps q => ⟨#[], by rw [upd_ne (hm b _ q fun z => z), q]; simp⟩⟩
  by_cases hbe : b = e
  · subst hbe; exact heo
  · exact ⟨u, k b u hbe q⟩
end
noncomputable def trk (h : Heap) (H : Hp) : List Addr := (List.range h.objs.size).filter fun a => (H a).isSome
noncomputable def hidT (h : Heap) (H : Hp) : Heap := PySem.W.hideAll h (trk h H)
theorem hidT_size (h : Heap) (H : Hp) : (hidT h H).objs.size = h.objs.size := PySem.W.hideAll_size _ _
theorem hidT_get {h : Heap} {H : Hp} {b : Addr} {o : Obj} (e : h.get? b = some o) (n : H b = none) : (hidT h H).get? b = some o :=
  PySem.W.hideAll_get _ e fun hm => by
    have q : (H b).isSome = true := (List.mem_filter.mp hm).2
    rw [n] at q; simp at q
theorem of_hidT {h : Heap} {H : Hp} {b : Addr} {o : Obj} (e : (hidT h H).get? b = some o) : h.get? b = some o ∧ H b = none := by
  have e' : h.get? b = some o := PySem.W.of_hideAll (trk h H) e
  refine ⟨e', ?_⟩
  cases q : H b with
  | none => rfl
  | some x =>
    have hm : b ∈ trk h H := List.mem_filter.mpr ⟨List.mem_range.mpr (Heap.lt_size e'), by simp [q]⟩
    have z : (hidT h H).get? b = none := PySem.W.hideAll_none (trk h H) hm
    rw [z] at e; cases e
noncomputable def allNews (g h : Heap) (L : Addr) : List (Addr × Obj) := (List.range h.objs.size).filterMap fun a => if a = L ∨ (g.get? a).isSome = true then none else (h.get? a).map fun o => (a, o)
noncomputable def rest (g h : Heap) (L d : Addr) : List (Addr × Obj) := (allNews g h L).filter fun p => decide (p.1 ≠ d)
end L2
namespace L2
open PySem PySem.Spec PyProof.Rows
structure Mod (K : PySem.W.Frag) (mg : Str → Option Value) (base : Heap) : Prop where
  kin : K.In base
  glob : base.Ns mainGlobals mg
  blt : ∃ mb, base.Ns builtinsNs mb ∧ ∀ x : Str, x ≠ "__name__" → mb x = bootBuiltins x
  nolimit : base.NoLimit
structure Cx where
  prog : Program
  w : World
  K : PySem.W.Frag
  mg : Str → Option Value
  base : Heap
  A : Around
  N : List Str
  s₀ : Shared
  H₀ : Hp
  env : Env
  outer : List Env
  stack : List Env
  ex : List Addr
  fn : Str → Bool
  calm : Bool
  pn : List (Addr × Obj)
  xe : Value → Shared → Prop
noncomputable def frs (l : List Env) : List Addr := l.filterMap (·.frame)
noncomputable abbrev Cx.fs (X : Cx) : List Addr := frs X.outer
noncomputable def Vis (sc : Scope) (x : Str) : Prop := sc.names.lookup x = some .local ∨ sc.names.lookup x = some .cell ∨ sc.names.lookup x = some .free
noncomputable def Loc (sc : Scope) (x : Str) : Prop := sc.names.lookup x = some .local ∨ sc.names.lookup x = some .cell
noncomputable def Look (env : Env) (h : Heap) (m : Str → Option Value) (x : Str) (u : Value) : Prop :=
  (env.kindOf x = some .local ∧ m x = some u) ∨ ((env.kindOf x = some .cell ∨ env.kindOf x = some .free) ∧ ∃ c, env.cells.lookup x = some c ∧ h.IsCell c (some u))
structure Cx.Ok (X : Cx) : Prop where
  mod : Mod X.K X.mg X.base
  kind : X.env.scope.kind = .function
  glob : X.env.globals = mainGlobals
  blt : X.env.builtins = builtinsNs
  above : X.s₀.heap.objs.size ≤ X.env.locals
  inj : ∀ x y c, X.env.cells.lookup x = some c → X.env.cells.lookup y = some c → x = y
  has : ∀ x, (X.env.kindOf x = some .cell ∨ X.env.kindOf x = some .free) → ∃ c, X.env.cells.lookup x = some c
  cab : ∀ x c, X.fn x = true → X.env.cells.lookup x = some c → X.s₀.heap.objs.size ≤ c
  hd : X.calm = true → X.A.handled = none
  frames : X.A.frames = some X.stack
  stk : X.stack = X.outer ∨ (X.stack = X.env :: X.outer ∧ X.env.frame = some X.env.locals)
  exf : ∀ b ∈ X.ex, b ≠ X.env.locals ∧ ∀ x c, X.env.cells.lookup x = some c → c ≠ b
  bs : ∀ b o, X.base.get? b = some o → X.s₀.heap.get? b = some o ∧ X.H₀ b = none
  bsz : X.base.objs.size ≤ X.s₀.heap.objs.size
  noex : ∀ b o, X.base.get? b = some o → b ∉ X.ex
  exfs : ∀ b ∈ X.ex, b ∉ X.fs
  funs : X.s₀.heap.FunFrames X.base X.outer
  frf : ∀ b ∈ X.fs, X.H₀ b = none
structure Inv (X : Cx) (pins : List (Addr × Obj)) (σ : List (Option V)) (H : Hp) (s : Shared) : Prop where
  ok : X.Ok
  os : s.os = X.s₀.os
  bare : AllBare s.gens
  base : Un X.fs X.ex X.H₀ H X.s₀.heap s.heap
  loc : ∃ m, s.heap.Ns X.env.locals m ∧ ∀ (i : Nat) (x : Str) (v : V), X.N[i]? = some x → σ[i]? = some (some v) → Vis X.env.scope x → ∃ u, RelV v u ∧ Look X.env s.heap m x u
  cell : ∀ x c, X.env.cells.lookup x = some c → ∃ v, s.heap.IsCell c v
  free : H X.env.locals = none
  freeC : ∀ x c, X.env.cells.lookup x = some c → H c = none
  pin : ∀ p ∈ X.pn ++ pins, s.heap.get? p.1 = some p.2 ∧ H p.1 = none ∧ p.1 ≠ X.env.locals ∧ p.1 ∉ X.fs ∧ ∀ v, p.2.data ≠ .cell v
  hok : HOk X.prog X.w H s.heap
  len : σ.length = X.N.length
section
variable {X : Cx} {pins : List (Addr × Obj)} {σ : List (Option V)} {H H' : Hp} {s : Shared} {h' : Heap}
theorem Cx.Ok.nofr (ok : X.Ok) {b : Addr} {o : Obj} (e : X.base.get? b = some o) : b ∉ X.fs := fun hb => by
  have := (ok.funs.mem hb).1
  rw [e] at this; cases this
theorem Inv.bs (I : Inv X pins σ H s) : ∀ b o, X.base.get? b = some o → s.heap.get? b = some o ∧ H b = none := fun b o e =>
  ⟨I.base.keep b o (I.ok.bs b o e).1 (I.ok.bs b o e).2 (I.ok.nofr e) (I.ok.noex b o e), I.base.free b o (I.ok.bs b o e).1 (I.ok.bs b o e).2 (I.ok.noex b o e)⟩
theorem Inv.bk (I : Inv X pins σ H s) : ∀ b o, X.base.get? b = some o → s.heap.get? b = some o := fun b o e => (I.bs b o e).1
theorem Inv.mod (I : Inv X pins σ H s) : Mod X.K X.mg X.base := I.ok.mod
theorem Inv.kIn (I : Inv X pins σ H s) : X.K.In s.heap := I.ok.mod.kin.keeps I.bk
theorem Inv.lt (I : Inv X pins σ H s) : X.env.locals < s.heap.objs.size := let ⟨_, hn, _⟩ := I.loc; hn.lt
theorem Inv.sz (I : Inv X pins σ H s) : X.s₀.heap.objs.size ≤ s.heap.objs.size := Nat.le_trans I.ok.above (Nat.le_of_lt I.lt)
theorem Inv.nofs (I : Inv X pins σ H s) {a : Addr} (h : s.heap.objs.size ≤ a) : a ∉ X.fs := fun hb => by
  obtain ⟨_, o, ho, _⟩ := I.ok.funs.mem hb
  exact absurd (Nat.lt_of_lt_of_le (Heap.lt_size ho) (Nat.le_trans I.sz h)) (Nat.lt_irrefl _)
theorem Inv.cne (I : Inv X pins σ H s) : ∀ x c, X.env.cells.lookup x = some c → c ≠ X.env.locals := fun x c e z => by
  obtain ⟨v, o, ho, hd⟩ := I.cell x c e
  obtain ⟨m, ⟨o', es, ep, ho', hd', _⟩, _⟩ := I.loc
  rw [z, ho'] at ho; cases ho; rw [hd'] at hd; cases hd
theorem Inv.funs (I : Inv X pins σ H s) : s.heap.FunFrames X.base X.outer := by
  have all : ∀ (l : List Env), (∀ b ∈ frs l, b ∈ X.fs) → X.s₀.heap.FunFrames X.base l → s.heap.FunFrames X.base l := by
    intro l
    induction l with
    | nil => intro _ _; trivial
    | cons env r ih =>
      intro hs hl
      obtain ⟨hk, ⟨L, o, hf, hn, ho, hd⟩, hr⟩ := hl
      have hL : L ∈ X.fs := hs L (by unfold frs; rw [List.filterMap_cons, hf]; exact List.mem_cons_self)
      obtain ⟨sl, e⟩ := I.base.slot L o ho (I.ok.frf L hL) hL fun z => I.ok.exfs L z hL
      exact ⟨hk, ⟨L, _, hf, hn, e, hd⟩, ih (fun b hb => hs b (by unfold frs; rw [List.filterMap_cons, hf]; exact List.mem_cons_of_mem _ hb)) hr⟩
  exact all X.outer (fun _ hb => hb) I.ok.funs
theorem Inv.stack (I : Inv X pins σ H s) : s.heap.FunFrames X.base X.stack := by
  rcases I.ok.stk with e | ⟨e, hf⟩
  · rw [e]; exact I.funs
  · rw [e]
    obtain ⟨m, hn, _⟩ := I.loc
    refine .cons (by rw [I.ok.kind]; decide) hf hn ?_ I.funs
    exact Heap.get?_none_of_le (Nat.le_trans I.ok.bsz I.ok.above)
theorem Inv.stkSub (I : Inv X pins σ H s) : ∀ b ∈ frs X.stack, b ∈ X.env.locals :: X.fs := fun b hb => by
  rcases I.ok.stk with e | ⟨e, hf⟩
  · rw [e] at hb; exact List.mem_cons_of_mem _ hb
  · rw [e] at hb
    unfold frs at hb
    rw [List.filterMap_cons, hf] at hb
    exact hb
theorem Inv.stkFree (I : Inv X pins σ H s) : ∀ b ∈ frs X.stack, H b = none := fun b hb => by
  rcases List.mem_cons.mp (I.stkSub b hb) with e | hb
  · rw [e]; exact I.free
  · obtain ⟨_, o, ho, _⟩ := I.ok.funs.mem hb
    exact I.base.free b o ho (I.ok.frf b hb) fun z => I.ok.exfs b z hb
theorem Inv.step {g' : Array GenState} {t' : Nat} {d' : Drawn} {ch : List Addr} (I : Inv X pins σ H s)
    (hch : ∀ b ∈ ch, (b ∈ X.ex ∨ X.s₀.heap.objs.size ≤ b) ∧ b ≠ X.env.locals ∧ (∀ x c, X.env.cells.lookup x = some c → c ≠ b) ∧ ∀ p ∈ X.pn ++ pins, p.1 ≠ b)
    (keep : ∀ b o, b ≠ X.env.locals → b ∉ X.fs → b ∉ ch → s.heap.get? b = some o → H b = none → h'.get? b = some o)
    (slot : ∀ b o, b ≠ X.env.locals → b ∈ X.fs → b ∉ ch → s.heap.get? b = some o → H b = none → ∃ sl, h'.get? b = some { o with slots := sl }) (free : ∀ b o, b ∉ ch → s.heap.get? b = some o → H b = none → H' b = none)
    (there : ∀ b o, b ∉ ch → s.heap.get? b = some o → ∃ o', h'.get? b = some o')
    (tups : ∀ b xs, H b = some (.tup xs) → H' b = some (.tup xs)) (frzs : ∀ b o u, H b = some (.frz o u) → H' b = some (.frz o u)) (tbls : ∀ b ps, H b = some (.tbl ps) → ∃ more, H' b = some (.tbl (ps ++ more)))
    (ns : ∀ m, s.heap.Ns X.env.locals m → h'.Ns X.env.locals m) (hok : HOk X.prog X.w H' h') (hg : AllBare g') :
    Inv X pins σ H' { s with heap := h', gens := g', drawn := d', toks := t' } := by
  have neL : ∀ b o, X.s₀.heap.get? b = some o → b ≠ X.env.locals := fun b o e => Nat.ne_of_lt (Nat.lt_of_lt_of_le (Heap.lt_size e) I.ok.above)
  have neC : ∀ b o, X.s₀.heap.get? b = some o → b ∉ X.ex → b ∉ ch := fun b o e hx hb => by
    rcases (hch b hb).1 with z | z
    · exact hx z
    · exact absurd (Nat.lt_of_lt_of_le (Heap.lt_size e) z) (Nat.lt_irrefl _)
  have cellK : ∀ x c, X.env.cells.lookup x = some c → ∀ v, s.heap.IsCell c v → h'.IsCell c v := fun x c e v ⟨o, ho, hd⟩ => by
    have nch : c ∉ ch := fun z => (hch c z).2.2.1 x c e rfl
    by_cases hc : c ∈ X.fs
    · obtain ⟨sl, q⟩ := slot c o (I.cne x c e) hc nch ho (I.freeC x c e)
      exact ⟨_, q, hd⟩
    · exact ⟨o, keep c o (I.cne x c e) hc nch ho (I.freeC x c e), hd⟩
  refine ⟨I.ok, I.os, hg, ⟨fun b o e n hb hx => ?_, fun b o e n hb hx => ?_, fun b o e n hx => ?_, fun b o e hx => ?_, fun b xs e => tups b xs (I.base.tups b xs e), fun b o xs e => frzs b o xs (I.base.frzs b o xs e), fun b ps e => ?_⟩, ?_, fun x c e => ?_, ?_, fun x c e => ?_, fun p hp => ?_, hok, I.len⟩
  · exact keep b o (neL b o e) hb (neC b o e hx) (I.base.keep b o e n hb hx) (I.base.free b o e n hx)
  · obtain ⟨sl, e1⟩ := I.base.slot b o e n hb hx
    obtain ⟨sl', e2⟩ := slot b _ (neL b o e) hb (neC b o e hx) e1 (I.base.free b o e n hx)
    exact ⟨sl', e2⟩
  · obtain ⟨o', e1⟩ := I.base.there b o e hx
    exact free b o' (neC b o e hx) e1 (I.base.free b o e n hx)
  · obtain ⟨o', e1⟩ := I.base.there b o e hx
    exact there b o' (neC b o e hx) e1
  · obtain ⟨m1, e1⟩ := I.base.tbls b ps e
    obtain ⟨m2, e2⟩ := tbls b _ e1
    exact ⟨m1 ++ m2, by rw [e2, Array.append_assoc]⟩
  · obtain ⟨m, hn, hl⟩ := I.loc
    refine ⟨m, ns m hn, fun i x v e1 e2 e3 => ?_⟩
    obtain ⟨u, r, l⟩ := hl i x v e1 e2 e3
    refine ⟨u, r, ?_⟩
    rcases l with l | ⟨k, c, e, z⟩
    · exact .inl l
    · exact .inr ⟨k, c, e, cellK x c e _ z⟩
  · obtain ⟨v, z⟩ := I.cell x c e
    exact ⟨v, cellK x c e v z⟩
  · obtain ⟨m, ⟨o, _, _, ho, _⟩, _⟩ := I.loc
    exact free _ o (fun z => (hch _ z).2.1 rfl) ho I.free
  · obtain ⟨v, o, ho, hd⟩ := I.cell x c e
    exact free c o (fun z => (hch c z).2.2.1 x c e rfl) ho (I.freeC x c e)
  · obtain ⟨e, n, ne, nf, d⟩ := I.pin p hp
    have nch : p.1 ∉ ch := fun z => (hch p.1 z).2.2.2 p hp rfl
    exact ⟨keep p.1 p.2 ne nf nch e n, free p.1 p.2 nch e n, ne, nf, d⟩
theorem Inv.un {t' : Nat} (I : Inv X pins σ H s) (u : Un X.fs [] H H' s.heap h') (hok : HOk X.prog X.w H' h') : Inv X pins σ H' { s with heap := h', toks := t' } := by
  obtain ⟨m, ⟨o, es, ep, ho, r⟩, _⟩ := id I.loc
  obtain ⟨sl, hL⟩ := u.any ho I.free (by simp)
  exact I.step (g' := s.gens) (d' := s.drawn) (ch := []) (fun _ z => nomatch z) (fun b o _ hb _ e n => u.keep b o e n hb (by simp)) (fun b o _ hb _ e n => u.slot b o e n hb (by simp)) (fun b o _ e n => u.free b o e n (by simp)) (fun b o _ e => u.there b o e (by simp)) u.tups u.frzs u.tbls (fun m' hm => by
    obtain ⟨o', es', ep', ho', r'⟩ := hm
    rw [ho] at ho'; cases ho'
    exact ⟨_, es', ep', hL, r'⟩) hok I.bare
theorem Inv.call {g' : Array GenState} {t' : Nat} {d' : Drawn} {ch : List Addr} (I : Inv X pins σ H s) (u : Un (frs X.stack) ch H H' s.heap h') (hok : HOk X.prog X.w H' h') (hg : AllBare g')
    (hch : ∀ b ∈ ch, (b ∈ X.ex ∨ X.s₀.heap.objs.size ≤ b) ∧ b ≠ X.env.locals ∧ (∀ x c, X.env.cells.lookup x = some c → c ≠ b) ∧ ∀ p ∈ X.pn ++ pins, p.1 ≠ b) :
    Inv X pins σ H' { s with heap := h', gens := g', drawn := d', toks := t' } := by
  obtain ⟨m, ⟨o, es, ep, ho, r⟩, _⟩ := id I.loc
  obtain ⟨sl, hL⟩ := u.any ho I.free fun z => (hch _ z).2.1 rfl
  exact I.step (ch := ch) hch (fun b o hL hb hc e n => u.keep b o e n (fun z => (List.mem_cons.mp (I.stkSub b z)).elim hL hb) hc) (fun b o _ _ hc e n => u.any e n hc) (fun b o hc e n => u.free b o e n hc) (fun b o hc e => u.there b o e hc) u.tups u.frzs u.tbls (fun m' hm => by
    obtain ⟨o', es', ep', ho', r'⟩ := hm
    rw [ho] at ho'; cases ho'
    exact ⟨_, es', ep', hL, r'⟩) hok hg
theorem Inv.turned {t' : Nat} {it : Addr} (I : Inv X pins σ H s) (k : ∀ b o, b ≠ it → s.heap.get? b = some o → h'.get? b = some o) (hn : H it = none) (hL : it ≠ X.env.locals)
    (h1 : it ∈ X.ex ∨ X.s₀.heap.objs.size ≤ it) (h2 : ∀ x c, X.env.cells.lookup x = some c → c ≠ it) (h3 : ∀ p ∈ X.pn ++ pins, p.1 ≠ it) : Inv X pins σ H { s with heap := h', toks := t' } := by
  have nit : ∀ b u, H b = some u → b ≠ it := fun b u e z => by rw [z, hn] at e; cases e
  refine I.step (g' := s.gens) (d' := s.drawn) (ch := [it]) (fun b hb => ?_) (fun b o _ _ hc e _ => k b o (fun z => hc (by simp [z])) e) (fun b o _ _ hc e _ => ⟨o.slots, k b o (fun z => hc (by simp [z])) e⟩) (fun _ _ _ _ n => n)
    (fun b o hc e => ⟨o, k b o (fun z => hc (by simp [z])) e⟩) (fun _ _ e => e) (fun _ _ _ e => e) (fun b ps e => ⟨#[], by rw [e]; simp⟩) (fun m hm => ?_) (fun b u e => ?_) I.bare
  · have e : b = it := by simpa using hb
    subst e
    exact ⟨h1, hL, h2, h3⟩
  · obtain ⟨o, es, ep, ho, r⟩ := hm
    exact ⟨o, es, ep, k _ o (Ne.symm hL) ho, r⟩
  · refine (I.hok b u e).stay (fun c v hc q => k c v ?_ q) (fun _ q => q) fun _ _ q => q
    rcases hc with z | z
    · rw [z]; exact nit b u e
    · exact nit c _ z
theorem Inv.tok (I : Inv X pins σ H s) (t : Nat) : Inv X pins σ H { s with toks := t } := I.un (h' := s.heap) (t' := t) Un.refl I.hok
theorem Inv.kept {t' : Nat} (I : Inv X pins σ H s) (k : ∀ b u, s.heap.get? b = some u → h'.get? b = some u) : Inv X pins σ H { s with heap := h', toks := t' } := I.un (Un.kept k) (I.hok.kept k)
theorem Inv.laid {a : Addr} {o : HO} {t' : Nat} (I : Inv X pins σ H s) (k : ∀ b u, s.heap.get? b = some u → h'.get? b = some u) (hp : s.heap.objs.size ≤ a) (new : ObjOk X.prog X.w (upd H a o) h' a o) :
    Inv X pins σ (upd H a o) { s with heap := h', toks := t' } := I.un (Un.laid k hp (I.hok.fresh hp)) (I.hok.laid k hp new)
theorem Inv.write {x e : Addr} {o : HO} {t' : Nat} (I : Inv X pins σ H s) (mu : Mut (H x)) (he : e = x ∨ H e = some (.own x)) (k : ∀ b u, b ≠ e → s.heap.get? b = some u → h'.get? b = some u) (heo : ∃ u, h'.get? e = some u)
    (new : ObjOk X.prog X.w (upd H x o) h' x o) : Inv X pins σ (upd H x o) { s with heap := h', toks := t' } := I.un (Un.write mu he k heo) (I.hok.write mu he k heo new)
theorem Inv.pins_of {pins' : List (Addr × Obj)} (I : Inv X pins σ H s) (h : ∀ p ∈ pins', s.heap.get? p.1 = some p.2 ∧ H p.1 = none ∧ p.1 ≠ X.env.locals ∧ p.1 ∉ X.fs ∧ ∀ v, p.2.data ≠ .cell v) : Inv X pins' σ H s :=
  ⟨I.ok, I.os, I.bare, I.base, I.loc, I.cell, I.free, I.freeC, fun p hp => (List.mem_append.mp hp).elim (fun z => I.pin p (List.mem_append_left _ z)) (h p), I.hok, I.len⟩
theorem nodup_ix {N : List Str} (hN : N.Nodup) {i j : Nat} {x : Str} (a : N[i]? = some x) (b : N[j]? = some x) : i = j := by
  obtain ⟨h1, e1⟩ := List.getElem?_eq_some_iff.mp a
  obtain ⟨h2, e2⟩ := List.getElem?_eq_some_iff.mp b
  exact (List.getElem_inj hN).mp (e1.trans e2.symm)
theorem store_ok2 {M : Model} {A : Around} {E : Value → Shared → Prop} {i : Nat} {x : Str} {v : V} {u : Value} {Q : Unit → Shared → Prop} (I : Inv X pins σ H s) (hN : X.N.Nodup) (hi : X.N[i]? = some x) (hx : Loc X.env.scope x) (r : RelV v u)
    (h : ∀ s', Inv X pins (σ.set i (some v)) H s' → (∃ a, Heap.SameBut a s.heap s'.heap ∧ (a = X.env.locals ∨ X.env.cells.lookup x = some a)) → Q () s') (hf : X.fn x = true ∨ X.env.scope.names.lookup x = some .local := by first | exact .inl rfl | exact .inr rfl | assumption) : wpAny M A (storeName X.env x u) Q E s := by
  obtain ⟨m, hn, hl⟩ := id I.loc
  have hcls : (X.env.scope.kind == .class || (X.env.scope.kind == .module && X.env.locals != X.env.globals)) = false := by rw [I.ok.kind]; rfl
  have hiσ : i < σ.length := by rw [I.len]; exact (List.getElem?_eq_some_iff.mp hi).1
  have cne := I.cne
  have tracked : ∀ {a : Addr} {h' : Heap}, (∃ o, s.heap.get? a = some o ∧ H a = none) → Heap.SameBut a s.heap h' → HOk X.prog X.w H h' := fun {a h'} ha hs b ob e => by
    obtain ⟨_, _, hfree⟩ := ha
    refine (I.hok b ob e).stay (fun c w' hc q => (hs.2 c ?_).trans q) (fun _ q => q) fun _ _ q => q
    rintro rfl
    rcases hc with rfl | hc
    · rw [hfree] at e; cases e
    · rw [hfree] at hc; cases hc
  rcases hx with hk | hk
  · refine wpAny_storeName_local hk hn (fun h' hn' hs => ?_) hcls
    obtain ⟨oL, _, _, hoL, _⟩ := id hn
    refine h _ ⟨I.ok, I.os, I.bare, ⟨fun b o e n hb hx => ?_, fun b o e n hb hx => ?_, I.base.free, fun b o e hx => ?_, I.base.tups, I.base.frzs, I.base.tbls⟩, ⟨_, hn', fun j y v' e1 e2 e3 => ?_⟩, fun y c e => ?_, I.free, I.freeC, fun p hp => ?_, tracked ⟨oL, hoL, I.free⟩ hs, by simpa using I.len⟩ ⟨_, hs, .inl rfl⟩
    · exact (hs.2 b (Nat.ne_of_lt (Nat.lt_of_lt_of_le (Heap.lt_size e) I.ok.above))).trans (I.base.keep b o e n hb hx)
    · obtain ⟨sl, e1⟩ := I.base.slot b o e n hb hx
      exact ⟨sl, (hs.2 b (Nat.ne_of_lt (Nat.lt_of_lt_of_le (Heap.lt_size e) I.ok.above))).trans e1⟩
    · obtain ⟨o', e1⟩ := I.base.there b o e hx
      exact ⟨o', (hs.2 b (Nat.ne_of_lt (Nat.lt_of_lt_of_le (Heap.lt_size e) I.ok.above))).trans e1⟩
    · by_cases hj : j = i
      · subst hj
        rw [hi] at e1; cases e1
        rw [List.getElem?_set_self hiσ] at e2
        cases e2
        exact ⟨u, r, .inl ⟨hk, by simp⟩⟩
      · rw [List.getElem?_set_ne (Ne.symm hj)] at e2
        obtain ⟨u', r', q⟩ := hl j y v' e1 e2 e3
        refine ⟨u', r', ?_⟩
        rcases q with ⟨k, e⟩ | ⟨k, c, e, z⟩
        · refine .inl ⟨k, ?_⟩
          have : y ≠ x := fun e => hj (nodup_ix hN e1 (e ▸ hi))
          simp [this, e]
        · exact .inr ⟨k, c, e, z.sameBut hs (cne y c e)⟩
    · obtain ⟨w', z⟩ := I.cell y c e
      exact ⟨w', z.sameBut hs (cne y c e)⟩
    · obtain ⟨e, n, ne, nf, d⟩ := I.pin p hp
      exact ⟨(hs.2 p.1 ne).trans e, n, ne, nf, d⟩
  · have hfn : X.fn x = true := by
      rcases hf with z | z
      · exact z
      · rw [z] at hk; cases hk
    obtain ⟨c, hc⟩ := I.ok.has x (.inl hk)
    obtain ⟨w', z⟩ := I.cell x c hc
    refine wpAny_storeName_cell I.ok.kind hk hc z (fun h' hc' hs => ?_)
    obtain ⟨oc, hoc, hocd⟩ := id z
    refine h { s with heap := h' } ⟨I.ok, I.os, I.bare, ⟨fun b o e n hb hx => ?_, fun b o e n hb hx => ?_, I.base.free, fun b o e hx => ?_, I.base.tups, I.base.frzs, I.base.tbls⟩, ⟨m, hn.sameBut hs (Ne.symm (cne x c hc)), fun j y v' e1 e2 e3 => ?_⟩, fun y c' e => ?_, I.free, I.freeC, fun p hp => ?_, tracked ⟨oc, hoc, I.freeC x c hc⟩ hs, by simpa using I.len⟩ ⟨c, hs, .inr hc⟩
    · exact (hs.2 b (Nat.ne_of_lt (Nat.lt_of_lt_of_le (Heap.lt_size e) (I.ok.cab x c hfn hc)))).trans (I.base.keep b o e n hb hx)
    · obtain ⟨sl, e1⟩ := I.base.slot b o e n hb hx
      exact ⟨sl, (hs.2 b (Nat.ne_of_lt (Nat.lt_of_lt_of_le (Heap.lt_size e) (I.ok.cab x c hfn hc)))).trans e1⟩
    · obtain ⟨o', e1⟩ := I.base.there b o e hx
      exact ⟨o', (hs.2 b (Nat.ne_of_lt (Nat.lt_of_lt_of_le (Heap.lt_size e) (I.ok.cab x c hfn hc)))).trans e1⟩
    · by_cases hj : j = i
      · subst hj
        rw [hi] at e1; cases e1
        rw [List.getElem?_set_self hiσ] at e2
        cases e2
        exact ⟨u, r, .inr ⟨.inl hk, c, hc, hc'⟩⟩
      · rw [List.getElem?_set_ne (Ne.symm hj)] at e2
        obtain ⟨u', r', q⟩ := hl j y v' e1 e2 e3
        refine ⟨u', r', ?_⟩
        rcases q with q | ⟨k, c', e, z'⟩
        · exact .inl q
        · refine .inr ⟨k, c', e, z'.sameBut hs ?_⟩
          rintro rfl
          exact hj (nodup_ix hN e1 (I.ok.inj _ _ _ e hc ▸ hi))
    · by_cases hcc : c' = c
      · subst hcc; exact ⟨_, hc'⟩
      · obtain ⟨w2, z2⟩ := I.cell y c' e
        exact ⟨w2, z2.sameBut hs hcc⟩
    · obtain ⟨e, n, ne, nf, d⟩ := I.pin p hp
      refine ⟨(hs.2 p.1 ?_).trans e, n, ne, nf, d⟩
      intro q
      rw [q, hoc] at e
      have q' : oc = p.2 := Option.some.inj e
      exact d w' (by rw [← q']; exact hocd)
theorem store_ok {M : Model} {A : Around} {E : Value → Shared → Prop} {i : Nat} {x : Str} {v : V} {u : Value} {Q : Unit → Shared → Prop} (I : Inv X pins σ H s) (hN : X.N.Nodup) (hi : X.N[i]? = some x) (hx : Loc X.env.scope x) (r : RelV v u)
    (h : ∀ s', Inv X pins (σ.set i (some v)) H s' → Q () s') (hf : X.fn x = true ∨ X.env.scope.names.lookup x = some .local := by first | exact .inl rfl | exact .inr rfl | assumption) : wpAny M A (storeName X.env x u) Q E s :=
  store_ok2 I hN hi hx r (fun s' I' _ => h s' I') hf
theorem Inv.call' {s' : Shared} {ch : List Addr} (I : Inv X pins σ H s) (ho : s'.os = s.os) (u : Un (frs X.stack) ch H H' s.heap s'.heap) (hok : HOk X.prog X.w H' s'.heap) (hg : AllBare s'.gens)
    (hch : ∀ b ∈ ch, (b ∈ X.ex ∨ X.s₀.heap.objs.size ≤ b) ∧ b ≠ X.env.locals ∧ (∀ x c, X.env.cells.lookup x = some c → c ≠ b) ∧ ∀ p ∈ X.pn ++ pins, p.1 ≠ b) : Inv X pins σ H' s' := by
  obtain ⟨h', g', d', t', o'⟩ := s'
  have e : o' = s.os := ho
  subst e
  exact I.call (g' := g') (t' := t') (d' := d') u hok hg hch
end
noncomputable abbrev XK := Value → Option Addr → Hp → Prop
noncomputable abbrev St := List (Option V)
noncomputable abbrev VK := V → Hp → Prop
noncomputable abbrev TE := St → Hp → VK → Prop
noncomputable abbrev TT := St → Hp → (Bool → Hp → Prop) → Prop
noncomputable abbrev TA := St → Hp → (List V → Hp → Prop) → Prop
structure Ends where
  nx : St → Hp → Prop
  rt : VK
  bk : St → Hp → Prop := fun _ _ => False
  ct : St → Hp → Prop := fun _ _ => False
noncomputable abbrev TS := Ends → St → Hp → Prop
noncomputable def EP (X : Cx) (pins : List (Addr × Obj)) (σ : St) (Q : VK) (u : Value) (s' : Shared) : Prop := ∃ v H', Inv X pins σ H' s' ∧ RelV v u ∧ Q v H'
noncomputable def TP (X : Cx) (pins : List (Addr × Obj)) (σ : St) (Q : Bool → Hp → Prop) (b : Bool) (s' : Shared) : Prop := ∃ H', Inv X pins σ H' s' ∧ Q b H'
noncomputable def AP (X : Cx) (pins : List (Addr × Obj)) (σ : St) (Q : List V → Hp → Prop) (us : List Value) (s' : Shared) : Prop := ∃ vs H', Inv X pins σ H' s' ∧ Vals vs us ∧ Q vs H'
noncomputable def SP (X : Cx) (pins : List (Addr × Obj)) (D : Ends) (f : Flow) (s' : Shared) : Prop :=
  match f with
  | .next => ∃ σ' H', Inv X pins σ' H' s' ∧ D.nx σ' H'
  | .brk => ∃ σ' H', Inv X pins σ' H' s' ∧ D.bk σ' H'
  | .cont => ∃ σ' H', Inv X pins σ' H' s' ∧ D.ct σ' H'
  | .ret u => ∃ v σ' H', Inv X pins σ' H' s' ∧ RelV v u ∧ D.rt v H'
noncomputable def PE (X : Cx) (e : Expr) (t : TE) : Prop :=
  ∀ (pins : List (Addr × Obj)) (s : Shared) (σ : St) (H : Hp) (Q : VK), Inv X pins σ H s → t σ H Q → wpAny (model X.prog X.w) X.A (eval e X.env) (EP X pins σ Q) X.xe s
noncomputable def PT (X : Cx) (e : Expr) (t : TT) : Prop :=
  ∀ (pins : List (Addr × Obj)) (s : Shared) (σ : St) (H : Hp) (Q : Bool → Hp → Prop), Inv X pins σ H s → t σ H Q → wpAny (model X.prog X.w) X.A (isTrue e X.env (eval e X.env)) (TP X pins σ Q) X.xe s
noncomputable def PW (X : Cx) (e : Expr) (t : TT) : Prop :=
  ∀ (whole : Sem Value) (pins : List (Addr × Obj)) (s : Shared) (σ : St) (H : Hp) (Q : Bool → Hp → Prop), Inv X pins σ H s → t σ H Q → wpAny (model X.prog X.w) X.A (isTrue e X.env whole) (TP X pins σ Q) X.xe s
theorem PW.pt {X : Cx} {e : Expr} {t : TT} (h : PW X e t) : PT X e t := h _
noncomputable def PA (X : Cx) (es : List Expr) (t : TA) : Prop :=
  ∀ (pos : Pos) (pins : List (Addr × Obj)) (s : Shared) (σ : St) (H : Hp) (Q : List V → Hp → Prop), Inv X pins σ H s → t σ H Q → wpAny (model X.prog X.w) X.A (spliced (backTo pos (starEach es X.env))) (AP X pins σ Q) X.xe s
noncomputable def PS (X : Cx) (st : Stmt) (t : TS) : Prop :=
  ∀ (pins : List (Addr × Obj)) (s : Shared) (σ : St) (H : Hp) (D : Ends), Inv X pins σ H s → t D σ H → wpAny (model X.prog X.w) X.A (exec st X.env) (SP X pins D) X.xe s
noncomputable def PSs (X : Cx) (st : List Stmt) (t : TS) : Prop :=
  ∀ (pins : List (Addr × Obj)) (s : Shared) (σ : St) (H : Hp) (D : Ends), Inv X pins σ H s → t D σ H → wpAny (model X.prog X.w) X.A (execs st X.env) (SP X pins D) X.xe s
theorem thn {α : Type} {t : Sem α} {Q Q' : α → Shared → Prop} {M : Model} {A : Around} {E : Value → Shared → Prop} {s : Shared} (h : wpAny M A t Q E s) (hQ : ∀ a s, Q a s → Q' a s) : wpAny M A t Q' E s := wpAny_mono h hQ fun _ _ x => x
end L2
namespace L2
open PySem PySem.Spec PyProof.Rows
section
variable {X : Cx}
noncomputable def tVar (i : Nat) : TE := fun σ H Q => ∃ v, σ[i]? = some (some v) ∧ Q v H
noncomputable def tC (v : V) : TE := fun _ H Q => Q v H
theorem pe_var {i : Nat} {x : Str} {pos : Pos} (hN : X.N[i]? = some x) (hv : Vis X.env.scope x) (hd : (x == ("__debug__" : Str)) = false := by decide) (hcd : (x == ("__classdict__" : Str)) = false := by decide) : PE X (.Name x pos) (tVar i) := by
  intro pins s σ H Q I h
  obtain ⟨v, e, h⟩ := h
  obtain ⟨m, hn, hl⟩ := I.loc
  obtain ⟨u, r, l⟩ := hl i x v hN e hv
  have fin : EP X pins σ Q u s := ⟨v, H, I, r, h⟩
  rcases l with ⟨hk, hm⟩ | ⟨hk, c, hc, hcell⟩
  · exact wpAny_Name (wpAny_loadName_local I.ok.kind hk hn hm fin) hd
  · rcases hk with hk | hk
    · exact wpAny_Name (wpAny_loadName_cell I.ok.kind hk hc hcell fin) hd
    · exact wpAny_Name (wpAny_loadName_free I.ok.kind hk hc hcell fin hcd) hd
theorem pe_int {i j pos} : PE X (.Constant (.int i) j pos) (tC (.int i)) := fun _ _ _ H _ I h => wpAny_Constant_int ⟨.int i, H, I.tok _, ⟨_, rfl⟩, h⟩
theorem pe_bl {b j pos} : PE X (.Constant (.bool b) j pos) (tC (.bl b)) := fun _ _ _ H _ I h => Constant_bool ⟨.bl b, H, I, rfl, h⟩
theorem pe_non {j pos} : PE X (.Constant .none j pos) (tC .non) := fun _ _ _ H _ I h => Constant_none ⟨.non, H, I, rfl, h⟩
theorem pe_str {x j pos} : PE X (.Constant (.str x) j pos) (tC (.str x)) := fun _ _ _ H _ I h => Calls.Constant_str ⟨.str x, H, I.tok _, ⟨_, rfl⟩, h⟩
noncomputable def Gl (X : Cx) (x : Str) : Prop := X.env.kindOf x = some .globalImplicit
theorem ld_glob {E : Value → Shared → Prop} {pins : List (Addr × Obj)} {s : Shared} {σ : St} {H : Hp} {x : Str} {u : Value} {pos : Pos} {Q : Value → Shared → Prop} (I : Inv X pins σ H s) (hg : Gl X x) (hm : X.mg x = some u) (h : Q u s)
    (hd : (x == ("__debug__" : Str)) = false := by decide) : wpAny (model X.prog X.w) X.A (eval (.Name x pos) X.env) Q E s :=
  Calls.Name_function_global I.ok.kind hg (Calls.loadGlobal_global (by rw [I.ok.glob]; exact I.mod.glob.keeps I.bk) hm h) hd
theorem ld_blt {E : Value → Shared → Prop} {pins : List (Addr × Obj)} {s : Shared} {σ : St} {H : Hp} {x : Str} {u : Value} {pos : Pos} {Q : Value → Shared → Prop} (I : Inv X pins σ H s) (hg : Gl X x) (hm : X.mg x = none) (hv : bootBuiltins x = some u) (h : Q u s)
    (hn : x ≠ "__name__" := by decide) (hd : (x == ("__debug__" : Str)) = false := by decide) : wpAny (model X.prog X.w) X.A (eval (.Name x pos) X.env) Q E s := by
  obtain ⟨mb, h1, h2⟩ := I.mod.blt
  exact Calls.Name_function_global I.ok.kind hg (Calls.loadGlobal_builtin (by rw [I.ok.glob]; exact I.mod.glob.keeps I.bk) hm (by rw [I.ok.blt]; exact h1.keeps I.bk) ((h2 x hn).trans hv) h) hd
theorem pe_glob {x : Str} {v : V} {u : Value} {pos : Pos} (hg : Gl X x) (hm : X.mg x = some u) (r : RelV v u) (hd : (x == ("__debug__" : Str)) = false := by decide) : PE X (.Name x pos) (tC v) :=
  fun _ _ _ H _ I h => ld_glob I hg hm ⟨v, H, I, r, h⟩ hd
theorem pe_bltn {x : Str} {v : V} {u : Value} {pos : Pos} (hg : Gl X x) (hm : X.mg x = none) (hv : bootBuiltins x = some u) (r : RelV v u) (hn : x ≠ "__name__" := by decide) (hd : (x == ("__debug__" : Str)) = false := by decide) : PE X (.Name x pos) (tC v) :=
  fun _ _ _ H _ I h => ld_blt I hg hm hv ⟨v, H, I, r, h⟩ hn hd
noncomputable def t2I (ta tb : TE) (k : Int → Int → Hp → Prop) : St → Hp → Prop := fun σ H => ta σ H fun x H1 => tb σ H1 fun y H2 => ∃ i j, x = .int i ∧ y = .int j ∧ k i j H2
noncomputable def tAdd (ta tb : TE) : TE := fun σ H Q => t2I ta tb (fun i j H2 => Q (.int (i + j)) H2) σ H
noncomputable def tSub (ta tb : TE) : TE := fun σ H Q => t2I ta tb (fun i j H2 => Q (.int (i - j)) H2) σ H
noncomputable def tMul (ta tb : TE) : TE := fun σ H Q => t2I ta tb (fun i j H2 => (-(2 ^ 64) < i ∧ i < 2 ^ 64) ∧ Q (.int (i * j)) H2) σ H
variable {a b : Expr} {ta tb : TE} {pos : Pos}
noncomputable def PC (X : Cx) (op : CmpOp) (a b : Expr) (t : TE) : Prop :=
  ∀ (pins : List (Addr × Obj)) (s : Shared) (σ : St) (H : Hp) (Q : VK), Inv X pins σ H s → t σ H Q →
    wpAny (model X.prog X.w) X.A (eval a X.env) (fun v s₁ => wpAny (model X.prog X.w) X.A (eval b X.env) (fun u s₂ => wpAny (model X.prog X.w) X.A (compareOp op v u) (EP X pins σ Q) X.xe s₂) X.xe s₁) X.xe s
noncomputable def tCmp (p : Int → Int → Bool) (ta tb : TE) : TE := fun σ H Q => t2I ta tb (fun i j H2 => Q (.bl (p i j)) H2) σ H
noncomputable abbrev tLt : TE → TE → TE := tCmp fun i j => decide (i < j)
noncomputable abbrev tLe : TE → TE → TE := tCmp fun i j => decide (i ≤ j)
noncomputable abbrev tGt : TE → TE → TE := tCmp fun i j => decide (j < i)
noncomputable abbrev tGe : TE → TE → TE := tCmp fun i j => decide (j ≤ i)
noncomputable abbrev tEqI : TE → TE → TE := tCmp fun i j => decide (i = j)
noncomputable abbrev tNeI : TE → TE → TE := tCmp fun i j => !decide (i = j)
noncomputable def tIsN (ta : TE) : TE := fun σ H Q => ta σ H fun x H1 => Q (.bl (decide (x = .non))) H1
noncomputable def tNotN (ta : TE) : TE := fun σ H Q => ta σ H fun x H1 => Q (.bl (!decide (x = .non))) H1
noncomputable def tB (t : TE) : TT := fun σ H Q => t σ H fun x H1 => ∃ c, x = .bl c ∧ Q c H1
theorem pt_val {e : Expr} {t : TE} (h : PE X e t) (he : ∀ whole, isTrue e X.env whole = (do let v ← whole; standAt e.pos; holding [v] (truthy v)) := by intro _; rfl) : PT X e (tB t) := by
  intro pins s σ H Q I hw
  refine isTrue_plain (thn (h pins s σ H _ I hw) fun v s1 hh1 => ?_) (he _)
  obtain ⟨x, H1, I1, r1, q1⟩ := hh1
  obtain ⟨d, rfl, q⟩ := q1
  cases r1
  exact wpAny_truthy_bool ⟨H1, I1, q⟩
variable {tA tB' : TT} {rest : List Expr}
noncomputable def tAnd (t u : TT) : TT := fun σ H Q => t σ H fun c H1 => if c = true then u σ H1 Q else Q false H1
noncomputable def tOr (t u : TT) : TT := fun σ H Q => t σ H fun c H1 => if c = true then Q true H1 else u σ H1 Q
noncomputable def tNot (t : TT) : TT := fun σ H Q => t σ H fun c H1 => Q (!c) H1
theorem pw_and1 (ha : PT X a tA) : PW X (.BoolOp .And [a] pos) tA := by
  intro wh pins s σ H Q I h
  refine isTrue_and (thn (ha pins s σ H Q I h) fun c s1 e => ?_)
  cases c with
  | true => exact isTrue_and_nil e
  | false => exact e
theorem pw_or1 (ha : PT X a tA) : PW X (.BoolOp .Or [a] pos) tA := by
  intro wh pins s σ H Q I h
  refine isTrue_or (thn (ha pins s σ H Q I h) fun c s1 e => ?_)
  cases c with
  | false => exact isTrue_or_nil e
  | true => exact e
theorem pw_and (ha : PT X a tA) (hb : PW X (.BoolOp .And (b :: rest) pos) tB') : PW X (.BoolOp .And (a :: b :: rest) pos) (tAnd tA tB') := by
  intro wh pins s σ H Q I h
  refine isTrue_and (thn (ha pins s σ H _ I h) fun c s1 hh2 => ?_)
  obtain ⟨H1, I1, q1⟩ := hh2
  cases c with
  | true => exact hb wh pins s1 σ H1 Q I1 q1
  | false => exact ⟨H1, I1, q1⟩
theorem pw_or (ha : PT X a tA) (hb : PW X (.BoolOp .Or (b :: rest) pos) tB') : PW X (.BoolOp .Or (a :: b :: rest) pos) (tOr tA tB') := by
  intro wh pins s σ H Q I h
  refine isTrue_or (thn (ha pins s σ H _ I h) fun c s1 hh3 => ?_)
  obtain ⟨H1, I1, q1⟩ := hh3
  cases c with
  | true => exact ⟨H1, I1, q1⟩
  | false => exact hb wh pins s1 σ H1 Q I1 q1
theorem pt_not (ha : PT X a tA) : PT X (.UnaryOp .Not a pos) (tNot tA) := by
  intro pins s σ H Q I h
  exact isTrue_not (ha pins s σ H (fun c H1 => Q (!c) H1) I h)
noncomputable def tAndV (ta tb : TE) : TE := fun σ H Q => ta σ H fun x H1 => ∃ c, x = .bl c ∧ if c = true then tb σ H1 Q else Q (.bl false) H1
noncomputable def tOrV (ta tb : TE) : TE := fun σ H Q => ta σ H fun x H1 => ∃ c, x = .bl c ∧ if c = true then Q (.bl true) H1 else tb σ H1 Q
noncomputable def tNotV (ta : TE) : TE := fun σ H Q => ta σ H fun x H1 => ∃ c, x = .bl c ∧ Q (.bl (!c)) H1
theorem pe_one {op} {t : TE} (h : PE X a t) : PE X (.BoolOp op [a] pos) t := fun pins s σ H Q I hw => BoolOp_one (h pins s σ H Q I hw)
theorem pe_and (ha : PE X a ta) (hb : PE X (.BoolOp .And (b :: rest) pos) tb) : PE X (.BoolOp .And (a :: b :: rest) pos) (tAndV ta tb) := by
  intro pins s σ H Q I h
  refine BoolOp_and (thn (ha pins s σ H _ I h) fun v s1 hh4 => ?_)
  obtain ⟨x, H1, I1, r1, q1⟩ := hh4
  obtain ⟨c, rfl, q1⟩ := q1
  cases r1
  refine wpAny_truthy_bool ?_
  cases c with
  | true => exact hb pins s1 σ H1 Q I1 q1
  | false => exact ⟨.bl false, H1, I1, rfl, q1⟩
theorem pe_or (ha : PE X a ta) (hb : PE X (.BoolOp .Or (b :: rest) pos) tb) : PE X (.BoolOp .Or (a :: b :: rest) pos) (tOrV ta tb) := by
  intro pins s σ H Q I h
  refine BoolOp_or (thn (ha pins s σ H _ I h) fun v s1 hh5 => ?_)
  obtain ⟨x, H1, I1, r1, q1⟩ := hh5
  obtain ⟨c, rfl, q1⟩ := q1
  cases r1
  refine wpAny_truthy_bool ?_
  cases c with
  | false => exact hb pins s1 σ H1 Q I1 q1
  | true => exact ⟨.bl true, H1, I1, rfl, q1⟩
theorem pe_not (ha : PE X a ta) : PE X (.UnaryOp .Not a pos) (tNotV ta) := by
  intro pins s σ H Q I h
  refine UnaryOp_ (thn (ha pins s σ H _ I h) fun v s1 hh6 => ?_)
  obtain ⟨x, H1, I1, r1, q1⟩ := hh6
  obtain ⟨c, rfl, q1⟩ := q1
  cases r1
  exact not_of (wpAny_truthy_bool ⟨.bl (!c), H1, I1, rfl, q1⟩)
noncomputable def tIf (t : TT) (ta tb : TE) : TE := fun σ H Q => t σ H fun c H1 => if c = true then ta σ H1 Q else tb σ H1 Q
theorem pe_ifExp {c : Expr} (hc : PT X c tA) (ha : PE X a ta) (hb : PE X b tb) : PE X (.IfExp c a b pos) (tIf tA ta tb) := by
  intro pins s σ H Q I h
  refine wpAny_IfExp (thn (hc pins s σ H _ I h) fun d s1 hh7 => ?_)
  obtain ⟨H1, I1, q1⟩ := hh7
  cases d with
  | true => exact ha pins s1 σ H1 Q I1 q1
  | false => exact hb pins s1 σ H1 Q I1 q1
end
end L2
namespace L2
open PySem PySem.Spec PyProof.Rows
noncomputable def SqL (K : PySem.W.Frag) (H : Hp) (a : Addr) (xs : List V) : Prop :=
  Rd H a (.lst xs) ∨
    ∃ (o : Obj) (its : Array Value) (n : Nat), K.lookup a = some o ∧ o.cls = .type "list" ∧ o.dict = none ∧ o.data = .seq its n ∧ its.size ≤ sizeLine ∧ Vals xs its.toList
noncomputable def SqT (K : PySem.W.Frag) (H : Hp) (a : Addr) (xs : List V) : Prop :=
  Rd H a (.tup xs) ∨
    ∃ (o : Obj) (its : Array Value) (n : Nat), K.lookup a = some o ∧ o.cls = .type "tuple" ∧ o.data = .seq its n ∧ its.size ≤ sizeLine ∧ Vals xs its.toList
noncomputable def absV : Value → Option V
  | .none => some .non
  | .bool b => some (.bl b)
  | .int i _ => some (.int i)
  | .str x _ => some (.str x)
  | .bytes b _ => some (.byt b)
  | .float b _ => some (.flt b)
  | .ref a => some (.ref a)
  | .type n => some (.ty n)
  | _ => none
theorem RelV.abs {x : V} {u : Value} (r : RelV x u) : absV u = some x := by
  cases x with
  | non => cases r; rfl
  | bl _ => cases r; rfl
  | int _ => obtain ⟨t, rfl⟩ := r; rfl
  | str _ => obtain ⟨t, rfl⟩ := r; rfl
  | byt _ => obtain ⟨t, rfl⟩ := r; rfl
  | flt _ => obtain ⟨t, rfl⟩ := r; rfl
  | ref _ => cases r; rfl
  | ty _ => cases r; rfl
theorem RelV.inj {x y : V} {u : Value} (r : RelV x u) (q : RelV y u) : x = y := Option.some.inj (r.abs.symm.trans q.abs)
theorem Vals.inj {xs ys : List V} {us : List Value} (h : Vals xs us) (h' : Vals ys us) : xs = ys := by
  induction h generalizing ys with
  | nil => cases h'; rfl
  | cons r t ih => cases h' with | cons r' t' => rw [r.inj r', ih t']
section
variable {X : Cx} {pins : List (Addr × Obj)} {σ : St} {H : Hp} {s : Shared} {a : Addr} {xs ys : List V}
theorem SqL.of {K : PySem.W.Frag} (h : H a = some (.lst xs)) : SqL K H a xs := .inl (.inl h)
theorem SqT.of {K : PySem.W.Frag} (h : H a = some (.tup xs)) : SqT K H a xs := .inl (.inl h)
theorem Inv.list (I : Inv X pins σ H s) (h : SqL X.K H a xs) : ∃ its : List Value, Vals xs its ∧ PlainL s.heap a its.toArray ∧ xs.length ≤ sizeLine := by
  rcases h with h | ⟨o, its, n, hk, hc, hd, hs, hz, r⟩
  · obtain ⟨z, its, n, r, e⟩ := h.ok I.hok
    exact ⟨its, r, ⟨_, n, e, rfl, rfl, rfl⟩, z⟩
  · refine ⟨its.toList, r, ⟨o, n, I.kIn a o hk, hc, hd, by simpa using hs⟩, ?_⟩
    have e := r.length
    simp only [Array.length_toList] at e
    trivial
theorem Inv.tuple (I : Inv X pins σ H s) (h : SqT X.K H a xs) : ∃ its : List Value, Vals xs its ∧ IsTup s.heap a its.toArray ∧ xs.length ≤ sizeLine := by
  rcases h with h | ⟨o, its, n, hk, hc, hs, hz, r⟩
  · obtain ⟨z, its, r, p⟩ := h.ok I.hok
    exact ⟨its, r, p, z⟩
  · refine ⟨its.toList, r, ⟨o, I.kIn a o hk, hc, n, by simpa using hs⟩, ?_⟩
    have e := r.length
    simp only [Array.length_toList] at e
    trivial
theorem Inv.list_inj (I : Inv X pins σ H s) (h : SqL X.K H a xs) (h' : SqL X.K H a ys) : xs = ys := by
  obtain ⟨its, r, ⟨o, n, e, _, _, d⟩, _⟩ := I.list h
  obtain ⟨its', r', ⟨o', n', e', _, _, d'⟩, _⟩ := I.list h'
  rw [e] at e'; cases e'
  rw [d] at d'
  injection d' with d1 _
  have : its = its' := by simpa using congrArg Array.toList d1
  subst this
  exact r.inj r'
end
noncomputable abbrev Cx.wish (X : Cx) (E : Value → Shared → Prop) : Cx := { X with xe := E }
noncomputable abbrev Cx.nox (X : Cx) : Cx := X.wish fun _ _ => False
theorem Cx.Ok.wish {X : Cx} (ok : X.Ok) (E : Value → Shared → Prop) : (X.wish E).Ok :=
  ⟨ok.mod, ok.kind, ok.glob, ok.blt, ok.above, ok.inj, ok.has, ok.cab, ok.hd, ok.frames, ok.stk, ok.exf, ok.bs, ok.bsz, ok.noex, ok.exfs, ok.funs, ok.frf⟩
theorem Cx.Ok.unwish {X : Cx} {E : Value → Shared → Prop} (ok : (X.wish E).Ok) : X.Ok :=
  ⟨ok.mod, ok.kind, ok.glob, ok.blt, ok.above, ok.inj, ok.has, ok.cab, ok.hd, ok.frames, ok.stk, ok.exf, ok.bs, ok.bsz, ok.noex, ok.exfs, ok.funs, ok.frf⟩
section
variable {X : Cx} {pins : List (Addr × Obj)} {σ : St} {H : Hp} {s : Shared} {E : Value → Shared → Prop}
theorem Inv.wish (I : Inv X pins σ H s) (E : Value → Shared → Prop) : Inv (X.wish E) pins σ H s := ⟨I.ok.wish E, I.os, I.bare, I.base, I.loc, I.cell, I.free, I.freeC, I.pin, I.hok, I.len⟩
theorem Inv.unwish (I : Inv (X.wish E) pins σ H s) : Inv X pins σ H s := ⟨I.ok.unwish, I.os, I.bare, I.base, I.loc, I.cell, I.free, I.freeC, I.pin, I.hok, I.len⟩
theorem SP.unwish {D : Ends} {f : Flow} {s' : Shared} (h : SP (X.wish E) pins D f s') : SP X pins D f s' := by
  cases f with
  | next => obtain ⟨σ', H', I, q⟩ := h; exact ⟨σ', H', I.unwish, q⟩
  | brk => obtain ⟨σ', H', I, q⟩ := h; exact ⟨σ', H', I.unwish, q⟩
  | cont => obtain ⟨σ', H', I, q⟩ := h; exact ⟨σ', H', I.unwish, q⟩
  | ret u => obtain ⟨v, σ', H', I, r, q⟩ := h; exact ⟨v, σ', H', I.unwish, r, q⟩
theorem PSs.nox {st : List Stmt} {t : TS} (h : PSs X.nox st t) : PSs X st t := fun pins s σ H D I hw =>
  wpAny_mono (h pins s σ H D (I.wish _) hw) (fun _ _ q => q.unwish) fun _ _ z => False.elim z
end
section
variable {X : Cx} {st : Stmt} {rest : List Stmt} {t u : TS} {e : Expr} {te : TE} {pos : Pos}
noncomputable def tNext : TS := fun D σ H => D.nx σ H
noncomputable def tSeq (t u : TS) : TS := fun D σ H => t { D with nx := u D } σ H
theorem pss_nil : PSs X [] tNext := fun _ _ σ H _ I h => wpAny_execs_nil ⟨σ, H, I, h⟩
theorem pss_cons (h1 : PS X st t) (h2 : PSs X rest u) : PSs X (st :: rest) (tSeq t u) := by
  intro pins s σ H D I h
  refine wpAny_execs_cons (thn (h1 pins s σ H { D with nx := u D } I h) fun f s1 q => ?_)
  cases f with
  | next =>
    obtain ⟨σ', H', I', q⟩ := q
    exact h2 pins s1 σ' H' D I' q
  | ret v => exact q
  | brk => exact q
  | cont => exact q
theorem pss_one (h1 : PS X st t) : PSs X [st] t := by
  intro pins s σ H D I h
  refine wpAny_execs_cons (thn (h1 pins s σ H D I h) fun f s1 q => ?_)
  cases f with
  | next => exact wpAny_execs_nil q
  | ret v => exact q
  | brk => exact q
  | cont => exact q
noncomputable def tBreak : TS := fun D σ H => D.bk σ H
noncomputable def tCont : TS := fun D σ H => D.ct σ H
theorem Inv.quiet {pins : List (Addr × Obj)} {σ : St} {H : Hp} {s : Shared} (I : Inv X pins σ H s) : interactive X.env = false := by simp [interactive, I.ok.kind]
noncomputable def tDrop (te : TE) : TS := fun D σ H => te σ H fun _ H1 => D.nx σ H1
theorem ps_expr (he : PE X e te) (hs : swapsWith e none pos.line X.env = pure false := by rfl) : PS X (.Expr e pos) (tDrop te) := by
  intro pins s σ H D I h
  exact wpAny_Expr_any (thn (he pins s σ H _ I h) fun v s1 hh => by obtain ⟨x, H1, I1, r1, q1⟩ := hh; exact ⟨σ, H1, I1, q1⟩) I.quiet hs
noncomputable def tRet (te : TE) : TS := fun D σ H => te σ H D.rt
theorem ps_ret (he : PE X e te) : PS X (.Return (some e) pos) (tRet te) := by
  intro pins s σ H D I h
  exact wpAny_Return_some (thn (he pins s σ H _ I h) fun v s1 hh => by obtain ⟨x, H1, I1, r1, q1⟩ := hh; exact ⟨x, σ, H1, I1, r1, q1⟩)
noncomputable def tRetN : TS := fun D _ H => D.rt .non H
noncomputable def tIfS (c : TT) (t u : TS) : TS := fun D σ H => c σ H fun b H1 => if b = true then t D σ H1 else u D σ H1
theorem ps_if {c : Expr} {a b : List Stmt} {tc : TT} (hc : PT X c tc) (ha : PSs X a t) (hb : PSs X b u) : PS X (.If c a b pos) (tIfS tc t u) := by
  intro pins s σ H D I h
  refine wpAny_If (thn (hc pins s σ H _ I h) fun d s1 hh8 => ?_)
  obtain ⟨H1, I1, q1⟩ := hh8
  cases d with
  | true => exact ha pins s1 σ H1 D I1 q1
  | false => exact hb pins s1 σ H1 D I1 q1
noncomputable def tNever : TS := fun _ _ _ => False
end
noncomputable abbrev TG := V → St → Hp → (St → Hp → Prop) → Prop
noncomputable abbrev TGs := List V → St → Hp → (St → Hp → Prop) → Prop
noncomputable def PG (X : Cx) (target : Expr) (t : TG) : Prop :=
  ∀ (pins : List (Addr × Obj)) (s : Shared) (σ : St) (H : Hp) (v : V) (u : Value) (Q : St → Hp → Prop), Inv X pins σ H s → RelV v u → t v σ H Q →
    wpAny (model X.prog X.w) X.A (assign target X.env u) (fun _ s' => ∃ σ' H', Inv X pins σ' H' s' ∧ Q σ' H') X.xe s
noncomputable def PGs (X : Cx) (ts : List Expr) (t : TGs) : Prop :=
  ∀ (pins : List (Addr × Obj)) (s : Shared) (σ : St) (H : Hp) (vs : List V) (us : List Value) (Q : St → Hp → Prop), Inv X pins σ H s → Vals vs us → t vs σ H Q →
    wpAny (model X.prog X.w) X.A (assignInOrder ((assignEach ts X.env).map (·.2)) us) (fun _ s' => ∃ σ' H', Inv X pins σ' H' s' ∧ Q σ' H') X.xe s
noncomputable abbrev TSet := V → V → V → Hp → (Hp → Prop) → Prop
noncomputable def PSet (X : Cx) (t : TSet) : Prop :=
  ∀ (pins : List (Addr × Obj)) (s : Shared) (σ : St) (H : Hp) (o i v : V) (ov iv u : Value) (Q : Hp → Prop), Inv X pins σ H s → RelV o ov → RelV i iv → RelV v u → t o i v H Q →
    wpAny (model X.prog X.w) X.A (setItem ov iv u) (fun _ s' => ∃ H', Inv X pins σ H' s' ∧ Q H') X.xe s
noncomputable abbrev TIp := V → V → Hp → VK → Prop
noncomputable def PIp (X : Cx) (op : Operator) (t : TIp) : Prop :=
  ∀ (pins : List (Addr × Obj)) (s : Shared) (σ : St) (H : Hp) (x y : V) (v u : Value) (Q : VK), Inv X pins σ H s → RelV x v → RelV y u → t x y H Q →
    wpAny (model X.prog X.w) X.A (inplaceOp op v u) (EP X pins σ Q) X.xe s
section
variable {X : Cx} {pos : Pos}
noncomputable def gName (i : Nat) : TG := fun v σ H Q => Q (σ.set i (some v)) H
theorem pg_name {i : Nat} {x : Str} (hN : X.N.Nodup) (hi : X.N[i]? = some x) (hx : Loc X.env.scope x) (hf : X.fn x = true ∨ X.env.scope.names.lookup x = some .local := by first | exact .inl rfl | exact .inr rfl | assumption) : PG X (.Name x pos) (gName i) := by
  intro pins s σ H v u Q I r h
  exact wpAny_assign_Name (store_ok I hN hi hx r (fun s' I' => ⟨_, H, I', h⟩) hf)
noncomputable def gNil : TGs := fun vs σ H Q => vs = [] ∧ Q σ H
noncomputable def gCons (t : TG) (u : TGs) : TGs := fun vs σ H Q => ∃ v r, vs = v :: r ∧ t v σ H fun σ' H' => u r σ' H' Q
theorem pgs_nil : PGs X [] gNil := by
  intro pins s σ H vs us Q I r h
  obtain ⟨e, h⟩ := h
  subst e
  cases r
  exact assignInOrder_nil ⟨σ, H, I, h⟩
theorem pgs_cons {e : Expr} {es : List Expr} {t : TG} {u : TGs} (h1 : PG X e t) (h2 : PGs X es u)
    (hs : (assignEach (e :: es) X.env).map (·.2) = assign e X.env :: (assignEach es X.env).map (·.2) := by rfl) : PGs X (e :: es) (gCons t u) := by
  intro pins s σ H vs us Q I r h
  obtain ⟨v, vr, e1, h⟩ := h
  subst e1
  cases r with
  | cons r rr =>
    rw [hs]
    refine assignInOrder_cons (thn (h1 pins s σ H _ _ _ I r h) fun _ s1 hh9 => ?_)
    obtain ⟨σ1, H1, I1, q1⟩ := hh9
    exact h2 pins s1 σ1 H1 _ _ Q I1 rr q1
noncomputable def gTup (K : PySem.W.Frag) (n : Nat) (t : TGs) : TG := fun v σ H Q => ∃ a xs, v = .ref a ∧ SqT K H a xs ∧ xs.length = n ∧ t xs σ H Q
theorem pg_tup {es : List Expr} {k : Nat} {t : TGs} {n : Nat} (hc : X.calm = true) (h : PGs X es t)
    (hn : (assignEach es X.env).length = n := by rfl) (hst : (assignEach es X.env).findIdx? (·.1) = none := by rfl) : PG X (.Tuple es k pos) (gTup X.K n t) := by
  intro pins s σ H v u Q I r hw
  obtain ⟨a, xs, e1, hq, hl, hw⟩ := hw
  subst e1
  cases r
  obtain ⟨its, rv, ht, hz⟩ := I.tuple hq
  refine assign_Tuple_tuple (I.ok.hd hc) ht (by simp [hn, ← hl, rv.length]) hst fun h' hx => ?_
  have I1 : Inv X pins σ H { s with heap := h' } := I.kept (t' := s.toks) fun b o e => hx b o (Nat.ne_of_lt (Heap.lt_size e)) e
  exact h pins _ σ H xs _ Q I1 (by simpa using rv) hw
noncomputable def gSub (to ti : TE) (t : TSet) : TG := fun v σ H Q => to σ H fun o H1 => ti σ H1 fun i H2 => t o i v H2 fun H3 => Q σ H3
theorem pg_sub {o i : Expr} {to ti : TE} {t : TSet} (ho : PE X o to) (hi : PE X i ti) (hs : PSet X t)
    (ha : ∀ v, assign (.Subscript o i pos) X.env v = (do
      let ov ← holding [v] (eval o X.env)
      let iv ← holding [v, ov] (eval i X.env)
      standAt pos
      holding [v, ov, iv] (setItem ov iv v)
      release [v, ov, iv] []) := by intro _; rfl) : PG X (.Subscript o i pos) (gSub to ti t) := by
  intro pins s σ H v u Q I r h
  rw [ha]
  refine wpAny_bind (wpAny_holding (thn (ho pins s σ H _ I h) fun ov s1 hh10 => ?_))
  obtain ⟨x, H1, I1, r1, q1⟩ := hh10
  refine wpAny_bind (wpAny_holding (thn (hi pins s1 σ H1 _ I1 q1) fun iv s2 hh11 => ?_))
  obtain ⟨y, H2, I2, r2, q2⟩ := hh11
  refine wpAny_bind (wpAny_standAt (wpAny_bind (wpAny_holding (thn (hs pins s2 σ H2 x y v ov iv u _ I2 r1 r2 r q2) fun _ s3 hh12 => ?_))))
  obtain ⟨H3, I3, q3⟩ := hh12
  exact wpAny_release ⟨σ, H3, I3, q3⟩
noncomputable def tAsg (te : TE) (g : TG) : TS := fun D σ H => te σ H fun x H1 => g x σ H1 D.nx
theorem ps_asg {tg e : Expr} {te : TE} {g : TG} (he : PE X e te) (hg : PG X tg g) (hs : swapsWithSole [tg] e pos.line X.env = pure false := by rfl) (hw : swappedStores [tg] e X.env = pure none := by rfl)
    (h1 : (assignEach [tg] X.env).map (·.2) = [assign tg X.env] := by rfl) : PS X (.Assign [tg] e pos) (tAsg te g) := by
  intro pins s σ H D I h
  refine wpAny_Assign_stores (thn (he pins s σ H _ I h) fun v s1 hh13 => ?_) hs hw
  obtain ⟨x, H1, I1, r1, q1⟩ := hh13
  rw [h1]
  exact thn (hg pins s1 σ H1 x v _ I1 r1 q1) fun _ s2 q => q
theorem ps_set {i : Nat} {x : Str} {e : Expr} {te : TE} {pos' : Pos} (hN : X.N.Nodup) (hi : X.N[i]? = some x) (hx : Loc X.env.scope x) (he : PE X e te) (hs : swapsWith e (some (.Name x pos')) pos.line X.env = pure false := by rfl) (hf : X.fn x = true ∨ X.env.scope.names.lookup x = some .local := by first | exact .inl rfl | exact .inr rfl | assumption) :
    PS X (.Assign [.Name x pos'] e pos) (tAsg te (gName i)) := by
  intro pins s σ H D I h
  refine wpAny_Assign_Name (thn (he pins s σ H _ I h) fun v s1 hh14 => ?_) hs
  obtain ⟨y, H1, I1, r1, q1⟩ := hh14
  exact store_ok I1 hN hi hx r1 (fun s2 I2 => ⟨_, H1, I2, q1⟩) hf
noncomputable def tPar (i j : Nat) (ta : TA) : TS := fun D σ H => ta σ H fun vs H1 => ∃ v w, vs = [v, w] ∧ D.nx ((σ.set i (some v)).set j (some w)) H1
noncomputable def tAug (i : Nat) (te : TE) (ti : TIp) : TS := fun D σ H => ∃ x, σ[i]? = some (some x) ∧ te σ H fun y H1 => ti x y H1 fun z H2 => D.nx (σ.set i (some z)) H2
theorem ps_aug {i : Nat} {x : Str} {e : Expr} {te : TE} {op : Operator} {ti : TIp} {pos' : Pos} (hN : X.N.Nodup) (hi : X.N[i]? = some x) (hx : Loc X.env.scope x) (he : PE X e te) (ho : PIp X op ti) (hf : X.fn x = true ∨ X.env.scope.names.lookup x = some .local := by first | exact .inl rfl | exact .inr rfl | assumption) :
    PS X (.AugAssign (.Name x pos') op e pos) (tAug i te ti) := by
  intro pins s σ H D I h
  obtain ⟨v, e1, h⟩ := h
  obtain ⟨m, hn, hl⟩ := I.loc
  have vis : Vis X.env.scope x := by rcases hx with k | k; exact .inl k; exact .inr (.inl k)
  obtain ⟨u, r, l⟩ := hl i x v hi e1 vis
  refine wpAny_AugAssign_Name ?_
  have go : wpAny (model X.prog X.w) X.A (eval e X.env) (fun w s₂ => wpAny (model X.prog X.w) X.A (inplaceOp op u w) (fun r s₃ => wpAny (model X.prog X.w) X.A (storeName X.env x r) (fun _ => SP X pins D .next) X.xe s₃) X.xe s₂) X.xe s := by
    refine thn (he pins s σ H _ I h) fun w s1 hh15 => ?_
    obtain ⟨y, H1, I1, r1, q1⟩ := hh15
    refine thn (ho pins s1 σ H1 v y u w _ I1 r r1 q1) fun z s2 hh16 => ?_
    obtain ⟨zv, H2, I2, r2, q2⟩ := hh16
    exact store_ok I2 hN hi hx r2 (fun s3 I3 => ⟨_, H2, I3, q2⟩) hf
  rcases l with ⟨hk, hm⟩ | ⟨hk, c, hc, hcell⟩
  · exact wpAny_loadName_local I.ok.kind hk hn hm go
  · rcases hk with hk | hk
    · exact wpAny_loadName_cell I.ok.kind hk hc hcell go
    · rcases hx with k | k
      · have : X.env.scope.names.lookup x = some .free := hk
        rw [k] at this; cases this
      · have : X.env.scope.names.lookup x = some .free := hk
        rw [k] at this; cases this
noncomputable def tAugS (to ti te : TE) (tget : V → V → Hp → VK → Prop) (tip : TIp) (tset : TSet) : TS := fun D σ H => to σ H fun o H1 => ti σ H1 fun i H2 => tget o i H2 fun x H3 => te σ H3 fun y H4 => tip x y H4 fun z H5 => tset o i z H5 fun H6 => D.nx σ H6
noncomputable def PGet (X : Cx) (t : V → V → Hp → VK → Prop) : Prop :=
  ∀ (pins : List (Addr × Obj)) (s : Shared) (σ : St) (H : Hp) (o i : V) (ov iv : Value) (Q : VK), Inv X pins σ H s → RelV o ov → RelV i iv → t o i H Q →
    wpAny (model X.prog X.w) X.A (getItem ov iv) (EP X pins σ Q) X.xe s
noncomputable def ipI (f : Int → Int → Int) : TIp := fun x y H Q => ∃ i j, x = .int i ∧ y = .int j ∧ Q (.int (f i j)) H
theorem ip_add : PIp X .Add (ipI fun i j => i + j) := by
  intro pins s σ H x y v u Q I r1 r2 h
  obtain ⟨i, j, e1, e2, q⟩ := h
  subst e1; subst e2
  obtain ⟨t, rfl⟩ := r1
  obtain ⟨t', rfl⟩ := r2
  exact iadd_int ⟨.int _, H, I.tok _, ⟨_, rfl⟩, q⟩
end
section
variable {X : Cx} {pos : Pos}
noncomputable def tWhile (c : TT) (tb : TS) : TS := fun D σ H => ∃ W : Nat → St → Hp → Prop, (∃ m, W m σ H) ∧ ∀ m σ H, W m σ H →
  c σ H fun b H1 => if b = true then ∃ N : St → Hp → Prop, (∀ σ' H', N σ' H' → ∃ m', m' < m ∧ W m' σ' H') ∧ tb { D with nx := N, ct := N, bk := D.nx } σ H1 else D.nx σ H1
theorem ps_while {c : Expr} {body : List Stmt} {tc : TT} {tb : TS} (hp : PassesOwn (model X.prog X.w) X.A X.env X.xe) (hc : PT X c tc) (hb : PSs X body tb) : PS X (.While c body [] pos) (tWhile tc tb) := by
  intro pins s σ H D I h
  obtain ⟨W, ⟨m0, w0⟩, turn⟩ := h
  refine wpAny_While (codeAny_whileLoop (fun n s' => ∃ σ' H', Inv X pins σ' H' s' ∧ W n σ' H') ?_ m0 ⟨σ, H, I, w0⟩)
  rintro n s1 ⟨σ1, H1, I1, w1⟩
  refine wpAny_passesOwn hp (thn (hc pins s1 σ1 H1 _ I1 (turn n σ1 H1 w1)) fun b s2 hh17 => ?_)
  obtain ⟨H2, I2, q2⟩ := hh17
  cases b with
  | true =>
    obtain ⟨N, hN, q2⟩ := q2
    rw [if_pos rfl]
    refine wpAny_passesOwn hp (thn (hb pins s2 σ1 H2 _ I2 q2) fun f s3 q3 => ?_)
    cases f with
    | next =>
      obtain ⟨σ3, H3, I3, n3⟩ := q3
      obtain ⟨m', hm, w3⟩ := hN σ3 H3 n3
      exact ⟨m', hm, σ3, H3, I3, w3⟩
    | cont =>
      obtain ⟨σ3, H3, I3, n3⟩ := q3
      obtain ⟨m', hm, w3⟩ := hN σ3 H3 n3
      exact ⟨m', hm, σ3, H3, I3, w3⟩
    | brk => exact q3
    | ret v => exact q3
  | false =>
    rw [if_neg Bool.false_ne_true]
    exact wpAny_execs_nil ⟨σ1, H2, I2, q2⟩
end
structure It where
  go : Nat → Hp → Prop
  yld : Nat → Hp → V → Hp → Prop
  stop : Nat → Hp → Prop
noncomputable def FpOk (X : Cx) (pins : List (Addr × Obj)) (H : Hp) (b : Addr) : Prop :=
  H b = none ∧ b ≠ X.env.locals ∧ b ∉ X.fs ∧ (b ∈ X.ex ∨ X.s₀.heap.objs.size ≤ b) ∧ (∀ x c, X.env.cells.lookup x = some c → c ≠ b) ∧ ∀ p ∈ X.pn ++ pins, p.1 ≠ b
theorem Inv.fpOk {X : Cx} {pins : List (Addr × Obj)} {σ : St} {H H' : Hp} {s : Shared} {b : Addr} (I : Inv X pins σ H s) (hb : s.heap.objs.size ≤ b) (hn : H' b = none) : FpOk X pins H' b := by
  refine ⟨hn, Nat.ne_of_gt (Nat.lt_of_lt_of_le I.lt hb), I.nofs hb, .inr (Nat.le_trans I.sz hb), fun x c e z => ?_, fun p hp z => ?_⟩
  · obtain ⟨v, q⟩ := I.cell x c e
    exact absurd (Nat.lt_of_lt_of_le q.lt (by rw [z]; exact hb)) (Nat.lt_irrefl _)
  · exact absurd (Nat.lt_of_lt_of_le (Heap.lt_size (I.pin p hp).1) (by rw [z]; exact hb)) (Nat.lt_irrefl _)
structure Turn (P : Program) (w : World) (K : PySem.W.Frag) (tg : Expr) (J : It) (fp : List Addr) (it : Addr) (tn : Nat → Heap → Prop) : Prop where
  mem : it ∈ fp
  obj : ∀ i h, tn i h → ∀ b ∈ fp, ∃ o, h.get? b = some o ∧ ∀ v, o.data ≠ .cell v
  keep : ∀ i h h', tn i h → (∀ b ∈ fp, ∀ o, h.get? b = some o → h'.get? b = some o) → tn i h'
  item : ∀ (X : Cx), X.prog = P → X.w = w → X.K = K → X.calm = true → ∀ (i : Nat) (pins : List (Addr × Obj)) (s : Shared) (σ : St) (H : Hp) (E : Value → Shared → Prop), Inv X pins σ H s → (∀ b ∈ fp, FpOk X pins H b) → tn i s.heap → J.go i H →
    wpAny (model P w) X.A (pyNext (.ref it)) (fun r s1 => ∃ u, r = some u ∧
      wpAny (model P w) X.A (letOwnedTupleGo tg (.ref it) u) (fun _ s2 => ∃ x H', Inv X pins σ H' s2 ∧ RelV x u ∧ J.yld i H x H' ∧ tn (i + 1) s2.heap ∧ ∀ b ∈ fp, H' b = none) E s1) E s
  done : ∀ (X : Cx), X.prog = P → X.w = w → X.K = K → X.calm = true → ∀ (i : Nat) (pins : List (Addr × Obj)) (s : Shared) (σ : St) (H : Hp) (E : Value → Shared → Prop), Inv X pins σ H s → (∀ b ∈ fp, FpOk X pins H b) → tn i s.heap → J.stop i H →
    wpAny (model P w) X.A (pyNext (.ref it)) (fun r s1 => r = none ∧ Inv X pins σ H s1) E s
  self : ∀ (A : Around) (i : Nat) (s : Shared) (Q : Value → Shared → Prop) (E : Value → Shared → Prop), tn i s.heap → Q (.ref it) s → wpAny (model P w) A (pyIter (.ref it)) Q E s
noncomputable abbrev TI := St → Hp → (It → Hp → Prop) → Prop
noncomputable def PIE (X : Cx) (pins : List (Addr × Obj)) (σ : St) (tg : Expr) (R : It → Hp → Prop) (itv : Value) (s2 : Shared) : Prop :=
  ∃ (it : Addr) (fp : List Addr) (tn : Nat → Heap → Prop) (J : It) (H' : Hp), itv = .ref it ∧ Inv X pins σ H' s2 ∧ Turn X.prog X.w X.K tg J fp it tn ∧ tn 0 s2.heap ∧ (∀ b ∈ fp, FpOk X pins H' b) ∧ R J H'
noncomputable def PI (X : Cx) (tg iter : Expr) (wi : TI) : Prop :=
  ∀ (pins : List (Addr × Obj)) (s : Shared) (σ : St) (H : Hp) (R : It → Hp → Prop), Inv X pins σ H s → wi σ H R →
    wpAny (model X.prog X.w) X.A (eval iter X.env) (fun v s1 => wpAny (model X.prog X.w) X.A (pyIter v) (PIE X pins σ tg R) X.xe s1) X.xe s
theorem go_of {M : Model} {A : Around} {E : Value → Shared → Prop} {s : Shared} {tg : Expr} {it : Addr} {u : Value} {o : Obj} {n : String} {vs : Array Value} {Q : Unit → Shared → Prop} (ho : s.heap.get? it = some o) (hc : o.cls = .type n) (hd : o.data = .fields vs)
    (hn : ["enumerate", "zip", "dict_itemiterator", "dict_reverseitemiterator", "odict_iterator", "itertools.zip_longest", "itertools.pairwise"].contains n = false) (hQ : Q () s) : wpAny M A (letOwnedTupleGo tg (.ref it) u) Q E s := by
  unfold letOwnedTupleGo
  cases tg <;> first
    | exact wpAny_pure hQ
    | (cases u <;> first
        | exact wpAny_pure hQ
        | (refine wpAny_bind (wpAny_load ho ?_)
           rw [hc, hd]
           show wpAny M A (if (["enumerate", "zip", "dict_itemiterator", "dict_reverseitemiterator", "odict_iterator", "itertools.zip_longest", "itertools.pairwise"].contains n && vs[0]? == some (rawInt _)) = true then _ else _) Q E s
           rw [if_neg (by intro h; rw [hn, Bool.false_and] at h; cases h)]
           exact wpAny_pure hQ))
noncomputable def Itl (K : PySem.W.Frag) (a : Addr) : It :=
  ⟨fun i H => ∃ xs x, SqL K H a xs ∧ xs[i]? = some x, fun i H x H' => H' = H ∧ ∀ xs, SqL K H a xs → xs[i]? = some x, fun i H => ∃ xs, SqL K H a xs ∧ xs.length ≤ i⟩
noncomputable def Itt (K : PySem.W.Frag) (a : Addr) : It :=
  ⟨fun i H => ∃ xs x, SqT K H a xs ∧ xs[i]? = some x, fun i H x H' => H' = H ∧ ∀ xs, SqT K H a xs → xs[i]? = some x, fun i H => ∃ xs, SqT K H a xs ∧ xs.length ≤ i⟩
noncomputable def Itr (lo : Int) (n : Nat) : It := ⟨fun i _ => i < n, fun i H x H' => H' = H ∧ x = .int (lo + i), fun i _ => n ≤ i⟩
theorem turn_list {P : Program} {w : World} {K : PySem.W.Frag} {tg : Expr} (a it : Addr) : Turn P w K tg (Itl K a) [it] it (fun i h => h.IsListIter it a i) where
  mem := by simp
  obj := fun i h st b hb => by
    have e : b = it := by simpa using hb
    subst e
    obtain ⟨o, e, c, d⟩ := st
    exact ⟨o, e, fun v z => by rw [d] at z; cases z⟩
  keep := fun i h h' st k => st.at fun o e => k it (by simp) o e
  item := by
    intro X hP hw hK hc i pins s σ H E I hf st hg
    subst hP hw hK
    obtain ⟨xs, x, hq, hx⟩ := hg
    obtain ⟨its, rv, p, hz⟩ := I.list hq
    obtain ⟨u, hu, ru⟩ := rv.get hx
    obtain ⟨f0, f1, f2, f3, f4, f5⟩ := hf it (by simp)
    refine wpAny_pyNext_list_item st p.isList (x := u) (by simpa using hu) fun h' st' sb => ?_
    have I1 : Inv X pins σ H { s with heap := h' } := I.turned (t' := s.toks) (fun b o hb e => (sb.2 b hb).trans e) f0 f1 f3 f4 f5
    obtain ⟨o, e, c, d⟩ := id st'
    exact ⟨u, rfl, go_of (s := { s with heap := h' }) e c d (by decide) ⟨x, H, I1, ru, ⟨rfl, fun ys hy => by rw [I.list_inj hy hq]; exact hx⟩, st', fun b hb => (hf b hb).1⟩⟩
  done := by
    intro X hP hw hK hc i pins s σ H E I hf st hg
    subst hP hw hK
    obtain ⟨xs, hq, hx⟩ := hg
    obtain ⟨its, rv, p, hz⟩ := I.list hq
    obtain ⟨f0, f1, f2, f3, f4, f5⟩ := hf it (by simp)
    have hl := rv.length
    exact wpAny_pyNext_list_end (I.ok.hd hc) st p.isList (by simp; trivial) fun h' eb => ⟨rfl, I.turned (t' := s.toks) (fun b o hb e => eb b o hb e) f0 f1 f3 f4 f5⟩
  self := fun _ _ _ _ _ st h => wpAny_pyIter_listiter st h
theorem turn_range {P : Program} {w : World} {K : PySem.W.Frag} {tg : Expr} (it : Addr) (lo : Int) (n : Nat) : Turn P w K tg (Itr lo n) [it] it (fun i h => IsRangeIter h it (lo + (i : Nat) * 1) ((n : Int) - (i : Nat)) 1) where
  mem := by simp
  obj := fun i h st b hb => by
    have e : b = it := by simpa using hb
    subst e
    exact ⟨_, st, fun v z => by
      have z' : Data.fields _ = Data.cell v := z
      cases z'⟩
  keep := fun i h h' st k => k it (by simp) _ st
  item := by
    intro X hP hw hK hc i pins s σ H E I hf st hg
    subst hP hw hK
    obtain ⟨f0, f1, f2, f3, f4, f5⟩ := hf it (by simp)
    have W := Walks.range (prog := X.prog) (w := X.w) (I.ok.hd hc) it lo 1 n
    refine W.item i s _ _ hg st fun v h' tk hv st' kk => ?_
    obtain ⟨t, rfl⟩ := hv
    have I1 : Inv X pins σ H { s with heap := h', toks := tk } := I.turned (fun b o hb e => kk b o (by simpa using hb) e) f0 f1 f3 f4 f5
    refine ⟨_, rfl, go_of (s := { s with heap := h', toks := tk }) (n := "range_iterator") st' rfl rfl (by decide) ⟨.int (lo + i), H, I1, ⟨t, ?_⟩, ⟨rfl, rfl⟩, st', fun b hb => (hf b hb).1⟩⟩
    rw [Int.mul_one]
  done := by
    intro X hP hw hK hc i pins s σ H E I hf st hg
    subst hP hw hK
    obtain ⟨f0, f1, f2, f3, f4, f5⟩ := hf it (by simp)
    exact wpAny_pyNext_range_end (I.ok.hd hc) st (by have : n ≤ i := hg; trivial) fun h' eb => ⟨rfl, I.turned (t' := s.toks) (fun b o hb e => eb b o hb e) f0 f1 f3 f4 f5⟩
  self := fun _ _ _ _ _ st h => wpAny_pyIter_rangeiter st h
end L2
namespace L2
open PySem PySem.Spec PyProof.Rows
section
variable {X : Cx} {tg : Expr}
noncomputable def iList (K : PySem.W.Frag) (tl : TE) : TI := fun σ H R => tl σ H fun x H1 => ∃ a, x = .ref a ∧ (∃ xs, SqL K H1 a xs) ∧ R (Itl K a) H1
noncomputable def iTup (K : PySem.W.Frag) (tl : TE) : TI := fun σ H R => tl σ H fun x H1 => ∃ a, x = .ref a ∧ (∃ xs, SqT K H1 a xs) ∧ R (Itt K a) H1
theorem range_it {pins : List (Addr × Obj)} {σ : St} {H : Hp} {s : Shared} {R : It → Hp → Prop} {E : Value → Shared → Prop} {lo hi : Int} {t u v : Tok} {tk : Nat} (I : Inv X pins σ H s) (h1 : -(2 ^ 62) ≤ lo) (h2 : lo < 2 ^ 62) (h3 : -(2 ^ 62) ≤ hi) (h4 : hi < 2 ^ 62)
    (q : R (Itr lo (hi - lo).toNat) H) : wpAny (model X.prog X.w) X.A (pyIter (.ref s.heap.objs.size)) (PIE X pins σ tg R) E { s with heap := s.heap.push { cls := .type "range", data := .fields #[.int lo t, .int hi u, .int 1 v] }, toks := tk } := by
  refine wpAny_pyIter_range (IsRange.new ..) (small_one h1 h2 h3 h4) ?_
  have I1 : Inv X pins σ H { s with heap := s.heap.push { cls := .type "range", data := .fields #[.int lo t, .int hi u, .int 1 v] }, toks := tk } := I.kept fun b o e => Heap.get?_push_of_some _ e
  refine ⟨(s.heap.push { cls := .type "range", data := .fields #[.int lo t, .int hi u, .int 1 v] }).objs.size, [(s.heap.push { cls := .type "range", data := .fields #[.int lo t, .int hi u, .int 1 v] }).objs.size], _, _, H, rfl,
    I1.kept (t' := tk) fun b o e => Heap.get?_push_of_some _ e, turn_range _ lo (hi - lo).toNat, ?_, fun b hb => ?_, q⟩
  · have e1 : lo + ((0 : Nat) : Int) * 1 = lo := by simp
    have e2 : (((hi - lo).toNat : Nat) : Int) - ((0 : Nat) : Int) = Builtin.Range.rangeSize lo hi 1 := by rw [rangeSize_one]; split <;> trivial
    show IsRangeIter _ _ (lo + ((0 : Nat) : Int) * 1) ((((hi - lo).toNat : Nat) : Int) - ((0 : Nat) : Int)) 1
    rw [e1, e2]
    exact Heap.get?_push_size _ rfl
  · have e : b = (s.heap.push { cls := .type "range", data := .fields #[.int lo t, .int hi u, .int 1 v] }).objs.size := by simpa using hb
    subst e
    exact I1.fpOk (Nat.le_refl _) (I1.hok.fresh (Nat.le_refl _))
noncomputable def iRng1 (ta : TA) : TI := fun σ H R => ta σ H fun vs H1 => ∃ j : Int, vs = [.int j] ∧ -(2 ^ 62) ≤ j ∧ j < 2 ^ 62 ∧ R (Itr 0 j.toNat) H1
noncomputable def iRng2 (ta : TA) : TI := fun σ H R => ta σ H fun vs H1 => ∃ i j : Int, vs = [.int i, .int j] ∧ (-(2 ^ 62) ≤ i ∧ i < 2 ^ 62 ∧ -(2 ^ 62) ≤ j ∧ j < 2 ^ 62) ∧ R (Itr i (j - i).toNat) H1
theorem pi_range1 {a : Expr} {ta : TA} {p pos : Pos} (hg : Gl X "range") (hm : X.mg "range" = none) (ha : PA X [a] ta) (hs : starEach [a] X.env = [(false, eval a X.env)] := by rfl) : PI X tg (.Call (.Name "range" p) [a] [] pos) (iRng1 ta) := by
  intro pins s σ H R I h
  refine Call_ (ld_blt I hg hm boot_range (PyProof.Rows.callWith_type1 (thn (ha pos pins s σ H _ I h) fun us s1 hh18 => ?_) hs rfl))
  obtain ⟨vs, H1, I1, r1, q1⟩ := hh18
  obtain ⟨j, e, q1, q2, q⟩ := q1
  subst e
  cases r1 with
  | cons r rr =>
    cases rr
    obtain ⟨t, rfl⟩ := r
    exact call_range_1 (range_it I1 (by trivial) (by trivial) q1 q2 (by simpa using q))
noncomputable def tFor (wi : TI) (g : TG) (tb : TS) : TS := fun D σ H => wi σ H fun J H1 => ∃ W : Nat → Nat → St → Hp → Prop, (∃ m, W 0 m σ H1) ∧ ∀ i m σ H, W i m σ H →
  (J.stop i H ∧ D.nx σ H) ∨ (J.go i H ∧ ∃ N : St → Hp → Prop, (∀ σ' H', N σ' H' → ∃ m', m' < m ∧ W (i + 1) m' σ' H') ∧ ∀ x H', J.yld i H x H' → g x σ H' fun σ2 H2 => tb { D with nx := N, ct := N, bk := D.nx } σ2 H2)
noncomputable def pinsAt (fp : List Addr) (h : Heap) : List (Addr × Obj) := fp.filterMap fun b => (h.get? b).map fun o => (b, o)
theorem mem_pinsAt {fp : List Addr} {h : Heap} {b : Addr} {o : Obj} (hb : b ∈ fp) (e : h.get? b = some o) : (b, o) ∈ pinsAt fp h := List.mem_filterMap.mpr ⟨b, hb, by rw [e]; rfl⟩
theorem of_pinsAt {fp : List Addr} {h : Heap} {p : Addr × Obj} (hp : p ∈ pinsAt fp h) : p.1 ∈ fp ∧ h.get? p.1 = some p.2 := by
  obtain ⟨b, hb, e⟩ := List.mem_filterMap.mp hp
  cases q : h.get? b with
  | none => rw [q] at e; cases e
  | some o =>
    rw [q] at e
    have e' : (b, o) = p := Option.some.inj e
    subst e'
    exact ⟨hb, q⟩
theorem Inv.pinned {pins : List (Addr × Obj)} {σ : St} {H : Hp} {s : Shared} {fp : List Addr} (I : Inv X pins σ H s) (hf : ∀ b ∈ fp, FpOk X pins H b) (ho : ∀ b ∈ fp, ∃ o, s.heap.get? b = some o ∧ ∀ v, o.data ≠ .cell v) : Inv X (pins ++ pinsAt fp s.heap) σ H s :=
  I.pins_of fun p hp => (List.mem_append.mp hp).elim (fun z => I.pin p (List.mem_append_right _ z)) fun z => by
    obtain ⟨hb, e⟩ := of_pinsAt z
    obtain ⟨f0, f1, f2, _⟩ := hf p.1 hb
    obtain ⟨o, e', d⟩ := ho p.1 hb
    rw [e] at e'; cases e'
    exact ⟨e, f0, f1, f2, d⟩
theorem Inv.unpinned {pins pl : List (Addr × Obj)} {σ : St} {H : Hp} {s : Shared} (I : Inv X (pins ++ pl) σ H s) : Inv X pins σ H s := I.pins_of fun p hp => I.pin p (List.mem_append_right _ (List.mem_append_left _ hp))
theorem ps_for {iter : Expr} {body : List Stmt} {wi : TI} {g : TG} {tb : TS} {pos : Pos} (hp : PassesOwn (model X.prog X.w) X.A X.env X.xe) (hc : X.calm = true) (hi : PI X tg iter wi) (hg : PG X tg g) (hb : PSs X body tb)
    (hs : ∀ x, foldedSetIterable iter X.env x = pure x := by intro _; rfl) : PS X (.For tg iter body [] pos) (tFor wi g tb) := by
  intro pins s σ H D I h
  refine wpAny_For (thn (hi pins s σ H _ I h) fun v s1 h1 => thn h1 fun itv s2 h2 => ?_) hs
  obtain ⟨it, fp, tn, J, H2, e, I2, T, st2, f2, W, ⟨m0, w0⟩, turn⟩ := h2
  subst e
  have stat : ∀ {H' : Hp}, (∀ b ∈ fp, H' b = none) → ∀ b ∈ fp, FpOk X pins H' b := fun hn b hb => ⟨hn b hb, (f2 b hb).2⟩
  refine codeAny_forLoop_any (fun n s' => ∃ i σ' H', Inv X pins σ' H' s' ∧ tn i s'.heap ∧ (∀ b ∈ fp, H' b = none) ∧ W i n σ' H') ?_ m0 ⟨0, σ, H2, I2, st2, fun b hb => (f2 b hb).1, w0⟩
  rintro n s3 ⟨i, σ3, H3, I3, st3, fr3, w3⟩
  rcases turn i n σ3 H3 w3 with ⟨stop, qn⟩ | ⟨go, N, hN, step⟩
  · refine wpAny_passesOwn hp (thn (T.done X rfl rfl rfl hc i pins s3 σ3 H3 X.xe I3 (stat fr3) st3 stop) fun r s4 hh19 => ?_)
    obtain ⟨hr, I4⟩ := hh19
    subst hr
    exact wpAny_execs_nil ⟨σ3, H3, I4, qn⟩
  · refine wpAny_passesOwn hp (thn (T.item X rfl rfl rfl hc i pins s3 σ3 H3 X.xe I3 (stat fr3) st3 go) fun r s4 hh20 => ?_)
    obtain ⟨u, hr, h4⟩ := hh20
    subst hr
    refine wpAny_passesOwn hp (thn h4 fun _ s5 hh21 => ?_)
    obtain ⟨x, H5, I5, r5, y5, st5, fr5⟩ := hh21
    have I5' := I5.pinned (stat fr5) (T.obj _ _ st5)
    refine wpAny_passesOwn hp (thn (hg _ s5 σ3 H5 x u _ I5' r5 (step x H5 y5)) fun _ s6 hh22 => ?_)
    obtain ⟨σ6, H6, I6, q6⟩ := hh22
    refine wpAny_passesOwn hp (thn (hb _ s6 σ6 H6 _ I6 q6) fun f s7 q7 => ?_)
    have again : ∀ {σ7 : St} {H7 : Hp}, Inv X (pins ++ pinsAt fp s5.heap) σ7 H7 s7 → N σ7 H7 → ∃ m, m < n ∧ ∃ i σ' H', Inv X pins σ' H' s7 ∧ tn i s7.heap ∧ (∀ b ∈ fp, H' b = none) ∧ W i m σ' H' := fun {σ7 H7} I7 n7 => by
      obtain ⟨m', hm, w7⟩ := hN σ7 H7 n7
      refine ⟨m', hm, i + 1, σ7, H7, I7.unpinned, T.keep _ _ _ st5 fun b hb o e => (I7.pin (b, o) (List.mem_append_right _ (List.mem_append_right _ (mem_pinsAt hb e)))).1, fun b hb => ?_, w7⟩
      obtain ⟨o, e, d⟩ := T.obj _ _ st5 b hb
      exact (I7.pin (b, o) (List.mem_append_right _ (List.mem_append_right _ (mem_pinsAt hb e)))).2.1
    cases f with
    | next => obtain ⟨σ7, H7, I7, n7⟩ := q7; exact again I7 n7
    | cont => obtain ⟨σ7, H7, I7, n7⟩ := q7; exact again I7 n7
    | brk => obtain ⟨σ7, H7, I7, q7⟩ := q7; exact ⟨σ7, H7, I7.unpinned, q7⟩
    | ret v => obtain ⟨x7, σ7, H7, I7, r7, q7⟩ := q7; exact ⟨x7, σ7, H7, I7.unpinned, r7, q7⟩
end
theorem for_list {K : PySem.W.Frag} {a : Addr} {xs : List V} {g : TG} {tb : TS} {D : Ends} {σ : St} {H : Hp} (Pv : Nat → St → Hp → Prop) (h0 : Pv 0 σ H) (hl : ∀ i σ H, i ≤ xs.length → Pv i σ H → SqL K H a xs)
    (hs : ∀ i x σ H, xs[i]? = some x → Pv i σ H → g x σ H fun σ2 H2 => tb { D with nx := Pv (i + 1), ct := Pv (i + 1), bk := D.nx } σ2 H2) (hd : ∀ σ H, Pv xs.length σ H → D.nx σ H) :
    ∃ W : Nat → Nat → St → Hp → Prop, (∃ m, W 0 m σ H) ∧ ∀ i m σ H, W i m σ H →
      ((Itl K a).stop i H ∧ D.nx σ H) ∨ ((Itl K a).go i H ∧ ∃ N : St → Hp → Prop, (∀ σ' H', N σ' H' → ∃ m', m' < m ∧ W (i + 1) m' σ' H') ∧ ∀ x H', (Itl K a).yld i H x H' → g x σ H' fun σ2 H2 => tb { D with nx := N, ct := N, bk := D.nx } σ2 H2) := by
  refine ⟨fun i m σ H => m = xs.length - i ∧ i ≤ xs.length ∧ Pv i σ H, ⟨xs.length, by simp, Nat.zero_le _, h0⟩, ?_⟩
  rintro i m σ H ⟨rfl, hi, p⟩
  have q := hl i σ H hi p
  by_cases hlt : i < xs.length
  · refine .inr ⟨⟨xs, xs[i], q, by simp [hlt]⟩, Pv (i + 1), fun σ' H' p' => ⟨xs.length - (i + 1), by trivial, rfl, hlt, p'⟩, fun x H' y => ?_⟩
    obtain ⟨e, y⟩ := y
    subst e
    exact hs i x σ _ (y xs q) p
  · have e : i = xs.length := by trivial
    subst e
    exact .inl ⟨⟨xs, q, Nat.le_refl _⟩, hd σ H p⟩
theorem for_range {lo : Int} {n : Nat} {g : TG} {tb : TS} {D : Ends} {σ : St} {H : Hp} (Pv : Nat → St → Hp → Prop) (h0 : Pv 0 σ H)
    (hs : ∀ i σ H, i < n → Pv i σ H → g (.int (lo + i)) σ H fun σ2 H2 => tb { D with nx := Pv (i + 1), ct := Pv (i + 1), bk := D.nx } σ2 H2) (hd : ∀ σ H, Pv n σ H → D.nx σ H) :
    ∃ W : Nat → Nat → St → Hp → Prop, (∃ m, W 0 m σ H) ∧ ∀ i m σ H, W i m σ H →
      ((Itr lo n).stop i H ∧ D.nx σ H) ∨ ((Itr lo n).go i H ∧ ∃ N : St → Hp → Prop, (∀ σ' H', N σ' H' → ∃ m', m' < m ∧ W (i + 1) m' σ' H') ∧ ∀ x H', (Itr lo n).yld i H x H' → g x σ H' fun σ2 H2 => tb { D with nx := N, ct := N, bk := D.nx } σ2 H2) := by
  refine ⟨fun i m σ H => m = n - i ∧ i ≤ n ∧ Pv i σ H, ⟨n, by simp, Nat.zero_le _, h0⟩, ?_⟩
  rintro i m σ H ⟨rfl, hi, p⟩
  by_cases hlt : i < n
  · refine .inr ⟨hlt, Pv (i + 1), fun σ' H' p' => ⟨n - (i + 1), by trivial, rfl, hlt, p'⟩, fun x H' y => ?_⟩
    obtain ⟨e, y⟩ := y
    subst e y
    exact hs i σ _ hlt p
  · have e : i = n := by trivial
    subst e
    exact .inl ⟨Nat.le_refl _, hd σ H p⟩
end L2
namespace L2
open PySem PySem.Spec PyProof.Rows
noncomputable abbrev R2 := V → V → Hp → VK → Prop
noncomputable def OpR (X : Cx) (f : Value → Value → Sem Value) (r : R2) : Prop :=
  ∀ (pins : List (Addr × Obj)) (s : Shared) (σ : St) (H : Hp) (x y : V) (v u : Value) (Q : VK), Inv X pins σ H s → RelV x v → RelV y u → r x y H Q →
    wpAny (model X.prog X.w) X.A (f v u) (EP X pins σ Q) X.xe s
noncomputable def UnR (X : Cx) (f : Value → Sem Value) (r : V → Hp → VK → Prop) : Prop :=
  ∀ (pins : List (Addr × Obj)) (s : Shared) (σ : St) (H : Hp) (x : V) (v : Value) (Q : VK), Inv X pins σ H s → RelV x v → r x H Q →
    wpAny (model X.prog X.w) X.A (f v) (EP X pins σ Q) X.xe s
noncomputable def CallR (X : Cx) (f : Value) (r : List V → Hp → VK → Prop) : Prop :=
  ∀ (pins : List (Addr × Obj)) (s : Shared) (σ : St) (H : Hp) (xs : List V) (us : List Value) (Q : VK), Inv X pins σ H s → Vals xs us → r xs H Q →
    wpAny (model X.prog X.w) X.A (call f us) (EP X pins σ Q) X.xe s
noncomputable def TruR (X : Cx) (r : V → Hp → (Bool → Hp → Prop) → Prop) : Prop :=
  ∀ (pins : List (Addr × Obj)) (s : Shared) (σ : St) (H : Hp) (x : V) (v : Value) (Q : Bool → Hp → Prop), Inv X pins σ H s → RelV x v → r x H Q →
    wpAny (model X.prog X.w) X.A (truthy v) (TP X pins σ Q) X.xe s
noncomputable def tOp (r : R2) (ta tb : TE) : TE := fun σ H Q => ta σ H fun x H1 => tb σ H1 fun y H2 => r x y H2 Q
noncomputable def tUn (r : V → Hp → VK → Prop) (ta : TE) : TE := fun σ H Q => ta σ H fun x H1 => r x H1 Q
noncomputable def rI (C : Int → Int → Prop) (g : Int → Int → V) : R2 := fun x y H Q => ∃ i j, x = .int i ∧ y = .int j ∧ C i j ∧ Q (g i j) H
noncomputable def rI0 (g : Int → Int → V) : R2 := fun x y H Q => ∃ i j, x = .int i ∧ y = .int j ∧ Q (g i j) H
noncomputable def rU (g : Int → V) : V → Hp → VK → Prop := fun x H Q => ∃ i, x = .int i ∧ Q (g i) H
section
variable {X : Cx} {a b c : Expr} {ta tb tc : TE} {pos : Pos}
theorem binT (ha : PE X a ta) (hb : PE X b tb) {pins : List (Addr × Obj)} {s : Shared} {σ : St} {H : Hp} {R : V → V → Hp → Prop} (I : Inv X pins σ H s)
    (h : ta σ H fun x H1 => tb σ H1 fun y H2 => R x y H2) {Q : Value → Shared → Prop} {f : Value → Value → Sem Value}
    (hf : ∀ v u s2 x y H2, Inv X pins σ H2 s2 → RelV x v → RelV y u → R x y H2 → wpAny (model X.prog X.w) X.A (f v u) Q X.xe s2) :
    wpAny (model X.prog X.w) X.A (eval a X.env) (fun v s₁ => wpAny (model X.prog X.w) X.A (eval b X.env) (fun u s₂ => wpAny (model X.prog X.w) X.A (f v u) Q X.xe s₂) X.xe s₁) X.xe s := by
  refine thn (ha pins s σ H _ I h) fun v s1 hh23 => ?_
  obtain ⟨x, H1, I1, r1, q1⟩ := hh23
  refine thn (hb pins s1 σ H1 _ I1 q1) fun u s2 hh24 => ?_
  obtain ⟨y, H2, I2, r2, q2⟩ := hh24
  exact hf v u s2 x y H2 I2 r1 r2 q2
theorem pe_op {op : Operator} {r : R2} (ho : OpR X (binaryOp op) r) (ha : PE X a ta) (hb : PE X b tb) : PE X (.BinOp a op b pos) (tOp r ta tb) := by
  intro pins s σ H Q I h
  exact wpAny_BinOp (binT ha hb I h fun v u s2 x y H2 I2 rx ry q => ho pins s2 σ H2 x y v u Q I2 rx ry q)
theorem pe_un {op : UnaryOp} {r : V → Hp → VK → Prop} (ho : UnR X (unaryOp op) r) (ha : PE X a ta) : PE X (.UnaryOp op a pos) (tUn r ta) := by
  intro pins s σ H Q I h
  exact UnaryOp_ (thn (ha pins s σ H _ I h) fun v s1 hh => by obtain ⟨x, H1, I1, r1, q1⟩ := hh; exact ho pins s1 σ H1 x v Q I1 r1 q1)
theorem opI {f : Value → Value → Sem Value} {C : Int → Int → Prop} {g : Int → Int → Int}
    (rule : ∀ (i j : Int) (t u : Tok) (s : Shared) (Q : Value → Shared → Prop) (E : Value → Shared → Prop), C i j → Q (.int (g i j) s.toks) { s with toks := s.toks + 1 } → wpAny (model X.prog X.w) X.A (f (.int i t) (.int j u)) Q E s) :
    OpR X f (rI C fun i j => .int (g i j)) := by
  intro pins s σ H x y v u Q I rx ry h
  obtain ⟨i, j, rfl, rfl, hc, q⟩ := h
  obtain ⟨t, rfl⟩ := rx
  obtain ⟨t', rfl⟩ := ry
  exact rule i j t t' s _ _ hc ⟨.int (g i j), H, I.tok _, ⟨_, rfl⟩, q⟩
theorem opI0 {f : Value → Value → Sem Value} {g : Int → Int → Int}
    (rule : ∀ (i j : Int) (t u : Tok) (s : Shared) (Q : Value → Shared → Prop) (E : Value → Shared → Prop), Q (.int (g i j) s.toks) { s with toks := s.toks + 1 } → wpAny (model X.prog X.w) X.A (f (.int i t) (.int j u)) Q E s) :
    OpR X f (rI0 fun i j => .int (g i j)) := by
  intro pins s σ H x y v u Q I rx ry h
  obtain ⟨i, j, rfl, rfl, q⟩ := h
  obtain ⟨t, rfl⟩ := rx
  obtain ⟨t', rfl⟩ := ry
  exact rule i j t t' s _ _ ⟨.int (g i j), H, I.tok _, ⟨_, rfl⟩, q⟩
theorem opB0 {f : Value → Value → Sem Value} {g : Int → Int → Bool}
    (rule : ∀ (i j : Int) (t u : Tok) (s : Shared) (Q : Value → Shared → Prop) (E : Value → Shared → Prop), Q (.bool (g i j)) s → wpAny (model X.prog X.w) X.A (f (.int i t) (.int j u)) Q E s) :
    OpR X f (rI0 fun i j => .bl (g i j)) := by
  intro pins s σ H x y v u Q I rx ry h
  obtain ⟨i, j, rfl, rfl, q⟩ := h
  obtain ⟨t, rfl⟩ := rx
  obtain ⟨t', rfl⟩ := ry
  exact rule i j t t' s _ _ ⟨.bl (g i j), H, I, rfl, q⟩
noncomputable def CDiv (i j : Int) : Prop := 0 < j ∧ j < 1073741824
noncomputable def CDivN (i j : Int) : Prop := j ≠ 0 ∧ j.natAbs < 1073741824
noncomputable def CPow (i j : Int) : Prop := 0 ≤ j ∧ j ≤ 1000000 ∧ i.natAbs < 2 ^ 64
noncomputable def CMul (i j : Int) : Prop := (-(2 ^ 64) < i ∧ i < 2 ^ 64) ∨ (-(2 ^ 64) < j ∧ j < 2 ^ 64)
theorem CMul.ok {i j : Int} (h : CMul i j) : IntMulOk i j := by
  rcases h with ⟨h1, h2⟩ | ⟨h1, h2⟩
  · exact .of_left (intBits_le_64 h1 h2)
  · exact .of_right (intBits_le_64 h1 h2)
theorem op_add : OpR X (binaryOp .Add) (rI0 fun i j => .int (i + j)) := opI0 fun _ _ _ _ _ _ _ q => add_int q
theorem op_sub : OpR X (binaryOp .Sub) (rI0 fun i j => .int (i - j)) := opI0 fun _ _ _ _ _ _ _ q => sub_int q
theorem op_mul : OpR X (binaryOp .Mult) (rI CMul fun i j => .int (i * j)) := opI fun _ _ _ _ _ _ _ hc q => mul_int q hc.ok
theorem op_fdiv : OpR X (binaryOp .FloorDiv) (rI CDiv fun i j => .int (i / j)) := opI fun i j _ _ _ _ _ hc q => by
  have h1 : (0 : Int) < j := hc.1
  have h2 : j < 1073741824 := hc.2
  exact floordiv_int (by trivial) (by rw [Int.fdiv_eq_ediv_of_nonneg i (by trivial)]; exact q) (.inl (PyProof.noPylong_small (by trivial)))
theorem op_mod : OpR X (binaryOp .Mod) (rI (fun _ j => 0 < j) fun i j => .int (i % j)) := opI fun i j _ _ _ _ _ hc q => by
  have h1 : (0 : Int) < j := hc
  exact mod_int' (by trivial) (by rw [Int.fmod_eq_emod_of_nonneg i (by trivial)]; exact q)
theorem op_pow : OpR X (binaryOp .Pow) (rI CPow fun i j => .int (i ^ j.toNat)) := opI fun _ _ _ _ _ _ _ hc q => pow_int_small hc.1 hc.2.1 hc.2.2 q
theorem unI {f : Value → Sem Value} {g : Int → Int}
    (rule : ∀ (i : Int) (t : Tok) (s : Shared) (Q : Value → Shared → Prop) (E : Value → Shared → Prop), Q (.int (g i) s.toks) { s with toks := s.toks + 1 } → wpAny (model X.prog X.w) X.A (f (.int i t)) Q E s) :
    UnR X f (rU fun i => .int (g i)) := by
  intro pins s σ H x v Q I rx h
  obtain ⟨i, rfl, q⟩ := h
  obtain ⟨t, rfl⟩ := rx
  exact rule i t s _ _ ⟨.int (g i), H, I.tok _, ⟨_, rfl⟩, q⟩
theorem un_neg : UnR X (unaryOp .USub) (rU fun i => .int (-i)) := unI fun _ _ _ _ _ q => neg_int q
end
noncomputable def scal : V → V → Bool
  | .non, .non => true | .non, .int _ => true | .int _, .non => true | .non, .bl _ => true | .bl _, .non => true | .non, .str _ => true | .str _, .non => true
  | .int _, .int _ => true | .bl _, .bl _ => true | .str _, .str _ => true | .byt _, .byt _ => true
  | .int _, .str _ => true | .str _, .int _ => true | .bl _, .str _ => true | .str _, .bl _ => true
  | _, _ => false
noncomputable def rEq : R2 := fun x y H Q => scal x y = true ∧ Q (.bl (decide (x = y))) H
noncomputable def rNe : R2 := fun x y H Q => scal x y = true ∧ Q (.bl (!decide (x = y))) H
theorem dec_int {i j : Int} : decide (V.int i = V.int j) = (i == j) := by
  rw [Bool.eq_iff_iff]
  simp
theorem dec_bl {i j : Bool} : decide (V.bl i = V.bl j) = (i == j) := by
  rw [Bool.eq_iff_iff]
  simp
theorem dec_str {i j : Str} : decide (V.str i = V.str j) = (i == j) := by
  rw [Bool.eq_iff_iff]
  simp
theorem dec_byt {i j : Array UInt8} : decide (V.byt i = V.byt j) = (i.toList == j.toList) := by
  rw [Bool.eq_iff_iff]
  cases i
  cases j
  simp
section
variable {X : Cx} {a b c : Expr} {ta tb tc : TE} {pos : Pos}
theorem fin_bl {pins : List (Addr × Obj)} {σ : St} {H : Hp} {s : Shared} {Q : VK} {k k' : Bool} (I : Inv X pins σ H s) (q : Q (.bl k) H) (e : k = k') : EP X pins σ Q (.bool k') s := by
  subst e
  exact ⟨.bl k, H, I, rfl, q⟩
theorem op_eq : OpR X (compareOp .Eq) rEq := by
  intro pins s σ H x y v u Q I rx ry h
  obtain ⟨hs, q⟩ := h
  cases x with
  | non =>
    cases rx
    cases y with
    | non => cases ry; exact PySem.EqNone.eq_none_none (fin_bl I q (by simp))
    | bl j => cases ry; exact PySem.EqNone.eq_none_bool (fin_bl I q (by simp))
    | int j => obtain ⟨t', rfl⟩ := ry; exact PySem.EqNone.eq_none_int (fin_bl I q (by simp))
    | str j => obtain ⟨t', rfl⟩ := ry; exact PySem.EqNone.eq_none_str (fin_bl I q (by simp))
    | _ => exact absurd (show false = true from hs) Bool.false_ne_true
  | bl i =>
    cases rx
    cases y with
    | non => cases ry; exact PySem.EqNone.eq_bool_none (fin_bl I q (by simp))
    | bl j => cases ry; exact eq_bool (fin_bl I q dec_bl)
    | str j => obtain ⟨t', rfl⟩ := ry; exact PySem.EqMixed.eq_bool_str (fin_bl I q (by simp))
    | _ => exact absurd (show false = true from hs) Bool.false_ne_true
  | int i =>
    obtain ⟨t, rfl⟩ := rx
    cases y with
    | non => cases ry; exact PySem.EqNone.eq_int_none (fin_bl I q (by simp))
    | int j => obtain ⟨t', rfl⟩ := ry; exact eq_int (fin_bl I q dec_int)
    | str j => obtain ⟨t', rfl⟩ := ry; exact PySem.EqMixed.eq_int_str (fin_bl I q (by simp))
    | _ => exact absurd (show false = true from hs) Bool.false_ne_true
  | str i =>
    obtain ⟨t, rfl⟩ := rx
    cases y with
    | non => cases ry; exact PySem.EqNone.eq_str_none (fin_bl I q (by simp))
    | bl j => cases ry; exact PySem.EqMixed.eq_str_bool (fin_bl I q (by simp))
    | int j => obtain ⟨t', rfl⟩ := ry; exact PySem.EqMixed.eq_str_int (fin_bl I q (by simp))
    | str j => obtain ⟨t', rfl⟩ := ry; exact eq_str (fin_bl I q dec_str)
    | _ => exact absurd (show false = true from hs) Bool.false_ne_true
  | byt i =>
    obtain ⟨t, rfl⟩ := rx
    cases y with
    | byt j => obtain ⟨t', rfl⟩ := ry; exact PySem.W.eq_bytes (fin_bl I q dec_byt)
    | _ => exact absurd (show false = true from hs) Bool.false_ne_true
  | _ => cases y <;> exact absurd (show false = true from hs) Bool.false_ne_true
theorem op_ne : OpR X (compareOp .NotEq) rNe := by
  intro pins s σ H x y v u Q I rx ry h
  obtain ⟨hs, q⟩ := h
  cases x with
  | non =>
    cases rx
    cases y with
    | non => cases ry; exact PySem.EqNone.ne_none_none (fin_bl I q (by simp))
    | bl j => cases ry; exact PySem.EqNone.ne_none_bool (fin_bl I q (by simp))
    | int j => obtain ⟨t', rfl⟩ := ry; exact PySem.EqNone.ne_none_int (fin_bl I q (by simp))
    | str j => obtain ⟨t', rfl⟩ := ry; exact PySem.EqNone.ne_none_str (fin_bl I q (by simp))
    | _ => exact absurd (show false = true from hs) Bool.false_ne_true
  | bl i =>
    cases rx
    cases y with
    | non => cases ry; exact PySem.EqNone.ne_bool_none (fin_bl I q (by simp))
    | bl j => cases ry; exact ne_bool (fin_bl I q (congrArg not dec_bl))
    | str j => obtain ⟨t', rfl⟩ := ry; exact PySem.EqMixed.ne_bool_str (fin_bl I q (by simp))
    | _ => exact absurd (show false = true from hs) Bool.false_ne_true
  | int i =>
    obtain ⟨t, rfl⟩ := rx
    cases y with
    | non => cases ry; exact PySem.EqNone.ne_int_none (fin_bl I q (by simp))
    | int j => obtain ⟨t', rfl⟩ := ry; exact ne_int (fin_bl I q (congrArg not dec_int))
    | str j => obtain ⟨t', rfl⟩ := ry; exact PySem.EqMixed.ne_int_str (fin_bl I q (by simp))
    | _ => exact absurd (show false = true from hs) Bool.false_ne_true
  | str i =>
    obtain ⟨t, rfl⟩ := rx
    cases y with
    | non => cases ry; exact PySem.EqNone.ne_str_none (fin_bl I q (by simp))
    | bl j => cases ry; exact PySem.EqMixed.ne_str_bool (fin_bl I q (by simp))
    | int j => obtain ⟨t', rfl⟩ := ry; exact PySem.EqMixed.ne_str_int (fin_bl I q (by simp))
    | str j => obtain ⟨t', rfl⟩ := ry; exact ne_str (fin_bl I q (congrArg not dec_str))
    | _ => exact absurd (show false = true from hs) Bool.false_ne_true
  | byt i =>
    obtain ⟨t, rfl⟩ := rx
    cases y with
    | byt j => obtain ⟨t', rfl⟩ := ry; exact PySem.W.ne_bytes (fin_bl I q (congrArg not dec_byt))
    | _ => exact absurd (show false = true from hs) Bool.false_ne_true
  | _ => cases y <;> exact absurd (show false = true from hs) Bool.false_ne_true
theorem op_lt : OpR X (compareOp .Lt) (rI0 fun i j => .bl (decide (i < j))) := opB0 fun _ _ _ _ _ _ _ q => lt_int q
theorem op_gt : OpR X (compareOp .Gt) (rI0 fun i j => .bl (decide (j < i))) := opB0 fun _ _ _ _ _ _ _ q => gt_int q
theorem op_ge : OpR X (compareOp .GtE) (rI0 fun i j => .bl (decide (j ≤ i))) := opB0 fun _ _ _ _ _ _ _ q => ge_int q
theorem op_isN : OpR X (compareOp .Is) (fun x y H Q => y = .non ∧ Q (.bl (decide (x = .non))) H) := by
  intro pins s σ H x y v u Q I rx ry h
  obtain ⟨rfl, q⟩ := h
  cases ry
  refine is_none_gen (fin_bl I q ?_)
  cases x <;> first
    | (cases rx; rfl)
    | (obtain ⟨t, rfl⟩ := rx; rfl)
theorem op_notN : OpR X (compareOp .IsNot) (fun x y H Q => y = .non ∧ Q (.bl (!decide (x = .non))) H) := by
  intro pins s σ H x y v u Q I rx ry h
  obtain ⟨rfl, q⟩ := h
  cases ry
  refine isnot_none_gen (fin_bl I q ?_)
  cases x <;> first
    | (cases rx; rfl)
    | (obtain ⟨t, rfl⟩ := rx; rfl)
noncomputable def isObj : HO → Bool
  | .lst _ => true
  | .ins _ _ _ => true
  | _ => false
theorem OpR.or {f : Value → Value → Sem Value} {r r' : R2} (h : OpR X f r) (h' : OpR X f r') : OpR X f (fun x y H Q => r x y H Q ∨ r' x y H Q) := by
  intro pins s σ H x y v u Q I rx ry q
  rcases q with q | q
  · exact h pins s σ H x y v u Q I rx ry q
  · exact h' pins s σ H x y v u Q I rx ry q
theorem nomark (b : Expr) {op : CmpOp} (h : op ≠ .In := by decide) (h2 : op ≠ .NotIn := by decide) : behindInMarks op b = false := by
  have e1 : (op == CmpOp.In) = false := by cases op <;> first | rfl | exact absurd rfl h
  have e2 : (op == CmpOp.NotIn) = false := by cases op <;> first | rfl | exact absurd rfl h2
  cases b <;> simp [behindInMarks, e1, e2]
theorem pe_cmpR {op : CmpOp} {r : R2} (ho : OpR X (compareOp op) r) (ha : PE X a ta) (hb : PE X b tb) (hm : behindInMarks op b = false) : PE X (.Compare a [op] [b] pos) (tOp r ta tb) := by
  intro pins s σ H Q I h
  exact wpAny_Compare1 (binT ha hb I h fun v u s2 x y H2 I2 rx ry q => ho pins s2 σ H2 x y v u Q I2 rx ry q) hm
noncomputable def tTest (t : TE) : TT := fun σ H Q => t σ H fun x H' => ∃ k, x = .bl k ∧ Q k H'
theorem pt_cmpR {op : CmpOp} {r : R2} (ho : OpR X (compareOp op) r) (ha : PE X a ta) (hb : PE X b tb) (hm : behindInMarks op b = false) : PT X (.Compare a [op] [b] pos) (tTest (tOp r ta tb)) := by
  intro pins s σ H Q I h
  refine wpAny_isTrue_Compare1 (thn (ha pins s σ H _ I h) fun v s1 ⟨x, H1, I1, r1, q1⟩ => thn (hb pins s1 σ H1 _ I1 q1) fun u s2 ⟨y, H2, I2, r2, q2⟩ =>
    thn (ho pins s2 σ H2 x y v u _ I2 r1 r2 q2) fun c s3 ⟨z, H3, I3, r3, k, e, q3⟩ => ?_) hm
  subst e
  cases r3
  exact wpAny_truthy_bool ⟨H3, I3, q3⟩
noncomputable def tChain (r r' : R2) (ta tb tc : TE) : TE := fun σ H Q => ta σ H fun x H1 => tb σ H1 fun y H2 => r x y H2 fun z H3 => ∃ k, z = .bl k ∧
  (if k = true then tc σ H3 fun w' H4 => r' y w' H4 Q else Q (.bl false) H3)
noncomputable def TruV (K : PySem.W.Frag) (x : V) (H : Hp) (k : Bool) : Prop :=
  match x with
  | .non => k = false
  | .bl b => k = b
  | .int i => k = (i != 0)
  | .str y => y.length ≤ sizeLine ∧ k = ((y.length : Int) != 0)
  | .byt y => y.size ≤ sizeLine ∧ k = ((y.size : Int) != 0)
  | .ref p => (∃ xs, SqL K H p xs ∧ k = !xs.isEmpty) ∨ (∃ xs, SqT K H p xs ∧ k = !xs.isEmpty) ∨ ∃ kvs, H p = some (.dK kvs) ∧ k = !kvs.isEmpty
  | _ => False
theorem isEmpty_kv {κ : Type} {kvs : List (κ × V)} {vs : List (κ × Value)} (r : KV kvs vs) : (!vs.isEmpty) = !kvs.isEmpty := by
  cases r <;> rfl
theorem isEmpty_of {xs : List V} {its : List Value} (r : Vals xs its) : (!its.toArray.isEmpty) = !xs.isEmpty := by
  cases r <;> simp
theorem line63 : (sizeLine : Nat) < 2 ^ 63 := by rw [sizeLine_eq]; decide
theorem tru_ok : TruR X (fun x H Q => ∃ k, TruV X.K x H k ∧ Q k H) := by
  intro pins s σ H x v Q I rx h
  obtain ⟨k, e, q⟩ := h
  have hl := line63
  have hs : sizeLine = 16777216 := sizeLine_eq
  cases x with
  | non =>
    cases rx
    have e' : k = false := e
    subst e'
    exact truthy_none ⟨H, I, q⟩
  | bl b =>
    cases rx
    have e' : k = b := e
    subst e'
    exact wpAny_truthy_bool ⟨H, I, q⟩
  | int i =>
    obtain ⟨t, rfl⟩ := rx
    have e' : k = (i != 0) := e
    subst e'
    exact PySem.P.truthy_int ⟨H, I, q⟩
  | str y =>
    obtain ⟨t, rfl⟩ := rx
    obtain ⟨hy, e'⟩ : y.length ≤ sizeLine ∧ k = ((y.length : Int) != 0) := e
    subst e'
    exact PySem.P.truthy_str (by trivial) ⟨H, I.tok _, q⟩
  | byt y =>
    obtain ⟨t, rfl⟩ := rx
    obtain ⟨hy, e'⟩ : y.size ≤ sizeLine ∧ k = ((y.size : Int) != 0) := e
    subst e'
    exact PySem.W.truthy_bytes (by trivial) ⟨H, I.tok _, q⟩
  | ref p =>
    cases rx
    have e' : (∃ xs, SqL X.K H p xs ∧ k = !xs.isEmpty) ∨ (∃ xs, SqT X.K H p xs ∧ k = !xs.isEmpty) ∨ ∃ kvs, H p = some (.dK kvs) ∧ k = !kvs.isEmpty := e
    rcases e' with ⟨xs, hx, e'⟩ | ⟨xs, hx, e'⟩ | ⟨kvs, hx, e'⟩
    · subst e'
      obtain ⟨its, r, pl, hz⟩ := I.list hx
      have hlen := r.length
      exact wpAny_truthy_list pl.isList (by simp only [List.size_toArray]; trivial) ⟨H, I.tok _, by rw [isEmpty_of r]; exact q⟩
    · subst e'
      obtain ⟨its, r, pl, hz⟩ := I.tuple hx
      have hlen := r.length
      exact truthy_tuple pl (by simp only [List.size_toArray]; trivial) ⟨H, I.tok _, by rw [isEmpty_of r]; exact q⟩
    · subst e'
      obtain ⟨hz, hS, vs, r, m⟩ : kvs.length ≤ sizeLine ∧ (p == sysModules) = false ∧ ∃ vs, KV kvs vs ∧ s.heap.DictOf (mixKind X.prog X.w) p vs := I.hok p _ hx
      have hlen : kvs.length = vs.length := Paired.length r
      exact wpAny_truthy_dict hS m (by trivial) ⟨H, I.tok _, by rw [isEmpty_kv r]; exact q⟩
  | _ => exact (show False from e).elim
noncomputable def PlainIxT (b : Expr) : Prop := ∀ o i, subscripted b false o i = operate [o, i] (getItem o i)
theorem vals1 {x : V} {us : List Value} (r : Vals [x] us) : ∃ u, us = [u] ∧ RelV x u := by
  cases r with
  | cons r1 r2 => cases r2; exact ⟨_, rfl, r1⟩
theorem vals2 {x y : V} {us : List Value} (r : Vals [x, y] us) : ∃ u w', us = [u, w'] ∧ RelV x u ∧ RelV y w' := by
  cases r with
  | cons r1 r2 =>
    cases r2 with
    | cons r3 r4 => cases r4; exact ⟨_, _, rfl, r1, r3⟩
theorem call_min2 (hc : X.calm = true) : CallR X (.builtin "min") (fun xs H Q => ∃ i j, xs = [.int i, .int j] ∧ Q (.int (if j < i then j else i)) H) := by
  intro pins s σ H xs us Q I r h
  obtain ⟨i, j, rfl, q⟩ := h
  obtain ⟨u, w', rfl, ⟨t, rfl⟩, ⟨t', rfl⟩⟩ := vals2 r
  refine min_two_ints (I.ok.hd hc) fun h' tk k => ⟨_, H, I.kept k, ?_, q⟩
  by_cases hj : j < i
  · rw [if_pos hj, if_pos hj]; exact ⟨_, rfl⟩
  · rw [if_neg hj, if_neg hj]; exact ⟨_, rfl⟩
noncomputable def LenV (K : PySem.W.Frag) (x : V) (H : Hp) (n : Nat) : Prop :=
  match x with
  | .str y => y.length ≤ sizeLine ∧ n = y.length
  | .byt y => y.size ≤ sizeLine ∧ n = y.size
  | .ref p => (∃ xs, SqL K H p xs ∧ n = xs.length) ∨ ∃ xs, SqT K H p xs ∧ n = xs.length
  | _ => False
end
end L2
namespace L2
open PySem PySem.Spec PyProof.Rows
structure ObjM (h : Heap) (x dx C : Addr) (mA : Str → Option Value) : Prop where
  obj : h.get? x = some (PySem.W.instObj C dx)
  ns : h.Ns1 dx mA
  ne : dx ≠ x
theorem lookIn_ns {h : Heap} {dx : Addr} {mA : Str → Option Value} (n : h.Ns1 dx mA) : ∃ od, h.get? dx = some od ∧ ∀ name, PySem.W.lookIn name od = some (mA name) := by
  obtain ⟨o, es, ep, ho, hd, hk, _, hm⟩ := n
  refine ⟨o, ho, fun name => ?_⟩
  have e := hm name
  unfold nsFind findBy at e
  rw [← Array.find?_toList] at e
  unfold PySem.W.lookIn
  rw [hd]
  dsimp only
  split
  · rename_i y q
    rw [q] at e
    exact congrArg some e
  · rename_i q
    rw [q] at e
    have a : es.toList.any (·.refKey) = false := by
      rw [List.any_eq_false]
      intro y hy
      obtain ⟨z, t, hkey⟩ := hk y (Array.mem_toList_iff.mp hy)
      simp [DictEntry.refKey, hkey]
    have a' : ¬ es.toList.any (·.refKey) = true := by rw [a]; exact Bool.false_ne_true
    rw [if_neg a']
    exact congrArg some e
theorem ObjM.look {h : Heap} {x dx C : Addr} {mA : Str → Option Value} (I : ObjM h x dx C mA) : ∃ od, PySem.W.InstAt h x (PySem.W.instObj C dx) C (some od) ∧ ∀ name, PySem.W.lookIn name od = some (mA name) :=
  let ⟨od, ho, hl⟩ := lookIn_ns I.ns
  ⟨od, ⟨I.obj, rfl, rfl, ho⟩, hl⟩
section
variable {prog : Program} {w : World} {A : Around} {E : Value → Shared → Prop} {s : Shared} {K : PySem.W.Frag} {x dx C f : Addr} {mA : Str → Option Value} {name : Str} {v : Value}
end
noncomputable def putF (f : Str) (v : V) : List (Str × V) → List (Str × V)
  | [] => [(f, v)]
  | (g, x) :: r => if g = f then (g, v) :: r else (g, x) :: putF f v r
section
variable {P : Program} {w : World} {H H' : Hp} {h h' : Heap} {a C dx : Addr} {fs fs' : List (Str × V)}
theorem ins_get (hok : HOk P w H h) (e : H a = some (.ins C dx fs)) : ∃ mA, ObjM h a dx C mA ∧ (∀ f, RelO (fs.lookup f) (mA f)) ∧ PySem.Within mA (fs.map (·.1)) ∧ fs.length ≤ 1000 ∧ H dx = some (.own a) := by
  obtain ⟨d, z, ne, ob, mA, n, r, q⟩ := (show ObjOk P w H h a (.ins C dx fs) from hok a _ e)
  exact ⟨mA, ⟨ob, n, ne⟩, r, q, z, d⟩
end
structure Cls (K : PySem.W.Frag) (C : Addr) : Prop where
  pg : PySem.W.plainGet K C Str.empty = true
  hd : PySem.W.hasDictIn K C = true
  po : PySem.W.plainOver K C = true
  sa : PySem.W.findIn K (.ref C) "__setattr__" = some (some (.builtin "object.__setattr__"))
theorem Cls.get {K : PySem.W.Frag} {C : Addr} (c : Cls K C) (f : Str) : PySem.W.plainGet K C f = true := c.pg
noncomputable def NoAttr (K : PySem.W.Frag) (C : Addr) (f : Str) : Prop := PySem.W.findIn K (.ref C) f = some none
structure Con (K : PySem.W.Frag) (C : Addr) (f : Str) (v : V) (u : Value) : Prop where
  at_ : PySem.W.findIn K (.ref C) f = some (some u)
  rel : RelV v u
  get : PySem.W.specialIn K u "__get__" = some none
  cp : PySem.W.copiedNames.contains f = false
structure Meth (K : PySem.W.Frag) (C : Addr) (m : Str) (f : Addr) : Prop where
  at_ : PySem.W.findIn K (.ref C) m = some (some (.ref f))
  fn : PySem.W.isFn K (.ref f) = true
  kp : PySem.W.keepIn K (.ref f) = true
section
variable {X : Cx} {pins : List (Addr × Obj)} {σ : St} {H : Hp} {s : Shared} {a C dx : Addr} {fs : List (Str × V)} {f : Str} {v : V} {A : Around} {E : Value → Shared → Prop}
end
noncomputable def tFld (K : PySem.W.Frag) (ta : TE) (f : Str) : TE := fun σ H Q => ta σ H fun x H1 => ∃ a C dx fs v, x = .ref a ∧ H1 a = some (.ins C dx fs) ∧ Cls K C ∧ NoAttr K C f ∧ fs.lookup f = some v ∧ Q v H1
noncomputable def tCon (K : PySem.W.Frag) (ta : TE) (f : Str) : TE := fun σ H Q => ta σ H fun x H1 => ∃ a C dx fs v u, x = .ref a ∧ H1 a = some (.ins C dx fs) ∧ Cls K C ∧ Con K C f v u ∧ fs.lookup f = none ∧ Q v H1
noncomputable def sFld (K : PySem.W.Frag) (ta tv : TE) (f : Str) : TS := fun D σ H => tv σ H fun y H1 => ta σ H1 fun x H2 => ∃ a C dx fs, x = .ref a ∧ H2 a = some (.ins C dx fs) ∧ Cls K C ∧ NoAttr K C f ∧ fs.length < 1000 ∧
  D.nx σ (upd H2 a (.ins C dx (putF f y fs)))
noncomputable def InOp (X : Cx) (op : Operator) (rd : V → V → Hp → VK → Prop) : Prop :=
  ∀ (pins : List (Addr × Obj)) (s : Shared) (σ : St) (H : Hp) (x y : V) (u v : Value) (Q : VK), Inv X pins σ H s → RelV x u → RelV y v → rd x y H Q → wpAny (model X.prog X.w) X.A (inplaceOp op u v) (EP X pins σ Q) X.xe s
noncomputable def sFldAug (K : PySem.W.Frag) (ta tv : TE) (rd : V → V → Hp → VK → Prop) (f : Str) : TS := fun D σ H => ta σ H fun x H1 => ∃ a C dx fs v, x = .ref a ∧ H1 a = some (.ins C dx fs) ∧ Cls K C ∧ NoAttr K C f ∧ fs.lookup f = some v ∧
  tv σ H1 fun y H2 => rd v y H2 fun z H3 => ∃ dx' fs', H3 a = some (.ins C dx' fs') ∧ fs'.length < 1000 ∧ D.nx σ (upd H3 a (.ins C dx' (putF f z fs')))
section
variable {X : Cx} {o e value : Expr} {f : Str} {pos pos' tpos : Pos} {ta tv : TE}
noncomputable def rAdd : V → V → Hp → VK → Prop := fun x y H Q => ∃ i j, x = .int i ∧ y = .int j ∧ Q (.int (i + j)) H
noncomputable def rSub : V → V → Hp → VK → Prop := fun x y H Q => ∃ i j, x = .int i ∧ y = .int j ∧ Q (.int (i - j)) H
end
section
variable {X : Cx} {pins : List (Addr × Obj)} {σ : St} {H : Hp} {s : Shared} {A : Around} {E : Value → Shared → Prop} {Q : Value → Shared → Prop} {c : Value} {b : Bool}
inductive TyOf (K : PySem.W.Frag) (H : Hp) : V → Value → Prop where
  | non : TyOf K H .non (.type "NoneType")
  | bl (x : Bool) : TyOf K H (.bl x) (.type "bool")
  | int (i : Int) : TyOf K H (.int i) (.type "int")
  | str (x : Str) : TyOf K H (.str x) (.type "str")
  | flt (x : UInt64) : TyOf K H (.flt x) (.type "float")
  | lst {a : Addr} {xs : List V} (e : H a = some (.lst xs)) : TyOf K H (.ref a) (.type "list")
  | frz {a : Addr} {o : Obj} {xs : List V} (e : H a = some (.frz o (.lst xs))) : TyOf K H (.ref a) (.type "list")
  | tup {a : Addr} {xs : List V} (e : H a = some (.tup xs)) : TyOf K H (.ref a) (.type "tuple")
  | dK {a : Addr} {kvs : List (Key × V)} (e : H a = some (.dK kvs)) : TyOf K H (.ref a) (.type "dict")
  | dT {a : Addr} {kvs : List (List Key × V)} (e : H a = some (.dT kvs)) : TyOf K H (.ref a) (.type "dict")
  | ins {a C dx : Addr} {fs : List (Str × V)} (e : H a = some (.ins C dx fs)) (cl : Cls K C) (ha : PySem.W.findIn K (.ref C) "__class__" = some (some (.builtin "object.__class__")))
      (hn : PySem.W.specialIn K (.builtin "object.__class__") "__get__" = some (some (.builtin "getset_descriptor.__get__"))) (htk : PySem.W.takesIn K (.builtin "object.__class__") = some true)
      (hm : PySem.W.mroIn K C (.type "object") = some true) : TyOf K H (.ref a) (.ref C)
theorem isinst_ok {x : V} {u t : Value} (I : Inv X pins σ H s) (rx : RelV x u) (ty : TyOf X.K H x t) (e : PySem.W.kitOne X.K t c = some b) (h : ∀ tk, Q (.bool b) { s with toks := tk }) :
    wpAny (model X.prog X.w) A (call (.builtin "isinstance") [u, c]) Q E s := by
  cases ty with
  | non => cases (show u = Value.none from rx); exact PySem.W.kia_one PySem.W.kitx_none I.kIn True.intro e (fun z => nomatch z) h
  | bl y => cases (show u = Value.bool y from rx); exact PySem.W.kia_one PySem.W.kitx_bool I.kIn True.intro e (fun z => nomatch z) h
  | int i => obtain ⟨t, q⟩ := (show ∃ t, u = Value.int i t from rx); cases q; exact PySem.W.kia_one PySem.W.kitx_int I.kIn True.intro e (fun z => nomatch z) h
  | str y => obtain ⟨t, q⟩ := (show ∃ t, u = Value.str y t from rx); cases q; exact PySem.W.kia_one PySem.W.kitx_str I.kIn True.intro e (fun z => nomatch z) h
  | flt y => obtain ⟨t, q⟩ := (show ∃ t, u = Value.float y t from rx); cases q; exact PySem.W.kia_one PySem.W.kitx_float I.kIn True.intro e (fun z => nomatch z) h
  | @lst a xs ea =>
    cases (show u = Value.ref a from rx)
    obtain ⟨_, _, n, _, h1⟩ := (show ObjOk X.prog X.w H s.heap a (.lst xs) from I.hok a _ ea)
    exact PySem.W.kia_one PySem.W.kitx_list I.kIn ⟨_, h1, rfl⟩ e (fun z => nomatch z) h
  | @frz a ob xs ea =>
    cases (show u = Value.ref a from rx)
    obtain ⟨_, _, _, n, _, h1⟩ := (show ObjOk X.prog X.w H s.heap a (.frz ob (.lst xs)) from I.hok a _ ea)
    exact PySem.W.kia_one PySem.W.kitx_list I.kIn ⟨_, h1, rfl⟩ e (fun z => nomatch z) h
  | @tup a xs ea =>
    cases (show u = Value.ref a from rx)
    obtain ⟨_, _, _, p⟩ := (show ObjOk X.prog X.w H s.heap a (.tup xs) from I.hok a _ ea)
    obtain ⟨o, h1, h2, _⟩ := p
    exact PySem.W.kia_one PySem.W.kitx_tuple I.kIn ⟨o, h1, h2⟩ e (fun z => nomatch z) h
  | @dK a kvs ea =>
    cases (show u = Value.ref a from rx)
    obtain ⟨_, _, vs, _, p⟩ := (show ObjOk X.prog X.w H s.heap a (.dK kvs) from I.hok a _ ea)
    obtain ⟨o, es, ep, h1, h2, _⟩ := p
    exact PySem.W.kia_one PySem.W.kitx_dict I.kIn ⟨o, h1, h2.1⟩ e (fun z => nomatch z) h
  | @dT a kvs ea =>
    cases (show u = Value.ref a from rx)
    obtain ⟨_, _, xs, _, o, es, ep, h1, h2, _⟩ := (show ObjOk X.prog X.w H s.heap a (.dT kvs) from I.hok a _ ea)
    exact PySem.W.kia_one PySem.W.kitx_dict I.kIn ⟨o, h1, h2.1⟩ e (fun z => nomatch z) h
  | @ins a C dx fs ea cl ha hn htk hm =>
    cases (show u = Value.ref a from rx)
    obtain ⟨mA, O, _⟩ := ins_get I.hok ea
    obtain ⟨od, J, _⟩ := O.look
    exact PySem.W.kia_one (PySem.W.kitx_own (cl.get _) cl.hd ha hn htk hm) I.kIn J e (fun z => nomatch z) h
end
end L2
namespace L2
open PySem PySem.Spec PyProof.Rows
structure Room (k : Nat) (A : Around) : Prop where
  hd : A.handled = none
  dp : A.depth + 3 * k + 5 < recursionLimit
  un : A.units + 16 * k + 200 < cLine
theorem Room.mono {j k : Nat} {A : Around} (r : Room k A) (h : j ≤ k) : Room j A := ⟨r.hd, by have := r.dp; trivial, by have := r.un; trivial⟩
theorem Room.deeper {k : Nat} {A : Around} (r : Room (k + 1) A) (env : Env) : Room k (A.deeper env) :=
  ⟨r.hd, by have := r.dp; show A.depth + 1 + 3 * k + 5 < _; trivial, by have := r.un; show A.units + 3 + 16 * k + 200 < _; trivial⟩
theorem Room.depth {k : Nat} {A : Around} (r : Room k A) : A.depth < recursionLimit := by have := r.dp; trivial
noncomputable def tNil : TA := fun _ H Q => Q [] H
noncomputable def tCons (ta : TE) (tr : TA) : TA := fun σ H Q => ta σ H fun x H1 => tr σ H1 fun xs H2 => Q (x :: xs) H2
section
variable {X : Cx} {e : Expr} {es : List Expr} {te : TE} {t : TA} {pos : Pos}
theorem pa_nil : PA X [] tNil := fun _ _ _ _ H Q I h => Calls.spliced_nil ⟨[], H, I, .nil, h⟩
theorem pa_cons (ha : PE X e te) (hr : PA X es t) (hs : starEach (e :: es) X.env = (false, eval e X.env) :: starEach es X.env := by rfl) : PA X (e :: es) (tCons te t) := by
  intro pos pins s σ H Q I h
  rw [hs]
  show wpAny _ _ (spliced ((false, eval e X.env) :: backTo pos (starEach es X.env))) _ _ s
  refine Calls.spliced_cons (thn (ha pins s σ H _ I h) fun u s1 hh25 => ?_)
  obtain ⟨x, H1, I1, r1, q1⟩ := hh25
  exact thn (hr pos pins s1 σ H1 _ I1 q1) fun us s2 hh => by obtain ⟨xs, H2, I2, r2, q2⟩ := hh; exact ⟨x :: xs, H2, I2, .cons r1 r2, q2⟩
noncomputable def tTup (t : TA) : TE := fun σ H Q => t σ H fun xs H1 => xs.length ≤ sizeLine ∧ ∀ p, H1 p = none → Q (.ref p) (upd H1 p (.tup xs))
noncomputable def tLst (t : TA) : TE := fun σ H Q => t σ H fun xs H1 => xs.length ≤ sizeLine ∧ ∀ p, H1 p = none → Q (.ref p) (upd H1 p (.lst xs))
theorem pe_tup {x1} (h : PA X es t) : PE X (.Tuple es x1 pos) (tTup t) := by
  intro pins s σ H Q I hq
  refine wpAny_Tuple_spliced (thn (h pos pins s σ H _ I hq) fun us s1 ⟨xs, H1, I1, r, z, q⟩ => ⟨by rw [← r.length]; exact z, ?_⟩)
  have hf : H1 s1.heap.objs.size = none := I1.hok.fresh (Nat.le_refl _)
  refine ⟨.ref s1.heap.objs.size, upd H1 s1.heap.objs.size (.tup xs), I1.laid (t' := s1.toks) (fun b u e => Heap.get?_push_of_some _ e) (Nat.le_refl _) ?_, rfl, q _ hf⟩
  exact ⟨z, us, r, ⟨_, Heap.get?_push_size _ rfl, rfl, _, rfl⟩⟩
theorem pe_lst (h : PA X es t) : PE X (.List es pos) (tLst t) := by
  intro pins s σ H Q I hq
  refine wpAny_List_spliced (thn (h pos pins s σ H _ I hq) fun us s1 ⟨xs, H1, I1, r, z, q⟩ => ⟨by rw [← r.length]; exact z, ?_⟩)
  have hf : H1 s1.heap.objs.size = none := I1.hok.fresh (Nat.le_refl _)
  refine ⟨.ref s1.heap.objs.size, upd H1 s1.heap.objs.size (.lst xs), I1.laid (t' := s1.toks) (fun b u e => Heap.get?_push_of_some _ e) (Nat.le_refl _) ?_, rfl, q _ hf⟩
  exact ⟨z, us, 0, r, Heap.get?_push_size _ rfl⟩
end
noncomputable abbrev Sp := List V → Hp → VK → XK → Prop
noncomputable abbrev CXT := List Env → Hp → Shared → XK → Value → Shared → Prop
structure Env0 (P : Program) (w : World) (K : PySem.W.Frag) (mg : Str → Option Value) (base : Heap) (A : Around) (outer : List Env) (s : Shared) (H : Hp) : Prop where
  frames : A.frames = some outer
  mod : Mod K mg base
  bs : ∀ b o, base.get? b = some o → s.heap.get? b = some o ∧ H b = none
  bsz : base.objs.size ≤ s.heap.objs.size
  funs : s.heap.FunFrames base outer
  frf : ∀ b ∈ frs outer, H b = none
  hok : HOk P w H s.heap
  bare : AllBare s.gens
noncomputable def CE (outer : List Env) (P : Program) (w : World) (H : Hp) (s : Shared) (Q : VK) (u : Value) (s' : Shared) : Prop :=
  ∃ v H', s'.os = s.os ∧ AllBare s'.gens ∧ Un (frs outer) [] H H' s.heap s'.heap ∧ HOk P w H' s'.heap ∧ RelV v u ∧ Q v H'
noncomputable def CR (CX : CXT) (outer : List Env) (P : Program) (w : World) (H : Hp) (s : Shared) (Q : VK) (E : XK) (r : Result) (s' : Shared) : Prop :=
  match r with
  | .ok (.ret u) => CE outer P w H s Q u s'
  | .ok _ => False
  | .error e => CX outer H s E e s'
structure FnOk (P : Program) (w : World) (K : PySem.W.Frag) (mg : Str → Option Value) (base : Heap) (CX : CXT) (k : Nat) (f : Addr) (fd : FuncData) (ps : List Str) (sp : Sp) : Prop where
  len : ∀ vs H Q E, sp vs H Q E → vs.length = ps.length
  run : ∀ (A : Around) (outer : List Env) (s : Shared) (H : Hp) (args : Args) (us : List Value) (vs : List V) (Q : VK) (E : XK), Room k A → Env0 P w K mg base A outer s H → BindsTo s fd args (ps.zip us) → Vals vs us → sp vs H Q E →
    codeAny (model P w) A (.call (.ref f) args) (CR CX outer P w H s Q E) s
section
variable {X : Cx} {pins : List (Addr × Obj)} {σ : St} {H : Hp} {s s' : Shared}
theorem Inv.env0 (I : Inv X pins σ H s) : Env0 X.prog X.w X.K X.mg X.base X.A X.stack s H :=
  ⟨I.ok.frames, I.ok.mod, I.bs, Nat.le_trans I.ok.bsz I.sz, I.stack, I.stkFree, I.hok, I.bare⟩
theorem Inv.after {Q : VK} {u : Value} (I : Inv X pins σ H s) (h : CE X.stack X.prog X.w H s Q u s') : EP X pins σ Q u s' := by
  obtain ⟨v, H', os, bare, un, hok, r, q⟩ := h
  obtain ⟨hh, g, d, t, os'⟩ := s'
  obtain rfl : os' = s.os := os
  exact ⟨v, H', I.call (h' := hh) (g' := g) (d' := d) (t' := t) (ch := []) un hok bare (fun b z => absurd z (by simp)), r, q⟩
end
noncomputable def tCall (sp : Sp) (dvs : List V) (E : XK) (t : TA) : TE := fun σ H Q => t σ H fun vs H1 => sp (vs ++ dvs) H1 Q E
noncomputable def tMeth (C : Addr) (m : Str) (sp : Sp) (dvs : List V) (E : XK) (ta : TE) (t : TA) : TE := fun σ H Q => ta σ H fun x H1 => ∃ a dx fs, x = .ref a ∧ H1 a = some (.ins C dx fs) ∧ fs.lookup m = none ∧
  t σ H1 fun vs H2 => sp (x :: (vs ++ dvs)) H2 Q E
noncomputable def tMake (C : Addr) (sp : Sp) (dvs : List V) (E : XK) (t : TA) : TE := fun σ H Q => t σ H fun vs H1 => ∀ x dx, H1 x = none → H1 dx = none → dx ≠ x →
  sp (.ref x :: (vs ++ dvs)) (upd (upd H1 dx (.own x)) x (.ins C dx [])) (fun v H2 => v = .non ∧ Q (.ref x) H2) E
noncomputable def Binds (K : PySem.W.Frag) (fd : FuncData) (ps : List Str) (ds : List Value) : Prop :=
  ∀ (s : Shared) (us : List Value), K.In s.heap → (us ++ ds).length = ps.length → BindsTo s fd ⟨us, []⟩ (ps.zip (us ++ ds))
theorem Binds.all {K : PySem.W.Frag} {fd : FuncData} {ps : List Str} (h : ∀ us : List Value, us.length = ps.length → bindArgs fd ⟨us, []⟩ = pure (ps.zip us)) : Binds K fd ps [] := fun s us _ hl => by
  rw [List.append_nil] at hl ⊢
  exact .of_eq (h us hl)
noncomputable def Passes (CX : CXT) (X : Cx) (E : XK) : Prop := ∀ (pins : List (Addr × Obj)) (σ : St) (H : Hp) (s : Shared) (e : Value) (s' : Shared), Inv X pins σ H s → CX X.stack H s E e s' → X.xe e s'
section
variable {X : Cx} {CX : CXT} {k : Nat} {f C : Addr} {fd : FuncData} {ps : List Str} {sp : Sp} {dvs : List V} {ds : List Value} {E : XK} {x m : Str} {p pos apos : Pos} {e o : Expr} {es : List Expr} {ta : TE} {t : TA}
theorem run_fn {pins : List (Addr × Obj)} {σ : St} {H : Hp} {s : Shared} {Q : VK} {us : List Value} {vs : List V} (F : FnOk X.prog X.w X.K X.mg X.base CX k f fd ps sp) (hr : Room k X.A) (hb : Binds X.K fd ps ds) (hd : Vals dvs ds) (hx : Passes CX X E)
    (I : Inv X pins σ H s) (r : Vals vs us) (h : sp (vs ++ dvs) H Q E) : wpAny (model X.prog X.w) X.A (call (.ref f) us) (EP X pins σ Q) X.xe s := by
  have r2 : Vals (vs ++ dvs) (us ++ ds) := r.append hd
  have hl : (us ++ ds).length = ps.length := by rw [← r2.length]; exact F.len _ _ _ _ h
  refine wpAny_call (codeAny_mono (F.run X.A X.stack s H ⟨us, []⟩ (us ++ ds) (vs ++ dvs) Q E hr I.env0 (hb s us I.kIn hl) r2 h) fun r s' hq => ?_)
  cases r with
  | error e => exact hx pins σ H s e s' I hq
  | ok fl =>
    cases fl with
    | ret u => exact I.after hq
    | next => exact False.elim hq
    | brk => exact False.elim hq
    | cont => exact False.elim hq
theorem pe_call (F : FnOk X.prog X.w X.K X.mg X.base CX k f fd ps sp) (hr : Room k X.A) (hg : Gl X x) (hm : X.mg x = some (.ref f)) (hk : PySem.W.keepIn X.K (.ref f) = true) (hb : Binds X.K fd ps ds) (hd : Vals dvs ds) (hx : Passes CX X E)
    (ha : PA X (e :: es) t) (hdb : (x == ("__debug__" : Str)) = false := by decide) (he : starEach (e :: es) X.env = (false, eval e X.env) :: starEach es X.env := by rfl) (hpl : (backTo pos (starEach es X.env)).any (·.1) = false := by rfl) :
    PE X (.Call (.Name x p) (e :: es) [] pos) (tCall sp dvs E t) := by
  intro pins s σ H Q I h
  refine wpAny_Call_Name_kw (ld_glob I hg hm ?_ hdb)
  refine PySem.W.callWith_K (h₀ := X.base) I.ok.mod.kin hk (thn (ha pos pins s σ H _ I h) fun us s1 ⟨vs, H1, I1, r, q⟩ => ⟨I1.kIn, ?_⟩) he hpl
  exact run_fn F hr hb hd hx I1 r q
structure Mk (K : PySem.W.Frag) (C f : Addr) : Prop where
  makes : PySem.W.makesIn K C = true
  init : PySem.W.findIn K (.ref C) "__init__" = some (some (.ref f))
  fn : PySem.W.isFn K (.ref f) = true
  kp : PySem.W.keepIn K (.ref C) = true
end
noncomputable def PK (X : Cx) (kws : List Keyword) (t : TA) : Prop :=
  ∀ (pos : Pos) (pins : List (Addr × Obj)) (s : Shared) (σ : St) (H : Hp) (Q : List V → Hp → Prop), Inv X pins σ H s → t σ H Q → wpAny (model X.prog X.w) X.A (evalAll ((backToKw pos (keywordEach kws X.env)).map (·.2))) (AP X pins σ Q) X.xe s
section
variable {X : Cx} {CX : CXT} {k : Nat} {f C : Addr} {fd : FuncData} {ps ks : List Str} {sp : Sp} {E : XK} {x m : Str} {p pos apos kpos : Pos} {e o : Expr} {es : List Expr} {kws : List Keyword} {te ta : TE} {t tk : TA} {nm : Option Str}
structure KBinds (K : PySem.W.Frag) (fd : FuncData) (ps ks : List Str) (g : List Value → List Value → List Value) (gV : List V → List V → List V) : Prop where
  to : ∀ (s : Shared) (us ws : List Value), K.In s.heap → (g us ws).length = ps.length → BindsTo s fd ⟨us, ks.zip ws⟩ (ps.zip (g us ws))
  rel : ∀ {vs : List V} {us : List Value} {zs : List V} {ws : List Value}, Vals vs us → Vals zs ws → Vals (gV vs zs) (g us ws)
noncomputable def tCallK (sp : Sp) (gV : List V → List V → List V) (E : XK) (t tk : TA) : TE := fun σ H Q => t σ H fun vs H1 => tk σ H1 fun zs H2 => sp (gV vs zs) H2 Q E
variable {g : List Value → List Value → List Value} {gV : List V → List V → List V}
end
structure FnScope (N P : List Str) (sc : Scope) : Prop where
  kind : sc.kind = .function
  co : sc.isCoroutine = false
  gen : sc.isGenerator = false
  nd : N.Nodup
  pre : N.take P.length = P
  par : ∀ x ∈ P, sc.names.lookup x = some .local ∨ sc.names.lookup x = some .cell
  nofree : ∀ y ∈ sc.names, y.2 ≠ .free
theorem bindL_out {kindOf : Str → Option NameKind} {x : Str} : ∀ {binds : List (Str × Value)} {m : Str → Option Value}, (∀ v, (x, v) ∉ binds) → bindL kindOf binds m x = m x
  | [], _, _ => rfl
  | (n, v) :: r, m, h => by
    unfold bindL
    rw [bindL_out fun w hw => h w (List.mem_cons_of_mem _ hw)]
    split
    · have : x ≠ n := by rintro rfl; exact h v List.mem_cons_self
      simp [this]
    · rfl
theorem bindC_out {kindOf : Str → Option NameKind} {x : Str} : ∀ {binds : List (Str × Value)} {m : Str → Option Value}, (∀ v, (x, v) ∉ binds) → bindC kindOf binds m x = m x
  | [], _, _ => rfl
  | (n, v) :: r, m, h => by
    unfold bindC
    rw [bindC_out fun w hw => h w (List.mem_cons_of_mem _ hw)]
    split
    · rfl
    · have : x ≠ n := by rintro rfl; exact h v List.mem_cons_self
      simp [this]
theorem bindL_get {kindOf : Str → Option NameKind} {x : Str} {v : Value} : ∀ {P : List Str} {vs : List Value} {i : Nat} {m : Str → Option Value}, P.Nodup → P[i]? = some x → vs[i]? = some v → kindOf x = some .local →
    bindL kindOf (P.zip vs) m x = some v
  | [], _, _, _, _, h, _, _ => by simp at h
  | _ :: _, [], _, _, _, _, h, _ => by simp at h
  | p :: P, w :: vs, 0, m, nd, h1, h2, hk => by
    simp at h1 h2; subst h1; subst h2
    show bindL kindOf ((p, w) :: P.zip vs) m p = _
    unfold bindL
    rw [bindL_out fun v hv => (List.nodup_cons.mp nd).1 (List.of_mem_zip hv).1, if_pos hk]
    simp
  | p :: P, w :: vs, i + 1, m, nd, h1, h2, hk => by
    show bindL kindOf ((p, w) :: P.zip vs) m x = _
    unfold bindL
    exact bindL_get (i := i) (List.nodup_cons.mp nd).2 (by simpa using h1) (by simpa using h2) hk
theorem bindC_get {kindOf : Str → Option NameKind} {x : Str} {v : Value} : ∀ {P : List Str} {vs : List Value} {i : Nat} {m : Str → Option Value}, P.Nodup → P[i]? = some x → vs[i]? = some v → kindOf x ≠ some .local →
    bindC kindOf (P.zip vs) m x = some v
  | [], _, _, _, _, h, _, _ => by simp at h
  | _ :: _, [], _, _, _, _, h, _ => by simp at h
  | p :: P, w :: vs, 0, m, nd, h1, h2, hk => by
    simp at h1 h2; subst h1; subst h2
    show bindC kindOf ((p, w) :: P.zip vs) m p = _
    unfold bindC
    rw [bindC_out fun v hv => (List.nodup_cons.mp nd).1 (List.of_mem_zip hv).1, if_neg hk]
    simp
  | p :: P, w :: vs, i + 1, m, nd, h1, h2, hk => by
    show bindC kindOf ((p, w) :: P.zip vs) m x = _
    unfold bindC
    exact bindC_get (i := i) (List.nodup_cons.mp nd).2 (by simpa using h1) (by simpa using h2) hk
noncomputable def start (N : List Str) (vs : List V) : St := vs.map some ++ List.replicate (N.length - vs.length) none
noncomputable def cxOf (CX : CXT) (P : Program) (w : World) (K : PySem.W.Frag) (mg : Str → Option Value) (base : Heap) (N : List Str) (qual : Str) (scope : Scope) (f : Addr) (cd : Value) (A : Around) (outer : List Env) (s : Shared) (H : Hp) (E : XK) : Cx where
  prog := P
  w := w
  K := K
  mg := mg
  base := base
  A := A.deeper (envOfC qual scope s.heap.objs.size f cd)
  N := N
  s₀ := s
  H₀ := H
  env := envOfC qual scope s.heap.objs.size f cd
  outer := outer
  stack := envOfC qual scope s.heap.objs.size f cd :: outer
  ex := []
  calm := true
  fn := fun _ => true
  pn := []
  xe := fun e s' => wpAny (model P w) (A.deeper (envOfC qual scope s.heap.objs.size f cd)) (leaving (envOfC qual scope s.heap.objs.size f cd) e) (fun _ s'' => CX outer H s E e s'') (fun e' s'' => CX outer H s E e' s'') s'
theorem cell_has {sc : Scope} {n : Nat} {x : Str} (h : sc.names.lookup x = some .cell) : ∃ c, (cellsFrom n sc.names []).lookup x = some c := by
  have q := PySem.W.cellsFrom_some sc.names n [] (.inl h)
  exact Option.isSome_iff_exists.mp q
theorem inv_start {CX : CXT} {P : Program} {w : World} {K : PySem.W.Frag} {mg : Str → Option Value} {base : Heap} {N ps : List Str} {qual : Str} {scope : Scope} {f : Addr} {cd : Value} {A : Around} {outer : List Env} {s s1 : Shared} {H : Hp} {E : XK} {us : List Value} {vs : List V}
    (S : FnScope N ps scope) (hd : A.handled = none) (e0 : Env0 P w K mg base A outer s H) (hl : vs.length = ps.length) (r : Vals vs us)
    (x : InCallC s s.heap.objs.size (bindL (envOfC qual scope s.heap.objs.size f cd).kindOf (ps.zip us) fun _ => none) (cellsFrom (s.heap.objs.size + 1) scope.names []) (bindC (envOfC qual scope s.heap.objs.size f cd).kindOf (ps.zip us) fun _ => none) s1) :
    Inv (cxOf CX P w K mg base N qual scope f cd A outer s H E) [] (start N vs) H s1 := by
  have hpl : ps.length ≤ N.length := by have := congrArg List.length S.pre; rw [List.length_take] at this; trivial
  obtain ⟨h1, tk, rfl, hk⟩ := x.done
  have noA : ∀ b : Addr, b ∉ (cxOf CX P w K mg base N qual scope f cd A outer s H E).ex := fun b z => absurd (show b ∈ ([] : List Addr) from z) (by simp)
  refine ⟨⟨e0.mod, S.kind, rfl, rfl, Nat.le_refl _, fun y z c h1 h2 => ?_, fun y hy => ?_, fun y c _ h => ?_, fun _ => hd, Around.frames_deeper e0.frames, .inr ⟨rfl, rfl⟩, fun b z => absurd z (noA b), e0.bs, e0.bsz, fun b _ _ => noA b, fun b z => absurd z (noA b), e0.funs, e0.frf⟩,
    rfl, e0.bare, Un.kept hk, ⟨_, x.toInCall.ns, fun i y v h1 h2 h3 => ?_⟩, fun y c h => ⟨_, x.cell y c h⟩, e0.hok.fresh (Nat.le_refl _), fun y c h => ?_, fun p hp => absurd (show p ∈ ([] : List (Addr × Obj)) from hp) (by simp), e0.hok.kept hk, ?_⟩
  · exact name_of_addr x.apart (PySem.mem_of_lookup h1) (PySem.mem_of_lookup h2)
  · have hy : scope.names.lookup y = some .cell ∨ scope.names.lookup y = some .free := hy
    rcases hy with hy | hy
    · exact cell_has hy
    · exact absurd rfl (S.nofree _ (PySem.mem_of_lookup hy))
  · exact Nat.le_of_lt (x.above y c (PySem.mem_of_lookup h))
  · have hi : i < vs.length := by
      unfold start at h2
      by_cases hi : i < vs.length
      · exact hi
      · rw [List.getElem?_append_right (by simpa using hi)] at h2
        rw [List.getElem?_replicate] at h2
        split at h2 <;> cases h2
    have ha : vs[i]? = some v := by
      unfold start at h2
      rw [List.getElem?_append_left (by simpa using hi), List.getElem?_map] at h2
      cases e : vs[i]? with
      | none => rw [e] at h2; cases h2
      | some a => rw [e] at h2; cases h2; rfl
    obtain ⟨u, hu, rv⟩ := r.get ha
    have hp : ps[i]? = some y := by
      rw [← S.pre, List.getElem?_take_of_lt (by trivial)]; exact h1
    have ndP : ps.Nodup := by rw [← S.pre]; exact S.nd.sublist (List.take_sublist _ _)
    refine ⟨u, rv, ?_⟩
    rcases S.par y (List.mem_of_getElem? hp) with k | k
    · exact .inl ⟨k, bindL_get ndP hp hu k⟩
    · obtain ⟨c, e⟩ := cell_has (n := s.heap.objs.size + 1) k
      refine .inr ⟨.inl k, c, e, ?_⟩
      have q := x.cell y c e
      rw [bindC_get ndP hp hu (by show scope.names.lookup y ≠ _; rw [k]; decide)] at q
      exact q
  · exact e0.hok.fresh (Nat.le_of_lt (x.above y c (PySem.mem_of_lookup h)))
  · unfold start
    show _ = N.length
    rw [List.length_append, List.length_map, List.length_replicate]
    trivial
theorem fn_of {CX : CXT} {P : Program} {w : World} {K : PySem.W.Frag} {mg : Str → Option Value} {base : Heap} {k : Nat} {f : Addr} {name qual : Str} {params : Arguments} {body : List Stmt} {scope : Scope} {dV kV doc pm cdv ct oc : Value} {an od : Option Addr}
    {osl : Array (Option Value)} {N ps : List Str} {sp : Sp} (lk : K.lookup f = some ⟨oc, od, .func (PySem.W.fnOf name qual params body scope dV kV doc pm an cdv ct), osl⟩) (hcd : PySem.W.codeIn K cdv qual = true) (S : FnScope N ps scope)
    (len : ∀ vs H Q E, sp vs H Q E → vs.length = ps.length)
    (hbody : ∀ (A : Around) (outer : List Env) (s : Shared) (H : Hp) (vs : List V) (Q : VK) (E : XK), Room k (A.deeper (envOfC qual scope s.heap.objs.size f cdv)) → sp vs H Q E →
      ∃ t, PSs (cxOf CX P w K mg base N qual scope f cdv A outer s H E) body t ∧ t { nx := fun _ H' => Q .non H', rt := Q } (start N vs) H) :
    FnOk P w K mg base CX (k + 1) f (PySem.W.fnOf name qual params body scope dV kV doc pm an cdv ct) ps sp := by
  refine ⟨len, fun A outer s H args us vs Q E hr e0 hb r hsp => ?_⟩
  have hl := len _ _ _ _ hsp
  have KX : K.In s.heap := e0.mod.kin.keeps fun b o e => (e0.bs b o e).1
  have lim : s.heap.NoLimit := e0.mod.nolimit.keeps fun b o e => (e0.bs b o e).1
  have hkind : ∀ y ∈ ps.zip us, scope.names.lookup y.1 = some .local ∨ (scope.names.lookup y.1 = some .cell ∧ ((cellsFrom (s.heap.objs.size + 1) scope.names []).lookup y.1).isSome = true) := fun ⟨n, v⟩ hy => by
    rcases S.par n (List.of_mem_zip hy).1 with q | q
    · exact .inl q
    · exact .inr ⟨q, PySem.W.cellsFrom_some _ _ _ (.inl q)⟩
  refine codeAny_call_function hr.depth (KX _ _ lk) rfl S.co S.gen rfl (PySem.W.codeRec_of KX hcd) (hb _ _ _ _ ?_)
  refine wpAny_newFunctionEnv_cells S.kind hkind fun env he s1 x => ?_
  subst he
  refine ⟨lim.keeps x.toInCall.keep, codeAny_func ?_⟩
  obtain ⟨t, ht, hq⟩ := hbody A outer s H vs Q E (hr.deeper _) hsp
  have I : Inv (cxOf CX P w K mg base N qual scope f cdv A outer s H E) [] (start N vs) H s1 := inv_start S hr.hd e0 hl r x
  refine wpAny_mono (ht [] s1 (start N vs) H _ I hq) (fun fl s' hs => ?_) fun e s' hs => hs
  have fin : ∀ {σ' : St} {H' : Hp} {v : V} {u : Value}, Inv (cxOf CX P w K mg base N qual scope f cdv A outer s H E) [] σ' H' s' → RelV v u → Q v H' → CE outer P w H s Q u s' :=
    fun {σ' H' v u} J rv q => ⟨v, H', J.os, J.bare, J.base, J.hok, rv, q⟩
  cases fl with
  | ret u =>
    obtain ⟨v, σ', H', J, rv, q⟩ := hs
    exact fin J rv q
  | next =>
    obtain ⟨σ', H', J, q⟩ := hs
    exact fin (v := V.non) (u := Value.none) J rfl q
  | brk =>
    obtain ⟨_, _, _, q⟩ := hs
    exact False.elim q
  | cont =>
    obtain ⟨_, _, _, q⟩ := hs
    exact False.elim q
end L2
namespace L2
open PySem PySem.Spec PyProof.Rows
section
variable {X : Cx} {x : Str} {p pos : Pos} {e : Expr} {es : List Expr} {t : TA} {id T : String} {r : List V → Hp → VK → Prop}
noncomputable def tCB (r : List V → Hp → VK → Prop) (t : TA) : TE := fun σ H Q => t σ H fun vs H1 => r vs H1 Q
theorem pe_callB (hc : CallR X (.builtin id) r) (hg : Gl X x) (hm : X.mg x = none) (hv : bootBuiltins x = some (.builtin id)) (ha : PA X (e :: es) t) (hn : x ≠ "__name__" := by decide) (hdb : (x == ("__debug__" : Str)) = false := by decide)
    (he : starEach (e :: es) X.env = (false, eval e X.env) :: starEach es X.env := by rfl) (hpl : (backTo pos (starEach es X.env)).any (·.1) = false := by rfl) : PE X (.Call (.Name x p) (e :: es) [] pos) (tCB r t) := by
  intro pins s σ H Q I h
  refine wpAny_Call_Name_kw (ld_blt I hg hm hv ?_ hn hdb)
  exact PyProof.Rows.callWith_builtin1 (thn (ha pos pins s σ H _ I h) fun us s1 hh => by obtain ⟨vs, H1, I1, r1, q1⟩ := hh; exact hc pins s1 σ H1 vs us Q I1 r1 q1) he hpl
theorem pe_callTy (hc : CallR X (.type T) r) (hg : Gl X x) (hm : X.mg x = none) (hv : bootBuiltins x = some (.type T)) (ha : PA X (e :: es) t) (hn : x ≠ "__name__" := by decide) (hdb : (x == ("__debug__" : Str)) = false := by decide)
    (he : starEach (e :: es) X.env = (false, eval e X.env) :: starEach es X.env := by rfl) (hpl : (backTo pos (starEach es X.env)).any (·.1) = false := by rfl) : PE X (.Call (.Name x p) (e :: es) [] pos) (tCB r t) := by
  intro pins s σ H Q I h
  refine wpAny_Call_Name_kw (ld_blt I hg hm hv ?_ hn hdb)
  exact PyProof.Rows.callWith_type1 (thn (ha pos pins s σ H _ I h) fun us s1 hh => by obtain ⟨vs, H1, I1, r1, q1⟩ := hh; exact hc pins s1 σ H1 vs us Q I1 r1 q1) he hpl
end
end L2
namespace HT
open PySem PyProof.Rows
noncomputable def lexLt : List Int → List Int → Bool
  | [], [] => false
  | [], _ :: _ => true
  | _ :: _, [] => false
  | x :: xs, y :: ys => if x = y then lexLt xs ys else decide (x < y)
section
open PySem.SeqAt
open PySem.AutoSeq1 (wpAny_loadPart')
open PySem.MeetsSeq PySem.MeetsSeq2 PySem.MeetsSeq3
end
section
variable {prog : Program} {w : World} {A : Around} {E : Value → Shared → Prop} {s : Shared}
noncomputable def sIx (n d : Nat) : Option Int → Nat
  | none => d
  | some v => if v < 0 then (v + (n : Int)).toNat else min v.toNat n
theorem sIx_nat (n d k : Nat) : sIx n d (some (k : Int)) = min k n := by
  show (if (k : Int) < 0 then ((k : Int) + (n : Int)).toNat else min (k : Int).toNat n) = min k n
  rw [if_neg (by trivial), Int.toNat_natCast]
end
end HT
namespace L2
open PySem PySem.Spec PyProof.Rows
noncomputable abbrev TO := St → Hp → (Option Int → Hp → Prop) → Prop
noncomputable def PO (X : Cx) (e : Option Expr) (t : TO) : Prop :=
  ∀ (pins : List (Addr × Obj)) (s : Shared) (σ : St) (H : Hp) (Q : Option Int → Hp → Prop), Inv X pins σ H s → t σ H Q →
    wpAny (model X.prog X.w) X.A (evalPart e X.env) (fun u s' => ∃ o H', Inv X pins σ H' s' ∧ IsPart u o ∧ Q o H') X.xe s
noncomputable def tNoPart : TO := fun _ H Q => Q none H
noncomputable def tPart (t : TE) : TO := fun σ H Q => t σ H fun x H1 => ∃ i, x = .int i ∧ Q (some i) H1
section
variable {X : Cx} {e : Expr} {te : TE} {lo hi : Option Expr} {tl th : TO} {pos p2 : Pos}
theorem po_none : PO X none tNoPart := by
  intro pins s σ H Q I h
  rw [evalPart_none]
  exact wpAny_pure ⟨none, H, I, .none, h⟩
theorem po_some (h : PE X e te) : PO X (some e) (tPart te) := by
  intro pins s σ H Q I hw
  rw [evalPart_some]
  refine thn (h pins s σ H _ I hw) fun u s1 hh26 => ?_
  obtain ⟨x, H1, I1, r1, q1⟩ := hh26
  obtain ⟨i, rfl, q⟩ := q1
  obtain ⟨t, rfl⟩ := r1
  exact ⟨some i, H1, I1, .int i t, q⟩
noncomputable def SlR (X : Cx) (r : V → Option Int → Option Int → Hp → VK → Prop) : Prop :=
  ∀ (pins : List (Addr × Obj)) (s : Shared) (σ : St) (H : Hp) (x : V) (v vl vu : Value) (lo hi : Option Int) (sl : Addr) (Q : VK), Inv X pins σ H s → RelV x v → s.heap.IsSliceOf sl vl vu .none → IsPart vl lo → IsPart vu hi → r x lo hi H Q →
    ∃ T id, typeLookup (.type T) "__getitem__" = pure (some (.builtin id)) ∧ s.TypeIs v T ∧ wpAny (model X.prog X.w) X.A (getItem v (.ref sl)) (EP X pins σ Q) X.xe s
noncomputable def tSl (r : V → Option Int → Option Int → Hp → VK → Prop) (te : TE) (tl th : TO) : TE := fun σ H Q => te σ H fun x H1 => tl σ H1 fun l H2 => th σ H2 fun u H3 => r x l u H3 Q
theorem pe_slice {r : V → Option Int → Option Int → Hp → VK → Prop} (hr : SlR X r) (he : PE X e te) (hl : PO X lo tl) (hu : PO X hi th) : PE X (.Subscript e (.Slice lo hi none p2) pos) (tSl r te tl th) := by
  intro pins s σ H Q I h
  refine Subscript_ (thn (he pins s σ H _ I h) fun v s1 hh27 => ?_)
  obtain ⟨x, H1, I1, r1, q1⟩ := hh27
  refine wpAny_Slice (thn (hl pins s1 σ H1 _ I1 q1) fun vl s2 ⟨l, H2, I2, pl, q2⟩ => thn (hu pins s2 σ H2 _ I2 q2) fun vu s3 hh28 => ?_)
  obtain ⟨u, H3, I3, pu, q3⟩ := hh28
  rw [evalPart_none]
  refine wpAny_pure ?_
  have I4 : Inv X pins σ H3 { s3 with heap := s3.heap.push { cls := .type "slice", data := .fields #[vl, vu, .none] } } := I3.kept (t' := s3.toks) fun b ob q => Heap.get?_push_of_some _ q
  obtain ⟨T, id, hT, ht, hg⟩ := hr pins { s3 with heap := s3.heap.push { cls := .type "slice", data := .fields #[vl, vu, .none] } } σ H3 x v vl vu l u s3.heap.objs.size Q I4 r1 (Heap.IsSliceOf.new ..) pl pu q3
  show wpAny (model X.prog X.w) X.A (subscriptTail e (.Slice lo hi none p2) v (.ref s3.heap.objs.size)) (EP X pins σ Q) X.xe { s3 with heap := s3.heap.push { cls := .type "slice", data := .fields #[vl, vu, .none] } }
  exact tail_any (ops := [.ref s3.heap.objs.size, v]) ht hT hg (by with_unfolding_all rfl)
noncomputable def cutV (xs : List V) (lo hi : Option Int) : List V := (xs.drop (HT.sIx xs.length 0 lo)).take (HT.sIx xs.length xs.length hi - HT.sIx xs.length 0 lo)
theorem cutV_length (xs : List V) (lo hi : Option Int) : (cutV xs lo hi).length ≤ xs.length := by
  unfold cutV
  rw [List.length_take, List.length_drop]
  trivial
noncomputable def rSlT (K : PySem.W.Frag) : V → Option Int → Option Int → Hp → VK → Prop := fun x lo hi H Q => ∃ a xs, x = .ref a ∧ SqT K H a xs ∧
  ¬ (HT.sIx xs.length 0 lo = 0 ∧ HT.sIx xs.length xs.length hi = xs.length) ∧ ∀ p, H p = none → Q (.ref p) (upd H p (.tup (cutV xs lo hi)))
noncomputable def rLtT (K : PySem.W.Frag) : R2 := fun x y H Q => ∃ a b ns ms, x = .ref a ∧ y = .ref b ∧ SqT K H a (ns.map V.int) ∧ SqT K H b (ms.map V.int) ∧ Q (.bl (HT.lexLt ns ms)) H
noncomputable def rCatT (K : PySem.W.Frag) : R2 := fun x y H Q => ∃ a b xs ys, x = .ref a ∧ y = .ref b ∧ SqT K H a xs ∧ SqT K H b ys ∧ xs ≠ [] ∧ xs.length + ys.length ≤ sizeLine ∧
  (ys = [] → Q (.ref a) H) ∧ (ys ≠ [] → ∀ p, H p = none → Q (.ref p) (upd H p (.tup (xs ++ ys))))
end
end L2
namespace L2
open PySem PySem.Spec PyProof.Rows
noncomputable def ixN (n : Nat) (i : Int) : Option Nat := if 0 ≤ i then (if i < n then some i.toNat else none) else if -(n : Int) ≤ i then some (i + n).toNat else none
noncomputable def atI {α : Type} (xs : List α) (i : Int) : Option α := (ixN xs.length i).bind fun j => xs[j]?
theorem ixN_seq {n : Nat} {i : Int} {j : Nat} (h : ixN n i = some j) : seqIndex? i n = some j ∧ j < n ∧ -(n : Int) ≤ i ∧ i < n := by
  unfold ixN at h
  by_cases h0 : 0 ≤ i
  · rw [if_pos h0] at h
    by_cases h1 : i < n
    · rw [if_pos h1] at h
      have e : i.toNat = j := Option.some.inj h
      exact ⟨by rw [seqIndex_of h0 h1, e], by trivial, by trivial, h1⟩
    · rw [if_neg h1] at h; cases h
  · rw [if_neg h0] at h
    by_cases h1 : -(n : Int) ≤ i
    · rw [if_pos h1] at h
      have e : (i + n).toNat = j := Option.some.inj h
      exact ⟨by rw [seqIndex_neg (by trivial) h1, e], by trivial, h1, by trivial⟩
    · rw [if_neg h1] at h; cases h
theorem atI_get {α : Type} {xs : List α} {i : Int} {v : α} (h : atI xs i = some v) : ∃ j, seqIndex? i xs.length = some j ∧ xs[j]? = some v ∧ j < xs.length ∧ -(xs.length : Int) ≤ i ∧ i < xs.length := by
  unfold atI at h
  cases e : ixN xs.length i with
  | none => rw [e] at h; cases h
  | some j =>
    rw [e] at h
    obtain ⟨h1, h2, h3, h4⟩ := ixN_seq e
    exact ⟨j, h1, h, h2, h3, h4⟩
theorem atI_nat {α : Type} {xs : List α} {j : Nat} {v : α} (h : xs[j]? = some v) : atI xs (j : Int) = some v := by
  have hj : j < xs.length := (List.getElem?_eq_some_iff.mp h).1
  have e : ixN xs.length (j : Int) = some j := by
    unfold ixN
    rw [if_pos (by trivial), if_pos (by trivial)]; simp
  unfold atI; rw [e]; exact h
noncomputable def PlainIx (b : Expr) : Prop := ∀ o i, subscripted b false o i = operate [o, i] (getItem o i)
noncomputable def IxR (X : Cx) (r : R2) : Prop :=
  ∀ (value slice : Expr) (pins : List (Addr × Obj)) (s : Shared) (σ : St) (H : Hp) (x y : V) (v u : Value) (Q : VK), Inv X pins σ H s → RelV x v → RelV y u → r x y H Q →
    subscripted slice false v u = operate [v, u] (getItem v u) → wpAny (model X.prog X.w) X.A (subscriptTail value slice v u) (EP X pins σ Q) X.xe s
noncomputable def MtR (X : Cx) (id : String) (r : V → List V → Hp → VK → Prop) : Prop :=
  ∀ (pins : List (Addr × Obj)) (s : Shared) (σ : St) (H : Hp) (x : V) (xs : List V) (v : Value) (us : List Value) (Q : VK), Inv X pins σ H s → RelV x v → Vals xs us → r x xs H Q →
    wpAny (model X.prog X.w) X.A (call (.builtin id) (v :: us)) (EP X pins σ Q) X.xe s
section
variable {X : Cx} {a b : Expr} {ta tb : TE} {pos : Pos}
theorem IxR.or {r r' : R2} (h : IxR X r) (h' : IxR X r') : IxR X (fun x y H Q => r x y H Q ∨ r' x y H Q) := by
  intro value slice pins s σ H x y v u Q I rx ry q hs
  rcases q with q | q
  · exact h value slice pins s σ H x y v u Q I rx ry q hs
  · exact h' value slice pins s σ H x y v u Q I rx ry q hs
theorem pe_ix {r : R2} (hr : IxR X r) (ha : PE X a ta) (hb : PE X b tb) (hs : PlainIx b) : PE X (.Subscript a b pos) (tOp r ta tb) := by
  intro pins s σ H Q I h
  exact Subscript_ (binT ha hb I h fun v u s2 x y H2 I2 rx ry q => hr a b pins s2 σ H2 x y v u Q I2 rx ry q (hs _ _))
noncomputable def rIxL (K : PySem.W.Frag) : R2 := fun x y H Q => ∃ p xs i v, x = .ref p ∧ y = .int i ∧ SqL K H p xs ∧ atI xs i = some v ∧ Q v H
noncomputable def rIxT (K : PySem.W.Frag) : R2 := fun x y H Q => ∃ p xs i v, x = .ref p ∧ y = .int i ∧ SqT K H p xs ∧ atI xs i = some v ∧ Q v H
noncomputable def rIxS : R2 := fun x y H Q => ∃ z i c, x = .str z ∧ y = .int i ∧ z.length ≤ sizeLine ∧ atI z.cps.toList i = some c ∧ Q (.str ⟨#[c]⟩) H
theorem ix_list : IxR X (rIxL X.K) := by
  intro value slice pins s σ H x y v u Q I rx ry h hs
  obtain ⟨p, xs, i, z, rfl, rfl, hq, he, q⟩ := h
  cases rx
  obtain ⟨t, rfl⟩ := ry
  obtain ⟨its, r, pl, hz⟩ := I.list hq
  obtain ⟨j, h1, h2, h3, h4, h5⟩ := atI_get he
  obtain ⟨w, ew, rw'⟩ := r.get h2
  have hl := r.length
  have hn := line63
  have fin : EP X pins σ Q w s := ⟨z, H, I, rw', q⟩
  by_cases h0 : 0 ≤ i
  · have hj : i.toNat = j := by
      rw [seqIndex_of h0 h5] at h1
      exact Option.some.inj h1
    exact item_listR pl.isList h0 (by trivial) (by rw [hj]; simpa using ew) fin hs
  · have hj : (i + (its.toArray.size : Int)).toNat = j := by
      rw [seqIndex_neg (by trivial) h4] at h1
      rw [List.size_toArray, ← hl]
      exact Option.some.inj h1
    exact subscriptTail_builtinR (x := w) pl.isList.typeIs slot_list_getitem.lookup
      (wpAny_getItem_list_neg (Q := fun r s' => r = w ∧ EP X pins σ Q r s') pl.isList (by trivial) (by rw [List.size_toArray] <;> trivial) (by trivial) (by rw [hj]; simpa using ew) ⟨rfl, fin⟩) hs
theorem ix_tup : IxR X (rIxT X.K) := by
  intro value slice pins s σ H x y v u Q I rx ry h hs
  obtain ⟨p, xs, i, z, rfl, rfl, hq, he, q⟩ := h
  cases rx
  obtain ⟨t, rfl⟩ := ry
  obtain ⟨its, r, pl, hz⟩ := I.tuple hq
  obtain ⟨j, h1, h2, h3, h4, h5⟩ := atI_get he
  obtain ⟨w, ew, rw'⟩ := r.get h2
  have hl := r.length
  have hn := line63
  have fin : EP X pins σ Q w s := ⟨z, H, I, rw', q⟩
  exact subscriptTail_builtinR (x := w) pl.typeIs slot_tuple_getitem.lookup
    (getItem_tuple (j := j) (Q := fun r s' => r = w ∧ EP X pins σ Q r s') pl (by trivial) (by trivial) (by rw [List.size_toArray, ← hl]; exact h1) (by simpa using ew) ⟨rfl, fin⟩) hs
noncomputable def rIx (K : PySem.W.Frag) : R2 := fun x y H Q => rIxL K x y H Q ∨ rIxT K x y H Q ∨ rIxS x y H Q
theorem mapSeq_set (its : List Value) (n j : Nat) (u : Value) : Obj.mapSeq (·.setIfInBounds j u) { cls := .type "list", data := .seq its.toArray n } = { cls := .type "list", data := .seq (its.set j u).toArray n } := by
  simp [Obj.mapSeq]
theorem Inv.lst {pins : List (Addr × Obj)} {σ : St} {H : Hp} {s : Shared} {p : Addr} {xs : List V} (I : Inv X pins σ H s) (h : H p = some (.lst xs)) :
    ∃ (its : List Value) (n : Nat), Vals xs its ∧ s.heap.get? p = some { cls := .type "list", data := .seq its.toArray n } ∧ xs.length ≤ sizeLine := by
  obtain ⟨z, its, n, r, e⟩ := I.hok p _ h
  exact ⟨its, n, r, e, z⟩
theorem Inv.lstUpd {pins : List (Addr × Obj)} {σ : St} {H : Hp} {s : Shared} {p : Addr} {xs ys : List V} {its its' : List Value} {n n' : Nat} {f : Obj → Obj} (I : Inv X pins σ H s) (h : H p = some (.lst xs))
    (ho : s.heap.get? p = some { cls := .type "list", data := .seq its.toArray n }) (hf : f { cls := .type "list", data := .seq its.toArray n } = { cls := .type "list", data := .seq its'.toArray n' }) (r : Vals ys its') (hz : ys.length ≤ sizeLine) (t : Nat) :
    Inv X pins σ (upd H p (.lst ys)) { s with heap := s.heap.update p f, toks := t } := by
  have e : (s.heap.update p f).get? p = some { cls := .type "list", data := .seq its'.toArray n' } := by
    rw [Heap.get?_update_self f ho (by rw [hf] <;> rfl), hf]
  refine I.write (x := p) (e := p) (by rw [h]; trivial) (.inl rfl) (fun b u hb q => (Heap.get?_update_other _ _ (Ne.symm hb)).trans q) ⟨_, e⟩ ?_
  exact ⟨hz, its', n', r, e⟩
noncomputable def rSetL : V → V → V → Hp → (Hp → Prop) → Prop := fun o i v H Q => ∃ p xs k j, o = .ref p ∧ i = .int k ∧ H p = some (.lst xs) ∧ ixN xs.length k = some j ∧ Q (upd H p (.lst (xs.set j v)))
theorem set_list : PSet X rSetL := by
  intro pins s σ H o i v ov iv u Q I ro ri rv h
  obtain ⟨p, xs, k, j, rfl, rfl, hp, hj, q⟩ := h
  cases ro
  obtain ⟨t, rfl⟩ := ri
  obtain ⟨its, n, r, ho, hz⟩ := I.lst hp
  obtain ⟨h1, h2, h3, h4⟩ := ixN_seq hj
  have hl := r.length
  have hn := line63
  have I' : Inv X pins σ (upd H p (.lst (xs.set j v))) { s with heap := s.heap.update p (Obj.mapSeq (·.setIfInBounds j u)) } :=
    I.lstUpd hp ho (mapSeq_set its n j u) (r.set rv j) (by rw [List.length_set]; exact hz) s.toks
  by_cases h0 : 0 ≤ k
  · have hk : k.toNat = j := by
      rw [seqIndex_of h0 h4] at h1
      exact Option.some.inj h1
    exact PySem.W.ki_setAt ho h0 (by trivial) (by rw [List.size_toArray, ← hl]; exact h4) (by rw [hk]; exact ⟨_, I', q⟩)
  · have hk : (k + (its.toArray.size : Int)).toNat = j := by
      rw [seqIndex_neg (by trivial) h3] at h1
      rw [List.size_toArray, ← hl]
      exact Option.some.inj h1
    exact PySem.W.ki_setBack ho (by trivial) (by rw [List.size_toArray, ← hl]; exact h3) (by trivial) (by rw [hk]; exact ⟨_, I', q⟩)
theorem slice_bounds (lo hi : Option Int) (n : Nat) : (sliceBounds lo hi none n).1 = ((HT.sIx n 0 lo : Nat) : Int) ∧ (sliceBounds lo hi none n).2.1 = ((HT.sIx n n hi : Nat) : Int) ∧ (sliceBounds lo hi none n).2.2 = 1 := by
  refine ⟨?_, ?_, rfl⟩
  · cases lo with
    | none => simp [sliceBounds, HT.sIx]
    | some i =>
      simp only [sliceBounds, HT.sIx, Option.getD_none, show (1 : Int) > 0 by decide, if_true]
      by_cases h : i < 0
      · simp only [h, if_true] <;> trivial
      · simp only [h, if_false] <;> trivial
  · cases hi with
    | none => simp [sliceBounds, HT.sIx]
    | some i =>
      simp only [sliceBounds, HT.sIx, Option.getD_none, show (1 : Int) > 0 by decide, if_true]
      by_cases h : i < 0
      · simp only [h, if_true] <;> trivial
      · simp only [h, if_false] <;> trivial
theorem slicePick_cut (its : List Value) (lo hi : Option Int) : slicePick its.toArray lo hi none = ((its.drop (HT.sIx its.length 0 lo)).take (HT.sIx its.length its.length hi - HT.sIx its.length 0 lo)).toArray := by
  obtain ⟨h1, h2, h3⟩ := slice_bounds lo hi its.toArray.size
  unfold slicePick
  rw [h1, h2, h3]
  simp only [sliceRange_one, pick_run, List.size_toArray] <;> rfl
noncomputable def rSlL (K : PySem.W.Frag) : V → Option Int → Option Int → Hp → VK → Prop := fun x lo hi H Q => ∃ a xs, x = .ref a ∧ SqL K H a xs ∧ ∀ p, H p = none → Q (.ref p) (upd H p (.lst (cutV xs lo hi)))
theorem sl_list : SlR X (rSlL X.K) := by
  intro pins s σ H x v vl vu lo hi sl Q I rx hs pl pu h
  obtain ⟨a, xs, rfl, hx, q⟩ := h
  cases rx
  obtain ⟨its, r, ht, hz⟩ := I.list hx
  have hlen := r.length
  refine ⟨"list", _, slot_list_getitem.lookup, ht.isList.typeIs, ?_⟩
  refine wpAny_getItem_list_slice ht.isList hs pl pu .none (by simp) ?_ (by rw [List.size_toArray] <;> trivial)
  rw [slicePick_cut, ← hlen]
  refine ⟨.ref s.heap.objs.size, _, I.laid (t' := s.toks) (o := .lst (cutV xs lo hi)) (fun b ob q => Heap.get?_push_of_some _ q) (Nat.le_refl _) ?_, rfl, q _ (I.hok.fresh (Nat.le_refl _))⟩
  exact ⟨Nat.le_trans (cutV_length xs lo hi) hz, _, 0, (r.drop (HT.sIx xs.length 0 lo)).take (HT.sIx xs.length xs.length hi - HT.sIx xs.length 0 lo), Heap.get?_push_size _ rfl⟩
noncomputable def flatV : V → Bool
  | .non => true
  | .bl _ => true
  | .int _ => true
  | .str _ => true
  | _ => false
noncomputable def eqV : V → V → Bool
  | .non, .non => true
  | .bl a, .bl b => a == b
  | .bl a, .int b => (if a then 1 else 0) == b
  | .int a, .bl b => a == (if b then 1 else 0)
  | .int a, .int b => a == b
  | .str a, .str b => a == b
  | _, _ => false
theorem eqV_nn : eqV .non .non = true := rfl
theorem eqV_in (n : Int) : eqV (.int n) .non = false := rfl
theorem eqAt_V {A : Around} {s : Shared} {y x : V} {u v : Value} (ry : RelV y u) (rx : RelV x v) (fy : flatV y = true) (fx : flatV x = true) : SeqAt.EqAt A s u v (eqV y x) := by
  cases y with
  | non =>
    cases ry
    cases x with
    | non => cases rx; exact SeqAt.EqAt.same _
    | bl b => cases rx; exact SeqAt.EqAt.none_bool b
    | int b => obtain ⟨t, rfl⟩ := rx; exact SeqAt.EqAt.none_int b t
    | str b => obtain ⟨t, rfl⟩ := rx; exact SeqAt.EqAt.none_str b t
    | _ => exact absurd (show false = true from fx) Bool.false_ne_true
  | bl a =>
    cases ry
    cases x with
    | non => cases rx; exact SeqAt.EqAt.bool_none a
    | bl b => cases rx; exact SeqAt.EqAt.bool_bool a b
    | int b => obtain ⟨t, rfl⟩ := rx; exact SeqAt.EqAt.bool_int a b t
    | str b => obtain ⟨t, rfl⟩ := rx; exact SeqAt.EqAt.bool_str a b t
    | _ => exact absurd (show false = true from fx) Bool.false_ne_true
  | int a =>
    obtain ⟨t', rfl⟩ := ry
    cases x with
    | non => cases rx; exact SeqAt.EqAt.int_none a t'
    | bl b => cases rx; exact SeqAt.EqAt.int_bool a t' b
    | int b => obtain ⟨t, rfl⟩ := rx; exact SeqAt.EqAt.int_int a t' b t
    | str b => obtain ⟨t, rfl⟩ := rx; exact SeqAt.EqAt.int_str a t' b t
    | _ => exact absurd (show false = true from fx) Bool.false_ne_true
  | str a =>
    obtain ⟨t', rfl⟩ := ry
    cases x with
    | non => cases rx; exact SeqAt.EqAt.str_none a t'
    | bl b => cases rx; exact SeqAt.EqAt.str_bool a t' b
    | int b => obtain ⟨t, rfl⟩ := rx; exact SeqAt.EqAt.str_int a t' b t
    | str b => obtain ⟨t, rfl⟩ := rx; exact SeqAt.EqAt.str_str a t' b t
    | _ => exact absurd (show false = true from fx) Bool.false_ne_true
  | _ => exact absurd (show false = true from fy) Bool.false_ne_true
noncomputable def eqU (x : V) (u : Value) : Bool := match u with
  | .none => eqV .non x
  | .bool b => eqV (.bl b) x
  | .int i _ => eqV (.int i) x
  | .str z _ => eqV (.str z) x
  | _ => false
theorem eqU_of {x y : V} {u : Value} (r : RelV y u) (f : flatV y = true) : eqU x u = eqV y x := by
  cases y with
  | non => cases r; rfl
  | bl b => cases r; rfl
  | int i => obtain ⟨t, rfl⟩ := r; rfl
  | str z => obtain ⟨t, rfl⟩ := r; rfl
  | _ => exact absurd (show false = true from f) Bool.false_ne_true
theorem any_eqU {x : V} : ∀ {xs : List V} {us : List Value}, Vals xs us → xs.all flatV = true → us.any (eqU x) = xs.any fun y => eqV y x
  | _, _, .nil, _ => rfl
  | y :: xs, u :: us, .cons r t, f => by
    rw [List.all_cons, Bool.and_eq_true] at f
    rw [List.any_cons, List.any_cons, eqU_of r f.1, any_eqU t f.2]
theorem mem_eqAt {A : Around} {s : Shared} {x : V} {v : Value} (rx : RelV x v) (fx : flatV x = true) {xs : List V} {us : List Value} (h : Vals xs us) (f : xs.all flatV = true) : ∀ u ∈ us, SeqAt.EqAt A s u v (eqU x u) := by
  induction h with
  | nil => exact fun u hu => nomatch hu
  | cons r t ih =>
    rw [List.all_cons, Bool.and_eq_true] at f
    intro u' hu
    rcases List.mem_cons.mp hu with rfl | hu
    · rw [eqU_of r f.1]; exact eqAt_V r rx f.1 fx
    · exact ih f.2 u' hu
noncomputable def inV (x : V) (xs : List V) : Bool := xs.any fun y => eqV y x
noncomputable def rIn (K : PySem.W.Frag) (neg : Bool) : R2 := fun x y H Q => ∃ p xs, y = .ref p ∧ (SqL K H p xs ∨ SqT K H p xs) ∧ flatV x = true ∧ xs.all flatV = true ∧ Q (.bl (if neg then !inV x xs else inV x xs)) H
theorem op_in_seq : OpR X (compareOp .In) (rIn X.K false) := by
  intro pins s σ H x y v u Q I rx ry h
  obtain ⟨p, xs, rfl, hq, fx, fs, q⟩ := h
  cases ry
  rcases hq with hq | hq
  · obtain ⟨its, r, pl, hz⟩ := I.list hq
    refine SeqAt.in_listAt (eqU x) pl.isList (fun w hw => mem_eqAt rx fx r fs w (by simpa using hw)) ⟨.bl _, H, I, rfl, ?_⟩
    rw [show its.toArray.any (eqU x) = its.any (eqU x) by simp, any_eqU r fs]
    exact q
  · obtain ⟨its, r, pl, hz⟩ := I.tuple hq
    refine SeqAt.in_tupleAt (eqU x) pl (fun w hw => mem_eqAt rx fx r fs w (by simpa using hw)) ⟨.bl _, H, I, rfl, ?_⟩
    rw [show its.toArray.any (eqU x) = its.any (eqU x) by simp, any_eqU r fs]
    exact q
theorem op_notIn_seq : OpR X (compareOp .NotIn) (rIn X.K true) := by
  intro pins s σ H x y v u Q I rx ry h
  obtain ⟨p, xs, rfl, hq, fx, fs, q⟩ := h
  cases ry
  rcases hq with hq | hq
  · obtain ⟨its, r, pl, hz⟩ := I.list hq
    refine SeqAt.notIn_listAt (eqU x) pl.isList (fun w hw => mem_eqAt rx fx r fs w (by simpa using hw)) ⟨.bl _, H, I, rfl, ?_⟩
    rw [show its.toArray.any (eqU x) = its.any (eqU x) by simp, any_eqU r fs]
    exact q
  · obtain ⟨its, r, pl, hz⟩ := I.tuple hq
    refine SeqAt.notIn_tupleAt (eqU x) pl (fun w hw => mem_eqAt rx fx r fs w (by simpa using hw)) ⟨.bl _, H, I, rfl, ?_⟩
    rw [show its.toArray.any (eqU x) = its.any (eqU x) by simp, any_eqU r fs]
    exact q
theorem call_len_seq : CallR X (.builtin "len") (fun xs H Q => ∃ p ys, xs = [.ref p] ∧ (SqL X.K H p ys ∨ SqT X.K H p ys) ∧ Q (.int ys.length) H) := by
  intro pins s σ H xs us Q I r h
  obtain ⟨p, ys, rfl, hq, q⟩ := h
  obtain ⟨u, rfl, rx⟩ := vals1 r
  cases rx
  have hn := line63
  rcases hq with hq | hq
  · obtain ⟨its, r', pl, hz⟩ := I.list hq
    have hlen := r'.length
    exact Calls.call_len_list pl.isList (by simp only [List.size_toArray] <;> trivial) ⟨.int ys.length, H, I.tok _, ⟨s.toks + 1, by rw [List.size_toArray, hlen]⟩, q⟩
  · obtain ⟨its, r', pl, hz⟩ := I.tuple hq
    have hlen := r'.length
    exact len_tuple pl (by simp only [List.size_toArray] <;> trivial) ⟨.int ys.length, H, I.tok _, ⟨s.toks + 1, by rw [List.size_toArray, hlen]⟩, q⟩
theorem call_list_of : CallR X (.type "list") (fun xs H Q => ∃ p ys, xs = [.ref p] ∧ (SqL X.K H p ys ∨ SqT X.K H p ys) ∧ ∀ l, H l = none → Q (.ref l) (upd H l (.lst ys))) := by
  intro pins s σ H xs us Q I r h
  obtain ⟨p, ys, rfl, hq, q⟩ := h
  obtain ⟨u, rfl, rx⟩ := vals1 r
  cases rx
  have fin : ∀ (its : List Value), Vals ys its → ys.length ≤ sizeLine → ∀ (h' : Heap) (c' : Nat), (∀ b o', s.heap.get? b = some o' → h'.get? b = some o') →
      h'.get? s.heap.objs.size = some { cls := .type "list", dict := none, data := .seq its.toArray c', slots := #[] } → EP X pins σ Q (.ref s.heap.objs.size) { s with heap := h' } := fun its r' hz h' c' kp e =>
    ⟨.ref s.heap.objs.size, _, I.laid (t' := s.toks) kp (Nat.le_refl _) (show ObjOk X.prog X.w _ h' _ (.lst ys) from ⟨hz, its, c', r', e⟩), rfl, q _ (I.hok.fresh (Nat.le_refl _))⟩
  rcases hq with hq | hq
  · obtain ⟨its, r', pl, hz⟩ := I.list hq
    have hlen := r'.length
    obtain ⟨o, ho, hc, n, hd⟩ := pl.isList
    exact call_list_seq p (.inl rfl) ho hc hd (fun h' c' kp e => fin its r' hz h' c' kp e) (by simp only [List.size_toArray] <;> trivial)
  · obtain ⟨its, r', pl, hz⟩ := I.tuple hq
    have hlen := r'.length
    obtain ⟨o, ho, hc, n, hd⟩ := pl
    exact call_list_seq p (.inr rfl) ho hc hd (fun h' c' kp e => fin its r' hz h' c' kp e) (by simp only [List.size_toArray] <;> trivial)
noncomputable def tyV (K : PySem.W.Frag) (T : String) (x : V) (H : Hp) : Prop := match x with
  | .str _ => T = "str"
  | .int _ => T = "int"
  | .ref p => (T = "list" ∧ ∃ xs, SqL K H p xs) ∨ (T = "tuple" ∧ ∃ o, K.lookup p = some o ∧ o.cls = .type "tuple" ∧ o.dict = none) ∨
      (T = "dict" ∧ ((∃ kvs, H p = some (.dK kvs)) ∨ ∃ kvs, H p = some (.dT kvs))) ∨ (T = "set" ∧ ∃ S n, H p = some (.set S n))
  | _ => False
theorem tyV_is {pins : List (Addr × Obj)} {σ : St} {H : Hp} {s : Shared} {T : String} {x : V} {v : Value} (I : Inv X pins σ H s) (r : RelV x v) (ty : tyV X.K T x H) :
    s.TypeIs v T ∧ ∀ a, v = .ref a → ∃ ob, s.heap.get? a = some ob ∧ ob.dict = none := by
  cases x with
  | str z =>
    obtain ⟨t, rfl⟩ := r
    cases (show T = "str" from ty)
    exact ⟨typeIs_str s z t, fun _ e => nomatch e⟩
  | int i =>
    obtain ⟨t, rfl⟩ := r
    cases (show T = "int" from ty)
    exact ⟨typeIs_int s i t, fun _ e => nomatch e⟩
  | ref p =>
    cases r
    rcases ty with ⟨rfl, xs, hq⟩ | ⟨rfl, o, hk, hc, hd⟩ | ⟨rfl, hk⟩ | ⟨rfl, S, n, hk⟩
    · obtain ⟨its, _, pl, _⟩ := I.list hq
      refine ⟨pl.isList.typeIs, fun a e => ?_⟩
      cases e
      obtain ⟨o, n, e, c, hd, _⟩ := pl
      exact ⟨o, e, hd⟩
    · refine ⟨⟨o, I.kIn p o hk, hc⟩, fun a e => ?_⟩
      cases e
      exact ⟨o, I.kIn _ o hk, hd⟩
    · have z : ∃ o, s.heap.get? p = some o ∧ o.ExactDict := by
        rcases hk with ⟨kvs, hk⟩ | ⟨kvs, hk⟩
        · obtain ⟨_, _, _, _, o, _, _, e, ex, _⟩ := I.hok p _ hk
          exact ⟨o, e, ex⟩
        · obtain ⟨_, _, _, _, o, _, _, e, ex, _⟩ := I.hok p _ hk
          exact ⟨o, e, ex⟩
      obtain ⟨o, e, ex⟩ := z
      refine ⟨⟨o, e, ex.1⟩, fun a e2 => ?_⟩
      cases e2
      exact ⟨o, e, ex.2.1⟩
    · obtain ⟨o, _, _, _, e, ex, _⟩ := I.hok p _ hk
      refine ⟨⟨o, e, ex.1⟩, fun a e2 => ?_⟩
      cases e2
      exact ⟨o, e, ex.2.1⟩
  | _ => exact False.elim ty
noncomputable def tBM0 (K : PySem.W.Frag) (T : String) (r : V → List V → Hp → VK → Prop) (to : TE) : TE := fun σ H Q => to σ H fun x H1 => tyV K T x H1 ∧ r x [] H1 Q
noncomputable def tBM (K : PySem.W.Frag) (T : String) (r : V → List V → Hp → VK → Prop) (to : TE) (t : TA) : TE := fun σ H Q => to σ H fun x H1 => tyV K T x H1 ∧ t σ H1 fun xs H2 => r x xs H2 Q
variable {o e : Expr} {es : List Expr} {to : TE} {t : TA} {name : Str} {apos cpos : Pos} {T id : String} {r : V → List V → Hp → VK → Prop}
end
end L2
namespace L2
open PySem PySem.Spec PyProof.Rows
noncomputable def MtM (X : Cx) (id : String) (r : V → List V → Hp → VK → Prop) : Prop :=
  ∀ (pins : List (Addr × Obj)) (s : Shared) (σ : St) (H : Hp) (x : V) (xs : List V) (v : Value) (us : List Value) (Q : VK), Inv X pins σ H s → RelV x v → Vals xs us → r x xs H Q →
    wpAny (model X.prog X.w) X.A (call (.builtin id) (v :: us)) (EP X pins σ Q) X.xe s
theorem Vals.one {x : V} {us : List Value} (h : Vals [x] us) : ∃ u, us = [u] ∧ RelV x u := by
  cases h with | cons r t => cases t; exact ⟨_, rfl, r⟩
theorem Vals.two {x y : V} {us : List Value} (h : Vals [x, y] us) : ∃ u v, us = [u, v] ∧ RelV x u ∧ RelV y v := by
  cases h with | cons r t => obtain ⟨v, rfl, q⟩ := Vals.one t; exact ⟨_, v, rfl, r, q⟩
theorem Vals.zero {us : List Value} (h : Vals [] us) : us = [] := by cases h; rfl
theorem Vals.dropLast {xs : List V} {us : List Value} (h : Vals xs us) : Vals xs.dropLast us.dropLast := by
  induction h with
  | nil => exact .nil
  | cons r t ih =>
    cases t with
    | nil => exact .nil
    | cons q t' => exact .cons r ih
theorem Vals.eraseIdx : ∀ {xs : List V} {us : List Value} (i : Nat), Vals xs us → Vals (xs.eraseIdx i) (us.eraseIdx i)
  | _, _, _, .nil => .nil
  | _, _, 0, .cons _ t => t
  | _, _, i + 1, .cons r t => .cons r (Vals.eraseIdx i t)
theorem Vals.rep {xs : List V} {us : List Value} (h : Vals xs us) (k : Nat) : Vals (List.replicate k xs).flatten (List.replicate k us).flatten := by
  induction k with
  | zero => exact .nil
  | succ k ih => exact Vals.append h ih
theorem erase_last {α : Type} (l : List α) : l.eraseIdx (l.length - 1) = l.dropLast := by
  induction l with
  | nil => rfl
  | cons a r ih =>
    cases r with
    | nil => rfl
    | cons b r =>
      have e : (a :: b :: r).length - 1 = ((b :: r).length - 1) + 1 := by
        have h1 : (a :: b :: r).length = r.length + 2 := rfl
        have h2 : (b :: r).length = r.length + 1 := rfl
        trivial
      rw [e, List.eraseIdx_cons_succ, ih]
      all_goals rfl
theorem len_erase {α : Type} : ∀ (l : List α) (i : Nat), (l.eraseIdx i).length ≤ l.length
  | [], _ => Nat.le_refl _
  | _ :: _, 0 => Nat.le_succ _
  | _ :: r, i + 1 => Nat.succ_le_succ (len_erase r i)
theorem foldl_rep (its : List Value) : ∀ (k : Nat) (acc : List Value),
    List.foldl (fun x1 x2 => x1 ++ x2) acc.toArray (List.replicate k its.toArray) = (acc ++ (List.replicate k its).flatten).toArray
  | 0, acc => by simp
  | k + 1, acc => by
    have e : acc.toArray ++ its.toArray = (acc ++ its).toArray := by simp
    have e2 : (acc ++ its) ++ (List.replicate k its).flatten = acc ++ (List.replicate (k + 1) its).flatten := by
      rw [List.replicate_succ, List.flatten_cons, List.append_assoc]
    rw [← e2, ← foldl_rep its k (acc ++ its), ← e, List.replicate_succ, List.foldl_cons]
section
variable {X : Cx} {pins : List (Addr × Obj)} {σ : St} {H : Hp} {s : Shared} {l b : Addr} {xs ys zs : List V}
theorem Inv.lset {its its' : List Value} {n : Nat} {f : Array Value → Array Value} {t' : Nat} (I : Inv X pins σ H s) (hH : H l = some (.lst xs))
    (e : s.heap.get? l = some { cls := .type "list", data := .seq its.toArray n }) (hf : f its.toArray = its'.toArray) (hv : Vals ys its') (hz : ys.length ≤ sizeLine) :
    Inv X pins σ (upd H l (.lst ys)) { s with heap := s.heap.update l (Obj.mapSeq f), toks := t' } := by
  have q := PySem.IsL.update e f
  rw [hf] at q
  refine I.write (x := l) (e := l) (by rw [hH]; exact trivial) (.inl rfl) (fun b' u hb hu => (Heap.get?_update_other s.heap (Obj.mapSeq f) (Ne.symm hb)).trans hu) ⟨_, q⟩ ?_
  exact ⟨hz, its', _, hv, q⟩
theorem Inv.lnew {its : List Value} {t' : Nat} (I : Inv X pins σ H s) (hv : Vals ys its) (hz : ys.length ≤ sizeLine) :
    Inv X pins σ (upd H s.heap.objs.size (.lst ys)) { s with heap := s.heap.push { cls := .type "list", data := .seq its.toArray }, toks := t' } :=
  I.laid (fun _ _ q => Heap.get?_push_of_some _ q) (Nat.le_refl _) ⟨hz, its, 0, hv, Heap.get?_push_size _ rfl⟩
theorem Inv.fresh (I : Inv X pins σ H s) : H s.heap.objs.size = none := I.hok.fresh (Nat.le_refl _)
theorem Inv.lstM (I : Inv X pins σ H s) (hH : H l = some (.lst xs)) : xs.length ≤ sizeLine ∧ ∃ (its : List Value) (n : Nat), Vals xs its ∧ xs.length = its.length ∧ s.heap.get? l = some { cls := .type "list", data := .seq its.toArray n } := by
  obtain ⟨z, its, n, r, e⟩ := I.hok l _ hH
  exact ⟨z, its, n, r, r.length, e⟩
theorem notLongL {n : Nat} (h : n ≤ sizeLine) : Builtin.List.listTooLong n = false := by
  unfold Builtin.List.listTooLong
  exact decide_eq_false (by trivial)
end
section
variable {X : Cx}
noncomputable def rAppend : V → List V → Hp → VK → Prop := fun x vs H Q => ∃ l xs y, x = .ref l ∧ vs = [y] ∧ H l = some (.lst xs) ∧ xs.length < sizeLine ∧ Q .non (upd H l (.lst (xs ++ [y])))
theorem mt_append : MtM X "list.append" rAppend := by
  intro pins s σ H x vs v us Q I rx rv h
  obtain ⟨l, xs, y, rfl, rfl, hH, hz, q⟩ := h
  cases rx
  obtain ⟨u, rfl, ru⟩ := rv.one
  obtain ⟨z, its, n, r, hl, e⟩ := I.lstM hH
  refine call_meets F.slot_list_append ⟨_, e, rfl⟩ F.entry_list_append (F.args_list_append_2 _ _) (PySem.list_append l its.toArray n u (by rw [List.size_toArray]; trivial)) ⟨e, ?_⟩
  refine ⟨.non, _, I.lset (its' := its ++ [u]) hH e (by simp) (r.append (.cons ru .nil)) ?_, rfl, q⟩
  rw [List.length_append, List.length_singleton]
  trivial
noncomputable def rExtend : V → List V → Hp → VK → Prop := fun x vs H Q => ∃ l b xs zs, x = .ref l ∧ vs = [.ref b] ∧ H l = some (.lst xs) ∧ H b = some (.lst zs) ∧ xs.length + zs.length ≤ sizeLine ∧ Q .non (upd H l (.lst (xs ++ zs)))
theorem mt_extend : MtM X "list.extend" rExtend := by
  intro pins s σ H x vs v us Q I rx rv h
  obtain ⟨l, b, xs, zs, rfl, rfl, hH, hB, hz, q⟩ := h
  cases rx
  obtain ⟨u, rfl, ru⟩ := rv.one
  cases ru
  obtain ⟨z, its, n, r, hl, e⟩ := I.lstM hH
  obtain ⟨z2, its2, n2, r2, hl2, e2⟩ := I.lstM hB
  have hsz : its.toArray.size + its2.toArray.size ≤ sizeLine := by rw [List.size_toArray, List.size_toArray]; trivial
  have hlong : ¬ (!its.toArray.isEmpty && Builtin.List.listTooLong (its.toArray.size + its2.toArray.size)) = true := by
    rw [notLongL hsz, Bool.and_false]
    exact Bool.false_ne_true
  refine call_meets F.slot_list_extend ⟨_, e, rfl⟩ F.entry_list_extend (F.args_list_extend_2 _ _)
    (AutoSeq1.list_extend_list_list_0 l its.toArray n b its2.toArray n2 hlong (by rw [List.size_toArray]; trivial) (by trivial)) ⟨e, e2, ?_⟩
  refine ⟨.non, _, I.lset (its' := its ++ its2) hH e (by simp) (r.append r2) ?_, rfl, q⟩
  rw [List.length_append]
  trivial
noncomputable def rPop : V → List V → Hp → VK → Prop := fun x vs H Q => ∃ l xs y, x = .ref l ∧ vs = [] ∧ H l = some (.lst xs) ∧ xs[xs.length - 1]? = some y ∧ Q y (upd H l (.lst xs.dropLast))
theorem mt_pop : MtM X "list.pop" rPop := by
  intro pins s σ H x vs v us Q I rx rv h
  obtain ⟨l, xs, y, rfl, rfl, hH, hy, q⟩ := h
  cases rx
  have hus := rv.zero
  subst hus
  obtain ⟨z, its, n, r, hl, e⟩ := I.lstM hH
  obtain ⟨u, hu, ru⟩ := r.get hy
  have hy' : its.toArray[its.toArray.size - 1]? = some u := by
    show its.toArray[its.length - 1]? = some u
    rw [← Array.getElem?_toList, ← hl]
    exact hu
  refine call_meets F.slot_list_pop ⟨_, e, rfl⟩ F.entry_list_pop (F.args_list_pop_1 _) (MeetsSeq.list_pop_last l its.toArray n u hy' (by rw [List.size_toArray]; trivial)) ⟨e, ?_⟩
  refine ⟨y, _, I.lset (its' := its.dropLast) hH e ?_ r.dropLast ?_, ru, q⟩
  · show its.toArray.eraseIdxIfInBounds (its.toArray.size - 1) = its.dropLast.toArray
    rw [List.size_toArray, List.eraseIdxIfInBounds_toArray, erase_last]
  · rw [List.length_dropLast]
    trivial
noncomputable def rPopAt : V → List V → Hp → VK → Prop := fun x vs H Q => ∃ l xs i k y, x = .ref l ∧ vs = [.int i] ∧ H l = some (.lst xs) ∧ -(2 ^ 63) ≤ i ∧ i < 2 ^ 63 ∧ seqIndex? i xs.length = some k ∧ xs[k]? = some y ∧ Q y (upd H l (.lst (xs.eraseIdx k)))
theorem mt_popAt : MtM X "list.pop" rPopAt := by
  intro pins s σ H x vs v us Q I rx rv h
  obtain ⟨l, xs, i, k, y, rfl, rfl, hH, h1, h2, hk, hy, q⟩ := h
  cases rx
  obtain ⟨u, rfl, ru⟩ := rv.one
  obtain ⟨t, rfl⟩ := ru
  obtain ⟨z, its, n, r, hl, e⟩ := I.lstM hH
  obtain ⟨w, hw, rw'⟩ := r.get hy
  refine call_meets F.slot_list_pop ⟨_, e, rfl⟩ F.entry_list_pop (F.args_list_pop_2 _ _)
    (MeetsSeq.list_pop_at l its.toArray n i t k w (fitsIndex_both h1 h2) (by rw [List.size_toArray, ← hl]; exact hk) (by rw [← Array.getElem?_toList]; exact hw) (by rw [List.size_toArray]; trivial)) ⟨e, ?_⟩
  refine ⟨y, _, I.lset (its' := its.eraseIdx k) hH e ?_ (r.eraseIdx k) ?_, rw', q⟩
  · show its.toArray.eraseIdxIfInBounds k = (its.eraseIdx k).toArray
    rw [List.eraseIdxIfInBounds_toArray]
  · have := len_erase xs k
    trivial
noncomputable def rReverse : V → List V → Hp → VK → Prop := fun x vs H Q => ∃ l xs, x = .ref l ∧ vs = [] ∧ H l = some (.lst xs) ∧ Q .non (upd H l (.lst xs.reverse))
noncomputable def rClear : V → List V → Hp → VK → Prop := fun x vs H Q => ∃ l xs, x = .ref l ∧ vs = [] ∧ H l = some (.lst xs) ∧ Q .non (upd H l (.lst []))
noncomputable def rCat : R2 := fun x y H Q => ∃ l b xs zs, x = .ref l ∧ y = .ref b ∧ H l = some (.lst xs) ∧ H b = some (.lst zs) ∧ xs.length + zs.length ≤ sizeLine ∧ ∀ p, H p = none → Q (.ref p) (upd H p (.lst (xs ++ zs)))
theorem op_cat : OpR X (binaryOp .Add) rCat := by
  intro pins s σ H x y v u Q I rx ry h
  obtain ⟨l, b, xs, zs, rfl, rfl, hH, hB, hz, q⟩ := h
  cases rx
  cases ry
  obtain ⟨z, its, n, r, hl, e⟩ := I.lstM hH
  obtain ⟨z2, its2, n2, r2, hl2, e2⟩ := I.lstM hB
  refine PySem.P.add_list e e2 ?_ (by rw [List.size_toArray, List.size_toArray]; trivial)
  have ea : its.toArray ++ its2.toArray = (its ++ its2).toArray := by simp
  rw [ea]
  exact ⟨.ref _, _, I.lnew (t' := s.toks) (r.append r2) (by rw [List.length_append]; trivial), rfl, q _ I.fresh⟩
noncomputable def rRep : R2 := fun x y H Q => ∃ l k xs, x = .ref l ∧ y = .int k ∧ H l = some (.lst xs) ∧ -(2 ^ 63) ≤ k ∧ k < 2 ^ 63 ∧ xs.length * k.toNat ≤ sizeLine ∧
  ∀ p, H p = none → Q (.ref p) (upd H p (.lst (List.replicate k.toNat xs).flatten))
theorem len_rep {α : Type} (xs : List α) (k : Nat) : (List.replicate k xs).flatten.length = k * xs.length := by
  induction k with
  | zero => simp
  | succ k ih => rw [List.replicate_succ, List.flatten_cons, List.length_append, ih, Nat.succ_mul, Nat.add_comm]
theorem op_rep : OpR X (binaryOp .Mult) rRep := by
  intro pins s σ H x y v u Q I rx ry h
  obtain ⟨l, k, xs, rfl, rfl, hH, h1, h2, hz, q⟩ := h
  cases rx
  obtain ⟨t, rfl⟩ := ry
  obtain ⟨z, its, n, r, hl, e⟩ := I.lstM hH
  have hlen : its.toArray.size * k.toNat ≤ sizeLine := by rw [List.size_toArray, ← hl]; exact hz
  have hcap : ¬ its.toArray.size * k.toNat > (2 ^ 63 - 1) / 8 := by
    have : (sizeLine : Nat) ≤ (2 ^ 63 - 1) / 8 := by decide
    trivial
  have hfit : ¬ (!Builtin.List.listFitsIndex k) = true := by
    rw [fitsIndex_both h1 h2]
    exact Bool.false_ne_true
  have hlong : ¬ Builtin.List.listTooLong (its.toArray.size * k.toNat) = true := by
    rw [notLongL hlen]
    exact Bool.false_ne_true
  have hnew : List.foldl (fun x1 x2 => x1 ++ x2) #[] (List.replicate (if its.toArray.isEmpty = true then 0 else k.toNat) its.toArray) = (List.replicate k.toNat its).flatten.toArray := by
    have f0 : ∀ m : Nat, List.foldl (fun x1 x2 => x1 ++ x2) #[] (List.replicate m its.toArray) = (List.replicate m its).flatten.toArray := fun m => by
      have := foldl_rep its m []
      rw [List.nil_append] at this
      exact this
    rw [f0]
    cases its with
    | nil => simp
    | cons a r' => rw [if_neg (by simp)]
  refine wpAny_binaryOp_repeat_ref (T := "list") (U := "int") (by decide) ⟨_, e, rfl⟩ (fun s' => typeIs_int s' k t) noFill_list_mul F.fills_int_mul F.slot_int_rmul repeat_list F.slot_int_index.lookup
    (call_meets F.slot_int_rmul (typeIs_int s k t) F.entry_int_rmul (F.args_int_rmul_2 _ _) (int___rmul___int_list k t l its.toArray n)
      ⟨e, rfl, ⟨_, e, rfl⟩, call_meets F.slot_list_mul ⟨_, e, rfl⟩ F.entry_list_mul (F.args_list_mul_2 _ _) (AutoListH.list___mul___list_int_3 l its.toArray n k t hfit hcap hlong) ⟨e, ?_⟩⟩)
  rw [hnew]
  exact ⟨.ref _, _, I.lnew (t' := s.toks) (r.rep k.toNat) (by rw [len_rep, Nat.mul_comm]; exact hz), rfl, q _ I.fresh⟩
end
section
variable {prog : Program} {w : World} {A : Around} {E : Value → Shared → Prop} {s : Shared}
set_option maxRecDepth 100000 in
end
section
variable {X : Cx}
end
end L2
namespace Att
open PySem PySem.W PySem.Calls PyProof.Rows
theorem ints_of_wellAll {P : Params} {h : Heap} : ∀ (ns : List Int) (vs : List Value), WellAll P h vs (ns.map WData.int) → IntsAre vs ns := by
  intro ns
  induction ns with
  | nil =>
    intro vs w
    rw [List.map_nil] at w
    cases w
    exact .nil
  | cons n ns ih =>
    intro vs w
    rw [List.map_cons] at w
    cases w with
    | cons a b =>
      cases a
      exact .cons _ _ (ih _ b)
theorem script_of {l : OpenLaw} {n : Nat} (hn : l.most = some n) {P : Params} {h : Heap} {args : List WData} {vals : List Value}
    (hpre : l.row.toRowW.claim.pre args = true) (hwl : WellAll P h vals args) :
    ∃ a vs ns, vals = [Value.ref a] ∧ args = [WData.list (ns.map WData.int)] ∧ h.get? a = some { cls := .type "list", data := .seq vs.toArray } ∧ IntsAre vs ns ∧ ns.length ≤ n := by
  have hsh : WShape.hasAll [] args [.list .int] = true := (pre_splitW hpre).1
  have hc : l.pre.holds [] { args := args } = true := (pre_splitW hpre).2
  obtain ⟨d, r, rfl, h1, h2⟩ := hasAllW_cons hsh
  obtain rfl := hasAllW_nil h2
  obtain ⟨xs, rfl, h3⟩ := hasW_list h1
  obtain ⟨ns, rfl⟩ := items_int h3
  have hlen : ns.length ≤ n := by
    unfold OpenLaw.pre at hc
    have h4 : (WTm.not (.lt (.lit (.int (n : Int))) (.len (.arg 0)))).holds [] { args := [.list (ns.map .int)] } = true := by
      have h4 := (holds_andW hc).1
      rw [hn] at h4
      exact h4
    have h5 := condW_of h4 (w_not (w_lt w_lit (w_len_list (w_arg rfl))))
    rw [List.length_map] at h5
    refine Nat.le_of_not_lt fun q => ?_
    have q' : (n : Int) < ((ns.length : Nat) : Int) := by trivial
    first
      | (rw [decide_eq_true q'] at h5; exact absurd h5 (by decide))
      | (simp at h5; trivial)
  cases hwl with
  | cons w1 w2 =>
    cases w2
    cases w1 with
    | list ho hall => exact ⟨_, _, ns, rfl, rfl, ho, ints_of_wellAll ns _ hall, hlen⟩
theorem post_true (l : OpenLaw) (args : List WData) : l.row.toRowW.claim.post args (.bool true) args = true :=
  postW_of (r := l.row.toRowW) (X := (true == true))
    (show WShape.has [] (.bool true) .bool = true by first | rfl | decide | simp [WShape.has, WShape.arms, WShape.armsAll])
    (show (WTm.eq .res (.lit (.bool true))).value [] { args := args, res := some (.bool true), after := args } = some (.bool (true == true)) from w_eq_bool (w_res rfl) w_lit) rfl
theorem attach_call {l : OpenLaw} {n : Nat} {q : Program} {loose : List Str} {XP : (Str → Option Value) → Heap → Prop} {YP : World → Heap → Prop} {d : DefRec}
    (hn : l.most = some n) (hdf : d.params.defaults = [])
    (call : ∀ (w : World) (s₀ s₁ : Shared) (mg mb : Str → Option Value) (fa : Addr) (o : Obj) (pm cd doc : Value) (a : Addr) (vs : List Value) (ns : List Int),
      Ground q loose [] XP w s₀ mg mb s₁.heap → YP w s₁.heap →
      s₁.heap.get? fa = some o → o.data = .func (docDef d.name d.params d.body d.scope pm cd doc) → s₁.heap.CodeRec cd d.name → mg d.name = some (.ref fa) →
      s₁.heap.get? a = some { cls := .type "list", data := .seq vs.toArray } → IntsAre vs ns → ns.length ≤ n → s₁.gens = #[] →
      codeAny (model l.prog w) callerA (.call (.ref fa) ⟨[.ref a], []⟩) (fun r s' => r = .ok (.ret (.bool true)) ∧ OldK s₁.heap s'.heap ∧ s'.os = s₁.os ∧ AllBare s'.gens) s₁) :
    WalkO q loose XP YP l.row.toRowW d [] (fun f vs => PySem.call f vs) := by
  intro w s₀ s₁ mg mb G Y fa o pm cd doc dV kV ho hd hcd hD hmg hg args vals as hpre hlay hrd hwl hlo
  obtain rfl : dV = .none := Dflts.none hD hdf
  obtain rfl : kV = .none := Dflts.noKw hD
  obtain ⟨a, vs, ns, rfl, rfl, hobj, hints, hlen⟩ := script_of hn hpre hwl
  refine enter_call (codeAny_mono (call w s₀ s₁ mg mb fa o pm cd doc a vs ns G Y ho (fd_plain hd) hcd hmg hobj hints hlen hg) fun r s' hq => ?_)
  obtain ⟨rfl, h2, h3, h4⟩ := hq
  exact ⟨.inl ⟨.bool true, .bool true, [], rfl, fun _ => rfl, .bool true, post_true l _, fun _ => ⟨List.Pairwise.nil, fun _ hm => (nomatch hm)⟩⟩, h2, h3, h4⟩
section
variable {prog : Program} {w : World} {A : Around} {E : Value → Shared → Prop} {s : Shared} {K : Frag}
noncomputable def noObjs (h : Heap) : Heap := { h with objs := #[] }
noncomputable def ledger (h : Heap) (L d : Addr) : List (Addr × Obj) := (List.range h.objs.size).filterMap fun a => if a = L ∨ a = d then none else (h.get? a).map fun o => (a, o)
end
end Att
namespace L2
open PySem PySem.Spec PyProof.Rows
theorem vals_ints {vs : List Value} {ns : List Int} (h : IntsAre vs ns) : Vals (ns.map V.int) vs := by
  induction h with
  | nil => exact .nil
  | cons n t h ih => exact .cons ⟨t, rfl⟩ ih
noncomputable def Only (H : Hp) : Prop := ∀ b, H b = none ∨ ∃ o xs, H b = some (.frz o (.lst xs))
theorem law_call {P : Program} {w : World} {K : PySem.W.Frag} {mg mb : Str → Option Value} {CX : CXT} {k : Nat} {fa a : Addr} {fd : FuncData} {x : Str} {sp : Sp} {s₁ : Shared} {vs : List Value} {ns : List Int}
    (KX : K.In s₁.heap) (hns : s₁.heap.Ns mainGlobals mg) (hb : s₁.heap.Ns builtinsNs mb) (hbb : ∀ x : Str, x ≠ "__name__" → mb x = bootBuiltins x) (hlim : s₁.heap.NoLimit) (hg : s₁.gens = #[])
    (ha : s₁.heap.get? a = some { cls := .type "list", data := .seq vs.toArray }) (hi : IntsAre vs ns) (hl : ns.length ≤ sizeLine) (hr : Room k callerA)
    (F : ∀ base : Heap, K.In base → base.Ns mainGlobals mg → FnOk P w K mg base CX k fa fd [x] sp) (hbind : ∀ (s : Shared) (u : Value), BindsTo s fd ⟨[u], []⟩ [(x, u)])
    (hsp : ∀ H : Hp, Only H → SqL K H a (ns.map V.int) → sp [.ref a] H (fun v _ => v = .bl true) fun _ _ _ => False)
    (hCX : ∀ H e s', CX [] H s₁ (fun _ _ _ => False) e s' → False) :
    codeAny (model P w) callerA (.call (.ref fa) ⟨[.ref a], []⟩) (fun r s' => r = .ok (.ret (.bool true)) ∧ OldK s₁.heap s'.heap ∧ s'.os = s₁.os ∧ AllBare s'.gens) s₁ := by
  have rv := vals_ints hi
  have lenV := hi.length
  have core : ∀ H : Hp, Only H → SqL K H a (ns.map V.int) → HOk P w H s₁.heap → (∀ b, H b ≠ none → b = a) → (H a ≠ none → K.lookup a = none) →
      codeAny (model P w) callerA (.call (.ref fa) ⟨[.ref a], []⟩) (fun r s' => r = .ok (.ret (.bool true)) ∧ OldK s₁.heap s'.heap ∧ s'.os = s₁.os ∧ AllBare s'.gens) s₁ := by
    intro H hO hS hok hA hK
    have base_of : ∀ {b : Addr} {o : Obj}, s₁.heap.get? b = some o → H b = none → (hidT s₁.heap H).get? b = some o := fun e n => hidT_get e n
    have noA : ∀ {b : Addr} {o : Obj} {es : Array DictEntry} {ep : Nat}, s₁.heap.get? b = some o → o.data = .dict es ep → H b = none := fun {b o es ep} e d => by
      cases q : H b with
      | none => rfl
      | some u =>
        have e' : b = a := hA b (by rw [q]; simp)
        subst e'
        rw [ha] at e; cases e
        have d' : Data.seq vs.toArray _ = Data.dict es ep := d
        cases d'
    have nsK : ∀ {b : Addr} {m : Str → Option Value}, s₁.heap.Ns b m → (hidT s₁.heap H).Ns b m := fun {b m} ⟨o, es, ep, e, d, r⟩ => ⟨o, es, ep, base_of e (noA e d), d, r⟩
    have hKb : K.In (hidT s₁.heap H) := fun b o e => base_of (KX b o e) (by
      cases q : H b with
      | none => rfl
      | some u =>
        have e' : b = a := hA b (by rw [q]; simp)
        subst e'
        rw [hK (by rw [q]; simp)] at e; cases e)
    have hM : Mod K mg (hidT s₁.heap H) := ⟨hKb, nsK hns, ⟨mb, nsK hb, hbb⟩, let ⟨mc, h1, h2⟩ := hlim; ⟨mc, nsK h1, h2⟩⟩
    have e0 : Env0 P w K mg (hidT s₁.heap H) callerA [] s₁ H := ⟨rfl, hM, fun b o e => of_hidT e, Nat.le_of_eq (hidT_size _ _), trivial, fun b hb => absurd (show b ∈ ([] : List Addr) from hb) (by simp), hok, .of_eq hg⟩
    refine codeAny_mono ((F _ hKb (nsK hns)).run callerA [] s₁ H ⟨[.ref a], []⟩ [.ref a] [.ref a] _ _ hr e0 (hbind s₁ (.ref a)) (.cons rfl .nil) (hsp H hO hS)) fun r s' h => ?_
    cases r with
    | error e => exact (hCX H e s' h).elim
    | ok fl =>
      cases fl with
      | next => exact False.elim h
      | brk => exact False.elim h
      | cont => exact False.elim h
      | ret u =>
        obtain ⟨v, H', os, bare, un, hok', r', q⟩ := h
        have q' : v = .bl true := q
        subst q'
        obtain rfl : u = Value.bool true := r'
        refine ⟨rfl, OldK.of_keep fun b o e => ?_, os, bare⟩
        cases q : H b with
        | none => exact un.keep b o e q (by intro z; exact absurd (show b ∈ ([] : List Addr) from z) (by simp)) (by simp)
        | some u =>
          rcases hO b with z | ⟨ob, xs, z⟩
          · rw [q] at z; cases z
          · have z2 := un.frzs b ob _ z
            obtain ⟨e1, _⟩ := hok b _ z
            obtain ⟨e2, _⟩ := hok' b _ z2
            rw [e] at e1; cases e1
            exact e2
  cases hk : K.lookup a with
  | some o =>
    have e := KX a o hk
    rw [ha] at e
    cases e
    refine core (fun _ => none) (fun _ => .inl rfl) (.inr ⟨_, vs.toArray, _, hk, rfl, rfl, rfl, by rw [List.size_toArray, lenV]; exact hl, by simpa using rv⟩) (fun b u z => by have z' : (none : Option HO) = some u := z; cases z') (fun b z => absurd rfl z) fun z => absurd rfl z
  | none =>
    refine core (fun b => if b = a then some (.frz { cls := .type "list", data := .seq vs.toArray } (.lst (ns.map V.int))) else none) (fun b => ?_) (.inl (.inr ⟨{ cls := .type "list", data := .seq vs.toArray }, if_pos rfl⟩)) (fun b u z => ?_) (fun b z => ?_) fun _ => hk
    · by_cases hb : b = a
      · exact .inr ⟨_, _, if_pos hb⟩
      · exact .inl (if_neg hb)
    · by_cases hb : b = a
      · have z' := (if_pos hb).symm.trans z
        cases z'
        subst hb
        exact ⟨ha, by rw [List.length_map]; exact hl, vs, _, rv, ha⟩
      · have z' := (if_neg hb).symm.trans z
        cases z'
    · by_cases hb : b = a
      · exact hb
      · exact absurd (if_neg hb) z
end L2
namespace L2
open PySem PySem.Spec PyProof.Rows
noncomputable abbrev KOf {K : PySem.W.Frag} {h : Heap} (_ : K.In h) : PySem.W.Frag := K
theorem walk_of {l : PySem.W.OpenLaw} {n k : Nat} {q : Program} {loose : List Str} {XP : (Str → Option Value) → Heap → Prop} {YP : World → Heap → Prop} {d : DefRec} {K : Params → PySem.W.Frag} {CX : World → CXT} {sp : World → Sp} {x : Str}
    (hn : l.most = some n) (hn2 : n ≤ sizeLine) (hdf : d.params.defaults = []) (hr : Room k callerA)
    (hY : ∀ (w : World) (h : Heap), YP w h → (K w.params).In h)
    (F : ∀ (w : World) (mg : Str → Option Value) (fa : Addr) (h : Heap), (K w.params).In h → h.Ns mainGlobals mg → mg d.name = some (.ref fa) →
      ∃ fd : FuncData, (∀ (s : Shared) (u : Value), BindsTo s fd ⟨[u], []⟩ [(x, u)]) ∧
        ∀ base : Heap, (K w.params).In base → base.Ns mainGlobals mg → FnOk l.prog w (K w.params) mg base (CX w) k fa fd [x] (sp w))
    (hsp : ∀ (w : World) (H : Hp) (a : Addr) (ns : List Int), ns.length ≤ n → Only H → SqL (K w.params) H a (ns.map V.int) → sp w [.ref a] H (fun v _ => v = .bl true) fun _ _ _ => False)
    (hCX : ∀ (w : World) (H : Hp) (s : Shared) (e : Value) (s' : Shared), CX w [] H s (fun _ _ _ => False) e s' → False) :
    PySem.W.WalkO q loose XP YP l.row.toRowW d [] (fun f vs => PySem.call f vs) := by
  refine Att.attach_call hn hdf fun w s₀ s₁ mg mb fa o pm cd doc a vs ns G Y ho hd hcd hmg hobj hints hlen hg => ?_
  have KX := hY w _ Y
  obtain ⟨fd, hb, hF⟩ := F w mg fa _ KX G.T.g hmg
  exact law_call KX G.T.g G.T.b G.T.builtins G.T.nolimit hg hobj hints (Nat.le_trans hlen hn2) hr hF hb (fun H hO hS => hsp w H a ns hlen hO hS) fun H e s' => hCX w H s₁ e s'
end L2
/- THE LAST THEOREM (shape; LID, My.* are yours):
   My.Adr: a structure of the addresses that your layer names (classes, functions); My.Txt K t: a structure (Prop) of the equations over K;
   My.txt_mk : {K} {implicit addresses ..} (e1 : nsIn K mainGlobals "law" = some (some (.ref f))) (e2 : K.lookup f = some ⟨oc, od, .func (fnOf "law" "law" params body scope dV kV doc pm an cdv ct), sl⟩) (e3 : codeIn K cdv "law" = true) .. : ∃ t, My.Txt K t
set_option maxRecDepth 100000 in
set_option maxHeartbeats 0 in
theorem PySem.Challenge.cw_LID_holds : PySem.Challenge.rw_LID.Holds := by
  w_on; o_law; k_head; (case hw => w_witness2)
  k_fill
  refine L2.walk_of (l := PySem.Challenge.rw_LID) (n := 63) (k := 40) (x := "script") (CX := fun w => ..) (sp := fun _ => My.sp_law) rfl (by decide) rfl ⟨rfl, by decide, by decide⟩ (fun w h Y => PySem.W.kIn_of Y) ?F ?S ?C
  case F =>
    intro w mg fa h KX G hmg
    have T : ∃ t, My.Txt (L2.KOf KX) t := by
      dsimp only [L2.KOf]                          -- K must stand as «<heap const> w.params» for k_is
      refine' My.txt_mk ?e1 ?e2 ?e3 ..
      (case e1 => PySem.W.k_is)                    -- in the order: a name -> its address -> its object -> its parts
      (case e2 => PySem.W.k_is)
      ..
    obtain ⟨t, T⟩ := T
    have e0 := hmg.symm.trans (PySem.W.mg_of KX G T.law)
    cases e0                                       -- fa is the law's own address
    exact ⟨_, fun s u => .of_eq rfl, fun base kb nb => My.law_fn T kb nb⟩     -- if «.of_eq rfl» comes too early: refine' ⟨_, ?b, fun base kb nb => My.law_fn T kb nb⟩; exact fun s u => .of_eq rfl
  case S => exact fun w H a ns hl hO hS => ..
  case C => exact ..
(the tactic k_is has no namespace: write k_is) -/
namespace L2
open PySem PySem.Spec PyProof.Rows
noncomputable def inClass (s : Stmt) (j : Nat) : Stmt := match s with
  | .ClassDef _ _ _ body _ _ _ _ _ _ _ => body.getD j (.Pass ⟨0, 0, 0, 0⟩)
  | _ => .Pass ⟨0, 0, 0, 0⟩
noncomputable def defArgs (s : Stmt) : Arguments := match s with
  | .FunctionDef _ a _ _ _ _ _ _ _ _ => a
  | _ => { posonlyargs := [], args := [], vararg := none, kwonlyargs := [], kw_defaults := [], kwarg := none, defaults := [] }
noncomputable def defBody (s : Stmt) : List Stmt := match s with
  | .FunctionDef _ _ b _ _ _ _ _ _ _ => b
  | _ => []
noncomputable def defScope (s : Stmt) : Scope := match s with
  | .FunctionDef _ _ _ _ _ _ sc _ _ _ => sc
  | _ => { kind := .function, names := [], isGenerator := false, isCoroutine := false }
noncomputable abbrev CX0 : CXT := fun _ _ _ _ _ _ => False
noncomputable abbrev E0 : XK := fun _ _ _ => False
theorem pass0 {X : Cx} : Passes CX0 X E0 := fun _ _ _ _ _ _ _ h => h.elim
structure Fun (K : PySem.W.Frag) (x qual : Str) (st : Stmt) (f : Addr) (fd : FuncData) : Prop where
  ex : ∃ (oc : Value) (od : Option Addr) (kV doc pm : Value) (an : Option Addr) (cdv ct : Value) (osl : Array (Option Value)),
    fd = PySem.W.fnOf x qual (defArgs st) (defBody st) (defScope st) .none kV doc pm an cdv ct ∧ K.lookup f = some ⟨oc, od, .func fd, osl⟩ ∧ PySem.W.codeIn K cdv qual = true
  kp : PySem.W.keepIn K (.ref f) = true
section
variable {P : Program} {w : World} {K : PySem.W.Frag} {mg : Str → Option Value} {base : Heap}
theorem Fun.ok {x qual : Str} {st : Stmt} {f : Addr} {fd : FuncData} {N ps : List Str} {k : Nat} {sp : Sp} (F : Fun K x qual st f fd) (S : FnScope N ps (defScope st)) (len : ∀ vs H Q E, sp vs H Q E → vs.length = ps.length)
    (hbody : ∀ (cdv : Value) (A : Around) (outer : List Env) (s : Shared) (H : Hp) (vs : List V) (Q : VK) (E : XK), Room k (A.deeper (envOfC qual (defScope st) s.heap.objs.size f cdv)) → sp vs H Q E →
      ∃ t, PSs (cxOf CX0 P w K mg base N qual (defScope st) f cdv A outer s H E).nox (defBody st) t ∧ t { nx := fun _ H' => Q .non H', rt := Q } (start N vs) H) : FnOk P w K mg base CX0 (k + 1) f fd ps sp := by
  obtain ⟨oc, od, kV, doc, pm, an, cdv, ct, osl, rfl, lk, hcd⟩ := F.ex
  refine fn_of lk hcd S len fun A outer s H vs Q E hr hsp => ?_
  obtain ⟨t, h, q⟩ := hbody cdv A outer s H vs Q E hr hsp
  exact ⟨t, h.nox, q⟩
theorem Fun.binds {x qual : Str} {st : Stmt} {f : Addr} {fd : FuncData} {ps : List Str} (F : Fun K x qual st f fd)
    (h : ∀ (kV doc pm : Value) (an : Option Addr) (cdv ct : Value) (us : List Value), us.length = ps.length → bindArgs (PySem.W.fnOf x qual (defArgs st) (defBody st) (defScope st) .none kV doc pm an cdv ct) ⟨us, []⟩ = pure (ps.zip us)) : Binds K fd ps [] := by
  obtain ⟨oc, od, kV, doc, pm, an, cdv, ct, osl, rfl, lk, hcd⟩ := F.ex
  exact .all (h kV doc pm an cdv ct)
theorem fun_mk {x qual : Str} {st : Stmt} {f : Addr} {oc : Value} {od an : Option Addr} {osl : Array (Option Value)} {kV doc pm cdv ct : Value} (l : K.lookup f = some ⟨oc, od, .func (PySem.W.fnOf x qual (defArgs st) (defBody st) (defScope st) .none kV doc pm an cdv ct), osl⟩)
    (c : PySem.W.codeIn K cdv qual = true) (k : PySem.W.keepIn K (.ref f) = true) : Fun K x qual st f (PySem.W.fnOf x qual (defArgs st) (defBody st) (defScope st) .none kV doc pm an cdv ct) := ⟨⟨oc, od, kV, doc, pm, an, cdv, ct, osl, rfl, l, c⟩, k⟩
end
section
variable {X : Cx}
theorem pv (i : Nat) {x : Str} {pos : Pos} (hN : X.N[i]? = some x := by rfl) (hv : Vis X.env.scope x := by first | exact Or.inl rfl | exact Or.inr (Or.inl rfl) | exact Or.inr (Or.inr rfl)) (hd : (x == ("__debug__" : Str)) = false := by decide)
    (hcd : (x == ("__classdict__" : Str)) = false := by decide) : PE X (.Name x pos) (tVar i) := pe_var hN hv hd hcd
end
noncomputable def Same (H H' : Hp) : Prop := ∀ b o, H b = some o → H' b = some o
theorem Same.trans {H H1 H2 : Hp} (a : Same H H1) (b : Same H1 H2) : Same H H2 := fun c o h => b c o (a c o h)
theorem Same.free {H H' : Hp} (e : Same H H') {l : Addr} (h : H' l = Option.none) : H l = Option.none := by
  cases q : H l with
  | none => rfl
  | some o =>
    rw [e l o q] at h
    cases h
theorem Same.seq {K : PySem.W.Frag} {H H' : Hp} {a : Addr} {xs : List V} (e : Same H H') (h : SqL K H a xs) : SqL K H' a xs := by
  rcases h with (h | ⟨o, h⟩) | h
  · exact .inl (.inl (e _ _ h))
  · exact .inl (.inr ⟨o, e _ _ h⟩)
  · exact .inr h
end L2
set_option maxHeartbeats 4000000
namespace RS
noncomputable def gt (r : List Int) (n : Int) : List Int := r.filter (fun o => decide (n < o))
noncomputable def lt (r : List Int) (n : Int) : List Int := r.filter (fun o => decide (o < n))
noncomputable def layL : List (List Int) → Int → List (List Int) × Nat
  | [], n => ([[n]], 0)
  | r :: rs, n => if (gt r n).length = 0 then ((r ++ [n]) :: rs, 0)
    else ((r.set (r.length - (gt r n).length) n) :: (layL rs ((gt r n).headD 0)).1, (layL rs ((gt r n).headD 0)).2 + 1)
noncomputable def layP : List (List Int) → Int → List (List Int) × Nat
  | [], n => ([[n]], 0)
  | r :: rs, n => if (lt r n).length = r.length then ((r ++ [n]) :: rs, 0)
    else ((r.take (lt r n).length ++ [n] ++ r.drop ((lt r n).length + 1)) :: (layP rs (r.getD (lt r n).length 0)).1, (layP rs (r.getD (lt r n).length 0)).2 + 1)
noncomputable def Rise (r : List Int) : Prop := r.Pairwise (· < ·)
noncomputable def Below (r s : List Int) : Prop := s.length ≤ r.length ∧ ∀ (j : Nat) (x y : Int), r[j]? = some x → s[j]? = some y → x < y
inductive Stairs : List (List Int) → Prop
  | nil : Stairs []
  | one {r : List Int} : r ≠ [] → Rise r → Stairs [r]
  | cons {r s : List Int} {rs : List (List Int)} : r ≠ [] → Rise r → Below r s → Stairs (s :: rs) → Stairs (r :: s :: rs)
theorem rise_gt {r : List Int} (h : Rise r) (n : Int) (hn : n ∉ r) : r = lt r n ++ gt r n := by
  induction r with
  | nil => rfl
  | cons a r ih =>
    have h1 := List.pairwise_cons.mp h
    have hn' : n ∉ r := fun z => hn (List.mem_cons_of_mem _ z)
    have hna : n ≠ a := fun z => hn (z ▸ List.mem_cons_self)
    unfold lt gt at *
    by_cases hl : a < n
    · have hg : ¬ n < a := by trivial
      rw [List.filter_cons, List.filter_cons, if_pos (decide_eq_true hl), if_neg (by simp; trivial), List.cons_append, ← ih h1.2 hn']
    · have hg : n < a := by trivial
      have e1 : r.filter (fun o => decide (o < n)) = [] := by
        rw [List.filter_eq_nil_iff]
        intro b hb
        have := h1.1 b hb
        simp; trivial
      have e2 : r.filter (fun o => decide (n < o)) = r := by
        rw [List.filter_eq_self]
        intro b hb
        have := h1.1 b hb
        simp; trivial
      rw [List.filter_cons, List.filter_cons, if_neg (by simp; trivial), if_pos (decide_eq_true hg), e1, e2, List.nil_append]
theorem lt_gt_len {r : List Int} (h : Rise r) (n : Int) (hn : n ∉ r) : (lt r n).length + (gt r n).length = r.length := by
  have e := congrArg List.length (rise_gt h n hn)
  rw [List.length_append] at e
  trivial
theorem set_mid {α : Type} (a : List α) (x y : α) (b : List α) : (a ++ x :: b).set a.length y = a ++ y :: b := by
  induction a with
  | nil => rfl
  | cons c a ih => simp [ih]
theorem lay_perm : ∀ (rs : List (List Int)) (n : Int), (∀ r ∈ rs, Rise r) → n ∉ rs.flatten → rs.flatten.Nodup → (layL rs n).1.flatten.Perm (n :: rs.flatten)
  | [], n, _, _, _ => by unfold layL; simp
  | r :: rs, n, hr, hn, nd => by
    have hR := hr r List.mem_cons_self
    have hnr : n ∉ r := fun z => hn (by rw [List.flatten_cons]; exact List.mem_append_left _ z)
    have e := rise_gt hR n hnr
    have el := lt_gt_len hR n hnr
    unfold layL
    cases hg : gt r n with
    | nil =>
      rw [if_pos (by simp)]
      show ((r ++ [n]) :: rs).flatten.Perm _
      rw [List.flatten_cons, List.flatten_cons, List.append_assoc]
      exact List.perm_middle
    | cons x g =>
      rw [hg] at e el
      rw [if_neg (by simp)]
      have e1 : r.length - (x :: g).length = (lt r n).length := by trivial
      generalize lt r n = a at *
      have hx : x ∉ rs.flatten := fun z => by
        rw [List.flatten_cons, List.nodup_append] at nd
        exact nd.2.2 x (by rw [e]; simp) x z rfl
      have hd : (x :: g).headD 0 = x := rfl
      have e4 : r.set a.length n = a ++ n :: g := by subst e; exact set_mid _ _ _ _
      rw [hd, e1, e4]
      show ((a ++ n :: g) :: (layL rs x).1).flatten.Perm _
      rw [List.flatten_cons, List.flatten_cons, e]
      have ih := lay_perm rs x (fun s hs => hr s (List.mem_cons_of_mem _ hs)) hx (by rw [List.flatten_cons, List.nodup_append] at nd; exact nd.2.1)
      refine (List.Perm.append_left _ ih).trans ?_
      rw [List.append_assoc, List.append_assoc]
      refine List.perm_middle.trans (List.Perm.cons n ?_)
      refine List.Perm.append_left a ?_
      exact List.perm_middle
end RS
namespace RS
noncomputable def ins (r : List Int) (n : Int) : List Int := lt r n ++ n :: (gt r n).tail
theorem layL_cons {r : List Int} {rs : List (List Int)} {n : Int} (hR : Rise r) (hn : n ∉ r) :
    layL (r :: rs) n = (match gt r n with | [] => (ins r n :: rs, 0) | x :: _ => (ins r n :: (layL rs x).1, (layL rs x).2 + 1)) := by
  have e := rise_gt hR n hn
  have el := lt_gt_len hR n hn
  rw [layL]
  unfold ins
  cases hg : gt r n with
  | nil =>
    rw [hg] at e
    rw [if_pos (by simp)]
    simp at e ⊢
    exact e
  | cons x g =>
    rw [hg] at e el
    have e1 : r.length - (x :: g).length = (lt r n).length := by trivial
    rw [if_neg (by simp), e1]
    generalize lt r n = a at *
    have e4 : r.set a.length n = a ++ n :: g := by subst e; exact set_mid _ _ _ _
    rw [e4]
    rfl
theorem mem_lt {r : List Int} {n a : Int} (h : a ∈ lt r n) : a ∈ r ∧ a < n := by
  unfold lt at h
  have := List.mem_filter.mp h
  exact ⟨this.1, of_decide_eq_true this.2⟩
theorem mem_gt {r : List Int} {n a : Int} (h : a ∈ gt r n) : a ∈ r ∧ n < a := by
  unfold gt at h
  have := List.mem_filter.mp h
  exact ⟨this.1, of_decide_eq_true this.2⟩
theorem rise_ins {r : List Int} {n : Int} (hR : Rise r) (hn : n ∉ r) : Rise (ins r n) := by
  have e := rise_gt hR n hn
  unfold ins Rise
  have h1 : (lt r n).Pairwise (· < ·) := hR.sublist (List.filter_sublist)
  have h2 : (gt r n).Pairwise (· < ·) := hR.sublist (List.filter_sublist)
  rw [List.pairwise_append]
  refine ⟨h1, List.pairwise_cons.mpr ⟨fun b hb => (mem_gt (List.mem_of_mem_tail hb)).2, h2.sublist (List.tail_sublist _)⟩, fun a ha b hb => ?_⟩
  have := (mem_lt ha).2
  rcases List.mem_cons.mp hb with rfl | hb
  · exact this
  · have := (mem_gt (List.mem_of_mem_tail hb)).2
    trivial
theorem below_ins {r s : List Int} {n x : Int} {g : List Int} (hR : Rise r) (hS : Rise s) (hB : Below r s) (hn : n ∉ r) (hg : gt r n = x :: g) (hx : x ∉ s) : Below (ins r n) (ins s x) := by
  have er := rise_gt hR n hn
  have es := rise_gt hS x hx
  have hnx : n < x := (mem_gt (r := r) (n := n) (a := x) (by rw [hg]; simp)).2
  have ha : ∀ y ∈ lt r n, y < n := fun y h => (mem_lt h).2
  have hb : ∀ y ∈ lt s x, y < x := fun y h => (mem_lt h).2
  have hc : ∀ y ∈ gt s x, x < y := fun y h => (mem_gt h).2
  obtain ⟨hlen, hcol⟩ := hB
  unfold ins
  rw [hg] at er ⊢
  generalize lt r n = a at *
  generalize lt s x = b at *
  generalize gt s x = c at *
  subst er
  subst es
  have hab : b.length ≤ a.length := by
    apply Nat.le_of_not_lt
    intro hlt
    have e1 : (b ++ c)[a.length]? = some b[a.length] := by rw [List.getElem?_append_left hlt, List.getElem?_eq_getElem hlt]
    have := hcol a.length x b[a.length] (by simp) e1
    have := hb _ (List.getElem_mem hlt)
    trivial
  refine ⟨?_, fun j u v hu hv => ?_⟩
  · simp only [List.length_append, List.length_cons, List.length_tail, List.tail_cons] at hlen ⊢
    trivial
  · rw [List.tail_cons] at hu
    by_cases h1 : j < b.length
    · rw [List.getElem?_append_left (by trivial)] at hu
      rw [List.getElem?_append_left h1] at hv
      exact hcol j u v (by rw [List.getElem?_append_left (by trivial)]; exact hu) (by rw [List.getElem?_append_left h1]; exact hv)
    · by_cases h2 : j = b.length
      · subst h2
        have ev : v = x := by simpa using hv.symm
        subst ev
        by_cases h3 : b.length < a.length
        · rw [List.getElem?_append_left h3] at hu
          have := ha u (List.mem_of_getElem? hu)
          trivial
        · have e3 : b.length = a.length := by trivial
          rw [e3] at hu
          have : u = n := by simpa using hu.symm
          trivial
      · have e1 : (b ++ c)[j]? = some v := by
          rw [List.getElem?_append_right (by trivial)] at hv ⊢
          obtain ⟨k, hk⟩ : ∃ k, j - b.length = k + 1 := ⟨j - b.length - 1, by trivial⟩
          rw [hk, List.getElem?_cons_succ] at hv
          rw [hk]
          cases c with
          | nil => simp at hv
          | cons c0 c => simpa using hv
        by_cases h3 : j = a.length
        · subst h3
          have : u = n := by simpa using hu.symm
          have := hcol a.length x v (by simp) e1
          trivial
        · refine hcol j u v ?_ e1
          by_cases h4 : j < a.length
          · rw [List.getElem?_append_left h4] at hu ⊢
            exact hu
          · rw [List.getElem?_append_right (by trivial)] at hu ⊢
            obtain ⟨k, hk⟩ : ∃ k, j - a.length = k + 1 := ⟨j - a.length - 1, by trivial⟩
            rw [hk] at hu ⊢
            exact hu
theorem Stairs.rise {rs : List (List Int)} (h : Stairs rs) : ∀ r ∈ rs, Rise r := by
  induction h with
  | nil => exact fun r h => nomatch h
  | one _ hr => exact fun r h => by cases List.mem_singleton.mp h; exact hr
  | cons _ hr _ t ih => exact fun r h => (List.mem_cons.mp h).elim (fun e => e ▸ hr) (ih r)
theorem Stairs.pos {rs : List (List Int)} (h : Stairs rs) : ∀ r ∈ rs, r ≠ [] := by
  induction h with
  | nil => exact fun r h => nomatch h
  | one hr _ => exact fun r h => by cases List.mem_singleton.mp h; exact hr
  | cons hr _ _ t ih => exact fun r h => (List.mem_cons.mp h).elim (fun e => e ▸ hr) (ih r)
theorem Stairs.tail {r : List Int} {rs : List (List Int)} (h : Stairs (r :: rs)) : Stairs rs := by
  cases h with
  | one _ _ => exact .nil
  | cons _ _ _ t => exact t
theorem ins_ne (r : List Int) (n : Int) : ins r n ≠ [] := by unfold ins; simp
theorem lay_head {s : List Int} {rs : List (List Int)} {x : Int} (hS : Rise s) (hx : x ∉ s) : ∃ t, (layL (s :: rs) x).1 = ins s x :: t := by
  rw [layL_cons hS hx]
  cases gt s x with
  | nil => exact ⟨_, rfl⟩
  | cons y g => exact ⟨_, rfl⟩
theorem lay_stairs : ∀ {rs : List (List Int)} {n : Int}, Stairs rs → n ∉ rs.flatten → rs.flatten.Nodup → Stairs (layL rs n).1
  | [], n, _, _, _ => by unfold layL; exact .one (by simp) (List.pairwise_singleton _ _)
  | r :: rs, n, hS, hn, nd => by
    have hR := hS.rise r List.mem_cons_self
    have hnr : n ∉ r := fun z => hn (by rw [List.flatten_cons]; exact List.mem_append_left _ z)
    have hT := hS.tail
    have nd' := nd
    rw [List.flatten_cons, List.nodup_append] at nd'
    rw [layL_cons hR hnr]
    cases hg : gt r n with
    | nil =>
      show Stairs (ins r n :: rs)
      have ei : ins r n = r ++ [n] := by
        have e := rise_gt hR n hnr
        unfold ins
        rw [hg] at e ⊢
        simp at e ⊢
        exact e.symm
      cases hS with
      | one h1 h2 => exact .one (ins_ne _ _) (rise_ins hR hnr)
      | @cons _ s rs' h1 h2 h3 h4 =>
        refine .cons (ins_ne _ _) (rise_ins hR hnr) ?_ h4
        rw [ei]
        refine ⟨by rw [List.length_append]; exact Nat.le_trans h3.1 (Nat.le_add_right _ _), fun j x y hx hy => ?_⟩
        have hj : j < r.length := Nat.lt_of_lt_of_le (List.getElem?_eq_some_iff.mp hy).1 h3.1
        rw [List.getElem?_append_left hj] at hx
        exact h3.2 j x y hx hy
    | cons x g =>
      show Stairs (ins r n :: (layL rs x).1)
      have hxr : x ∈ r := (mem_gt (r := r) (n := n) (a := x) (by rw [hg]; simp)).1
      have hx : x ∉ rs.flatten := fun z => nd'.2.2 x hxr x z rfl
      have ih := lay_stairs hT hx nd'.2.1
      cases hS with
      | one h1 h2 =>
        have e : (layL [] x).1 = [[x]] := rfl
        rw [e] at ih ⊢
        refine .cons (ins_ne _ _) (rise_ins hR hnr) ?_ ih
        have hb := below_ins (s := []) hR List.Pairwise.nil ⟨Nat.zero_le _, fun j a b _ hb => by simp at hb⟩ hnr hg (by simp)
        exact hb
      | @cons _ s rs' h1 h2 h3 h4 =>
        have hSs := h4.rise s List.mem_cons_self
        have hxs : x ∉ s := fun z => hx (by rw [List.flatten_cons]; exact List.mem_append_left _ z)
        obtain ⟨t, et⟩ := lay_head (rs := rs') hSs hxs
        rw [et] at ih ⊢
        exact .cons (ins_ne _ _) (rise_ins hR hnr) (below_ins hR hSs h3 hnr hg hxs) ih
noncomputable def grow (sec : List (List Int)) (at_ : Nat) (k : Int) : List (List Int) :=
  if at_ = sec.length then sec ++ [[k]] else sec.set at_ (sec.getD at_ [] ++ [k])
noncomputable def laidFrom : List Int → Nat → List (List Int) × List (List Int) → List (List Int) × List (List Int)
  | [], _, p => p
  | n :: r, k, p => laidFrom r (k + 1) ((layL p.1 n).1, grow p.2 (layL p.1 n).2 ((k : Int) + 1))
noncomputable def laidL (row : List Int) : List (List Int) × List (List Int) := laidFrom row 0 ([], [])
theorem laidFrom_ok : ∀ (row : List Int) (k : Nat) (p : List (List Int) × List (List Int)), Stairs p.1 → (p.1.flatten ++ row).Nodup →
    Stairs (laidFrom row k p).1 ∧ (laidFrom row k p).1.flatten.Perm (p.1.flatten ++ row)
  | [], k, p, h, nd => ⟨h, by simp [laidFrom]⟩
  | n :: r, k, p, h, nd => by
    have nd' := nd
    rw [List.nodup_append] at nd'
    have hn : n ∉ p.1.flatten := fun z => nd'.2.2 n z n List.mem_cons_self rfl
    have hp := lay_perm p.1 n h.rise hn nd'.1
    have pm : ((layL p.1 n).1.flatten ++ r).Perm (p.1.flatten ++ n :: r) := (List.Perm.append_right r hp).trans (by
      show (n :: p.1.flatten ++ r).Perm _
      exact List.perm_middle.symm)
    obtain ⟨h1, h2⟩ := laidFrom_ok r (k + 1) ((layL p.1 n).1, grow p.2 (layL p.1 n).2 ((k : Int) + 1)) (lay_stairs h hn nd'.1) (pm.nodup_iff.mpr nd)
    exact ⟨h1, h2.trans pm⟩
theorem laidL_stairs {row : List Int} (nd : row.Nodup) : Stairs (laidL row).1 ∧ (laidL row).1.flatten.Perm row := by
  have := laidFrom_ok row 0 ([], []) .nil (by simpa using nd)
  simpa [laidL] using this
end RS
namespace RS
noncomputable def column (R : List (List Int)) (p : Nat) : List Int := (R.filter (fun r => decide (p < r.length))).map (fun r => r.getD p 0)
noncomputable def width (R : List (List Int)) : Nat := (R.headD []).length
noncomputable def turnedP (R : List (List Int)) : List (List Int) := (List.range (width R)).map (column R)
noncomputable def addCol : List (List Int) → List Int → List (List Int)
  | made, [] => made
  | [], x :: r => [x] :: addCol [] r
  | c :: made, x :: r => (c ++ [x]) :: addCol made r
noncomputable def colsL (R : List (List Int)) : List (List Int) := R.foldl addCol []
noncomputable def readL (R : List (List Int)) : List Int := R.reverse.flatten
noncomputable def Dec (R : List (List Int)) : Prop := R.Pairwise (fun r s => s.length ≤ r.length)
end RS
namespace RS
noncomputable def drawnZ (ns : List Int) (k many : Int) : Int :=
  ((if ns.length = 0 then 7 else ns.getD (k % (ns.length : Int)).toNat 0) * (48271 + 9973 * (k % 97)) + (k + 1) * (k + 3) * 16807 + (ns.length : Int)) % 2147483647 / 16 % many
theorem drawn_lo (ns : List Int) (k : Int) {m : Int} (h : 0 < m) : 0 ≤ drawnZ ns k m := Int.emod_nonneg _ (by trivial)
theorem drawn_hi (ns : List Int) (k : Int) {m : Int} (h : 0 < m) : drawnZ ns k m < m := Int.emod_lt_of_pos _ h
noncomputable def insAt {α : Type} (i : Nat) (x : α) (l : List α) : List α := l.take i ++ x :: l.drop i
theorem insAt_perm {α : Type} (i : Nat) (x : α) (l : List α) : (insAt i x l).Perm (x :: l) := by
  unfold insAt
  refine List.perm_middle.trans (List.Perm.cons x ?_)
  rw [List.take_append_drop]
noncomputable def ordZ (ns : List Int) : Nat → List Int
  | 0 => []
  | k + 1 => insAt (drawnZ ns (10 + 2 * (k : Int)) ((k : Int) + 1)).toNat (k : Int) (ordZ ns k)
noncomputable def numZ (ns : List Int) (n0 g : Int) : Nat → Int
  | 0 => n0
  | k + 1 => numZ ns n0 g k + 1 + drawnZ ns (11 + 2 * (k : Int)) 3 * g
noncomputable def numsZ (ns : List Int) (n0 g : Int) (k : Nat) : List Int := (List.range k).map fun i => numZ ns n0 g (i + 1)
noncomputable def manyZ (ns : List Int) (bound : Int) : Int := if drawnZ ns 1 4 = 1 then drawnZ ns 2 (bound + 1) else drawnZ ns 0 (if bound + 1 < 9 then bound + 1 else 9)
noncomputable def greatZ (ns : List Int) : Int := if drawnZ ns 4 3 = 2 then 10 ^ 27 else 1
noncomputable def rowZ (ns : List Int) (bound : Int) : List Int :=
  (ordZ ns (manyZ ns bound).toNat).map fun k => (numsZ ns (drawnZ ns 3 2001 - 1000) (greatZ ns) (manyZ ns bound).toNat).getD k.toNat 0
theorem many_lo (ns : List Int) {bound : Int} (h : 0 ≤ bound) : 0 ≤ manyZ ns bound := by
  unfold manyZ
  split
  · exact drawn_lo _ _ (by trivial)
  · exact drawn_lo _ _ (by split <;> trivial)
theorem many_hi (ns : List Int) {bound : Int} (h : 0 ≤ bound) : manyZ ns bound ≤ bound := by
  unfold manyZ
  split
  · have := drawn_hi ns 2 (m := bound + 1) (by trivial); trivial
  · have := drawn_hi ns 0 (m := if bound + 1 < 9 then bound + 1 else 9) (by split <;> trivial)
    have h2 : (if bound + 1 < 9 then bound + 1 else 9) ≤ bound + 1 := by split <;> trivial
    trivial
theorem ordZ_perm (ns : List Int) : ∀ k, (ordZ ns k).Perm ((List.range k).map fun (i : Nat) => (i : Int))
  | 0 => by simp [ordZ]
  | k + 1 => by
    unfold ordZ
    refine (insAt_perm _ _ _).trans ?_
    rw [List.range_succ, List.map_append]
    refine (List.Perm.cons _ (ordZ_perm ns k)).trans ?_
    simp only [List.map_cons, List.map_nil]
    exact (List.perm_append_singleton _ _).symm
theorem ordZ_len (ns : List Int) (k : Nat) : (ordZ ns k).length = k := by
  have := (ordZ_perm ns k).length_eq
  simpa using this
theorem ordZ_mem {ns : List Int} {k : Nat} {v : Int} (h : v ∈ ordZ ns k) : 0 ≤ v ∧ v < k := by
  have := (ordZ_perm ns k).mem_iff.mp h
  obtain ⟨i, hi, rfl⟩ := List.mem_map.mp this
  have := List.mem_range.mp hi
  trivial
theorem great_pos (ns : List Int) : 1 ≤ greatZ ns := by
  unfold greatZ
  split
  · decide
  · decide
theorem numZ_lt (ns : List Int) (n0 : Int) {g : Int} (hg : 1 ≤ g) (i : Nat) : ∀ d, numZ ns n0 g i < numZ ns n0 g (i + d + 1)
  | 0 => by
    show _ < numZ ns n0 g i + 1 + _ * g
    have h1 := drawn_lo ns (11 + 2 * (i : Int)) (m := 3) (by decide)
    have := Int.mul_nonneg h1 (show 0 ≤ g by trivial)
    trivial
  | d + 1 => by
    have h := numZ_lt ns n0 hg i d
    show _ < numZ ns n0 g (i + d + 1) + 1 + drawnZ ns (11 + 2 * ((i + d + 1 : Nat) : Int)) 3 * g
    have h1 := drawn_lo ns (11 + 2 * ((i + d + 1 : Nat) : Int)) (m := 3) (by decide)
    have := Int.mul_nonneg h1 (show 0 ≤ g by trivial)
    trivial
theorem numsZ_len (ns : List Int) (n0 g : Int) (k : Nat) : (numsZ ns n0 g k).length = k := by simp [numsZ]
theorem numsZ_get (ns : List Int) (n0 g : Int) {k i : Nat} (h : i < k) : (numsZ ns n0 g k)[i]? = some (numZ ns n0 g (i + 1)) := by
  unfold numsZ
  rw [List.getElem?_map, List.getElem?_range h]; rfl
theorem numsZ_succ (ns : List Int) (n0 g : Int) (k : Nat) : numsZ ns n0 g (k + 1) = numsZ ns n0 g k ++ [numZ ns n0 g (k + 1)] := by
  unfold numsZ
  rw [List.range_succ, List.map_append]; rfl
theorem rowZ_nodup (ns : List Int) (bound : Int) : (rowZ ns bound).Nodup := by
  unfold rowZ
  generalize (manyZ ns bound).toNat = k
  have hg := great_pos ns
  have hp := (ordZ_perm ns k).map fun v => (numsZ ns (drawnZ ns 3 2001 - 1000) (greatZ ns) k).getD v.toNat 0
  refine hp.nodup_iff.mpr ?_
  rw [List.map_map]
  unfold List.Nodup
  rw [List.pairwise_map]
  refine List.Pairwise.imp_of_mem (fun {a b} ha hb hab => ?_) (List.pairwise_lt_range (n := k))
  have ha' := List.mem_range.mp ha
  have hb' := List.mem_range.mp hb
  simp only [Function.comp, Int.toNat_natCast, List.getD_eq_getElem?_getD]
  rw [numsZ_get _ _ _ ha', numsZ_get _ _ _ hb']
  simp only [Option.getD_some]
  have := numZ_lt ns (drawnZ ns 3 2001 - 1000) hg (a + 1) (b - a - 1)
  have e : a + 1 + (b - a - 1) + 1 = b + 1 := by trivial
  rw [e] at this
  trivial
theorem rowZ_len (ns : List Int) {bound : Int} (h : 0 ≤ bound) : ((rowZ ns bound).length : Int) = manyZ ns bound := by
  unfold rowZ
  rw [List.length_map, ordZ_len]
  have := many_lo ns h
  trivial
theorem lay_at : ∀ (rs : List (List Int)) (n : Int), (layL rs n).2 ≤ rs.length ∧ (layL rs n).1.length = if (layL rs n).2 = rs.length then rs.length + 1 else rs.length
  | [], n => by simp [layL]
  | r :: rs, n => by
    rw [layL]
    split
    · simp
    · have ih := lay_at rs ((gt r n).headD 0)
      refine ⟨?_, ?_⟩
      · exact Nat.succ_le_succ ih.1
      · show (_ :: _).length = if _ + 1 = _ then _ else _
        rw [List.length_cons, ih.2]
        simp only [List.length_cons, Nat.add_right_cancel_iff]
        split <;> rfl
theorem lay_len : ∀ (rs : List (List Int)) (n : Int) (B : Nat), (∀ r ∈ rs, r.length ≤ B) → ∀ r ∈ (layL rs n).1, r.length ≤ B + 1
  | [], n, B, h, r, hr => by simp [layL] at hr; subst hr; simp
  | s :: rs, n, B, h, r, hr => by
    rw [layL] at hr
    have hs := h s List.mem_cons_self
    have ht : ∀ r ∈ rs, r.length ≤ B := fun r hr => h r (List.mem_cons_of_mem _ hr)
    split at hr
    · rcases List.mem_cons.mp hr with rfl | hr
      · simp; exact hs
      · have := ht r hr; trivial
    · rcases List.mem_cons.mp hr with rfl | hr
      · simp; trivial
      · exact lay_len rs _ B ht r hr
end RS
namespace RS
theorem laidFrom_snoc : ∀ (r : List Int) (n : Int) (k : Nat) (p : List (List Int) × List (List Int)),
    laidFrom (r ++ [n]) k p = ((layL (laidFrom r k p).1 n).1, grow (laidFrom r k p).2 (layL (laidFrom r k p).1 n).2 ((k + r.length : Nat) + 1))
  | [], n, k, p => by simp [laidFrom]
  | m :: r, n, k, p => by
    show laidFrom (r ++ [n]) (k + 1) _ = _
    rw [laidFrom_snoc r n (k + 1)]
    have e : k + 1 + r.length = k + (m :: r).length := by simp; trivial
    rw [e]
    rfl
theorem laidFrom_size : ∀ (r : List Int) (k : Nat) (p : List (List Int) × List (List Int)) (B : Nat), p.1.length = p.2.length → (∀ s ∈ p.1, s.length ≤ B) → (∀ s ∈ p.2, s.length ≤ B) →
    (laidFrom r k p).1.length = (laidFrom r k p).2.length ∧ (laidFrom r k p).1.length ≤ p.1.length + r.length ∧ (∀ s ∈ (laidFrom r k p).1, s.length ≤ B + r.length) ∧ ∀ s ∈ (laidFrom r k p).2, s.length ≤ B + r.length
  | [], k, p, B, h1, h2, h3 => ⟨h1, Nat.le_refl _, fun s hs => h2 s hs, fun s hs => h3 s hs⟩
  | n :: r, k, p, B, h1, h2, h3 => by
    obtain ⟨a1, a2⟩ := lay_at p.1 n
    have a3 := lay_len p.1 n B h2
    have g1 : (layL p.1 n).1.length = (grow p.2 (layL p.1 n).2 ((k : Int) + 1)).length := by
      rw [a2]
      unfold grow
      rw [h1]
      split
      · simp
      · simp
    have g2 : ∀ s ∈ grow p.2 (layL p.1 n).2 ((k : Int) + 1), s.length ≤ B + 1 := by
      intro s hs
      unfold grow at hs
      split at hs
      · rcases List.mem_append.mp hs with hs | hs
        · have := h3 s hs; trivial
        · simp at hs; subst hs; simp
      · rcases List.mem_or_eq_of_mem_set hs with hs | rfl
        · have := h3 s hs; trivial
        · rw [List.length_append, List.getD_eq_getElem?_getD]
          cases e : p.2[(layL p.1 n).2]? with
          | none => simp
          | some u => have := h3 u (List.mem_of_getElem? e); simp; exact this
    obtain ⟨b1, b2, b3, b4⟩ := laidFrom_size r (k + 1) ((layL p.1 n).1, grow p.2 (layL p.1 n).2 ((k : Int) + 1)) (B + 1) g1 a3 g2
    refine ⟨b1, ?_, fun s hs => ?_, fun s hs => ?_⟩
    · have : (layL p.1 n).1.length ≤ p.1.length + 1 := by rw [a2]; split <;> trivial
      show (laidFrom r (k + 1) _).1.length ≤ _
      simp only [List.length_cons]
      simp only at b2
      trivial
    · have := b3 s hs; simp only [List.length_cons]; trivial
    · have := b4 s hs; simp only [List.length_cons]; trivial
theorem laid_size (row : List Int) : (laidL row).1.length = (laidL row).2.length ∧ (laidL row).1.length ≤ row.length ∧ (∀ s ∈ (laidL row).1, s.length ≤ row.length) ∧ ∀ s ∈ (laidL row).2, s.length ≤ row.length := by
  have := laidFrom_size row 0 ([], []) 0 rfl (by simp) (by simp)
  simpa [laidL] using this
theorem laidL_snoc (r : List Int) (n : Int) : laidL (r ++ [n]) = ((layL (laidL r).1 n).1, grow (laidL r).2 (layL (laidL r).1 n).2 ((r.length : Int) + 1)) := by
  have := laidFrom_snoc r n 0 ([], [])
  simpa [laidL] using this
end RS
namespace RS
noncomputable def laidPFrom : List Int → Nat → List (List Int) × List (List Int) → List (List Int) × List (List Int)
  | [], _, p => p
  | n :: r, k, p => laidPFrom r (k + 1) ((layP p.1 n).1, grow p.2 (layP p.1 n).2 ((k : Int) + 1))
noncomputable def laidP (row : List Int) : List (List Int) × List (List Int) := laidPFrom row 0 ([], [])
theorem layP_at : ∀ (rs : List (List Int)) (n : Int), (layP rs n).2 ≤ rs.length ∧ (layP rs n).1.length = if (layP rs n).2 = rs.length then rs.length + 1 else rs.length
  | [], n => by simp [layP]
  | r :: rs, n => by
    rw [layP]
    split
    · simp
    · have ih := layP_at rs (r.getD (lt r n).length 0)
      refine ⟨?_, ?_⟩
      · exact Nat.succ_le_succ ih.1
      · show (_ :: _).length = if _ + 1 = _ then _ else _
        rw [List.length_cons, ih.2]
        simp only [List.length_cons, Nat.add_right_cancel_iff]
        split <;> rfl
theorem layP_len : ∀ (rs : List (List Int)) (n : Int) (B : Nat), (∀ r ∈ rs, r.length ≤ B) → ∀ r ∈ (layP rs n).1, r.length ≤ B + 1
  | [], n, B, h, r, hr => by simp [layP] at hr; subst hr; simp
  | s :: rs, n, B, h, r, hr => by
    rw [layP] at hr
    have hs := h s List.mem_cons_self
    have ht : ∀ r ∈ rs, r.length ≤ B := fun r hr => h r (List.mem_cons_of_mem _ hr)
    split at hr
    · rcases List.mem_cons.mp hr with rfl | hr
      · simp; exact hs
      · have := ht r hr; trivial
    · rcases List.mem_cons.mp hr with rfl | hr
      · have : (lt s n).length ≤ s.length := List.length_filter_le _ _
        simp; trivial
      · exact layP_len rs _ B ht r hr
theorem laidPFrom_snoc : ∀ (r : List Int) (n : Int) (k : Nat) (p : List (List Int) × List (List Int)),
    laidPFrom (r ++ [n]) k p = ((layP (laidPFrom r k p).1 n).1, grow (laidPFrom r k p).2 (layP (laidPFrom r k p).1 n).2 ((k + r.length : Nat) + 1))
  | [], n, k, p => by simp [laidPFrom]
  | m :: r, n, k, p => by
    show laidPFrom (r ++ [n]) (k + 1) _ = _
    rw [laidPFrom_snoc r n (k + 1)]
    have e : k + 1 + r.length = k + (m :: r).length := by simp; trivial
    rw [e]
    rfl
theorem laidPFrom_size : ∀ (r : List Int) (k : Nat) (p : List (List Int) × List (List Int)) (B : Nat), p.1.length = p.2.length → (∀ s ∈ p.1, s.length ≤ B) → (∀ s ∈ p.2, s.length ≤ B) →
    (laidPFrom r k p).1.length = (laidPFrom r k p).2.length ∧ (laidPFrom r k p).1.length ≤ p.1.length + r.length ∧ (∀ s ∈ (laidPFrom r k p).1, s.length ≤ B + r.length) ∧ ∀ s ∈ (laidPFrom r k p).2, s.length ≤ B + r.length
  | [], k, p, B, h1, h2, h3 => ⟨h1, Nat.le_refl _, fun s hs => h2 s hs, fun s hs => h3 s hs⟩
  | n :: r, k, p, B, h1, h2, h3 => by
    obtain ⟨a1, a2⟩ := layP_at p.1 n
    have a3 := layP_len p.1 n B h2
    have g1 : (layP p.1 n).1.length = (grow p.2 (layP p.1 n).2 ((k : Int) + 1)).length := by
      rw [a2]
      unfold grow
      rw [h1]
      split
      · simp
      · simp
    have g2 : ∀ s ∈ grow p.2 (layP p.1 n).2 ((k : Int) + 1), s.length ≤ B + 1 := by
      intro s hs
      unfold grow at hs
      split at hs
      · rcases List.mem_append.mp hs with hs | hs
        · have := h3 s hs; trivial
        · simp at hs; subst hs; simp
      · rcases List.mem_or_eq_of_mem_set hs with hs | rfl
        · have := h3 s hs; trivial
        · rw [List.length_append, List.getD_eq_getElem?_getD]
          cases e : p.2[(layP p.1 n).2]? with
          | none => simp
          | some u => have := h3 u (List.mem_of_getElem? e); simp; exact this
    obtain ⟨b1, b2, b3, b4⟩ := laidPFrom_size r (k + 1) ((layP p.1 n).1, grow p.2 (layP p.1 n).2 ((k : Int) + 1)) (B + 1) g1 a3 g2
    refine ⟨b1, ?_, fun s hs => ?_, fun s hs => ?_⟩
    · have : (layP p.1 n).1.length ≤ p.1.length + 1 := by rw [a2]; split <;> trivial
      show (laidPFrom r (k + 1) _).1.length ≤ _
      simp only [List.length_cons]
      simp only at b2
      trivial
    · have := b3 s hs; simp only [List.length_cons]; trivial
    · have := b4 s hs; simp only [List.length_cons]; trivial
theorem laidP_size (row : List Int) : (laidP row).1.length = (laidP row).2.length ∧ (laidP row).1.length ≤ row.length ∧ (∀ s ∈ (laidP row).1, s.length ≤ row.length) ∧ ∀ s ∈ (laidP row).2, s.length ≤ row.length := by
  have := laidPFrom_size row 0 ([], []) 0 rfl (by simp) (by simp)
  simpa [laidP] using this
theorem laidP_snoc (r : List Int) (n : Int) : laidP (r ++ [n]) = ((layP (laidP r).1 n).1, grow (laidP r).2 (layP (laidP r).1 n).2 ((r.length : Int) + 1)) := by
  have := laidPFrom_snoc r n 0 ([], [])
  simpa [laidP] using this
end RS
namespace RS
noncomputable def atZ (row : List Int) (i : Nat) : Int := row.getD i 0
noncomputable def lowX (row : List Int) (i : Nat) : Int := if atZ row (i + 1) < atZ row i then atZ row (i + 1) else atZ row i
noncomputable def highX (row : List Int) (i : Nat) : Int := if atZ row i < atZ row (i + 1) then atZ row (i + 1) else atZ row i
noncomputable def betwX (row : List Int) (i : Nat) (z : Int) : Bool := decide (lowX row i < z) && decide (z < highX row i)
noncomputable def mayX (row : List Int) (i : Nat) : Bool := (decide (1 ≤ i) && betwX row i (atZ row (i - 1))) || (decide (i + 2 < row.length) && betwX row i (atZ row (i + 2)))
noncomputable def exX (row : List Int) (i : Nat) : List Int := row.take i ++ [atZ row (i + 1), atZ row i] ++ row.drop (i + 2)
noncomputable def nextX (row : List Int) : List (List Int) := ((List.range (row.length - 1)).filter (mayX row)).map (exX row)
end RS
namespace RS
noncomputable def lay1 : List (List Int) → Int → List (List Int)
  | [], n => [[n]]
  | r :: rs, n => match gt r n with | [] => ins r n :: rs | x :: _ => ins r n :: lay1 rs x
noncomputable def layW (R : List (List Int)) (w : List Int) : List (List Int) := w.foldl lay1 R
noncomputable def bmp (r : List Int) (n : Int) : List Int := (gt r n).take 1
noncomputable def bmpW (r : List Int) : List Int → List Int × List Int
  | [] => (r, [])
  | n :: w => ((bmpW (ins r n) w).1, bmp r n ++ (bmpW (ins r n) w).2)
inductive Kn : List Int → List Int → Prop
  | k1 {x y z : Int} : x < y → y < z → Kn [y, x, z] [y, z, x]
  | k2 {x y z : Int} : x < y → y < z → Kn [x, z, y] [z, x, y]
noncomputable def KR (u v : List Int) : Prop := u = v ∨ Kn u v ∨ Kn v u
end RS
namespace RS
end RS
namespace RS
noncomputable def KS (v w : List Int) : Prop := ∃ a u u' b, v = a ++ u ++ b ∧ w = a ++ u' ++ b ∧ (Kn u u' ∨ Kn u' u)
inductive KE : List Int → List Int → Prop
  | refl (w : List Int) : KE w w
  | tail {u v w : List Int} : KE u v → KS v w → KE u w
end RS
namespace RS
noncomputable def Under (C : List (List Int)) (r : List Int) : Prop := ∀ (j : Nat) c x, C[j]? = some c → r[j]? = some x → ∀ a ∈ c, a < x
end RS
namespace RS
noncomputable def exs (w : List Int) (ps : List Nat) : List Int := ps.foldl exX w
noncomputable def okX : List Int → List Nat → Prop
  | _, [] => True
  | w, p :: ps => p + 1 < w.length ∧ mayX w p = true ∧ okX (exX w p) ps
noncomputable def dwn (a : Nat) : Nat → List Nat
  | 0 => []
  | k + 1 => dwn (a + 1) k ++ [a + 1]
noncomputable def dwn0 (a : Nat) : Nat → List Nat
  | 0 => []
  | k + 1 => dwn0 (a + 1) k ++ [a]
noncomputable def stepsR (b m g : Nat) : List Nat := (((List.range m).filter fun s => !decide (s = g)).map fun s => b + s).reverse
noncomputable def placesF : List (List Int) → Int → Nat → List Nat
  | [], _, _ => []
  | r :: rs, n, b => if (lt r n).length = r.length then [] else stepsR (b - r.length) r.length (lt r n).length ++ placesF rs (r.getD (lt r n).length 0) (b - r.length)
noncomputable def Linked : List (List Int) → Prop
  | [] => True
  | [_] => True
  | v :: w :: ws => (∃ p, p + 1 < v.length ∧ mayX v p = true ∧ w = exX v p) ∧ Linked (w :: ws)
end RS
namespace RS
end RS
namespace RS
noncomputable def flZ (R : List (List Int)) : Nat := R.flatten.length
end RS
namespace RS
end RS
namespace L2
open PySem PySem.Spec PyProof.Rows
theorem closure_go {env : Env} : ∀ (names : List (Str × NameKind)) (acc : List (Str × Addr)), (∀ y ∈ names, y.2 = .free → ∃ c, env.cells.lookup y.1 = some c) → (∀ y c, acc.lookup y = some c → env.cells.lookup y = some c) →
    ∃ cl, (forIn names acc (fun (p : Str × NameKind) (r : List (Str × Addr)) => (match p with | (name, kind) => if (kind == NameKind.free) = true then (do let c ← cellOf env name; pure (ForInStep.yield ((name, c) :: r))) else pure (ForInStep.yield r) : Sem (ForInStep (List (Str × Addr)))))) = (pure cl : Sem (List (Str × Addr))) ∧
      (∀ y c, cl.lookup y = some c → env.cells.lookup y = some c) ∧ (∀ y c, acc.lookup y = some c → ∃ c', cl.lookup y = some c') ∧ ∀ y, (y, NameKind.free) ∈ names → ∃ c, cl.lookup y = some c
  | [], acc, _, ha => ⟨acc, rfl, ha, fun y c e => ⟨c, e⟩, fun y hy => absurd hy (by simp)⟩
  | (n, k) :: r, acc, hf, ha => by
    have hr : ∀ y ∈ r, y.2 = .free → ∃ c, env.cells.lookup y.1 = some c := fun y hy => hf y (List.mem_cons_of_mem _ hy)
    cases hk : (k == NameKind.free) with
    | true =>
      have hk' : k = .free := by simpa using hk
      obtain ⟨c, hc⟩ := hf (n, k) List.mem_cons_self hk'
      have ha' : ∀ y c', ((n, c) :: acc).lookup y = some c' → env.cells.lookup y = some c' := fun y c' e => by
        rw [List.lookup_cons] at e
        cases hb : y == n with
        | true => rw [hb] at e; cases e; rw [beq_iff_eq.mp hb]; exact hc
        | false => rw [hb] at e; exact ha y c' e
      obtain ⟨cl, e, h1, h2, h3⟩ := closure_go r ((n, c) :: acc) hr ha'
      have mono : ∀ y c', acc.lookup y = some c' → ∃ c'', cl.lookup y = some c'' := fun y c' q => by
        cases hb : y == n with
        | true => exact h2 y c (by rw [List.lookup_cons, hb])
        | false => exact h2 y c' (by rw [List.lookup_cons, hb]; exact q)
      refine ⟨cl, ?_, h1, mono, fun y hy => ?_⟩
      · rw [List.forIn_cons]
        have : (cellOf env n : Sem Addr) = pure c := by unfold cellOf; rw [hc]
        simp only [hk, if_true, this]
        exact e
      · rcases List.mem_cons.mp hy with q | q
        · cases q
          exact h2 n c (by rw [List.lookup_cons]; simp)
        · exact h3 y q
    | false =>
      obtain ⟨cl, e, h1, h2, h3⟩ := closure_go r acc hr ha
      refine ⟨cl, ?_, h1, h2, fun y hy => ?_⟩
      · rw [List.forIn_cons]
        simp only [hk, Bool.false_eq_true, if_false]
        exact e
      · rcases List.mem_cons.mp hy with q | q
        · cases q
          cases hk
        · exact h3 y q
theorem closure_ok {scope : Scope} {env : Env} (h : ∀ y ∈ scope.names, y.2 = .free → ∃ c, env.cells.lookup y.1 = some c) :
    ∃ cl, closureFor scope env = pure cl ∧ (∀ y c, cl.lookup y = some c → env.cells.lookup y = some c) ∧ ∀ y, (y, NameKind.free) ∈ scope.names → ∃ c, cl.lookup y = some c := by
  obtain ⟨cl, e, h1, _, h3⟩ := closure_go (env := env) scope.names [] h (fun y c e => by simp at e)
  refine ⟨cl, ?_, h1, h3⟩
  unfold closureFor
  exact (congrArg (fun t : Sem (List (Str × Addr)) => t >>= fun cs => pure cs) e).trans rfl
noncomputable def Cx.comp (X : Cx) (M : List Str) (scope : Scope) (cl : List (Str × Addr)) (C : Addr) (s : Shared) (H : Hp) (ex : List Addr) : Cx where
  prog := X.prog
  w := X.w
  K := X.K
  mg := X.mg
  base := X.base
  A := X.A
  N := M
  s₀ := s
  H₀ := H
  env := compEnvC scope cl C X.env
  outer := X.stack
  stack := X.stack
  ex := ex
  fn := fun _ => false
  calm := X.calm
  pn := []
  xe := fun _ _ => False
noncomputable def cst (cp : List Nat) (σ : St) (v : Option V) : St := v :: cp.map fun i => σ.getD i none
noncomputable def tComp (wi : TI) (cp : List Nat) (tt : TT) (te : TE) : TE := fun σ H Q => wi σ H fun J H1 => ∀ D, H1 D = none →
  ∃ W : Nat → Nat → Hp → Prop, (∃ m, W 0 m (upd H1 D (.lst []))) ∧ ∀ i m H, W i m H →
    (J.stop i H ∧ Q (.ref D) H) ∨ (J.go i H ∧ ∀ v H', J.yld i H v H' → tt (cst cp σ (some v)) H' fun b H2 =>
      if b = true then te (cst cp σ (some v)) H2 fun y H3 => ∃ ys, H3 D = some (.lst ys) ∧ ys.length < sizeLine ∧ ∃ m', m' < m ∧ W (i + 1) m' (upd H3 D (.lst (ys ++ [y])))
      else ∃ m', m' < m ∧ W (i + 1) m' H2)
noncomputable def PTs (X : Cx) (ifs : List Expr) (t : TT) : Prop :=
  ∀ (pins : List (Addr × Obj)) (s : Shared) (σ : St) (H : Hp) (Q : Bool → Hp → Prop), Inv X pins σ H s → t σ H Q →
    wpAny (model X.prog X.w) X.A (forIn ifs true fun c r => if r = true then do let ok ← isTrue c X.env (eval c X.env); pure (ForInStep.yield ok) else pure (ForInStep.yield r)) (TP X pins σ Q) X.xe s
noncomputable def tNoTest : TT := fun _ H Q => Q true H
theorem pts_nil {X : Cx} : PTs X [] tNoTest := fun pins s σ H Q I h => wpAny_tests_nil ⟨H, I, h⟩
theorem pts_one {X : Cx} {c : Expr} {t : TT} (h : PT X c t) : PTs X [c] t := fun pins s σ H Q I q => wpAny_tests_one (h pins s σ H Q I q)
structure CompScope (N : List Str) (out : Scope) (x : Str) (cp : List Nat) (M : List Str) (scope : Scope) : Prop where
  hM : M = x :: cp.map fun i => N.getD i x
  kind : scope.kind = .function
  hx : scope.names.lookup x = some .local
  nocellB : scope.names.all (fun y => !(y.2 == .cell)) = true
  locB : scope.names.all (fun y => !(y.2 == .local) || scope.names.lookup y.1 == some .local) = true
  freeB : scope.names.all (fun y => !(y.2 == .free) || (out.names.lookup y.1 == some .cell || out.names.lookup y.1 == some .free)) = true
  capB : cp.all (fun i => decide (i < N.length) && scope.names.lookup (N.getD i x) == some .free) = true
section
variable {N : List Str} {out : Scope} {x : Str} {cp : List Nat} {M : List Str} {scope : Scope}
theorem CompScope.nocell (S : CompScope N out x cp M scope) : ∀ y ∈ scope.names, y.2 ≠ .cell := fun y hy => by
  have := List.all_eq_true.mp S.nocellB y hy
  simpa using this
theorem CompScope.loc (S : CompScope N out x cp M scope) : ∀ y ∈ scope.names, y.2 = .local → scope.names.lookup y.1 = some .local := fun y hy e => by
  have := List.all_eq_true.mp S.locB y hy
  simpa [e] using this
theorem CompScope.free (S : CompScope N out x cp M scope) : ∀ y ∈ scope.names, y.2 = .free → (out.names.lookup y.1 = some .cell ∨ out.names.lookup y.1 = some .free) := fun y hy e => by
  have := List.all_eq_true.mp S.freeB y hy
  simpa [e] using this
theorem CompScope.cap (S : CompScope N out x cp M scope) : ∀ i ∈ cp, i < N.length ∧ scope.names.lookup (N.getD i x) = some .free := fun i hi => by
  have := List.all_eq_true.mp S.capB i hi
  rw [Bool.and_eq_true] at this
  exact ⟨of_decide_eq_true this.1, by simpa using this.2⟩
end
theorem relabel_lookup {env : Env} {x : Str} {k : NameKind} : ∀ {names : List (Str × NameKind)},
    (names.map fun (n, k) => if (k == NameKind.free && env.scope.kind == .function && env.kindOf n == some .cell) then (n, NameKind.cell) else (n, k)).lookup x = some k →
    ∃ k0, names.lookup x = some k0 ∧ (k = k0 ∨ (k0 = .free ∧ k = .cell))
  | [], h => by simp at h
  | (n, k1) :: r, h => by
    have ih := @relabel_lookup env x k r
    have h : List.lookup x ((if (k1 == NameKind.free && env.scope.kind == .function && env.kindOf n == some .cell) = true then (n, NameKind.cell) else (n, k1)) :: (r.map fun (n, k) => if (k == NameKind.free && env.scope.kind == .function && env.kindOf n == some .cell) then (n, NameKind.cell) else (n, k))) = some k := h
    by_cases hc : (k1 == NameKind.free && env.scope.kind == .function && env.kindOf n == some .cell) = true
    · rw [if_pos hc, List.lookup_cons] at h
      cases hx : x == n with
      | true =>
        rw [hx] at h
        rw [List.lookup_cons, hx]
        have hk : k1 = .free := by
          simp only [Bool.and_eq_true, beq_iff_eq] at hc
          exact hc.1.1
        exact ⟨k1, rfl, .inr ⟨hk, (Option.some.inj h).symm⟩⟩
      | false =>
        rw [hx] at h
        rw [List.lookup_cons, hx]
        exact ih h
    · rw [if_neg hc, List.lookup_cons] at h
      cases hx : x == n with
      | true =>
        rw [hx] at h
        rw [List.lookup_cons, hx]
        exact ⟨k1, rfl, .inl (Option.some.inj h).symm⟩
      | false =>
        rw [hx] at h
        rw [List.lookup_cons, hx]
        exact ih h
theorem relabel_free {env : Env} {x : Str} : ∀ {names : List (Str × NameKind)}, names.lookup x = some .free →
    (names.map fun (n, k) => if (k == NameKind.free && env.scope.kind == .function && env.kindOf n == some .cell) then (n, NameKind.cell) else (n, k)).lookup x = some .free ∨
    (names.map fun (n, k) => if (k == NameKind.free && env.scope.kind == .function && env.kindOf n == some .cell) then (n, NameKind.cell) else (n, k)).lookup x = some .cell
  | [], h => by simp at h
  | (n, k1) :: r, h => by
    have ih := @relabel_free env x r
    show List.lookup x ((if (k1 == NameKind.free && env.scope.kind == .function && env.kindOf n == some .cell) = true then (n, NameKind.cell) else (n, k1)) :: _) = _ ∨ List.lookup x ((if (k1 == NameKind.free && env.scope.kind == .function && env.kindOf n == some .cell) = true then (n, NameKind.cell) else (n, k1)) :: _) = _
    rw [List.lookup_cons] at h
    by_cases hc : (k1 == NameKind.free && env.scope.kind == .function && env.kindOf n == some .cell) = true
    · rw [if_pos hc, List.lookup_cons]
      cases hx : x == n with
      | true => exact .inr rfl
      | false => rw [hx] at h; exact ih h
    · rw [if_neg hc, List.lookup_cons]
      cases hx : x == n with
      | true => rw [hx] at h; exact .inl h
      | false => rw [hx] at h; exact ih h
section
variable {X : Cx} {pins : List (Addr × Obj)} {σ : St} {H : Hp}
theorem Inv.comp {s3 s4 : Shared} {x : Str} {cp : List Nat} {M : List Str} {scope : Scope} {cl : List (Str × Addr)} {fp : List Addr} (I : Inv X pins σ H s3) (S : CompScope X.N X.env.scope x cp M scope)
    (hcl : ∀ y c, cl.lookup y = some c → X.env.cells.lookup y = some c) (hcf : ∀ y, (y, NameKind.free) ∈ scope.names → ∃ c, cl.lookup y = some c)
    (hfp : ∀ b ∈ fp, FpOk X pins H b) (hfo : ∀ b ∈ fp, b < s3.heap.objs.size) (hs : s4 = { s3 with heap := s4.heap, toks := s4.toks }) (hk : ∀ b o, s3.heap.get? b = some o → s4.heap.get? b = some o)
    {m : Str → Option Value} (hn : s4.heap.Ns s3.heap.objs.size m) :
    Inv (X.comp M scope cl s3.heap.objs.size s3 H fp) [] (cst cp σ none) H s4 := by
  have os4 : s4.os = s3.os := by rw [hs]
  have g4 : s4.gens = s3.gens := by rw [hs]
  have I4 : Inv X pins σ H s4 := by
    have := I.kept (h' := s4.heap) (t' := s4.toks) hk
    rw [hs]; exact this
  refine ⟨⟨I.ok.mod, S.kind, I.ok.glob, I.ok.blt, Nat.le_refl _, fun y z c h1 h2 => I.ok.inj y z c (hcl y c h1) (hcl z c h2), fun y hy => ?_, fun y c h _ => absurd h (by intro z; cases z), I.ok.hd, I.ok.frames, .inl rfl, fun b hb => ⟨Nat.ne_of_lt (hfo b hb), fun y c e => (hfp b hb).2.2.2.2.1 y c (hcl y c e)⟩,
    I.bs, Nat.le_trans I.ok.bsz I.sz, fun b o e hb => ?_, fun b hb hs => ?_, I.stack, I.stkFree⟩,
    os4, ?_, Un.kept hk, ⟨m, hn, fun i y v h1 h2 h3 => ?_⟩, fun y c e => ?_, I.hok.fresh (Nat.le_refl _), fun y c e => I.freeC y c (hcl y c e), fun p hp => absurd hp (by intro z; cases z), I.hok.kept hk, ?_⟩
  · have hy' : ∃ k, (k = NameKind.cell ∨ k = .free) ∧ (relabel scope X.env).names.lookup y = some k := by
      rcases hy with hy | hy
      · exact ⟨_, .inl rfl, hy⟩
      · exact ⟨_, .inr rfl, hy⟩
    obtain ⟨k, hk, e⟩ := hy'
    obtain ⟨k0, e0, h0⟩ := relabel_lookup (names := scope.names) e
    have mem := PySem.mem_of_lookup e0
    rcases h0 with rfl | ⟨rfl, rfl⟩
    · rcases hk with rfl | rfl
      · exact absurd rfl (S.nocell _ mem)
      · exact hcf y mem
    · exact hcf y mem
  · obtain ⟨_, _, _, h4, _⟩ := hfp b hb
    rcases h4 with h4 | h4
    · exact I.ok.noex b o e h4
    · exact absurd (Nat.lt_of_lt_of_le (Heap.lt_size e) (Nat.le_trans I.ok.bsz h4)) (Nat.lt_irrefl _)
  · obtain ⟨_, h1, h2, _⟩ := hfp b hb
    rcases List.mem_cons.mp (I.stkSub b hs) with e | e
    · exact h1 e
    · exact h2 e
  · rw [g4]; exact I.bare
  · -- names
    have hM : (X.comp M scope cl s3.heap.objs.size s3 H fp).N = x :: cp.map fun i => X.N.getD i x := S.hM
    rw [hM] at h1
    cases i with
    | zero => unfold cst at h2; simp at h2
    | succ i =>
      unfold cst at h2
      simp only [List.getElem?_cons_succ, List.getElem?_map] at h1 h2
      cases hi : cp[i]? with
      | none => rw [hi] at h1; cases h1
      | some j =>
        rw [hi] at h1 h2
        simp only [Option.map_some, Option.some.injEq] at h1 h2
        obtain ⟨hj, hf⟩ := S.cap j (List.mem_of_getElem? hi)
        have hNj : X.N[j]? = some y := by
          rw [← h1, List.getD_eq_getElem?_getD]
          rw [List.getElem?_eq_getElem hj]; rfl
        have hσj : σ[j]? = some (some v) := by
          rw [List.getD_eq_getElem?_getD] at h2
          cases e : σ[j]? with
          | none => rw [e] at h2; cases h2
          | some a => rw [e] at h2; simp at h2; rw [h2]
        rw [h1] at hf
        have memf := PySem.mem_of_lookup hf
        have ho := S.free _ memf rfl
        have hvis : Vis X.env.scope y := ho.elim (fun z => .inr (.inl z)) fun z => .inr (.inr z)
        obtain ⟨m0, hn0, hl0⟩ := I4.loc
        obtain ⟨u, r, l⟩ := hl0 j y v hNj hσj hvis
        refine ⟨u, r, ?_⟩
        rcases l with ⟨k, _⟩ | ⟨k, c, e, z⟩
        · exfalso
          have k' : X.env.scope.names.lookup y = some .local := k
          rcases ho with ho | ho
          · rw [k'] at ho; cases ho
          · rw [k'] at ho; cases ho
        · obtain ⟨c', e'⟩ := hcf y memf
          have : c' = c := by have := hcl y c' e'; rw [e] at this; cases this; rfl
          subst this
          refine .inr ⟨?_, c', e', z⟩
          exact (relabel_free (env := X.env) hf).elim .inr .inl
  · obtain ⟨v, q⟩ := I4.cell y c (hcl y c e)
    exact ⟨v, q⟩
  · show (cst cp σ none).length = M.length
    rw [S.hM]; simp [cst]
theorem Inv.uncomp {s3 s' : Shared} {σ' : St} {H' : Hp} {M : List Str} {scope : Scope} {cl : List (Str × Addr)} {fp : List Addr} {h' : Heap} (I : Inv X pins σ H s3) (hfp : ∀ b ∈ fp, FpOk X pins H b)
    (J : Inv (X.comp M scope cl s3.heap.objs.size s3 H fp) [] σ' H' s') (hs : Heap.SameBut s3.heap.objs.size s'.heap h') : Inv X pins σ H' { s' with heap := h' } := by
  have hC : H' s3.heap.objs.size = none := J.free
  have u := J.base
  have hok : HOk X.prog X.w H' h' := fun b o e => by
    refine (J.hok b o e).stay (fun c v hc q => (hs.2 c ?_).trans q) (fun _ q => q) fun _ _ q => q
    rintro rfl
    rcases hc with z | z
    · rw [← z, hC] at e; cases e
    · rw [hC] at z; cases z
  have ne : ∀ b o, s3.heap.get? b = some o → b ≠ s3.heap.objs.size := fun b o e => Nat.ne_of_lt (Heap.lt_size e)
  have un : Un (frs X.stack) fp H H' s3.heap h' :=
    ⟨fun b o e n hb hx => (hs.2 b (ne b o e)).trans (u.keep b o e n hb hx), fun b o e n hb hx => by
      obtain ⟨sl, q⟩ := u.slot b o e n hb hx
      exact ⟨sl, (hs.2 b (ne b o e)).trans q⟩, u.free, fun b o e hx => by
      obtain ⟨o', q⟩ := u.there b o e hx
      exact ⟨o', (hs.2 b (ne b o e)).trans q⟩, u.tups, u.frzs, u.tbls⟩
  refine I.call' (s' := { s' with heap := h' }) (ch := fp) J.os un hok J.bare fun b hb => ?_
  obtain ⟨_, h1, _, h3, h4, h5⟩ := hfp b hb
  exact ⟨h3, h1, h4, h5⟩
end
section
variable {prog : Program} {w : World} {A : Around} {R : Result → Shared → Prop} {s : Shared}
theorem compLoop_any {elt target iter : Expr} {ifs : List Expr} {scope : Scope} {pos : Pos} {it acc : Value} {env : Env} (I : Nat → Shared → Prop)
    (turn : ∀ n s, I n s → wpAny (model prog w) A (pyNext it) (fun r s₁ => match r with
      | none => R (.ok .next) s₁
      | some v => wpAny (model prog w) A (letOwnedTupleGo target it v) (fun _ s₁' => wpAny (model prog w) A (assign target env v) (fun _ s₂ =>
          wpAny (model prog w) A (forIn ifs true fun c r => if r = true then do let ok ← isTrue c env (eval c env); pure (ForInStep.yield ok) else pure (ForInStep.yield r)) (fun ok s₃ =>
            if ok = true then wpAny (model prog w) A (eval elt env) (fun x s₄ =>
              wpAny (model prog w) A (call (.builtin "list.append") [acc, x]) (fun _ s₅ => ∃ m, m < n ∧ I m s₅) (fun _ _ => False) s₄) (fun _ _ => False) s₃
            else ∃ m, m < n ∧ I m s₃) (fun _ _ => False) s₂) (fun _ _ => False) s₁') (fun _ _ => False) s₁) (fun _ _ => False) s)
    (n : Nat) (h : I n s) :
    codeAny (model prog w) A (.compLoop (.ListComp elt [⟨target, iter, ifs, 0⟩] scope pos) 0 it acc env) R s := by
  refine codeAny_loop rfl I (fun n s hI => ?_) n h
  show wpAny _ A ((compTurn (.ListComp elt [⟨target, iter, ifs, 0⟩] scope pos) 0 it acc env).onRaise (fun x => do noteFrame x env; theTreesLotGoes x)) _ _ s
  refine wpAny_noted ?_
  rw [compTurn_list]
  refine wpAny_bind (wpAny_standAt (wpAny_bind (wpAny_mono (turn n s hI) (fun r s₁ h₁ => ?_) fun _ _ h' => h'.elim)))
  cases r with
  | none => exact wpAny_pure h₁
  | some v =>
    refine wpAny_bind (wpAny_mono h₁ (fun _ s₁' h₁' => ?_) fun _ _ h' => h'.elim)
    refine wpAny_bind (wpAny_mono h₁' (fun _ s₂ h₂ => wpAny_bind (wpAny_mono h₂ (fun ok s₃ h₃ => ?_) fun _ _ h' => h'.elim)) fun _ _ h' => h'.elim)
    cases ok with
    | false => exact wpAny_pure ⟨rfl, h₃⟩
    | true =>
      exact wpAny_bind (wpAny_bind (wpAny_mono h₃ (fun x s₄ h₄ => wpAny_bind (wpAny_mono h₄ (fun _ s₅ h₅ => wpAny_pure (wpAny_pure ⟨rfl, h₅⟩)) fun _ _ h' => h'.elim)) fun _ _ h' => h'.elim))
end
section
variable {X : Cx}
theorem comp_run {elt iter : Expr} {x : Str} {px : Pos} {ifs : List Expr} {scope : Scope} {pos : Pos} {cp : List Nat} {M : List Str} {tt : TT} {te : TE} {cl : List (Str × Addr)}
    (hc : X.calm = true) (S : CompScope X.N X.env.scope x cp M scope) (hnd : M.Nodup)
    (hcl : ∀ y c, cl.lookup y = some c → X.env.cells.lookup y = some c) (hcf : ∀ y, (y, NameKind.free) ∈ scope.names → ∃ c, cl.lookup y = some c)
    (ht : ∀ C s H ex, PTs (X.comp M scope cl C s H ex) ifs tt) (he : ∀ C s H ex, PE (X.comp M scope cl C s H ex) elt te)
    {pins : List (Addr × Obj)} {σ : St} {s2 : Shared} {H2 : Hp} {Q : VK} {it : Addr} {fp : List Addr} {tn : Nat → Heap → Prop} {J : It} {RR : Value → Addr → Result → Shared → Prop} {E : Value → Shared → Prop}
    (I2 : Inv X pins σ H2 s2) (T : Turn X.prog X.w X.K (.Name x px) J fp it tn) (st2 : tn 0 s2.heap) (f2 : ∀ b ∈ fp, FpOk X pins H2 b)
    (q : ∀ D, H2 D = none → ∃ W : Nat → Nat → Hp → Prop, (∃ m, W 0 m (upd H2 D (.lst []))) ∧ ∀ i m H, W i m H →
      (J.stop i H ∧ Q (.ref D) H) ∨ (J.go i H ∧ ∀ v H', J.yld i H v H' → tt (cst cp σ (some v)) H' fun b H2 =>
        if b = true then te (cst cp σ (some v)) H2 fun y H3 => ∃ ys, H3 D = some (.lst ys) ∧ ys.length < sizeLine ∧ ∃ m', m' < m ∧ W (i + 1) m' (upd H3 D (.lst (ys ++ [y])))
        else ∃ m', m' < m ∧ W (i + 1) m' H2))
    (fin : ∀ (D C : Addr) (s' : Shared) (H' : Hp) (m : Str → Option Value), s'.heap.Ns C m → (∀ h', Heap.SameBut C s'.heap h' → Inv X pins σ H' { s' with heap := h' }) → FpOk X pins H' C → Q (.ref D) H' → RR (.ref D) C (.ok .next) s') :
    wpAny (model X.prog X.w) X.A (newList []) (fun acc s₃ => wpAny (model X.prog X.w) X.A (newFunctionEnv scope X.env.globals cl [] X.env.qual none .none (some X.env)) (fun cenv s₄ =>
      codeAny (model X.prog X.w) X.A (.compStart (.ListComp elt [⟨.Name x px, iter, ifs, 0⟩] scope pos) 0 (.ref it) acc { cenv with scope := relabel scope X.env }) (RR acc cenv.locals) s₄) E s₃) E s2 := by
  have fobj : ∀ b ∈ fp, b < s2.heap.objs.size := fun b hb => by
    obtain ⟨o, e, _⟩ := T.obj 0 _ st2 b hb
    exact Heap.lt_size e
  refine wpAny_newObj_type (wpAny_newFunctionEnv S.nocell (by intro y hy; simp at hy) (fun h₁ hns₁ hsb₁ => ?_) S.kind)
  have hf : H2 s2.heap.objs.size = none := I2.hok.fresh (Nat.le_refl _)
  obtain ⟨W, ⟨m0, w0⟩, turn⟩ := q _ hf
  generalize hs3 : ({ s2 with heap := s2.heap.push { cls := .type "list", dict := none, data := .seq ([] : List Value).toArray } } : Shared) = s3 at *
  have I3 : Inv X pins σ (upd H2 s2.heap.objs.size (.lst [])) s3 := by
    rw [← hs3]
    exact I2.laid (t' := s2.toks) (fun b u e => Heap.get?_push_of_some _ e) (Nat.le_refl _) ⟨Nat.zero_le _, [], 0, .nil, Heap.get?_push_size _ rfl⟩
  have sz3 : s2.heap.objs.size < s3.heap.objs.size := by rw [← hs3]; show _ < (s2.heap.push _).objs.size; rw [Heap.size_push]; exact Nat.lt_succ_self _
  have f3 : ∀ b ∈ fp, FpOk X pins (upd H2 s2.heap.objs.size (.lst [])) b := fun b hb => by
    obtain ⟨h0, r⟩ := f2 b hb
    exact ⟨by rw [upd_ne (Nat.ne_of_lt (fobj b hb))]; exact h0, r⟩
  have keep34 : ∀ b o, s3.heap.get? b = some o → h₁.get? b = some o := fun b o e => hsb₁.extBut b o (Nat.ne_of_lt (Heap.lt_size e)) (Heap.get?_push_of_some _ e)
  have keep24 : ∀ b o, s2.heap.get? b = some o → h₁.get? b = some o := fun b o e => keep34 b o (by rw [← hs3]; exact Heap.get?_push_of_some _ e)
  have Ic : Inv (X.comp M scope cl s3.heap.objs.size s3 (upd H2 s2.heap.objs.size (.lst [])) fp) [] (cst cp σ none) (upd H2 s2.heap.objs.size (.lst [])) { s3 with heap := h₁, toks := s3.toks + ([] : List (Str × Value)).length } :=
    I3.comp S hcl hcf f3 (fun b hb => Nat.lt_trans (fobj b hb) sz3) rfl keep34 hns₁
  have fst : ∀ {H' : Hp}, (∀ b ∈ fp, H' b = none) → ∀ b ∈ fp, FpOk (X.comp M scope cl s3.heap.objs.size s3 (upd H2 s2.heap.objs.size (.lst [])) fp) [] H' b := fun hn b hb => by
    obtain ⟨_, h1, h2, _, h4, _⟩ := f2 b hb
    refine ⟨hn b hb, Nat.ne_of_lt (Nat.lt_trans (fobj b hb) sz3), fun hs => ?_, .inl hb, fun y c e => h4 y c (hcl y c e), fun p hp => absurd hp (by intro z; cases z)⟩
    rcases List.mem_cons.mp (I3.stkSub b hs) with e | e
    · exact h1 e
    · exact h2 e
  have loop : codeAny (model X.prog X.w) X.A (.compLoop (.ListComp elt [⟨.Name x px, iter, ifs, 0⟩] scope pos) 0 (.ref it) (.ref s2.heap.objs.size) (compEnvC scope cl s3.heap.objs.size X.env)) (RR (.ref s2.heap.objs.size) s3.heap.objs.size)
      { s3 with heap := h₁, toks := s3.toks + ([] : List (Str × Value)).length } := by
    refine compLoop_any (fun n s' => ∃ i vo H', Inv (X.comp M scope cl s3.heap.objs.size s3 (upd H2 s2.heap.objs.size (.lst [])) fp) [] (cst cp σ vo) H' s' ∧ tn i s'.heap ∧ (∀ b ∈ fp, H' b = none) ∧ W i n H') ?_ m0
      ⟨0, none, _, Ic, T.keep _ _ _ st2 (fun b hb o e => keep24 b o e), fun b hb => (f3 b hb).1, w0⟩
    rintro n s5 ⟨i, vo, H5, I5, st5, fr5, w5⟩
    rcases turn i n H5 w5 with ⟨stop, qn⟩ | ⟨go, step⟩
    · refine thn (T.done (X.comp M scope cl s3.heap.objs.size s3 (upd H2 s2.heap.objs.size (.lst [])) fp) rfl rfl rfl hc i [] s5 _ H5 _ I5 (fst fr5) st5 stop) fun r s6 hh29 => ?_
      obtain ⟨hr, I6⟩ := hh29
      subst hr
      obtain ⟨m', hm', _⟩ := id I6.loc
      exact fin _ _ s6 H5 m' hm' (fun h' hb => I3.uncomp f3 I6 hb) (I3.fpOk (Nat.le_refl _) I6.free) qn
    · refine thn (T.item (X.comp M scope cl s3.heap.objs.size s3 (upd H2 s2.heap.objs.size (.lst [])) fp) rfl rfl rfl hc i [] s5 _ H5 _ I5 (fst fr5) st5 go) fun r s6 hh30 => ?_
      obtain ⟨u, hr, h6⟩ := hh30
      subst hr
      refine thn h6 fun _ s7 hh31 => ?_
      obtain ⟨v, H7, I7, r7, y7, st7, fr7⟩ := hh31
      have I7' := I7.pinned (fst fr7) (T.obj _ _ st7)
      have hMx : (X.comp M scope cl s3.heap.objs.size s3 (upd H2 s2.heap.objs.size (.lst [])) fp).N[0]? = some x := by
        show M[0]? = some x
        rw [S.hM]; rfl
      refine wpAny_assign_Name (store_ok I7' hnd hMx (.inl (lookup_relabel_local S.hx)) r7 (fun s8 I8 => ?_) (.inr (lookup_relabel_local S.hx)))
      have I8' : Inv (X.comp M scope cl s3.heap.objs.size s3 (upd H2 s2.heap.objs.size (.lst [])) fp) ([] ++ pinsAt fp s7.heap) (cst cp σ (some v)) H7 s8 := I8
      have again : ∀ {H9 : Hp} {s9 : Shared} {m' : Nat}, Inv (X.comp M scope cl s3.heap.objs.size s3 (upd H2 s2.heap.objs.size (.lst [])) fp) ([] ++ pinsAt fp s7.heap) (cst cp σ (some v)) H9 s9 → m' < n → W (i + 1) m' H9 →
          ∃ m, m < n ∧ ∃ i vo H', Inv (X.comp M scope cl s3.heap.objs.size s3 (upd H2 s2.heap.objs.size (.lst [])) fp) [] (cst cp σ vo) H' s9 ∧ tn i s9.heap ∧ (∀ b ∈ fp, H' b = none) ∧ W i m H' := fun {H9 s9 m'} I9 hm w9 => by
        refine ⟨m', hm, i + 1, some v, H9, I9.unpinned, T.keep _ _ _ st7 fun b hb o e => (I9.pin (b, o) (List.mem_append_right _ (List.mem_append_right _ (mem_pinsAt hb e)))).1, fun b hb => ?_, w9⟩
        obtain ⟨o, e, d⟩ := T.obj _ _ st7 b hb
        exact (I9.pin (b, o) (List.mem_append_right _ (List.mem_append_right _ (mem_pinsAt hb e)))).2.1
      refine thn (ht _ _ _ _ _ s8 _ H7 _ I8' (step v H7 y7)) fun b s9 hh32 => ?_
      obtain ⟨H9, I9, q9⟩ := hh32
      cases b with
      | false =>
        rw [if_neg Bool.false_ne_true] at q9
        rw [if_neg Bool.false_ne_true]
        obtain ⟨m', hm, w9⟩ := q9
        exact again I9 hm w9
      | true =>
        rw [if_pos rfl] at q9
        rw [if_pos rfl]
        refine thn (he _ _ _ _ _ s9 _ H9 _ I9 q9) fun yv s10 hh33 => ?_
        obtain ⟨y, H10, I10, ry, ys, hD, hlen, m', hm, w10⟩ := hh33
        exact thn (mt_append _ s10 _ H10 (.ref s2.heap.objs.size) [y] (.ref s2.heap.objs.size) [yv] (fun _ H' => H' = upd H10 s2.heap.objs.size (.lst (ys ++ [y]))) I10 rfl (.cons ry .nil) ⟨_, ys, y, rfl, rfl, hD, hlen, rfl⟩)
          fun _ s11 hh => by obtain ⟨_, H11, I11, _, e11⟩ := hh; exact again I11 hm (e11 ▸ w10)
  exact codeAny_compStart_list loop (T.self _ 0 _ _ _ (T.keep _ _ _ st2 fun b hb o e => keep24 b o e) loop)
theorem pe_comp {elt iter : Expr} {x : Str} {px : Pos} {ifs : List Expr} {scope : Scope} {pos : Pos} {cp : List Nat} {M : List Str} {wi : TI} {tt : TT} {te : TE}
    (hc : X.calm = true) (S : CompScope X.N X.env.scope x cp M scope) (hnd : M.Nodup) (hi : PI X (.Name x px) iter wi)
    (ht : ∀ cl C s H ex, PTs (X.comp M scope cl C s H ex) ifs tt) (he : ∀ cl C s H ex, PE (X.comp M scope cl C s H ex) elt te)
    (hs : ∀ v, foldedSetIterable iter X.env v = pure v := by intro _; rfl) : PE X (.ListComp elt [⟨.Name x px, iter, ifs, 0⟩] scope pos) (tComp wi cp tt te) := by
  intro pins s σ H Q I h
  obtain ⟨cl, e, hcl, hcf⟩ := closure_ok (scope := scope) (env := X.env) fun y hy hf => I.ok.has y.1 (S.free y hy hf)
  rw [eval_ListComp]
  refine wpAny_comprehension_free (use := none) rfl hs e S.kind S.loc (thn (hi pins s σ H _ I h) fun xv s1 h1 => thn h1 fun itv s2 h2 => ?_)
  obtain ⟨it, fp, tn, J, H2, rfl, I2, T, st2, f2, q⟩ := h2
  refine comp_run (RR := fun acc C => compPost (model X.prog X.w) X.A X.xe none (EP X pins σ Q) acc C) hc S hnd hcl hcf (ht cl) (he cl) I2 T st2 f2 q ?_
  intro D C s' H' m hn hI _ qD
  exact ⟨m, hn, fun h' hb => ⟨.ref D, H', hI h' hb, rfl, qD⟩⟩
theorem ps_comp {elt iter : Expr} {x y : Str} {px py : Pos} {ifs : List Expr} {scope : Scope} {pos spos : Pos} {cp : List Nat} {M : List Str} {wi : TI} {tt : TT} {te : TE} {i : Nat}
    (hN : X.N.Nodup) (hy : X.N[i]? = some y) (hloc : X.env.scope.names.lookup y = some .local)
    (hc : X.calm = true) (S : CompScope X.N X.env.scope x cp M scope) (hnd : M.Nodup) (hi : PI X (.Name x px) iter wi)
    (ht : ∀ cl C s H ex, PTs (X.comp M scope cl C s H ex) ifs tt) (he : ∀ cl C s H ex, PE (X.comp M scope cl C s H ex) elt te)
    (hsw : swapsWith (.ListComp elt [⟨.Name x px, iter, ifs, 0⟩] scope pos) (some (.Name y py)) spos.line X.env = pure true := by rfl)
    (hs : ∀ v, foldedSetIterable iter X.env v = pure v := by intro _; rfl) : PS X (.Assign [.Name y py] (.ListComp elt [⟨.Name x px, iter, ifs, 0⟩] scope pos) spos) (tAsg (tComp wi cp tt te) (gName i)) := by
  intro pins s σ H D I h
  obtain ⟨cl, e, hcl, hcf⟩ := closure_ok (scope := scope) (env := X.env) fun y hy hf => I.ok.has y.1 (S.free y hy hf)
  rw [exec_Assign_Name_used _ _ _ _ hsw]
  refine wpAny_bind (wpAny_standAt (wpAny_bind ?_))
  show wpAny _ X.A (do let _ ← comprehension (.ListComp elt [⟨.Name x px, iter, ifs, 0⟩] scope pos) scope X.env _ (newList []) false (eval iter X.env) (some (assign (.Name y py) X.env))) _ _ s
  refine wpAny_bind (wpAny_mono (wpAny_comprehension_free (use := some (assign (.Name y py) X.env)) (Q := fun _ s' => SP X pins D .next s') rfl hs e S.kind S.loc
    (thn (hi pins s σ H _ I h) fun xv s1 h1 => thn h1 fun itv s2 h2 => ?_)) (fun _ s' hq => wpAny_pure (wpAny_pure hq)) fun _ _ e => e)
  obtain ⟨it, fp, tn, J, H2, rfl, I2, T, st2, f2, q⟩ := h2
  refine comp_run (Q := fun v H' => D.nx (σ.set i (some v)) H') (RR := fun acc C => compPost (model X.prog X.w) X.A X.xe (some (assign (.Name y py) X.env)) (fun _ s' => SP X pins D .next s') acc C) hc S hnd hcl hcf (ht cl) (he cl) I2 T st2 f2 q ?_
  intro D' C s' H' m hn hI fC qD
  obtain ⟨f0, f1, f2', f3, f4, f5⟩ := fC
  have I' : Inv X pins σ H' s' := hI s'.heap (Heap.SameBut.refl ..)
  show wpAny _ X.A (assign (.Name y py) X.env (.ref D')) _ _ _
  refine wpAny_assign_Name (store_ok2 (v := .ref D') I' hN hy (.inl hloc) rfl (fun s'' I'' ch => ?_) (.inr hloc))
  obtain ⟨a, sb, ha⟩ := ch
  have haC : C ≠ a := by
    rcases ha with rfl | ha
    · exact f1
    · exact fun z => f4 y a ha z.symm
  refine ⟨m, hn.sameBut sb haC, fun h' hb => ⟨_, H', ?_, qD⟩⟩
  exact I''.turned (t' := s''.toks) (fun b o hbC e => (hb.2 b hbC).trans e) f0 f1 f3 f4 f5
end
end L2
namespace L2
open PySem PySem.Spec PyProof.Rows
noncomputable def onI (x : V) (F : Int → Prop) : Prop := match x with | .int i => F i | _ => False
noncomputable def onB (x : V) (F : Bool → Prop) : Prop := match x with | .bl b => F b | _ => False
noncomputable def onL (H : Hp) (x : V) (F : Addr → List V → Prop) : Prop := match x with
  | .ref p => (match H p with | some (.lst xs) => F p xs | _ => False)
  | _ => False
noncomputable def onS (H : Hp) (x : V) (F : List V → Prop) : Prop := match x with
  | .ref p => (match H p with | some (.lst xs) => F xs | some (.tup xs) => F xs | _ => False)
  | _ => False
noncomputable def on1 (vs : List V) (F : V → Prop) : Prop := match vs with | [x] => F x | _ => False
noncomputable def on2 (vs : List V) (F : V → V → Prop) : Prop := match vs with | [x, y] => F x y | _ => False
noncomputable def onO {α : Type} (o : Option α) (F : α → Prop) : Prop := match o with | some v => F v | none => False
noncomputable def new (H : Hp) (o : HO) (Q : VK) : Prop := ∀ p, H p = none → Q (.ref p) (upd H p o)
theorem onI.out {x : V} {F : Int → Prop} (h : onI x F) : ∃ i, x = .int i ∧ F i := by
  cases x with
  | int i => exact ⟨i, rfl, h⟩
  | _ => exact h.elim
theorem onL.out {H : Hp} {x : V} {F : Addr → List V → Prop} (h : onL H x F) : ∃ p xs, x = .ref p ∧ H p = some (.lst xs) ∧ F p xs := by
  cases x with
  | ref p =>
    cases e : H p with
    | none => simp only [onL, e] at h
    | some o =>
      cases o with
      | lst xs => simp only [onL, e] at h; exact ⟨p, xs, rfl, e, h⟩
      | _ => simp only [onL, e] at h
  | _ => exact h.elim
theorem onS.out {H : Hp} {x : V} {F : List V → Prop} (h : onS H x F) : ∃ p xs, x = .ref p ∧ (H p = some (.lst xs) ∨ H p = some (.tup xs)) ∧ F xs := by
  cases x with
  | ref p =>
    cases e : H p with
    | none => simp only [onS, e] at h
    | some o =>
      cases o with
      | lst xs => simp only [onS, e] at h; exact ⟨p, xs, rfl, .inl e, h⟩
      | tup xs => simp only [onS, e] at h; exact ⟨p, xs, rfl, .inr e, h⟩
      | _ => simp only [onS, e] at h
  | _ => exact h.elim
theorem on1.out {vs : List V} {F : V → Prop} (h : on1 vs F) : ∃ x, vs = [x] ∧ F x := by
  match vs, h with
  | [x], h => exact ⟨x, rfl, h⟩
  | [], h => exact h.elim
  | _ :: _ :: _, h => exact h.elim
theorem on2.out {vs : List V} {F : V → V → Prop} (h : on2 vs F) : ∃ x y, vs = [x, y] ∧ F x y := by
  match vs, h with
  | [x, y], h => exact ⟨x, y, rfl, h⟩
  | [], h => exact h.elim
  | [_], h => exact h.elim
  | _ :: _ :: _ :: _, h => exact h.elim
theorem onO.out {α : Type} {o : Option α} {F : α → Prop} (h : onO o F) : ∃ v, o = some v ∧ F v := by
  cases o with
  | none => exact h.elim
  | some v => exact ⟨v, rfl, h⟩
theorem sq_of {K : PySem.W.Frag} {H : Hp} {p : Addr} {xs : List V} (h : H p = some (.lst xs) ∨ H p = some (.tup xs)) : SqL K H p xs ∨ SqT K H p xs := h.imp SqL.of SqT.of
section
variable {X : Cx}
theorem CallR.imp {f : Value} {r r' : List V → Hp → VK → Prop} (h : CallR X f r) (i : ∀ xs H Q, r' xs H Q → r xs H Q) : CallR X f r' := fun pins s σ H xs us Q I rs q => h pins s σ H xs us Q I rs (i _ _ _ q)
theorem OpR.imp {f : Value → Value → Sem Value} {r r' : R2} (h : OpR X f r) (i : ∀ x y H Q, r' x y H Q → r x y H Q) : OpR X f r' := fun pins s σ H x y v u Q I rx ry q => h pins s σ H x y v u Q I rx ry (i _ _ _ _ q)
theorem IxR.imp {r r' : R2} (h : IxR X r) (i : ∀ x y H Q, r' x y H Q → r x y H Q) : IxR X r' := fun value slice pins s σ H x y v u Q I rx ry q => h value slice pins s σ H x y v u Q I rx ry (i _ _ _ _ q)
theorem SlR.imp {r r' : V → Option Int → Option Int → Hp → VK → Prop} (h : SlR X r) (i : ∀ x lo hi H Q, r' x lo hi H Q → r x lo hi H Q) : SlR X r' :=
  fun pins s σ H x v vl vu lo hi sl Q I rx hs pl pu q => h pins s σ H x v vl vu lo hi sl Q I rx hs pl pu (i _ _ _ _ _ q)
theorem MtR.imp {id : String} {r r' : V → List V → Hp → VK → Prop} (h : MtR X id r) (i : ∀ x vs H Q, r' x vs H Q → r x vs H Q) : MtR X id r' := fun pins s σ H x xs v us Q I rx rs q => h pins s σ H x xs v us Q I rx rs (i _ _ _ _ q)
noncomputable def rII (f : Int → Int → V) : R2 := fun x y H Q => onI x fun i => onI y fun j => Q (f i j) H
theorem rII.ok {f : Int → Int → V} {x y : V} {H : Hp} {Q : VK} (h : rII f x y H Q) : rI0 f x y H Q := by
  obtain ⟨i, rfl, h1⟩ := onI.out h
  obtain ⟨j, rfl, h2⟩ := onI.out h1
  exact ⟨i, j, rfl, rfl, h2⟩
noncomputable def rIC (C : Int → Int → Prop) (f : Int → Int → V) : R2 := fun x y H Q => onI x fun i => onI y fun j => C i j ∧ Q (f i j) H
theorem rIC.ok {C : Int → Int → Prop} {f : Int → Int → V} {x y : V} {H : Hp} {Q : VK} (h : rIC C f x y H Q) : rI C f x y H Q := by
  obtain ⟨i, rfl, h1⟩ := onI.out h
  obtain ⟨j, rfl, h2⟩ := onI.out h1
  exact ⟨i, j, rfl, rfl, h2⟩
noncomputable def rPlus : R2 := fun x y H Q => match x with
  | .int i => onI y fun j => Q (.int (i + j)) H
  | _ => onL H x fun _ xs => onL H y fun _ ys => xs.length + ys.length ≤ sizeLine ∧ new H (.lst (xs ++ ys)) Q
theorem f_add : OpR X (binaryOp .Add) rPlus := (op_add.or op_cat).imp fun x y H Q h => by
  cases x with
  | int i =>
    obtain ⟨j, rfl, h1⟩ := onI.out (x := y) h
    exact .inl ⟨i, j, rfl, rfl, h1⟩
  | ref a =>
    have h0 : onL H (.ref a) fun _ xs => onL H y fun _ ys => xs.length + ys.length ≤ sizeLine ∧ new H (.lst (xs ++ ys)) Q := h
    obtain ⟨p, xs, e, hp, h2⟩ := onL.out h0
    obtain ⟨q, ys, rfl, hq, hz, h3⟩ := onL.out h2
    exact .inr ⟨p, q, xs, ys, e, rfl, hp, hq, hz, h3⟩
  | _ => exact h.elim
theorem f_sub : OpR X (binaryOp .Sub) (rII fun i j => .int (i - j)) := op_sub.imp fun _ _ _ _ h => h.ok
theorem f_fdiv : OpR X (binaryOp .FloorDiv) (rIC CDiv fun i j => .int (i / j)) := op_fdiv.imp fun _ _ _ _ h => h.ok
theorem f_mod : OpR X (binaryOp .Mod) (rIC (fun _ j => 0 < j) fun i j => .int (i % j)) := op_mod.imp fun _ _ _ _ h => h.ok
theorem f_pow : OpR X (binaryOp .Pow) (rIC CPow fun i j => .int (i ^ j.toNat)) := op_pow.imp fun _ _ _ _ h => h.ok
theorem f_lt : OpR X (compareOp .Lt) (rII fun i j => .bl (decide (i < j))) := op_lt.imp fun _ _ _ _ h => h.ok
theorem f_gt : OpR X (compareOp .Gt) (rII fun i j => .bl (decide (j < i))) := op_gt.imp fun _ _ _ _ h => h.ok
theorem f_ge : OpR X (compareOp .GtE) (rII fun i j => .bl (decide (j ≤ i))) := op_ge.imp fun _ _ _ _ h => h.ok
noncomputable def rNeg : V → Hp → VK → Prop := fun x H Q => onI x fun i => Q (.int (-i)) H
theorem f_neg : UnR X (unaryOp .USub) rNeg := fun pins s σ H x v Q I rx h => by
  obtain ⟨i, rfl, h1⟩ := onI.out h
  exact un_neg pins s σ H _ v Q I rx ⟨i, rfl, h1⟩
noncomputable def rLen : List V → Hp → VK → Prop := fun vs H Q => on1 vs fun x => onS H x fun ys => Q (.int ys.length) H
theorem f_len : CallR X (.builtin "len") rLen := call_len_seq.imp fun vs H Q h => by
  obtain ⟨x, rfl, h1⟩ := on1.out h
  obtain ⟨p, ys, rfl, hp, h2⟩ := onS.out h1
  exact ⟨p, ys, rfl, sq_of hp, h2⟩
noncomputable def rIxF : R2 := fun x y H Q => onI y fun i => onS H x fun xs => onO (atI xs i) fun v => Q v H
theorem f_ix : IxR X rIxF := (ix_list.or ix_tup).imp fun x y H Q h => by
  obtain ⟨i, rfl, h1⟩ := onI.out h
  obtain ⟨p, xs, rfl, hp, h2⟩ := onS.out h1
  obtain ⟨v, e, h3⟩ := onO.out h2
  rcases hp with hp | hp
  · exact .inl ⟨p, xs, i, v, rfl, rfl, SqL.of hp, e, h3⟩
  · exact .inr ⟨p, xs, i, v, rfl, rfl, SqT.of hp, e, h3⟩
noncomputable def rSlF : V → Option Int → Option Int → Hp → VK → Prop := fun x lo hi H Q => onL H x fun _ xs => new H (.lst (cutV xs lo hi)) Q
theorem f_sl : SlR X rSlF := sl_list.imp fun x lo hi H Q h => by
  obtain ⟨p, xs, rfl, hp, h1⟩ := onL.out h
  exact ⟨p, xs, rfl, SqL.of hp, h1⟩
noncomputable def rListF : List V → Hp → VK → Prop := fun vs H Q => on1 vs fun x => onS H x fun ys => new H (.lst ys) Q
theorem f_list : CallR X (.type "list") rListF := call_list_of.imp fun vs H Q h => by
  obtain ⟨x, rfl, h1⟩ := on1.out h
  obtain ⟨p, ys, rfl, hp, h2⟩ := onS.out h1
  exact ⟨p, ys, rfl, sq_of hp, h2⟩
noncomputable def rIsN : R2 := fun x y H Q => y = .non ∧ Q (.bl (decide (x = .non))) H
noncomputable def rNotN : R2 := fun x y H Q => y = .non ∧ Q (.bl (!decide (x = .non))) H
theorem f_isN : OpR X (compareOp .Is) rIsN := op_isN
theorem f_notN : OpR X (compareOp .IsNot) rNotN := op_notN
noncomputable def tML (r : V → List V → Hp → VK → Prop) (to : TE) (t : TA) : TE := fun σ H Q => to σ H fun x H1 => onL H1 x fun _ _ => t σ H1 fun vs H2 => r x vs H2 Q
noncomputable def tML0 (r : V → List V → Hp → VK → Prop) (to : TE) : TE := fun σ H Q => to σ H fun x H1 => onL H1 x fun _ _ => r x [] H1 Q
theorem pe_ml {o e : Expr} {es : List Expr} {to : TE} {t : TA} {name : Str} {apos cpos : Pos} {id : String} {r : V → List V → Hp → VK → Prop}
    (slot : Slot "list" name id) (hty : typeOf (.builtin id) = pure (.type "method_descriptor")) (hm : MtR X id r) (ho : PE X o to) (ha : PA X (e :: es) t)
    (hbase : attributeBase o name X.env (eval o X.env) = eval o X.env := by rfl)
    (hfew : ((backTo cpos (starEach (e :: es) X.env)).all (fun x => !x.1) && (backToKw cpos (keywordEach [] X.env)).all (fun x => x.1.isSome)
      && decide ((e :: es).length + ([] : List Keyword).length + (if ([] : List Keyword).isEmpty then 0 else 1) < 30)) = true := by rfl)
    (hline : (apos.endLine == cpos.line) = true := by rfl) (hs : starEach (e :: es) X.env = (false, eval e X.env) :: starEach es X.env := by rfl) (hplain : (backTo cpos (starEach es X.env)).any (·.1) = false := by rfl) :
    PE X (.Call (.Attribute o name apos) (e :: es) [] cpos) (tML r to t) := by
  intro pins s σ H Q I h
  refine wpAny_Call_method_late hbase hfew hline rfl (thn (ho pins s σ H _ I h) fun v s1 hh34 => ?_)
  obtain ⟨x, H1, I1, r1, q1⟩ := hh34
  obtain ⟨p, xs, rfl, hp, q1⟩ := onL.out q1
  obtain ⟨h1, h2⟩ := tyV_is (T := "list") I1 r1 (.inl ⟨rfl, xs, SqL.of hp⟩)
  refine ⟨"list", id, PySem.F.plainAttrs_list, slot, hty, h1, h2, ?_⟩
  have hA := ha cpos pins s1 σ H1 _ I1 q1
  rw [hs] at hA ⊢
  refine Calls.callWith_builtin (by show (false || (backTo cpos (starEach es X.env)).any (·.1)) = false; rw [hplain] <;> rfl) (Calls.evalArgs_plain ?_)
  exact thn hA fun us s2 hh => by obtain ⟨vs, H2, I2, r2, q2⟩ := hh; exact hm pins s2 σ H2 _ vs v us Q I2 r1 r2 q2
theorem pe_ml0 {o : Expr} {to : TE} {name : Str} {apos cpos : Pos} {id : String} {r : V → List V → Hp → VK → Prop}
    (slot : Slot "list" name id) (hty : typeOf (.builtin id) = pure (.type "method_descriptor")) (hm : MtR X id r) (ho : PE X o to)
    (hbase : attributeBase o name X.env (eval o X.env) = eval o X.env := by rfl) (hline : (apos.endLine == cpos.line) = true := by rfl) : PE X (.Call (.Attribute o name apos) [] [] cpos) (tML0 r to) := by
  intro pins s σ H Q I h
  refine wpAny_Call_method0_late hbase hline (thn (ho pins s σ H _ I h) fun v s1 hh35 => ?_)
  obtain ⟨x, H1, I1, r1, q1⟩ := hh35
  obtain ⟨p, xs, rfl, hp, q1⟩ := onL.out q1
  obtain ⟨h1, h2⟩ := tyV_is (T := "list") I1 r1 (.inl ⟨rfl, xs, SqL.of hp⟩)
  exact ⟨"list", id, PySem.F.plainAttrs_list, slot, hty, h1, h2, Calls.callWith_builtin rfl (PySem.evalArgs_none (hm pins s1 σ H1 _ [] v [] Q I1 r1 .nil q1))⟩
noncomputable def rAppF : V → List V → Hp → VK → Prop := fun x vs H Q => on1 vs fun y => onL H x fun l xs => xs.length < sizeLine ∧ Q .non (upd H l (.lst (xs ++ [y])))
theorem f_append : MtR X "list.append" rAppF := MtR.imp (show MtR X "list.append" rAppend from mt_append) fun x vs H Q h => by
  obtain ⟨y, rfl, h1⟩ := on1.out h
  obtain ⟨l, xs, rfl, hp, hz, h2⟩ := onL.out h1
  exact ⟨l, xs, y, rfl, rfl, hp, hz, h2⟩
noncomputable def rExtF : V → List V → Hp → VK → Prop := fun x vs H Q => on1 vs fun y => onL H x fun l xs => onL H y fun _ zs => xs.length + zs.length ≤ sizeLine ∧ Q .non (upd H l (.lst (xs ++ zs)))
theorem f_extend : MtR X "list.extend" rExtF := MtR.imp (show MtR X "list.extend" rExtend from mt_extend) fun x vs H Q h => by
  obtain ⟨y, rfl, h1⟩ := on1.out h
  obtain ⟨l, xs, rfl, hp, h2⟩ := onL.out h1
  obtain ⟨b, zs, rfl, hb, hz, h3⟩ := onL.out h2
  exact ⟨l, b, xs, zs, rfl, rfl, hp, hb, hz, h3⟩
noncomputable def rPopF : V → List V → Hp → VK → Prop := fun x vs H Q => vs = [] ∧ onL H x fun l xs => onO xs[xs.length - 1]? fun y => Q y (upd H l (.lst xs.dropLast))
theorem f_pop : MtR X "list.pop" rPopF := MtR.imp (show MtR X "list.pop" rPop from mt_pop) fun x vs H Q h => by
  obtain ⟨rfl, h⟩ := h
  obtain ⟨l, xs, rfl, hp, h1⟩ := onL.out h
  obtain ⟨y, e, h2⟩ := onO.out h1
  exact ⟨l, xs, y, rfl, rfl, hp, e, h2⟩
noncomputable def rPopAtF : V → List V → Hp → VK → Prop := fun x vs H Q => on1 vs fun y => onI y fun i => onL H x fun l xs => (0 ≤ i ∧ i < xs.length) ∧ onO xs[i.toNat]? fun y => Q y (upd H l (.lst (xs.eraseIdx i.toNat)))
noncomputable def rInsF : V → List V → Hp → VK → Prop := fun x vs H Q => on2 vs fun k y => onI k fun i => onL H x fun l xs => (0 ≤ i ∧ i ≤ xs.length ∧ xs.length < sizeLine) ∧ Q .non (upd H l (.lst (xs.take i.toNat ++ y :: xs.drop i.toNat)))
theorem f_insert : MtR X "list.insert" rInsF := by
  intro pins s σ H x vs v us Q I rx rv h
  obtain ⟨k, y, rfl, h1⟩ := on2.out h
  obtain ⟨i, rfl, h2⟩ := onI.out h1
  obtain ⟨l, xs, rfl, hH, ⟨h0, h1, hz⟩, q⟩ := onL.out h2
  cases rx
  obtain ⟨u, w, rfl, ru, rw'⟩ := rv.two
  obtain ⟨t, rfl⟩ := ru
  obtain ⟨z, its, n, r, hl, e⟩ := I.lstM hH
  have hn := line63
  refine call_meets F.slot_list_insert ⟨_, e, rfl⟩ F.entry_list_insert (F.args_list_insert_3 _ _ _) (AutoSeq1.list_insert_list_int_val_1 l its.toArray n i t w (by rw [fitsIndex_both (by trivial) (by trivial)]; decide) (by rw [List.size_toArray]; trivial)) ⟨e, ?_⟩
  refine ⟨.non, _, I.lset (its' := its.take i.toNat ++ w :: its.drop i.toNat) hH e ?_ ((r.take _).append (.cons rw' (r.drop _))) ?_, rfl, q⟩
  · have hm : min i.toNat its.length = i.toNat := by trivial
    simp only [if_neg (show ¬ i < 0 by trivial), List.size_toArray, hm]
    simp
    exact List.take_of_length_le (by simp)
  · simp only [List.length_append, List.length_take, List.length_cons, List.length_drop]
    trivial
end
end L2
namespace L2
open PySem PySem.Spec PyProof.Rows
structure Cal (P : Program) (w : World) (K : PySem.W.Frag) (mg : Str → Option Value) (base : Heap) (k : Nat) (x : Str) (ps : List Str) (sp : Sp) : Prop where
  ex : ∃ (f : Addr) (fd : FuncData), FnOk P w K mg base CX0 k f fd ps sp ∧ mg x = some (.ref f) ∧ PySem.W.keepIn K (.ref f) = true ∧ Binds K fd ps []
noncomputable def tCl (sp : Sp) (t : TA) : TE := fun σ H Q => t σ H fun vs H1 => sp vs H1 Q E0
section
variable {X : Cx}
theorem pe_cl {k : Nat} {x : Str} {ps : List Str} {sp : Sp} {p pos : Pos} {e : Expr} {es : List Expr} {t : TA} (C : Cal X.prog X.w X.K X.mg X.base k x ps sp) (hr : Room k X.A) (hg : Gl X x) (ha : PA X (e :: es) t)
    (hdb : (x == ("__debug__" : Str)) = false := by decide) (he : starEach (e :: es) X.env = (false, eval e X.env) :: starEach es X.env := by rfl) (hpl : (backTo pos (starEach es X.env)).any (·.1) = false := by rfl) :
    PE X (.Call (.Name x p) (e :: es) [] pos) (tCl sp t) := by
  obtain ⟨f, fd, F, hm, hk, hb⟩ := C.ex
  have g := pe_call (E := E0) (p := p) (pos := pos) F hr hg hm hk hb (dvs := []) .nil pass0 ha hdb he hpl
  intro pins s σ H Q I h
  refine g pins s σ H Q I ?_
  show t σ H fun vs H1 => sp (vs ++ []) H1 Q E0
  simp only [List.append_nil]
  exact h
structure BtT (mg : Str → Option Value) (x : Str) (T : String) : Prop where
  no : mg x = none
  bt : bootBuiltins x = some (.type T)
  nn : x ≠ "__name__"
  nd : (x == ("__debug__" : Str)) = false
theorem pe_ty {x : Str} {T : String} {pos : Pos} (hg : Gl X x) (h : BtT X.mg x T) : PE X (.Name x pos) (tC (.ty T)) := pe_bltn hg h.no h.bt rfl h.nn h.nd
end
namespace BI
theorem len : bootBuiltins "len" = some (.builtin "len") := by decide +kernel
theorem isinstance : bootBuiltins "isinstance" = some (.builtin "isinstance") := by decide +kernel
theorem min : bootBuiltins "min" = some (.builtin "min") := by decide +kernel
theorem max : bootBuiltins "max" = some (.builtin "max") := by decide +kernel
theorem sum : bootBuiltins "sum" = some (.builtin "sum") := by decide +kernel
theorem all : bootBuiltins "all" = some (.builtin "all") := by decide +kernel
theorem sorted : bootBuiltins "sorted" = some (.builtin "sorted") := by decide +kernel
theorem list : bootBuiltins "list" = some (.type "list") := by decide +kernel
theorem set : bootBuiltins "set" = some (.type "set") := by decide +kernel
theorem bool : bootBuiltins "bool" = some (.type "bool") := by decide +kernel
end BI
structure Bl (mg : Str → Option Value) : Prop where
  len : mg "len" = none
  range : mg "range" = none
  list : mg "list" = none
  isinstance : mg "isinstance" = none
  min : mg "min" = none
  max : mg "max" = none
  sum : mg "sum" = none
  all : mg "all" = none
  set : mg "set" = none
  sorted : mg "sorted" = none
  enumerate : mg "enumerate" = none
  reversed : mg "reversed" = none
  int : mg "int" = none
  bool : mg "bool" = none
  tuple : mg "tuple" = none
  any : mg "any" = none
  str : mg "str" = none
theorem Bl.b_bool {mg : Str → Option Value} (T : Bl mg) : BtT mg "bool" "bool" := ⟨T.bool, BI.bool, by decide, by decide⟩
noncomputable def tyN (H : Hp) (x : V) : Option String := match x with
  | .non => some "NoneType"
  | .bl _ => some "bool"
  | .int _ => some "int"
  | .ref p => (match H p with | some (.lst _) => some "list" | some (.tup _) => some "tuple" | _ => none)
  | _ => none
noncomputable def isiT (t c : String) : Option Bool :=
  if t = c then some true else if t = "bool" ∧ c = "int" then some true
  else if t ∈ ["NoneType", "bool", "int", "list", "tuple"] ∧ c ∈ ["bool", "int", "list", "tuple"] then some false else none
theorem isiT_ok {K : PySem.W.Frag} {t c : String} {b : Bool} (h : isiT t c = some b) : PySem.W.kitOne K (.type t) (.type c) = some b := by
  unfold isiT at h
  split at h
  · rename_i e; subst e; cases h
    unfold PySem.W.kitOne
    rw [if_pos (by simp)]
  · split at h
    · rename_i e; obtain ⟨rfl, rfl⟩ := e; cases h; rfl
    · split at h
      · rename_i h1 h2 h3
        cases h
        obtain ⟨m1, m2⟩ := h3
        simp only [List.mem_cons, List.not_mem_nil, or_false] at m1 m2
        rcases m1 with rfl | rfl | rfl | rfl | rfl <;> rcases m2 with rfl | rfl | rfl | rfl <;> first | exact absurd rfl h1 | exact absurd ⟨rfl, rfl⟩ h2 | rfl
      · cases h
theorem tyN_ok {K : PySem.W.Frag} {H : Hp} {x : V} {t : String} (h : tyN H x = some t) : TyOf K H x (.type t) := by
  cases x with
  | non => cases h; exact .non
  | bl b => cases h; exact .bl b
  | int i => cases h; exact .int i
  | ref p =>
    cases e : H p with
    | none => simp only [tyN, e] at h; cases h
    | some o =>
      cases o with
      | lst xs => simp only [tyN, e] at h; cases h; exact .lst e
      | tup xs => simp only [tyN, e] at h; cases h; exact .tup e
      | _ => simp only [tyN, e] at h; cases h
  | _ => cases h
noncomputable def rIsi : List V → Hp → VK → Prop := fun vs H Q => on2 vs fun x c => match c with | .ty T => onO (tyN H x) fun t => onO (isiT t T) fun b => Q (.bl b) H | _ => False
section
variable {X : Cx}
theorem f_isi : CallR X (.builtin "isinstance") rIsi := by
  intro pins s σ H xs us Q I r h
  obtain ⟨x, c, rfl, h1⟩ := on2.out h
  cases c with
  | ty T =>
    obtain ⟨t, e1, h2⟩ := onO.out (F := fun t => onO (isiT t T) fun b => Q (.bl b) H) h1
    obtain ⟨b, e2, h3⟩ := onO.out h2
    obtain ⟨u, v, rfl, ru, rv⟩ := r.two
    obtain rfl : v = Value.type T := rv
    exact isinst_ok I ru (tyN_ok e1) (isiT_ok e2) fun tk => ⟨.bl b, H, I.tok tk, rfl, h3⟩
  | _ => exact h1.elim
noncomputable def rSetF : V → V → V → Hp → (Hp → Prop) → Prop := fun o i v H Q => onI i fun k => onL H o fun p xs => (0 ≤ k ∧ k < xs.length) ∧ Q (upd H p (.lst (xs.set k.toNat v)))
theorem PSet.imp {t t' : TSet} (h : PSet X t) (i : ∀ o k v H Q, t' o k v H Q → t o k v H Q) : PSet X t' := fun pins s σ H o k v ov iv u Q I ro ri rv q => h pins s σ H o k v ov iv u Q I ro ri rv (i _ _ _ _ _ q)
theorem ixN_nat {n : Nat} {k : Int} (h0 : 0 ≤ k) (h1 : k < n) : ixN n k = some k.toNat := by
  unfold ixN
  rw [if_pos h0, if_pos h1]
theorem f_set : PSet X rSetF := set_list.imp fun o k v H Q h => by
  obtain ⟨i, rfl, h1⟩ := onI.out h
  obtain ⟨p, xs, rfl, hp, ⟨h0, h1⟩, h2⟩ := onL.out h1
  exact ⟨p, xs, i, i.toNat, rfl, rfl, hp, ixN_nat h0 h1, h2⟩
noncomputable def iL (K : PySem.W.Frag) (tl : TE) : TI := fun σ H R => tl σ H fun x H1 => onL H1 x fun a _ => R (Itl K a) H1
theorem pi_l {tg l : Expr} {tl : TE} (hl : PE X l tl) : PI X tg l (iL X.K tl) := by
  intro pins s σ H R I h
  refine thn (hl pins s σ H _ I h) fun v s1 hh36 => ?_
  obtain ⟨x, H1, I1, r1, q1⟩ := hh36
  obtain ⟨a, xs, e, hq, q⟩ := onL.out q1
  subst e
  cases r1
  obtain ⟨its, rv, p, hz⟩ := I1.list (SqL.of (K := X.K) hq)
  refine wpAny_pyIter_list p.isList ?_
  refine ⟨s1.heap.objs.size, [s1.heap.objs.size], _, _, H1, rfl, I1.kept (t' := s1.toks) fun b o e => Heap.get?_push_of_some _ e, turn_list a _, ⟨_, Heap.get?_push_size _ rfl, rfl, rfl⟩, fun b hb => ?_, q⟩
  have e : b = s1.heap.objs.size := by simpa using hb
  subst e
  exact I1.fpOk (Nat.le_refl _) (I1.hok.fresh (Nat.le_refl _))
noncomputable def tTru (t : TE) : TT := fun σ H Q => t σ H fun x H1 => match x with | .bl b => Q b H1 | _ => onL H1 x fun _ xs => Q (!xs.isEmpty) H1
theorem pt_tru {a : Expr} {ta : TE} (ha : PE X a ta) (he : ∀ whole, isTrue a X.env whole = (do let v ← whole; standAt a.pos; holding [v] (truthy v))) : PT X a (tTru ta) := by
  intro pins s σ H Q I h
  refine isTrue_plain (thn (ha pins s σ H _ I h) fun v s1 ⟨x, H1, I1, r1, q1⟩ => tru_ok pins s1 σ H1 x v Q I1 r1 ?_) (he _)
  cases x with
  | bl b => exact ⟨b, rfl, q1⟩
  | ref p =>
    obtain ⟨p', xs, e, hp, q⟩ := onL.out (x := .ref p) q1
    cases e
    exact ⟨_, .inl ⟨xs, SqL.of hp, rfl⟩, q⟩
  | _ => exact q1.elim
noncomputable def rMin : List V → Hp → VK → Prop := fun vs H Q => on2 vs fun x y => onI x fun i => onI y fun j => Q (.int (if j < i then j else i)) H
theorem f_min (hc : X.calm = true) : CallR X (.builtin "min") rMin := (call_min2 hc).imp fun vs H Q h => by
  obtain ⟨x, y, rfl, h1⟩ := on2.out h
  obtain ⟨i, rfl, h2⟩ := onI.out h1
  obtain ⟨j, rfl, h3⟩ := onI.out h2
  exact ⟨i, j, rfl, h3⟩
end
end L2
namespace L2
open PySem PySem.Spec PyProof.Rows
theorem Same.upd_new {H : Hp} {p : Addr} {o : HO} (h : H p = none) : Same H (upd H p o) := fun b u e => by rw [upd_ne (ne_of_none e h)]; exact e
theorem Same.upd_in {H H' : Hp} {p : Addr} {o : HO} (s : Same H H') (h : H p = none) : Same H (upd H' p o) := fun b u e => by rw [upd_ne (ne_of_none e h)]; exact s b u e
theorem line100 {n : Nat} (h : n ≤ 10000) : n < sizeLine := Nat.lt_of_le_of_lt h (by rw [sizeLine_eq]; decide)
theorem line100' {n : Nat} (h : n ≤ 10000) : n ≤ sizeLine := Nat.le_of_lt (line100 h)
noncomputable def IntsAt (H : Hp) (a : Addr) (xs : List Int) : Prop := H a = some (.lst (xs.map V.int))
noncomputable abbrev RowsL (H : Hp) (as : List Addr) (xss : List (List Int)) : Prop := Paired (fun b xs => H b = some (.lst (xs.map V.int))) as xss
structure RowsAt (H : Hp) (a : Addr) (as : List Addr) (xss : List (List Int)) : Prop where
  top : H a = some (.lst (as.map V.ref))
  row : RowsL H as xss
theorem paired_mono {γ : Type} {f : γ → HO} {H H' : Hp} {as : List Addr} {xss : List γ} (h : Paired (fun b xs => H b = some (f xs)) as xss) (k : ∀ b ∈ as, ∀ o, H b = some o → H' b = some o) : Paired (fun b xs => H' b = some (f xs)) as xss := by
  induction h with
  | nil => exact .nil
  | cons r t ih => exact .cons (k _ List.mem_cons_self _ r) (ih fun b hb => k b (List.mem_cons_of_mem _ hb))
theorem paired_setH {γ : Type} {f : γ → HO} {H : Hp} {as : List Addr} {xss : List γ} (h : Paired (fun b xs => H b = some (f xs)) as xss) : ∀ {i : Nat} {b : Addr} {ys : γ}, as[i]? = some b → as.Nodup → Paired (fun c xs => upd H b (f ys) c = some (f xs)) as (xss.set i ys) := by
  induction h with
  | nil => intro i b ys e; exact nomatch (show (none : Option Addr) = some b from e)
  | @cons a x0 as xss r t ih =>
    intro i b ys e nd
    have nd := List.nodup_cons.mp nd
    cases i with
    | zero =>
      have ea : a = b := Option.some.inj e
      subst ea
      exact .cons upd_same (paired_mono t fun c hc o q => (upd_ne (fun z : c = a => nd.1 (z ▸ hc))).trans q)
    | succ i =>
      have e' : as[i]? = some b := e
      exact .cons ((upd_ne (fun z : a = b => nd.1 (by rw [z]; exact List.mem_of_getElem? e'))).trans r) (ih e' nd.2)
theorem RowsL.mono {H H' : Hp} {as : List Addr} {xss : List (List Int)} (h : RowsL H as xss) (k : ∀ b ∈ as, ∀ o, H b = some o → H' b = some o) : RowsL H' as xss := paired_mono (f := fun (xs : List Int) => HO.lst (xs.map V.int)) h k
theorem RowsL.same {H H' : Hp} {as : List Addr} {xss : List (List Int)} (h : RowsL H as xss) (s : Same H H') : RowsL H' as xss := h.mono fun b _ o e => s b o e
theorem RowsL.len {H : Hp} {as : List Addr} {xss : List (List Int)} (h : RowsL H as xss) : as.length = xss.length := Paired.length h
theorem RowsL.get {H : Hp} {as : List Addr} {xss : List (List Int)} {i : Nat} {xs : List Int} (h : RowsL H as xss) (e : xss[i]? = some xs) : ∃ b, as[i]? = some b ∧ H b = some (.lst (xs.map V.int)) := paired_get (paired_flip h) e
theorem RowsL.get' {H : Hp} {as : List Addr} {xss : List (List Int)} {i : Nat} {b : Addr} (h : RowsL H as xss) (e : as[i]? = some b) : ∃ xs, xss[i]? = some xs ∧ H b = some (.lst (xs.map V.int)) := paired_get h e
theorem RowsL.snoc {H : Hp} {as : List Addr} {xss : List (List Int)} {b : Addr} {xs : List Int} (h : RowsL H as xss) (hb : H b = some (.lst (xs.map V.int))) : RowsL H (as ++ [b]) (xss ++ [xs]) := Paired.snoc h hb
theorem RowsL.set {H : Hp} {as : List Addr} {xss : List (List Int)} {i : Nat} {b : Addr} {ys : List Int} (h : RowsL H as xss) (e : as[i]? = some b) (nd : as.Nodup) : RowsL (upd H b (.lst (ys.map V.int))) as (xss.set i ys) := paired_setH (f := fun (xs : List Int) => HO.lst (xs.map V.int)) h e nd
theorem RowsL.app {H : Hp} {as bs : List Addr} {xss yss : List (List Int)} (h : RowsL H as xss) (h' : RowsL H bs yss) : RowsL H (as ++ bs) (xss ++ yss) := paired_app h h'
theorem map_get {α β : Type} {f : α → β} {xs : List α} {i : Nat} {x : α} (h : xs[i]? = some x) : (xs.map f)[i]? = some (f x) := by rw [List.getElem?_map, h]; rfl
theorem atI_map {α β : Type} {f : α → β} {xs : List α} {i : Int} {x : α} (h0 : 0 ≤ i) (h : xs[i.toNat]? = some x) : atI (xs.map f) i = some (f x) := by
  have := atI_nat (map_get (f := f) h)
  rwa [Int.toNat_of_nonneg h0] at this
structure Fresh (H : Hp) (bs : List Addr) : Prop where
  nd : bs.Nodup
  no : ∀ b ∈ bs, H b = none
structure Yields (J : It) (H : Hp) (xs : List V) : Prop where
  go : ∀ i H' v, Same H H' → xs[i]? = some v → J.go i H' ∧ ∀ u H'', J.yld i H' u H'' → H'' = H' ∧ u = v
  stop : ∀ i H', Same H H' → xs.length ≤ i → J.stop i H'
theorem yields_list {K : PySem.W.Frag} {H : Hp} {a : Addr} {xs : List V} (h : H a = some (.lst xs)) : Yields (Itl K a) H xs where
  go := fun i H' v s e => ⟨⟨xs, v, SqL.of (s a _ h), e⟩, fun u H'' y => ⟨y.1, by
    have := y.2 xs (SqL.of (s a _ h))
    rw [e] at this; cases this; rfl⟩⟩
  stop := fun i H' s hi => ⟨xs, SqL.of (s a _ h), hi⟩
theorem yields_range {H : Hp} {lo : Int} {n : Nat} : Yields (Itr lo n) H ((List.range n).map fun i => V.int (lo + (i : Nat))) where
  go := fun i H' v s e => by
    rw [List.getElem?_map] at e
    have hi : i < n := by
      cases q : (List.range n)[i]? with
      | none => rw [q] at e; cases e
      | some j => have := (List.getElem?_eq_some_iff.mp q).1; simpa using this
    rw [List.getElem?_range hi] at e
    have e' : V.int (lo + (i : Nat)) = v := by simpa using e
    exact ⟨hi, fun u H'' y => ⟨y.1, y.2.trans e'⟩⟩
  stop := fun i H' s hi => by
    have hi' : n ≤ i := by simpa using hi
    exact hi'
theorem comp_pure {J : It} {H : Hp} {xs : List V} {cp : List Nat} {σ : St} {tt : TT} {te : TE} {Q : VK} (Y : Yields J H xs) (p : V → Bool) (f : V → V) (hz : xs.length ≤ 10000)
    (ht : ∀ v ∈ xs, ∀ H', Same H H' → ∀ R : Bool → Hp → Prop, R (p v) H' → tt (cst cp σ (some v)) H' R) (he : ∀ v ∈ xs, p v = true → ∀ H', Same H H' → ∀ R : VK, R (f v) H' → te (cst cp σ (some v)) H' R)
    (hQ : ∀ D, H D = none → Q (.ref D) (upd H D (.lst ((xs.filter p).map f)))) :
    ∀ D, H D = none → ∃ W : Nat → Nat → Hp → Prop, (∃ m, W 0 m (upd H D (.lst []))) ∧ ∀ i m H, W i m H →
      (J.stop i H ∧ Q (.ref D) H) ∨ (J.go i H ∧ ∀ v H', J.yld i H v H' → tt (cst cp σ (some v)) H' fun b H2 =>
        if b = true then te (cst cp σ (some v)) H2 fun y H3 => ∃ ys, H3 D = some (.lst ys) ∧ ys.length < sizeLine ∧ ∃ m', m' < m ∧ W (i + 1) m' (upd H3 D (.lst (ys ++ [y])))
        else ∃ m', m' < m ∧ W (i + 1) m' H2) := by
  intro D hD
  refine ⟨fun i m H' => m = xs.length - i ∧ i ≤ xs.length ∧ H' = upd H D (.lst (((xs.take i).filter p).map f)), ⟨xs.length, by simp, Nat.zero_le _, by simp⟩, ?_⟩
  rintro i m H1 ⟨rfl, hi, rfl⟩
  have sm : Same H (upd H D (.lst (((xs.take i).filter p).map f))) := Same.upd_new hD
  by_cases hlt : i < xs.length
  · have e : xs[i]? = some xs[i] := List.getElem?_eq_getElem hlt
    obtain ⟨g, yl⟩ := Y.go i _ _ sm e
    refine .inr ⟨g, fun v H' y => ?_⟩
    obtain ⟨rfl, rfl⟩ := yl v H' y
    have hm : xs[i] ∈ xs := List.getElem_mem hlt
    have tk : xs.take (i + 1) = xs.take i ++ [xs[i]] := by rw [List.take_add_one, e]; rfl
    refine ht _ hm _ sm _ ?_
    by_cases hp : p xs[i] = true
    · rw [if_pos hp]
      refine he _ hm hp _ sm _ ⟨_, upd_same, ?_, xs.length - (i + 1), by trivial, rfl, hlt, ?_⟩
      · have h1 : ((xs.take i).filter p).length ≤ (xs.take i).length := List.length_filter_le _ _
        rw [List.length_take] at h1
        refine line100 ?_
        rw [List.length_map]
        trivial
      · rw [upd_upd, tk, List.filter_append, List.map_append, List.filter_cons, if_pos hp]; rfl
    · rw [if_neg hp]
      refine ⟨xs.length - (i + 1), by trivial, rfl, hlt, ?_⟩
      rw [tk, List.filter_append, List.filter_cons, if_neg hp]; simp
  · have e : i = xs.length := by trivial
    subst e
    refine .inl ⟨Y.stop _ _ sm (Nat.le_refl _), ?_⟩
    have := hQ D hD
    rwa [List.take_length]
theorem comp_rows {J : It} {H : Hp} {xs : List V} {cp : List Nat} {σ : St} {te : TE} {Q : VK} (Y : Yields J H xs) (gs : List (List Int)) (hg : gs.length = xs.length) (hz : xs.length ≤ 10000)
    (he : ∀ (i : Nat) v g, xs[i]? = some v → gs[i]? = some g → ∀ H', Same H H' → ∀ R : VK, (∀ b H'', Same H' H'' → H' b = none → H'' b = some (.lst (g.map V.int)) → R (.ref b) H'') → te (cst cp σ (some v)) H' R)
    (hQ : ∀ D as H', H D = none → Same H H' → RowsAt H' D as gs → Fresh H (D :: as) → Q (.ref D) H') :
    ∀ D, H D = none → ∃ W : Nat → Nat → Hp → Prop, (∃ m, W 0 m (upd H D (.lst []))) ∧ ∀ i m H, W i m H →
      (J.stop i H ∧ Q (.ref D) H) ∨ (J.go i H ∧ ∀ v H', J.yld i H v H' → tNoTest (cst cp σ (some v)) H' fun b H2 =>
        if b = true then te (cst cp σ (some v)) H2 fun y H3 => ∃ ys, H3 D = some (.lst ys) ∧ ys.length < sizeLine ∧ ∃ m', m' < m ∧ W (i + 1) m' (upd H3 D (.lst (ys ++ [y])))
        else ∃ m', m' < m ∧ W (i + 1) m' H2) := by
  intro D hD
  refine ⟨fun i m H' => m = xs.length - i ∧ i ≤ xs.length ∧ Same H H' ∧ ∃ as, RowsAt H' D as (gs.take i) ∧ Fresh H (D :: as), ⟨xs.length, by simp, Nat.zero_le _, Same.upd_new hD, [], ⟨upd_same, by simpa using Paired.nil⟩, ⟨by simp, by simpa using hD⟩⟩, ?_⟩
  rintro i m H1 ⟨rfl, hi, sm, as, ra, fr⟩
  by_cases hlt : i < xs.length
  · have e : xs[i]? = some xs[i] := List.getElem?_eq_getElem hlt
    have hgi : i < gs.length := by rw [hg]; exact hlt
    have eg : gs[i]? = some gs[i] := List.getElem?_eq_getElem hgi
    obtain ⟨g, yl⟩ := Y.go i _ _ sm e
    refine .inr ⟨g, fun v H' y => ?_⟩
    obtain ⟨rfl, rfl⟩ := yl v H' y
    unfold tNoTest
    dsimp only
    rw [if_pos rfl]
    refine he i _ _ e eg _ sm _ fun b H2 s2 hb hb2 => ?_
    have la : as.length = i := by rw [RowsL.len ra.row, List.length_take]; trivial
    have bD : b ≠ D := fun z => by rw [z, ra.top] at hb; cases hb
    have nD : ∀ c ∈ as, c ≠ D := fun c hc z => (List.nodup_cons.mp fr.nd).1 (z ▸ hc)
    have bas : b ∉ as := fun hm => by
      obtain ⟨j, hj⟩ := List.getElem?_of_mem hm
      obtain ⟨ys, _, hy⟩ := RowsL.get' ra.row hj
      rw [hb] at hy; cases hy
    refine ⟨as.map V.ref, s2 _ _ ra.top, line100 (by rw [List.length_map]; trivial), xs.length - (i + 1), by trivial, rfl, hlt, (sm.trans s2).upd_in hD, as ++ [b], ⟨?_, ?_⟩, ?_, ?_⟩
    · rw [upd_same, List.map_append]; rfl
    · rw [List.take_add_one, eg]
      refine RowsL.mono (RowsL.snoc (RowsL.same ra.row s2) hb2) fun c hc o q => ?_
      rw [upd_ne]
      · exact q
      · rcases List.mem_append.mp hc with hc | hc
        · exact nD c hc
        · have : c = b := by simpa using hc
          rw [this]; exact bD
    · refine List.nodup_cons.mpr ⟨fun hm => ?_, ?_⟩
      · rcases List.mem_append.mp hm with hm | hm
        · exact (List.nodup_cons.mp fr.nd).1 hm
        · have e : D = b := by simpa using hm
          exact bD e.symm
      · rw [List.nodup_append]
        refine ⟨(List.nodup_cons.mp fr.nd).2, by simp, fun c hc d hd => ?_⟩
        have : d = b := by simpa using hd
        rw [this]
        exact fun z => bas (z ▸ hc)
    · intro c hc
      rcases List.mem_cons.mp hc with rfl | hc
      · exact hD
      · rcases List.mem_append.mp hc with hc | hc
        · exact fr.no c (List.mem_cons_of_mem _ hc)
        · have : c = b := by simpa using hc
          rw [this]; exact sm.free hb
  · have e : i = xs.length := by trivial
    subst e
    refine .inl ⟨Y.stop _ _ sm (Nat.le_refl _), ?_⟩
    rw [← hg, List.take_length] at ra
    exact hQ D as H1 hD sm ra fr
end L2
namespace L2
open PySem PySem.Spec PyProof.Rows
noncomputable def Itv (K : PySem.W.Frag) (a : Addr) (n : Nat) : It :=
  ⟨fun i H => ∃ xs x, SqL K H a xs ∧ xs.length = n ∧ i < n ∧ xs[n - 1 - i]? = some x, fun i H x H' => H' = H ∧ ∀ xs, SqL K H a xs → xs[n - 1 - i]? = some x, fun i _ => i = n⟩
theorem turn_rev {P : Program} {w : World} {K : PySem.W.Frag} {tg : Expr} (a it : Addr) (n : Nat) : Turn P w K tg (Itv K a n) [it] it (fun i h => h.IsRevIter it a ((n : Int) - 1 - (i : Int))) where
  mem := by simp
  obj := fun i h st b hb => by
    have e : b = it := by simpa using hb
    subst e
    obtain ⟨o, e, c, d⟩ := st
    exact ⟨o, e, fun v z => by rw [d] at z; cases z⟩
  keep := fun i h h' st k => st.at fun o e => k it (by simp) o e
  item := by
    intro X hP hw hK hc i pins s σ H E I hf st hg
    subst hP hw hK
    obtain ⟨xs, x, hq, hn, hi, hx⟩ := hg
    obtain ⟨its, rv, p, hz⟩ := I.list hq
    obtain ⟨u, hu, ru⟩ := rv.get hx
    obtain ⟨f0, f1, f2, f3, f4, f5⟩ := hf it (by simp)
    have ei : (n : Int) - 1 - (i : Int) = ((n - 1 - i : Nat) : Int) := by trivial
    rw [ei] at st
    refine wpAny_pyNext_rev_item st p.isList (x := u) (by simpa using hu) fun h' st' sb => ?_
    have I1 : Inv X pins σ H { s with heap := h' } := I.turned (t' := s.toks) (fun b o hb e => (sb.2 b hb).trans e) f0 f1 f3 f4 f5
    obtain ⟨o, e, c, d⟩ := id st'
    have e2 : ((n - 1 - i : Nat) : Int) - 1 = (n : Int) - 1 - ((i + 1 : Nat) : Int) := by trivial
    rw [e2] at st'
    exact ⟨u, rfl, go_of (s := { s with heap := h' }) e c d (by decide) ⟨x, H, I1, ru, ⟨rfl, fun ys hy => by rw [I.list_inj hy hq]; exact hx⟩, st', fun b hb => (hf b hb).1⟩⟩
  done := by
    intro X hP hw hK hc i pins s σ H E I hf st hg
    subst hP hw hK
    have hi : i = n := hg
    subst hi
    obtain ⟨f0, f1, f2, f3, f4, f5⟩ := hf it (by simp)
    have e : (i : Int) - 1 - (i : Int) = -1 := by trivial
    rw [e] at st
    exact wpAny_pyNext_rev_end (I.ok.hd hc) st fun h' eb => ⟨rfl, I.turned (t' := s.toks) (fun b o hb e => eb b o hb e) f0 f1 f3 f4 f5⟩
  self := fun _ _ _ _ _ st h => wpAny_pyIter_revIter st h
section
variable {X : Cx} {tg : Expr}
noncomputable def iRev (K : PySem.W.Frag) (ta : TA) : TI := fun σ H R => ta σ H fun vs H1 => on1 vs fun x => onL H1 x fun a xs => R (Itv K a xs.length) H1
theorem pi_rev {a : Expr} {ta : TA} {p pos : Pos} (hg : Gl X "reversed") (hm : X.mg "reversed" = none) (ha : PA X [a] ta) (hs : starEach [a] X.env = [(false, eval a X.env)] := by rfl) : PI X tg (.Call (.Name "reversed" p) [a] [] pos) (iRev X.K ta) := by
  intro pins s σ H R I h
  refine Call_ (ld_blt I hg hm boot_reversed (PyProof.Rows.callWith_type1 (thn (ha pos pins s σ H _ I h) fun us s1 hh37 => ?_) hs rfl))
  obtain ⟨vs, H1, I1, r1, q1⟩ := hh37
  obtain ⟨x, rfl, q1⟩ := on1.out q1
  obtain ⟨l, xs, rfl, hl, q⟩ := onL.out q1
  obtain ⟨u, rfl, ru⟩ := r1.one
  cases ru
  obtain ⟨its, rv, pl, hz⟩ := I1.list (SqL.of (K := X.K) hl)
  refine call_reversed_list pl.isList ?_
  have en : ((its.toArray.size : Nat) : Int) - 1 = (xs.length : Int) - 1 := by rw [List.size_toArray, rv.length]
  rw [en]
  have st : (s1.heap.push (revObj l ((xs.length : Int) - 1))).IsRevIter s1.heap.objs.size l ((xs.length : Int) - 1 - ((0 : Nat) : Int)) := ⟨_, Heap.get?_push_size _ rfl, rfl, by simp [revObj]⟩
  have I2 : Inv X pins σ H1 { s1 with heap := s1.heap.push (revObj l ((xs.length : Int) - 1)) } := I1.kept (t' := s1.toks) fun b o e => Heap.get?_push_of_some _ e
  refine wpAny_pyIter_revIter (s := { s1 with heap := s1.heap.push (revObj l ((xs.length : Int) - 1)) }) st ?_
  refine ⟨s1.heap.objs.size, [s1.heap.objs.size], _, _, H1, rfl, I2, turn_rev l _ xs.length, st, fun b hb => ?_, q⟩
  have e : b = s1.heap.objs.size := by simpa using hb
  subst e
  exact I1.fpOk (Nat.le_refl _) (I1.hok.fresh (Nat.le_refl _))
theorem for_rev {K : PySem.W.Frag} {a : Addr} {xs : List V} {g : TG} {tb : TS} {D : Ends} {σ : St} {H : Hp} (Pv : Nat → St → Hp → Prop) (h0 : Pv 0 σ H) (hl : ∀ i σ H, i ≤ xs.length → Pv i σ H → SqL K H a xs)
    (hs : ∀ i x σ H, xs.reverse[i]? = some x → Pv i σ H → g x σ H fun σ2 H2 => tb { D with nx := Pv (i + 1), ct := Pv (i + 1), bk := D.nx } σ2 H2) (hd : ∀ σ H, Pv xs.length σ H → D.nx σ H) :
    ∃ W : Nat → Nat → St → Hp → Prop, (∃ m, W 0 m σ H) ∧ ∀ i m σ H, W i m σ H →
      ((Itv K a xs.length).stop i H ∧ D.nx σ H) ∨ ((Itv K a xs.length).go i H ∧ ∃ N : St → Hp → Prop, (∀ σ' H', N σ' H' → ∃ m', m' < m ∧ W (i + 1) m' σ' H') ∧ ∀ x H', (Itv K a xs.length).yld i H x H' → g x σ H' fun σ2 H2 => tb { D with nx := N, ct := N, bk := D.nx } σ2 H2) := by
  refine ⟨fun i m σ H => m = xs.length - i ∧ i ≤ xs.length ∧ Pv i σ H, ⟨xs.length, by simp, Nat.zero_le _, h0⟩, ?_⟩
  rintro i m σ H ⟨rfl, hi, p⟩
  have q := hl i σ H hi p
  by_cases hlt : i < xs.length
  · have hj : xs.length - 1 - i < xs.length := by trivial
    refine .inr ⟨⟨xs, xs[xs.length - 1 - i], q, rfl, hlt, List.getElem?_eq_getElem hj⟩, Pv (i + 1), fun σ' H' p' => ⟨xs.length - (i + 1), by trivial, rfl, hlt, p'⟩, fun x H' y => ?_⟩
    obtain ⟨e, y⟩ := y
    subst e
    refine hs i x σ _ ?_ p
    rw [List.getElem?_reverse hlt]
    exact y xs q
  · have e : i = xs.length := by trivial
    subst e
    exact .inl ⟨rfl, hd σ H p⟩
end
end L2
namespace L2
open PySem PySem.Spec PyProof.Rows
section
variable {t u : TS} {D : Ends} {σ : St} {H : Hp} {Q : VK} {te ta tb : TE} {tA tB' : TT} {R : Bool → Hp → Prop} {g : TG} {r : R2} {S : List V → Hp → Prop} {l : TA}
@[simp] theorem rd_seq : tSeq t u D σ H = t { D with nx := u D } σ H := rfl
@[simp] theorem rd_next : tNext D σ H = D.nx σ H := rfl
@[simp] theorem rd_drop : tDrop te D σ H = te σ H fun _ H1 => D.nx σ H1 := rfl
@[simp] theorem rd_ret : tRet te D σ H = te σ H D.rt := rfl
@[simp] theorem rd_if : tIfS tA t u D σ H = tA σ H fun b H1 => if b = true then t D σ H1 else u D σ H1 := rfl
@[simp] theorem rd_asg : tAsg te g D σ H = te σ H fun x H1 => g x σ H1 D.nx := rfl
@[simp] theorem rd_name {i : Nat} {v : V} {N : St → Hp → Prop} : gName i v σ H N = N (σ.set i (some v)) H := rfl
@[simp] theorem rd_sub {to ti : TE} {ts : TSet} {v : V} {N : St → Hp → Prop} : gSub to ti ts v σ H N = to σ H fun o H1 => ti σ H1 fun i H2 => ts o i v H2 fun H3 => N σ H3 := rfl
theorem rd_var {i : Nat} : tVar i σ H Q = onO (σ[i]?.join) fun v => Q v H := by
  unfold tVar
  cases h : σ[i]? with
  | none => simp [onO]
  | some o => cases o <;> simp [onO]
@[simp] theorem rd_var0 {o : Option V} {σ : St} : tVar 0 (o :: σ) H Q = onO o fun v => Q v H := by rw [rd_var]; rfl
@[simp] theorem rd_varS {i : Nat} {o : Option V} {σ : St} : tVar (i + 1) (o :: σ) H Q = tVar i σ H Q := by rw [rd_var, rd_var]; rfl
@[simp] theorem rd_var1 {o : Option V} {σ : St} : tVar 1 (o :: σ) H Q = tVar 0 σ H Q := rd_varS
@[simp] theorem rd_var2 {o : Option V} {σ : St} : tVar 2 (o :: σ) H Q = tVar 1 σ H Q := rd_varS
@[simp] theorem rd_var3 {o : Option V} {σ : St} : tVar 3 (o :: σ) H Q = tVar 2 σ H Q := rd_varS
@[simp] theorem rd_var4 {o : Option V} {σ : St} : tVar 4 (o :: σ) H Q = tVar 3 σ H Q := rd_varS
@[simp] theorem rd_var5 {o : Option V} {σ : St} : tVar 5 (o :: σ) H Q = tVar 4 σ H Q := rd_varS
@[simp] theorem rd_var6 {o : Option V} {σ : St} : tVar 6 (o :: σ) H Q = tVar 5 σ H Q := rd_varS
@[simp] theorem rd_var7 {o : Option V} {σ : St} : tVar 7 (o :: σ) H Q = tVar 6 σ H Q := rd_varS
@[simp] theorem rd_var8 {o : Option V} {σ : St} : tVar 8 (o :: σ) H Q = tVar 7 σ H Q := rd_varS
@[simp] theorem rd_var9 {o : Option V} {σ : St} : tVar 9 (o :: σ) H Q = tVar 8 σ H Q := rd_varS
@[simp] theorem rd_var10 {o : Option V} {σ : St} : tVar 10 (o :: σ) H Q = tVar 9 σ H Q := rd_varS
@[simp] theorem rd_var11 {o : Option V} {σ : St} : tVar 11 (o :: σ) H Q = tVar 10 σ H Q := rd_varS
@[simp] theorem rd_onO {α : Type} {v : α} {F : α → Prop} : onO (some v) F = F v := rfl
@[simp] theorem rd_onI {i : Int} {F : Int → Prop} : onI (.int i) F = F i := rfl
@[simp] theorem rd_onB {i : Bool} {F : Bool → Prop} : onB (.bl i) F = F i := rfl
@[simp] theorem rd_on1 {x : V} {F : V → Prop} : on1 [x] F = F x := rfl
@[simp] theorem rd_on2 {x y : V} {F : V → V → Prop} : on2 [x, y] F = F x y := rfl
theorem onL_of {p : Addr} {xs : List V} {F : Addr → List V → Prop} (h : H p = some (.lst xs)) : onL H (.ref p) F = F p xs := by simp only [onL, h]
theorem onS_of {p : Addr} {xs : List V} {F : List V → Prop} (h : H p = some (.lst xs)) : onS H (.ref p) F = F xs := by simp only [onS, h]
theorem onS_ofT {p : Addr} {xs : List V} {F : List V → Prop} (h : H p = some (.tup xs)) : onS H (.ref p) F = F xs := by simp only [onS, h]
@[simp] theorem rd_c {v : V} : tC v σ H Q = Q v H := rfl
@[simp] theorem rd_op : tOp r ta tb σ H Q = ta σ H fun x H1 => tb σ H1 fun y H2 => r x y H2 Q := rfl
@[simp] theorem rd_un {f : V → Hp → VK → Prop} : tUn f ta σ H Q = ta σ H fun x H1 => f x H1 Q := rfl
@[simp] theorem rd_test : tTest te σ H R = te σ H fun x H' => onB x fun k => R k H' := by
  show (te σ H fun x H' => ∃ k, x = .bl k ∧ R k H') = _
  congr; funext x H'
  cases x <;> simp [onB]
@[simp] theorem rd_tB : tB te σ H R = te σ H fun x H' => onB x fun k => R k H' := by
  show (te σ H fun x H' => ∃ k, x = .bl k ∧ R k H') = _
  congr; funext x H'
  cases x <;> simp [onB]
@[simp] theorem rd_and : tAnd tA tB' σ H R = tA σ H fun c H1 => if c = true then tB' σ H1 R else R false H1 := rfl
@[simp] theorem rd_or : tOr tA tB' σ H R = tA σ H fun c H1 => if c = true then R true H1 else tB' σ H1 R := rfl
@[simp] theorem rd_not : tNot tA σ H R = tA σ H fun c H1 => R (!c) H1 := rfl
@[simp] theorem rd_andV : tAndV ta tb σ H Q = ta σ H fun x H1 => onB x fun c => if c = true then tb σ H1 Q else Q (.bl false) H1 := by
  show (ta σ H fun x H' => ∃ k, x = .bl k ∧ _) = _
  congr; funext x H'
  cases x <;> simp [onB]
@[simp] theorem rd_orV : tOrV ta tb σ H Q = ta σ H fun x H1 => onB x fun c => if c = true then Q (.bl true) H1 else tb σ H1 Q := by
  show (ta σ H fun x H' => ∃ k, x = .bl k ∧ _) = _
  congr; funext x H'
  cases x <;> simp [onB]
@[simp] theorem rd_notV : tNotV ta σ H Q = ta σ H fun x H1 => onB x fun c => Q (.bl (!c)) H1 := by
  show (ta σ H fun x H' => ∃ k, x = .bl k ∧ _) = _
  congr; funext x H'
  cases x <;> simp [onB]
@[simp] theorem rd_ifE : tIf tA ta tb σ H Q = tA σ H fun c H1 => if c = true then ta σ H1 Q else tb σ H1 Q := rfl
@[simp] theorem rd_nil : tNil σ H S = S [] H := rfl
@[simp] theorem rd_cons : tCons ta l σ H S = ta σ H fun x H1 => l σ H1 fun xs H2 => S (x :: xs) H2 := rfl
@[simp] theorem rd_tup : tTup l σ H Q = l σ H fun xs H1 => xs.length ≤ sizeLine ∧ ∀ p, H1 p = none → Q (.ref p) (upd H1 p (.tup xs)) := rfl
@[simp] theorem rd_lst : tLst l σ H Q = l σ H fun xs H1 => xs.length ≤ sizeLine ∧ ∀ p, H1 p = none → Q (.ref p) (upd H1 p (.lst xs)) := rfl
@[simp] theorem rd_cb {f : List V → Hp → VK → Prop} : tCB f l σ H Q = l σ H fun vs H1 => f vs H1 Q := rfl
@[simp] theorem rd_cl {sp : Sp} : tCl sp l σ H Q = l σ H fun vs H1 => sp vs H1 Q E0 := rfl
@[simp] theorem rd_ml {f : V → List V → Hp → VK → Prop} : tML f ta l σ H Q = ta σ H fun x H1 => onL H1 x fun _ _ => l σ H1 fun vs H2 => f x vs H2 Q := rfl
@[simp] theorem rd_ml0 {f : V → List V → Hp → VK → Prop} : tML0 f ta σ H Q = ta σ H fun x H1 => onL H1 x fun _ _ => f x [] H1 Q := rfl
@[simp] theorem rd_sl {f : V → Option Int → Option Int → Hp → VK → Prop} {tl th : TO} : tSl f ta tl th σ H Q = ta σ H fun x H1 => tl σ H1 fun a H2 => th σ H2 fun b H3 => f x a b H3 Q := rfl
@[simp] theorem rd_nopart {N : Option Int → Hp → Prop} : tNoPart σ H N = N none H := rfl
@[simp] theorem rd_part {N : Option Int → Hp → Prop} : tPart ta σ H N = ta σ H fun x H1 => onI x fun i => N (some i) H1 := by
  show (ta σ H fun x H' => ∃ i, x = .int i ∧ _) = _
  congr; funext x H'
  cases x <;> simp [onI]
@[simp] theorem rd_tru : tTru te σ H R = te σ H fun x H1 => match x with | .bl b => R b H1 | _ => onL H1 x fun _ xs => R (!xs.isEmpty) H1 := rfl
@[simp] theorem rd_II {f : Int → Int → V} {x y : V} : rII f x y H Q = onI x fun i => onI y fun j => Q (f i j) H := rfl
@[simp] theorem rd_IC {C : Int → Int → Prop} {f : Int → Int → V} {x y : V} : rIC C f x y H Q = onI x fun i => onI y fun j => C i j ∧ Q (f i j) H := rfl
@[simp] theorem rd_plusI {i : Int} {y : V} : rPlus (.int i) y H Q = onI y fun j => Q (.int (i + j)) H := rfl
@[simp] theorem rd_plusL {a : Addr} {y : V} : rPlus (.ref a) y H Q = onL H (.ref a) fun _ xs => onL H y fun _ ys => xs.length + ys.length ≤ sizeLine ∧ new H (.lst (xs ++ ys)) Q := rfl
@[simp] theorem rd_neg {x : V} : rNeg x H Q = onI x fun i => Q (.int (-i)) H := rfl
@[simp] theorem rd_len {vs : List V} : rLen vs H Q = on1 vs fun x => onS H x fun ys => Q (.int ys.length) H := rfl
@[simp] theorem rd_ix {x y : V} : rIxF x y H Q = onI y fun i => onS H x fun xs => onO (atI xs i) fun v => Q v H := rfl
@[simp] theorem rd_cut {x : V} {lo hi : Option Int} : rSlF x lo hi H Q = onL H x fun _ xs => new H (.lst (cutV xs lo hi)) Q := rfl
@[simp] theorem rd_list {vs : List V} : rListF vs H Q = on1 vs fun x => onS H x fun ys => new H (.lst ys) Q := rfl
@[simp] theorem rd_app {x : V} {vs : List V} : rAppF x vs H Q = on1 vs fun y => onL H x fun l xs => xs.length < sizeLine ∧ Q .non (upd H l (.lst (xs ++ [y]))) := rfl
@[simp] theorem rd_ext {x : V} {vs : List V} : rExtF x vs H Q = on1 vs fun y => onL H x fun l xs => onL H y fun _ zs => xs.length + zs.length ≤ sizeLine ∧ Q .non (upd H l (.lst (xs ++ zs))) := rfl
@[simp] theorem rd_ins {x : V} {vs : List V} : rInsF x vs H Q = on2 vs fun k y => onI k fun i => onL H x fun l xs => (0 ≤ i ∧ i ≤ xs.length ∧ xs.length < sizeLine) ∧ Q .non (upd H l (.lst (xs.take i.toNat ++ y :: xs.drop i.toNat))) := rfl
@[simp] theorem rd_setF {o i v : V} {N : Hp → Prop} : rSetF o i v H N = onI i fun k => onL H o fun p xs => (0 ≤ k ∧ k < xs.length) ∧ N (upd H p (.lst (xs.set k.toNat v))) := rfl
@[simp] theorem rd_isi {x : V} {T : String} : rIsi [x, .ty T] H Q = onO (tyN H x) fun t => onO (isiT t T) fun b => Q (.bl b) H := rfl
@[simp] theorem rd_min {vs : List V} : rMin vs H Q = on2 vs fun x y => onI x fun i => onI y fun j => Q (.int (if j < i then j else i)) H := rfl
@[simp] theorem rd_iL {K : PySem.W.Frag} {N : It → Hp → Prop} : iL K ta σ H N = ta σ H fun x H1 => onL H1 x fun a _ => N (Itl K a) H1 := rfl
@[simp] theorem rd_rng1 {N : It → Hp → Prop} : iRng1 l σ H N = l σ H fun vs H1 => on1 vs fun x => onI x fun j => (-(2 ^ 62) ≤ j ∧ j < 2 ^ 62) ∧ N (Itr 0 j.toNat) H1 := by
  show (l σ H fun vs H1 => ∃ j : Int, vs = [.int j] ∧ -(2 ^ 62) ≤ j ∧ j < 2 ^ 62 ∧ N (Itr 0 j.toNat) H1) = _
  congr; funext vs H1
  apply propext
  constructor
  · rintro ⟨j, rfl, h1, h2, h3⟩; exact ⟨⟨h1, h2⟩, h3⟩
  · intro h
    obtain ⟨x, rfl, h⟩ := on1.out h
    obtain ⟨j, rfl, ⟨h1, h2⟩, h3⟩ := onI.out h
    exact ⟨j, rfl, h1, h2, h3⟩
@[simp] theorem rd_rev {K : PySem.W.Frag} {N : It → Hp → Prop} : iRev K l σ H N = l σ H fun vs H1 => on1 vs fun x => onL H1 x fun a xs => N (Itv K a xs.length) H1 := rfl
@[simp] theorem rd_new {o : HO} : new H o Q = ∀ p, H p = none → Q (.ref p) (upd H p o) := rfl
@[simp] theorem rd_notest : tNoTest σ H R = R true H := rfl
@[simp] theorem rd_eqI {i j : Int} : rEq (.int i) (.int j) H Q = Q (.bl (decide (i = j))) H := by
  show (true = true ∧ Q (.bl (decide (V.int i = V.int j))) H) = _
  simp
@[simp] theorem rd_neI {i j : Int} : rNe (.int i) (.int j) H Q = Q (.bl (!decide (i = j))) H := by
  show (true = true ∧ Q (.bl (!decide (V.int i = V.int j))) H) = _
  simp
@[simp] theorem rd_isN {x : V} : rIsN x .non H Q = Q (.bl (decide (x = .non))) H := by simp [rIsN]
@[simp] theorem rd_notN {x : V} : rNotN x .non H Q = Q (.bl (!decide (x = .non))) H := by simp [rNotN]
theorem rd_comp {wi : TI} {cp : List Nat} {tt : TT} : tComp wi cp tt te σ H Q = wi σ H fun J H1 => ∀ D, H1 D = none →
  ∃ W : Nat → Nat → Hp → Prop, (∃ m, W 0 m (upd H1 D (.lst []))) ∧ ∀ i m H, W i m H →
    (J.stop i H ∧ Q (.ref D) H) ∨ (J.go i H ∧ ∀ v H', J.yld i H v H' → tt (cst cp σ (some v)) H' fun b H2 =>
      if b = true then te (cst cp σ (some v)) H2 fun y H3 => ∃ ys, H3 D = some (.lst ys) ∧ ys.length < sizeLine ∧ ∃ m', m' < m ∧ W (i + 1) m' (upd H3 D (.lst (ys ++ [y])))
      else ∃ m', m' < m ∧ W (i + 1) m' H2) := rfl
end
theorem comp_listP {K : PySem.W.Frag} {tl : TE} {cp : List Nat} {tt : TT} {te : TE} {σ : St} {H : Hp} {Q : VK} {a : Addr} {xs : List V} (hl : ∀ R : VK, R (.ref a) H → tl σ H R) (h : H a = some (.lst xs)) (p : V → Bool) (f : V → V) (hz : xs.length ≤ 10000)
    (ht : ∀ v ∈ xs, ∀ H', Same H H' → ∀ R : Bool → Hp → Prop, R (p v) H' → tt (cst cp σ (some v)) H' R) (he : ∀ v ∈ xs, p v = true → ∀ H', Same H H' → ∀ R : VK, R (f v) H' → te (cst cp σ (some v)) H' R)
    (hQ : ∀ D, H D = none → Q (.ref D) (upd H D (.lst ((xs.filter p).map f)))) : tComp (iL K tl) cp tt te σ H Q := by
  refine hl _ ?_
  rw [onL_of h]
  exact comp_pure (yields_list h) p f hz ht he hQ
theorem comp_listR {K : PySem.W.Frag} {tl : TE} {cp : List Nat} {te : TE} {σ : St} {H : Hp} {Q : VK} {a : Addr} {xs : List V} (hl : ∀ R : VK, R (.ref a) H → tl σ H R) (h : H a = some (.lst xs)) (gs : List (List Int)) (hg : gs.length = xs.length) (hz : xs.length ≤ 10000)
    (he : ∀ (i : Nat) v g, xs[i]? = some v → gs[i]? = some g → ∀ H', Same H H' → ∀ R : VK, (∀ b H'', Same H' H'' → H' b = none → H'' b = some (.lst (g.map V.int)) → R (.ref b) H'') → te (cst cp σ (some v)) H' R)
    (hQ : ∀ D as H', H D = none → Same H H' → RowsAt H' D as gs → Fresh H (D :: as) → Q (.ref D) H') : tComp (iL K tl) cp tNoTest te σ H Q := by
  refine hl _ ?_
  rw [onL_of h]
  exact comp_rows (yields_list h) gs hg hz he hQ
theorem comp_copy {K : PySem.W.Frag} {tl : TE} {cp : List Nat} {σ : St} {H : Hp} {Q : VK} {a : Addr} {as : List Addr} {xss : List (List Int)} (hl : ∀ R : VK, R (.ref a) H → tl σ H R) (h : RowsAt H a as xss) (hz : xss.length ≤ 10000)
    (hQ : ∀ D bs H', H D = none → Same H H' → RowsAt H' D bs xss → Fresh H (D :: bs) → Q (.ref D) H') : tComp (iL K tl) cp tNoTest (tCB rListF (tCons (tVar 0) tNil)) σ H Q := by
  refine comp_listR hl h.top xss (by rw [List.length_map, h.row.len]) (by rw [List.length_map, h.row.len]; exact hz) (fun i v g e1 e2 H' s R k => ?_) hQ
  rw [List.getElem?_map] at e1
  cases e3 : as[i]? with
  | none => rw [e3] at e1; cases e1
  | some b =>
    rw [e3] at e1
    cases e1
    obtain ⟨xs, e4, hb⟩ := h.row.get' e3
    rw [e2] at e4; cases e4
    simp only [rd_cb, rd_cons, rd_nil, cst, rd_var0, rd_onO, rd_list, rd_on1, onS_of (s _ _ hb), rd_new]
    exact fun p hp => k p _ (Same.upd_new hp) hp upd_same
end L2
namespace L2
open PySem PySem.Spec PyProof.Rows
theorem for_rangeF {wi : TI} {g : TG} {tb : TS} {D : Ends} {σ : St} {H : Hp} (n : Nat) (hn : ∀ N : It → Hp → Prop, N (Itr 0 n) H → wi σ H N) (Pv : Nat → St → Hp → Prop) (h0 : Pv 0 σ H)
    (hs : ∀ i σ H, i < n → Pv i σ H → g (.int (i : Nat)) σ H fun σ2 H2 => tb { D with nx := Pv (i + 1), ct := Pv (i + 1), bk := D.nx } σ2 H2) (hd : ∀ σ H, Pv n σ H → D.nx σ H) : tFor wi g tb D σ H :=
  hn _ (for_range (lo := 0) (n := n) Pv h0 (fun i σ H hi p => by
    have := hs i σ H hi p
    rw [Int.zero_add]; exact this) hd)
theorem for_listF {K : PySem.W.Frag} {wi : TI} {g : TG} {tb : TS} {D : Ends} {σ : St} {H : Hp} (a : Addr) (xs : List V) (hn : ∀ N : It → Hp → Prop, N (Itl K a) H → wi σ H N) (Pv : Nat → St → Hp → Prop) (h0 : Pv 0 σ H) (hl : ∀ i σ H, i ≤ xs.length → Pv i σ H → H a = some (.lst xs))
    (hs : ∀ i x σ H, xs[i]? = some x → Pv i σ H → g x σ H fun σ2 H2 => tb { D with nx := Pv (i + 1), ct := Pv (i + 1), bk := D.nx } σ2 H2) (hd : ∀ σ H, Pv xs.length σ H → D.nx σ H) : tFor wi g tb D σ H :=
  hn _ (for_list (K := K) (a := a) (xs := xs) Pv h0 (fun i σ H hi p => SqL.of (hl i σ H hi p)) hs hd)
theorem for_revF {K : PySem.W.Frag} {wi : TI} {g : TG} {tb : TS} {D : Ends} {σ : St} {H : Hp} (a : Addr) (xs : List V) (hn : ∀ N : It → Hp → Prop, N (Itv K a xs.length) H → wi σ H N) (Pv : Nat → St → Hp → Prop) (h0 : Pv 0 σ H) (hl : ∀ i σ H, i ≤ xs.length → Pv i σ H → H a = some (.lst xs))
    (hs : ∀ i x σ H, xs.reverse[i]? = some x → Pv i σ H → g x σ H fun σ2 H2 => tb { D with nx := Pv (i + 1), ct := Pv (i + 1), bk := D.nx } σ2 H2) (hd : ∀ σ H, Pv xs.length σ H → D.nx σ H) : tFor wi g tb D σ H :=
  hn _ (for_rev (K := K) (a := a) (xs := xs) Pv h0 (fun i σ H hi p => SqL.of (hl i σ H hi p)) hs hd)
theorem while_F {c : TT} {tb : TS} {D : Ends} {σ : St} {H : Hp} (Pv : Nat → St → Hp → Prop) (m : Nat) (h0 : Pv m σ H)
    (hs : ∀ m σ H, Pv m σ H → c σ H fun b H1 => if b = true then tb { D with nx := fun σ' H' => ∃ m', m' < m ∧ Pv m' σ' H', ct := fun σ' H' => ∃ m', m' < m ∧ Pv m' σ' H', bk := D.nx } σ H1 else D.nx σ H1)
    (mono : ∀ (σ : St) (H : Hp) (Q Q' : Bool → Hp → Prop), (∀ b H1, Q b H1 → Q' b H1) → c σ H Q → c σ H Q') : tWhile c tb D σ H := by
  refine ⟨Pv, ⟨m, h0⟩, fun m σ H p => mono σ H _ _ (fun b H1 q => ?_) (hs m σ H p)⟩
  cases b with
  | true => rw [if_pos rfl] at q ⊢; exact ⟨_, fun σ' H' h => h, q⟩
  | false => rw [if_neg Bool.false_ne_true] at q ⊢; exact q
theorem atI_int {xs : List Int} {i : Nat} {x : Int} (h : xs[i]? = some x) : atI (xs.map V.int) (i : Int) = some (.int x) := atI_nat (map_get h)
theorem atI_ref {xs : List Addr} {i : Nat} {x : Addr} (h : xs[i]? = some x) : atI (xs.map V.ref) (i : Int) = some (.ref x) := atI_nat (map_get h)
theorem take_next {α : Type} {xs : List α} {i : Nat} {x : α} (h : xs[i]? = some x) : xs.take (i + 1) = xs.take i ++ [x] := by rw [List.take_add_one, h]; rfl
end L2
namespace L2
open PySem PySem.Spec PyProof.Rows
theorem cut1 {A R : TS} {D : Ends} {σ : St} {H : Hp} (Ps : St → Hp → Prop) (h1 : ∀ R' : TS, (∀ σ' H', Ps σ' H' → R' D σ' H') → tSeq A R' D σ H) (h2 : ∀ σ' H', Ps σ' H' → R D σ' H') : tSeq A R D σ H := h1 R h2
theorem cut2 {A B R : TS} {D : Ends} {σ : St} {H : Hp} (Ps : St → Hp → Prop) (h1 : ∀ R' : TS, (∀ σ' H', Ps σ' H' → R' D σ' H') → tSeq A (tSeq B R') D σ H) (h2 : ∀ σ' H', Ps σ' H' → R D σ' H') : tSeq A (tSeq B R) D σ H := h1 R h2
theorem cut4 {A B C G R : TS} {D : Ends} {σ : St} {H : Hp} (Ps : St → Hp → Prop) (h1 : ∀ R' : TS, (∀ σ' H', Ps σ' H' → R' D σ' H') → tSeq A (tSeq B (tSeq C (tSeq G R'))) D σ H) (h2 : ∀ σ' H', Ps σ' H' → R D σ' H') : tSeq A (tSeq B (tSeq C (tSeq G R))) D σ H := h1 R h2
theorem line3 {n : Nat} (h : n ≤ 10000) : n ≤ sizeLine := line100' h
end L2
namespace L2
open PySem PySem.Spec PyProof.Rows
theorem upd_none {H : Hp} {a b : Addr} {o : HO} (h : upd H a o b = none) : b ≠ a ∧ H b = none := by
  by_cases e : b = a
  · rw [e, upd_same] at h; cases h
  · rw [upd_ne e] at h; exact ⟨e, h⟩
theorem RowsL.notin {H : Hp} {as : List Addr} {xss : List (List Int)} {p : Addr} (h : RowsL H as xss) (hp : H p = none) : p ∉ as := fun hm => by
  obtain ⟨j, hj⟩ := List.getElem?_of_mem hm
  obtain ⟨ys, _, hy⟩ := RowsL.get' h hj
  rw [hp] at hy; cases hy
theorem RowsAt.set {H : Hp} {a : Addr} {as : List Addr} {xss : List (List Int)} {i : Nat} {b : Addr} {ys : List Int} (h : RowsAt H a as xss) (e : as[i]? = some b) (nd : (a :: as).Nodup) : RowsAt (upd H b (.lst (ys.map V.int))) a as (xss.set i ys) := by
  have nd' := List.nodup_cons.mp nd
  refine ⟨?_, RowsL.set h.row e nd'.2⟩
  have ne : a ≠ b := fun z => nd'.1 (by rw [z]; exact List.mem_of_getElem? e)
  rw [upd_ne ne]; exact h.top
theorem RowsAt.same {H H' : Hp} {a : Addr} {as : List Addr} {xss : List (List Int)} (h : RowsAt H a as xss) (s : Same H H') : RowsAt H' a as xss := ⟨s _ _ h.top, RowsL.same h.row s⟩
theorem Fresh.sub {H : Hp} {as bs : List Addr} (h : Fresh H as) (s : bs.Sublist as) : Fresh H bs := ⟨h.nd.sublist s, fun b hb => h.no b (s.subset hb)⟩
theorem Fresh.cons {H : Hp} {p : Addr} {as : List Addr} (h : Fresh H as) (hp : H p = none) (hn : p ∉ as) : Fresh H (p :: as) := ⟨List.nodup_cons.mpr ⟨hn, h.nd⟩, fun b hb => by
  rcases List.mem_cons.mp hb with rfl | hb
  · exact hp
  · exact h.no b hb⟩
theorem Fresh.snoc {H : Hp} {p : Addr} {as : List Addr} (h : Fresh H as) (hp : H p = none) (hn : p ∉ as) : Fresh H (as ++ [p]) := ⟨by
  rw [List.nodup_append]
  exact ⟨h.nd, by simp, fun c hc d hd => by
    have : d = p := by simpa using hd
    rw [this]
    exact fun z => hn (z ▸ hc)⟩, fun b hb => by
  rcases List.mem_append.mp hb with hb | hb
  · exact h.no b hb
  · have : b = p := by simpa using hb
    rw [this]; exact hp⟩
theorem Fresh.old {H H' : Hp} {as : List Addr} (h : Fresh H' as) (s : Same H H') : Fresh H as := ⟨h.nd, fun b hb => s.free (h.no b hb)⟩
theorem RowsAt.app {H : Hp} {a p : Addr} {as : List Addr} {xss : List (List Int)} {ys : List Int} (h : RowsL H as xss) (ht : H a = some (.lst (as.map V.ref ++ [V.ref p]))) (hp : H p = some (.lst (ys.map V.int))) : RowsAt H a (as ++ [p]) (xss ++ [ys]) :=
  ⟨by rw [ht, List.map_append]; rfl, RowsL.snoc h hp⟩
end L2
namespace L2
open PySem PySem.Spec PyProof.Rows
theorem Fresh.append {H : Hp} {as bs : List Addr} (ha : Fresh H as) (hb : Fresh H bs) (hd : ∀ c ∈ as, c ∉ bs) : Fresh H (as ++ bs) :=
  ⟨List.nodup_append.mpr ⟨ha.nd, hb.nd, fun a h1 b h2 z => hd a h1 (z ▸ h2)⟩, fun b hb' => (List.mem_append.mp hb').elim (ha.no b) (hb.no b)⟩
theorem RowsAt.out {H : Hp} {a c : Addr} {as : List Addr} {xss : List (List Int)} {o : HO} (h : RowsAt H a as xss) (hc : c ∉ a :: as) : RowsAt (upd H c o) a as xss :=
  ⟨by
    have ne : a ≠ c := fun z => hc (by rw [z]; exact List.mem_cons_self)
    rw [upd_ne ne]; exact h.top, RowsL.mono h.row fun b hb o' e => by
    have ne : b ≠ c := fun z => hc (List.mem_cons_of_mem _ (z ▸ hb))
    rw [upd_ne ne]; exact e⟩
theorem RowsAt.live {H : Hp} {a : Addr} {as : List Addr} {xss : List (List Int)} (h : RowsAt H a as xss) {c : Addr} (hc : c ∈ a :: as) : H c ≠ none := fun z => by
  rcases List.mem_cons.mp hc with rfl | hc
  · rw [h.top] at z; cases z
  · exact RowsL.notin h.row z hc
theorem RowsAt.notin {H : Hp} {a : Addr} {as : List Addr} {xss : List (List Int)} (h : RowsAt H a as xss) {c : Addr} (hc : H c = none) : c ∉ a :: as := fun z => h.live z hc
end L2
namespace L2
open PySem PySem.Spec PyProof.Rows
section
variable {prog : Program} {w : World} {A : Around} {E : Value → Shared → Prop} {s : Shared}
theorem en_item {e it l : Addr} {i : Nat} {c : Int} {items : Array Value} {x old : Value} {Q : Value → Shared → Prop} (he : IsEnum s.heap e it c old) (hit : s.heap.IsListIter it l i) (hl : s.heap.IsList l items) (hx : items[i]? = some x) (hne : e ≠ it)
    (hQ : ∀ h', IsEnumOut h' e it (c + 1) x s.heap.objs.size → h'.IsListIter it l (i + 1) → h'.get? s.heap.objs.size = some { cls := .type "tuple", data := .seq #[.int c s.toks, x] } → h'.objs.size = s.heap.objs.size + 1 →
      (∀ b o, b ≠ e → b ≠ it → s.heap.get? b = some o → h'.get? b = some o) → Q (.ref s.heap.objs.size) { s with heap := h', toks := s.toks + 1 }) :
    wpAny (model prog w) A (Builtin.«enumerate.__next__» ⟨[.ref e], []⟩) (fun fin s' => ∃ v, fin = .done (.ret v) ∧ Q v s') E s := by
  obtain ⟨hp, gn, dr, tk, os⟩ := s
  show wpAny _ _ (field (.ref e) 2 >>= _) _ _ _; refine wpAny_bind (wpAny_field he rfl (x := .ref it) rfl ?_)
  refine wpAny_bind (wpAny_nextOf_list_item hit hl hx fun k1 it1 sb1 => ?_)
  replace sb1 : Heap.SameBut it hp k1 := sb1
  have en1 : IsEnum k1 e it c old := (sb1.2 e hne).trans he
  show wpAny _ _ (field (.ref e) 3 >>= _) _ _ ⟨k1, gn, dr, tk, os⟩; refine wpAny_bind (wpAny_field en1 rfl (x := rawInt c) rfl ?_)
  show wpAny _ _ (field (.ref e) 4 >>= _) _ _ ⟨k1, gn, dr, tk, os⟩; refine wpAny_bind (wpAny_field en1 rfl (x := .none) rfl ?_)
  show wpAny _ _ (mkInt c >>= _) _ _ ⟨k1, gn, dr, tk, os⟩; refine wpAny_bind (wpAny_mkInt ?_)
  show wpAny _ _ (setField (.ref e) 3 (rawInt (c + 1)) >>= _) _ _ ⟨k1, gn, dr, tk + 1, os⟩; refine wpAny_bind (wpAny_setField_rec en1 (by simp) fun k2 en2 sb2 => ?_)
  replace sb2 : Heap.SameBut e k1 k2 := sb2
  replace en2 : IsEnum k2 e it (c + 1) old := en2
  show wpAny _ _ (setField (.ref e) 4 .none >>= _) _ _ ⟨k2, gn, dr, tk + 1, os⟩; refine wpAny_bind (wpAny_setField_rec en2 (by simp) fun k3 en3 sb3 => ?_)
  replace sb3 : Heap.SameBut e k2 k3 := sb3
  replace en3 : IsEnum k3 e it (c + 1) old := en3
  show wpAny _ _ (newTuple [.int c tk, x] >>= _) _ _ ⟨k3, gn, dr, tk + 1, os⟩; refine wpAny_bind (wpAny_newTuple ?_)
  have en4 : IsEnum (k3.push { cls := .type "tuple", data := .seq #[.int c tk, x] }) e it (c + 1) old := Heap.get?_push_of_some _ en3
  generalize hk4 : k3.push { cls := .type "tuple", data := .seq #[.int c tk, x] } = k4 at en4
  have sz3 : k3.objs.size = hp.objs.size := by rw [sb3.1, sb2.1, sb1.1]
  have elt : e < hp.objs.size := Heap.lt_size he
  have tp4 : k4.get? hp.objs.size = some { cls := .type "tuple", data := .seq #[.int c tk, x] } := by rw [← hk4, ← sz3]; exact Heap.get?_push_size _ rfl
  have sz4 : k4.objs.size = hp.objs.size + 1 := by rw [← hk4, Heap.size_push, sz3]
  have kp4 : ∀ b o, b ≠ e → b ≠ it → hp.get? b = some o → k4.get? b = some o := fun b o n1 n2 hb => by rw [← hk4]; exact Heap.get?_push_of_some _ (sb3.extBut b o n1 (sb2.extBut b o n1 (sb1.extBut b o n2 hb)))
  have it4 : k4.IsListIter it l (i + 1) := by rw [← hk4]; obtain ⟨o, ho, r⟩ := (it1.extBut sb2.extBut (Ne.symm hne)).extBut sb3.extBut (Ne.symm hne); exact ⟨o, Heap.get?_push_of_some _ ho, r⟩
  show wpAny _ _ (Builtin.SmallTypes.ownedTupleIsFree (.ref e) >>= _) _ _ ⟨k4, gn, dr, tk + 1, os⟩; rw [sz3]
  clear hk4 en3 sb3 en2 sb2 en1 sb1 it1 sz3 k3 k2 k1; refine wpAny_bind ?_; unfold Builtin.SmallTypes.ownedTupleIsFree
  refine wpAny_bind (wpAny_field en4 rfl (x := .none) rfl (wpAny_pure ?_)); simp only [if_true]; refine wpAny_bind (wpAny_rule ?_)
  refine wpAny_bind (wpAny_field en4 rfl (x := old) rfl ?_); refine wpAny_bind (wpAny_setField_rec en4 (by simp) fun k5 en5 sb5 => ?_)
  replace sb5 : Heap.SameBut e k4 k5 := sb5
  replace en5 : IsEnum k5 e it (c + 1) x := en5
  show wpAny _ _ (Builtin.SmallTypes.ownedTupleHandOut (.ref e) (.ref hp.objs.size) >>= _) _ _ ⟨k5, gn, dr, tk + 1, os⟩; refine wpAny_bind ?_; unfold Builtin.SmallTypes.ownedTupleHandOut
  refine wpAny_bind (wpAny_setField_rec en5 (by simp) fun k6 en6 sb6 => ?_)
  replace sb6 : Heap.SameBut e k5 k6 := sb6
  replace en6 : IsEnumOut k6 e it (c + 1) x hp.objs.size := en6
  refine wpAny_setField_rec en6 (by simp) fun k7 en7 sb7 => ?_
  replace sb7 : Heap.SameBut e k6 k7 := sb7
  replace en7 : IsEnumOut k7 e it (c + 1) x hp.objs.size := en7
  refine wpAny_bind (wpAny_letGo (wpAny_pure ⟨_, rfl, hQ k7 en7 ?_ ?_ ?_ ?_⟩))
  · exact ((it4.extBut sb5.extBut (Ne.symm hne)).extBut sb6.extBut (Ne.symm hne)).extBut sb7.extBut (Ne.symm hne)
  · exact sb7.extBut _ _ (Nat.ne_of_gt elt) (sb6.extBut _ _ (Nat.ne_of_gt elt) (sb5.extBut _ _ (Nat.ne_of_gt elt) tp4))
  · rw [sb7.1, sb6.1, sb5.1, sz4]
  · exact fun b o n1 n2 hb => sb7.extBut b o n1 (sb6.extBut b o n1 (sb5.extBut b o n1 (kp4 b o n1 n2 hb)))
theorem en_next {e it l : Addr} {i : Nat} {c : Int} {items : Array Value} {x old : Value} {Q : Option Value → Shared → Prop} (he : IsEnum s.heap e it c old) (hit : s.heap.IsListIter it l i) (hl : s.heap.IsList l items) (hx : items[i]? = some x) (hne : e ≠ it)
    (hQ : ∀ h', IsEnumOut h' e it (c + 1) x s.heap.objs.size → h'.IsListIter it l (i + 1) → h'.get? s.heap.objs.size = some { cls := .type "tuple", data := .seq #[.int c s.toks, x] } → h'.objs.size = s.heap.objs.size + 1 →
      (∀ b o, b ≠ e → b ≠ it → s.heap.get? b = some o → h'.get? b = some o) → Q (some (.ref s.heap.objs.size)) { s with heap := h', toks := s.toks + 1 }) :
    wpAny (model prog w) A (pyNext (.ref e)) Q E s := by
  have ty : s.TypeIs (.ref e) "enumerate" := ⟨_, he, rfl⟩
  unfold pyNext
  refine wpAny_bind (wpAny_attempt (wpAny_callSpecial?_slot (name := Str.ofString "__next__") ty F.slot_enumerate_next ?_))
  exact wpAny_call_entry F.slot_enumerate_next ty F.entry_enumerate_next (en_item he hit hl hx hne fun h' q1 q2 q3 q4 q5 => wpAny_pure (hQ h' q1 q2 q3 q4 q5)) (F.args_enumerate_next_1 _)
theorem en_end {e it l : Addr} {i : Nat} {c : Int} {items : Array Value} {old : Value} {Q : Option Value → Shared → Prop} (hh : A.handled = none) (he : IsEnum s.heap e it c old) (hit : s.heap.IsListIter it l i) (hl : s.heap.IsList l items) (hx : items[i]? = none)
    (hQ : ∀ h', Heap.ExtBut it s.heap h' → Q none { s with heap := h' }) : wpAny (model prog w) A (pyNext (.ref e)) Q E s := by
  have ty : s.TypeIs (.ref e) "enumerate" := ⟨_, he, rfl⟩
  unfold pyNext
  refine wpAny_bind (wpAny_attempt (wpAny_callSpecial?_slot (name := Str.ofString "__next__") ty F.slot_enumerate_next ?_))
  refine wpAny_call_entry F.slot_enumerate_next ty F.entry_enumerate_next ?_ (F.args_enumerate_next_1 _)
  show wpAny _ _ (field (.ref e) 2 >>= _) _ _ _; refine wpAny_bind (wpAny_field he rfl (x := .ref it) rfl ?_)
  refine wpAny_bind (wpAny_nextOf_list_end hh hit hl hx fun h' y eb ey => ?_)
  obtain ⟨o, ho, hc⟩ := ey
  refine wpAny_bind (wpAny_isInstance (T := "StopIteration") (b := true) ⟨o, ho, hc⟩ isSubtype_stop ?_); exact wpAny_pure (hQ _ eb)
end
noncomputable def Ite (K : PySem.W.Frag) (a : Addr) (c : Int) : It :=
  ⟨fun i H => ∃ xs x, SqL K H a xs ∧ xs[i]? = some x, fun i H v H' => ∃ p x, v = .ref p ∧ H p = none ∧ H' = upd H p (.tup [.int (c + i), x]) ∧ ∀ xs, SqL K H a xs → xs[i]? = some x, fun i H => ∃ xs, SqL K H a xs ∧ xs.length ≤ i⟩
theorem turn_enum {P : Program} {w : World} {K : PySem.W.Frag} {elts : List Expr} {x1} {pos : Pos} (a e it : Addr) (c : Int) (hne : e ≠ it) :
    Turn P w K (.Tuple elts x1 pos) (Ite K a c) [e, it] e (fun i h => (∃ old, IsEnum h e it (c + (i : Nat)) old) ∧ h.IsListIter it a i) where
  mem := by simp
  obj := fun i h st b hb => by
    obtain ⟨⟨old, en⟩, li⟩ := st
    rcases List.mem_cons.mp hb with rfl | hb
    · exact ⟨_, en, fun v z => by
        have z' : Data.fields _ = Data.cell v := z
        cases z'⟩
    · have e : b = it := by simpa using hb
      subst e
      obtain ⟨o, e, _, d⟩ := li
      exact ⟨o, e, fun v z => by rw [d] at z; cases z⟩
  keep := fun i h h' st k => ⟨st.1.imp fun old en => k e (by simp) _ en, st.2.at fun o eo => k it (by simp) o eo⟩
  item := by
    intro X hP hw hK hc i pins s σ H E I hf st hg
    subst hP hw hK
    obtain ⟨⟨old, en⟩, li⟩ := st
    obtain ⟨xs, x, hq, hx⟩ := hg
    obtain ⟨its, rv, p, hz⟩ := I.list hq
    obtain ⟨u, hu, ru⟩ := rv.get hx
    obtain ⟨f0, f1, f2, f3, f4, f5⟩ := hf e (by simp)
    obtain ⟨g0, g1, g2, g3, g4, g5⟩ := hf it (by simp)
    refine en_next en li p.isList (x := u) (by simpa using hu) hne fun h' eo li' tp sz kp => ⟨_, rfl, ?_⟩
    refine wpAny_letOwnedTupleGo_enum (s := { s with heap := h', toks := s.toks + 1 }) eo fun h2 en2 sb2 => ?_
    have fr : H s.heap.objs.size = none := I.hok.fresh (Nat.le_refl _)
    have kp2 : ∀ b o, b ≠ e → b ≠ it → s.heap.get? b = some o → h2.get? b = some o := fun b o n1 n2 q => (sb2.2 b n1).trans (kp b o n1 n2 q)
    have elt : e < s.heap.objs.size := Heap.lt_size en
    have I1 : Inv X pins σ (upd H s.heap.objs.size (.tup [.int (c + i), x])) { s with heap := h2, toks := s.toks + 1 } := by
      refine I.step (g' := s.gens) (d' := s.drawn) (ch := [e, it]) (fun b hb => ?_) (fun b o _ _ hc q _ => kp2 b o (fun z => hc (by simp [z])) (fun z => hc (by simp [z])) q) (fun b o _ _ hc q _ => ⟨o.slots, kp2 b o (fun z => hc (by simp [z])) (fun z => hc (by simp [z])) q⟩)
        (fun b o hc q n => by rw [upd_ne (Nat.ne_of_lt (Heap.lt_size q))]; exact n) (fun b o hc q => ⟨o, kp2 b o (fun z => hc (by simp [z])) (fun z => hc (by simp [z])) q⟩)
        (fun b ys q => by rw [upd_ne (ne_of_none q fr)]; exact q) (fun b o ys q => by rw [upd_ne (ne_of_none q fr)]; exact q) (fun b ps q => ⟨#[], by rw [upd_ne (ne_of_none q fr), q]; simp⟩) (fun m hm => ?_) (fun b o q => ?_) I.bare
      · rcases List.mem_cons.mp hb with rfl | hb
        · exact ⟨f3, f1, f4, f5⟩
        · have e' : b = it := by simpa using hb
          subst e'
          exact ⟨g3, g1, g4, g5⟩
      · obtain ⟨o, es, ep, ho, r⟩ := hm
        exact ⟨o, es, ep, kp2 _ o (Ne.symm f1) (Ne.symm g1) ho, r⟩
      · by_cases hb : b = s.heap.objs.size
        · subst hb
          rw [upd_same] at q; cases q
          refine ⟨by show 2 ≤ sizeLine; exact line3 (by decide), [.int (c + i) s.toks, u], .cons ⟨_, rfl⟩ (.cons ru .nil), ?_⟩
          exact ⟨_, (sb2.2 _ (Nat.ne_of_gt elt)).trans tp, rfl, _, rfl⟩
        · rw [upd_ne hb] at q
          refine (I.hok b o q).stay (fun d v hd z => kp2 d v ?_ ?_ z) (fun d z => by rw [upd_ne (ne_of_none z fr)]; exact z) fun d ys z => by rw [upd_ne (ne_of_none z fr)]; exact z
          · rintro rfl
            rcases hd with z | z
            · rw [← z] at q; rw [f0] at q; cases q
            · rw [f0] at z; cases z
          · rintro rfl
            rcases hd with z | z
            · rw [← z] at q; rw [g0] at q; cases q
            · rw [g0] at z; cases z
    have ec : c + (i : Int) + 1 = c + ((i + 1 : Nat) : Int) := by trivial
    rw [ec] at en2
    refine ⟨.ref s.heap.objs.size, _, I1, rfl, ⟨_, x, rfl, fr, rfl, fun ys hy => by rw [I.list_inj hy hq]; exact hx⟩, ⟨⟨_, en2⟩, li'.extBut sb2.extBut (Ne.symm hne)⟩, fun b hb => ?_⟩
    rcases List.mem_cons.mp hb with rfl | hb
    · rw [upd_ne (Nat.ne_of_lt elt)]; exact f0
    · have e' : b = it := by simpa using hb
      subst e'
      obtain ⟨o, eo, _⟩ := li
      rw [upd_ne (Nat.ne_of_lt (Heap.lt_size eo))]; exact g0
  done := by
    intro X hP hw hK hc i pins s σ H E I hf st hg
    subst hP hw hK
    obtain ⟨⟨old, en⟩, li⟩ := st
    obtain ⟨xs, hq, hx⟩ := hg
    obtain ⟨its, rv, p, hz⟩ := I.list hq
    obtain ⟨g0, g1, g2, g3, g4, g5⟩ := hf it (by simp)
    have hl := rv.length
    exact en_end (I.ok.hd hc) en li p.isList (by simp; trivial) fun h' eb => ⟨rfl, I.turned (t' := s.toks) (fun b o hb e => eb b o hb e) g0 g1 g3 g4 g5⟩
  self := fun _ _ _ _ _ st h => let ⟨⟨_, en⟩, _⟩ := st; wpAny_pyIter_enum en h
section
variable {X : Cx} {elts : List Expr} {x1 : _} {tpos : Pos}
theorem en_it {pins : List (Addr × Obj)} {σ : St} {H : Hp} {s : Shared} {R : It → Hp → Prop} {a : Addr} {c : Int} {h' : Heap} {E : Value → Shared → Prop} (I : Inv X pins σ H s)
    (en : IsEnum h' (s.heap.objs.size + 1) s.heap.objs.size c .none) (li : h'.IsListIter s.heap.objs.size a 0) (kp : ∀ b o, s.heap.get? b = some o → h'.get? b = some o) (q : R (Ite X.K a c) H) {tk : Nat} :
    wpAny (model X.prog X.w) X.A (pyIter (.ref (s.heap.objs.size + 1))) (PIE X pins σ (.Tuple elts x1 tpos) R) E { s with heap := h', toks := tk } := by
  refine wpAny_pyIter_enum (s := { s with heap := h', toks := tk }) en ?_
  have I1 : Inv X pins σ H { s with heap := h', toks := tk } := I.kept kp
  refine ⟨s.heap.objs.size + 1, [s.heap.objs.size + 1, s.heap.objs.size], _, _, H, rfl, I1, turn_enum a _ _ c (Nat.succ_ne_self _), ⟨⟨_, by simpa using en⟩, li⟩, fun b hb => ?_, q⟩
  rcases List.mem_cons.mp hb with rfl | hb
  · exact I.fpOk (Nat.le_succ _) (I.hok.fresh (Nat.le_succ _))
  · have e : b = s.heap.objs.size := by simpa using hb
    subst e
    exact I.fpOk (Nat.le_refl _) (I.hok.fresh (Nat.le_refl _))
noncomputable def iEnum (K : PySem.W.Frag) (c : Int) (ta : TA) : TI := fun σ H R => ta σ H fun vs H1 => on1 vs fun x => onL H1 x fun a _ => R (Ite K a c) H1
theorem pi_enum {a : Expr} {ta : TA} {p pos : Pos} (hg : Gl X "enumerate") (hm : X.mg "enumerate" = none) (ha : PA X [a] ta) (hs : starEach [a] X.env = [(false, eval a X.env)] := by rfl) :
    PI X (.Tuple elts x1 tpos) (.Call (.Name "enumerate" p) [a] [] pos) (iEnum X.K 0 ta) := by
  intro pins s σ H R I h
  refine Call_ (ld_blt I hg hm (by decide +kernel : bootBuiltins "enumerate" = some (.type "enumerate")) (PyProof.Rows.callWith_type1 (thn (ha pos pins s σ H _ I h) fun us s1 hh38 => ?_) hs rfl))
  obtain ⟨vs, H1, I1, r1, q1⟩ := hh38
  obtain ⟨x, rfl, q2⟩ := on1.out q1
  obtain ⟨l, xs, rfl, hl, q⟩ := onL.out q2
  obtain ⟨u, rfl, ru⟩ := r1.one
  cases ru
  obtain ⟨its, rv, pl, hz⟩ := I1.list (SqL.of (K := X.K) hl)
  exact call_enumerate_list pl.isList fun h' en li sz kp => en_it (tk := s1.toks) I1 en li kp q
end
end L2
namespace L2
open PySem PySem.Spec PyProof.Rows
noncomputable abbrev kwS (v : Value) : List (Str × Value) := [(Str.ofString "start", v)]
theorem tc_enum1 (a v : Value) : checkTypeCall "enumerate" ⟨[a], kwS v⟩ = pure () := by kernel_rfl
theorem nc_enum1 (a v : Value) : checkBuiltinCall "enumerate.__new__" ⟨[.type "enumerate", a], kwS v⟩ = pure () := by kernel_rfl
theorem ok_init1 (o a v : Value) : argsOk "object.__init__" ⟨[o, a], kwS v⟩ := by unfold argsOk; kernel_rfl
open AutoSeq1 (wpAny_loadPart') in
theorem meets_enum1 (l : Addr) (items : Array Value) (n : Nat) (dct : Option Addr) (sl : Array (Option Value)) (t : Tok) :
    Meets (Builtin.«enumerate.__new__» ⟨[.type "enumerate", .ref l], kwS (.int 1 t)⟩) (fun _ R s => s.heap.get? l = some { cls := .type "list", dict := dct, data := .seq items n, slots := sl } ∧
      R (.ok (.ret (.ref (s.heap.push { cls := .type "list_iterator", data := .fields #[.ref l, .int 0 0] }).objs.size)))
        { s with heap := (s.heap.push { cls := .type "list_iterator", data := .fields #[.ref l, .int 0 0] }).push { cls := .type "enumerate", data := .fields #[.none, .bool false, .ref s.heap.objs.size, rawInt 1, .none, .none] } }) :=
  .of_wp fun prog w A R s h => by
    obtain ⟨hp, g, d, tk, os⟩ := s; obtain ⟨hl, h⟩ := h
    have hsub := sub_enumerate
    have hL : Heap.IsList (Shared.heap ⟨hp, g, d, tk, os⟩) l items := ⟨_, hl, rfl, n, rfl⟩
    have f1 := AutoSeq1.idx_int
    wp_walk using wpAny_loadPart' hl
    refine wpAny_stack_any fun st => wpAny_pure ?_
    split
    · rename_i c _ _ _ _ _
      cases (c == Value.type "enumerate")
      · wp_walk using wpAny_loadPart' hl, wpAny_pyIter_list hL
        exact ⟨_, rfl, h⟩
      · wp_walk using wpAny_loadPart' hl, wpAny_pyIter_list hL
        exact ⟨_, rfl, h⟩
    · wp_walk using wpAny_loadPart' hl, wpAny_pyIter_list hL
      exact ⟨_, rfl, h⟩
section
variable {prog : Program} {w : World} {A : Around} {E : Value → Shared → Prop} {s : Shared}
theorem init_kw {T newId : String} {self a v : Value} (hl : typeLookup (.type T) "__init__" = pure (some (.builtin "object.__init__"))) (hm : Bind.madeBy (.type T) = pure (some newId)) (hne : (some newId != some "object.__new__") = true) :
    Meets (Builtin.«object.__init__» ⟨[self, a], kwS v⟩) (fun _ R s => s.TypeIs self T ∧ R (.ok (.ret .none)) s) := by
  refine Meets.of_wp fun prog w A R s hs => ?_
  obtain ⟨hT, hq⟩ := hs
  repeat (any_goals (first | assumption | wp_step))
  exact ⟨_, rfl, hq⟩
theorem call_enum1 {l : Addr} {items : Array Value} {t : Tok} {Q : Value → Shared → Prop} (hL : s.heap.IsList l items)
    (h : ∀ h', IsEnum h' (s.heap.objs.size + 1) s.heap.objs.size 1 .none → h'.IsListIter s.heap.objs.size l 0 → (∀ b o, s.heap.get? b = some o → h'.get? b = some o) → Q (.ref (s.heap.objs.size + 1)) { s with heap := h' }) :
    wpAny (model prog w) A (call (.type "enumerate") [.ref l] (kwS (.int 1 t))) Q E s := by
  obtain ⟨⟨c, dct, dt, sl⟩, hl, hc, n, hd⟩ := hL
  have hc : c = .type "list" := hc
  have hd : dt = .seq items n := hd
  subst hc hd
  have ft := F.called_enumerate
  obtain ⟨c, tl, hmro⟩ := ft.mro
  have hmade := ft.made
  have hsub := ft.sub
  have h1 := ft.notType
  have h2 := ft.canCreate
  have hct := tc_enum1 (.ref l) (.int 1 t)
  refine wpAny_call (codeAny_of_tree ?_); show wpAny _ _ (callAny (.type "enumerate") _) _ _ _
  refine wpAny_pure ⟨Code.quiet_builtin _ (by decide +kernel), codeAny_builtin F.entry_type_call ?_⟩; rw [Around.under_plain (weight_type_call_type "enumerate" [.ref l] (kwS (.int 1 t))) (units_type_call_type "enumerate" [.ref l] (kwS (.int 1 t)))]
  repeat (any_goals (first | assumption | wp_step))
  have hz : (s.heap.push { cls := .type "list_iterator", data := .fields #[.ref l, .int 0 0] }).objs.size = s.heap.objs.size + 1 := Heap.size_push ..
  have he : IsEnum ((s.heap.push { cls := .type "list_iterator", data := .fields #[.ref l, .int 0 0] }).push { cls := .type "enumerate", data := .fields #[.none, .bool false, .ref s.heap.objs.size, rawInt 1, .none, .none] }) (s.heap.objs.size + 1) s.heap.objs.size 1 .none := by
    have z := Heap.get?_push_size (s.heap.push { cls := .type "list_iterator", data := .fields #[.ref l, .int 0 0] }) (o := { cls := .type "enumerate", data := .fields #[.none, .bool false, .ref s.heap.objs.size, rawInt 1, .none, .none] }) rfl
    rw [hz] at z; exact z
  have hW : wants (fun obj s₁ => s₁.TypeIs obj "enumerate" ∧ Q obj s₁) E (.ok (.ret (.ref (s.heap.push { cls := .type "list_iterator", data := .fields #[.ref l, .int 0 0] }).objs.size)))
      { s with heap := (s.heap.push { cls := .type "list_iterator", data := .fields #[.ref l, .int 0 0] }).push { cls := .type "enumerate", data := .fields #[.none, .bool false, .ref s.heap.objs.size, rawInt 1, .none, .none] } } := by
    show _ ∧ _
    rw [hz]
    exact ⟨⟨_, he, rfl⟩, h _ he ⟨_, Heap.get?_push_of_some _ (Heap.get?_push_size _ rfl), rfl, rfl⟩ fun b o x => Heap.get?_push_of_some _ (Heap.get?_push_of_some _ x)⟩
  refine codeAny_mono (codeAny_call_builtin ft.plain F.entry_enumerate_new (wpAny_of_eq (nc_enum1 (.ref l) (.int 1 t)) (meets_enum1 l items n dct sl t prog w A.in1 _ s ⟨hl, hW⟩))) fun r s₁ hr => ?_
  cases r with
  | error e => exact hr
  | ok fl =>
    cases fl with
    | ret obj =>
      obtain ⟨hT, hq⟩ := hr
      have hli := ft.init.lookup
      have hbi := ft.init.bind obj
      repeat (any_goals (first | assumption | wp_step))
      refine codeAny_mono (codeAny_call_builtin ft.init.plain F.entry_object_init (ft.init.check _ _ _ _ _ _ _ _ hT (ok_init1 obj (.ref l) (.int 1 t)) (init_kw (a := .ref l) (v := .int 1 t) ft.init.lookup ft.made (by decide) prog w A.in1 (wants (fun r s₂ => r = .none ∧ Q obj s₂) E) s₁ ⟨hT, rfl, hq⟩))) fun r₂ s₂ hr₂ => ?_
      cases r₂ with
      | error e => exact hr₂
      | ok fl₂ =>
        cases fl₂ with
        | ret r =>
          obtain ⟨rfl, hq⟩ := hr₂
          repeat (any_goals (first | assumption | wp_step))
        | _ => exact hr₂.elim
    | _ => exact hr.elim
theorem callWith_tkw {M : Model} {pos : Pos} {T : String} {first : List Value} {args : List (Bool × Sem Value)} {keywords : List (Option Str × Sem Value)} {Q : Value → Shared → Prop} (hplain : args.any (·.1) = false) (hkw : keywords.any (·.1.isNone) = false)
    (h : wpAny M A (evalArgs (.type T) true args keywords) (fun a s₁ => wpAny M A (call (.type T) (first ++ a.pos) a.kw) Q E s₁) E s) : wpAny M A (callWith pos (.type T) first args keywords) Q E s := by
  unfold callWith
  refine wpAny_bind (wpAny_holding (wpAny_mono h (fun a s₁ h₁ => wpAny_bind (wpAny_standAt ?_)) fun _ _ x => x)); simp only [hplain, hkw, Bool.or_false]; refine wpAny_bind (wpAny_pure ?_)
  exact wpAny_bind (wpAny_mono h₁ (fun r s₂ hr => wpAny_bind (wpAny_holding (wpAny_point (wpAny_pure hr)))) fun _ _ z => z)
end
section
variable {X : Cx} {elts : List Expr} {x1 : _} {tpos : Pos}
theorem pi_enumK {a : Expr} {ta : TA} {j : _} {p pos cp kp : Pos} (hg : Gl X "enumerate") (hm : X.mg "enumerate" = none) (ha : PA X [a] ta) (hs : starEach [a] X.env = [(false, eval a X.env)] := by rfl) :
    PI X (.Tuple elts x1 tpos) (.Call (.Name "enumerate" p) [a] [⟨some "start", .Constant (.int 1) j cp, kp⟩] pos) (iEnum X.K 1 ta) := by
  intro pins s σ H R I h
  refine wpAny_Call_Name_kw (ld_blt I hg hm (by decide +kernel : bootBuiltins "enumerate" = some (.type "enumerate")) ?_)
  have hsb : backTo pos (starEach [a] X.env) = (false, eval a X.env) :: backTo pos (starEach [] X.env) := by rw [hs]; rfl
  refine callWith_tkw (first := []) (by rw [hs]; rfl) rfl ?_
  have hA := ha pos pins s σ H _ I h
  rw [hs] at hA ⊢
  refine evalArgs_kwB rfl (thn hA fun us s1 hh39 => ?_)
  obtain ⟨vs, H1, I1, r1, q1⟩ := hh39
  refine kws_cons (wpAny_Constant_int (kws_nil ?_))
  obtain ⟨x, rfl, q2⟩ := on1.out q1
  obtain ⟨l, xs, rfl, hl, q⟩ := onL.out q2
  obtain ⟨u, rfl, ru⟩ := r1.one
  cases ru
  have I2 : Inv X pins σ H1 { s1 with toks := s1.toks + 1 } := I1.tok _
  obtain ⟨its, rv, pl, hz⟩ := I2.list (SqL.of (K := X.K) hl)
  exact call_enum1 (s := { s1 with toks := s1.toks + 1 }) pl.isList fun h' en li kp => en_it (s := { s1 with toks := s1.toks + 1 }) (tk := s1.toks + 1) I2 en li kp q
end
theorem for_enumF {K : PySem.W.Frag} {wi : TI} {g : TG} {tb : TS} {D : Ends} {σ : St} {H : Hp} (c : Int) (a : Addr) (xs : List V) (hn : ∀ N : It → Hp → Prop, N (Ite K a c) H → wi σ H N) (Pv : Nat → St → Hp → Prop) (h0 : Pv 0 σ H) (hl : ∀ i σ H, i ≤ xs.length → Pv i σ H → H a = some (.lst xs))
    (hs : ∀ i x σ H p, xs[i]? = some x → Pv i σ H → H p = none → g (.ref p) σ (upd H p (.tup [.int (c + i), x])) fun σ2 H2 => tb { D with nx := Pv (i + 1), ct := Pv (i + 1), bk := D.nx } σ2 H2) (hd : ∀ σ H, Pv xs.length σ H → D.nx σ H) : tFor wi g tb D σ H := by
  refine hn _ ?_
  refine ⟨fun i m σ H => m = xs.length - i ∧ i ≤ xs.length ∧ Pv i σ H, ⟨xs.length, by simp, Nat.zero_le _, h0⟩, ?_⟩
  rintro i m σ H ⟨rfl, hi, p⟩
  have q := hl i σ H hi p
  by_cases hlt : i < xs.length
  · refine .inr ⟨⟨xs, xs[i], SqL.of q, by simp [hlt]⟩, Pv (i + 1), fun σ' H' p' => ⟨xs.length - (i + 1), by trivial, rfl, hlt, p'⟩, fun v H' y => ?_⟩
    obtain ⟨t, x, rfl, ht, rfl, hx⟩ := y
    exact hs i x σ H t (hx xs (SqL.of q)) p ht
  · have e : i = xs.length := by trivial
    subst e
    exact .inl ⟨⟨xs, SqL.of q, Nat.le_refl _⟩, hd σ H p⟩
theorem tup2 {K : PySem.W.Frag} {i j : Nat} {p : Addr} {x y : V} {σ : St} {H : Hp} {N : St → Hp → Prop} (h : H p = some (.tup [x, y])) (q : N ((σ.set i (some x)).set j (some y)) H) : gTup K 2 (gCons (gName i) (gCons (gName j) gNil)) (.ref p) σ H N :=
  ⟨p, [x, y], rfl, SqT.of h, rfl, x, [y], rfl, y, [], rfl, rfl, q⟩
@[simp] theorem rd_enum {K : PySem.W.Frag} {c : Int} {l : TA} {σ : St} {H : Hp} {N : It → Hp → Prop} : iEnum K c l σ H N = l σ H fun vs H1 => on1 vs fun x => onL H1 x fun a _ => N (Ite K a c) H1 := rfl
theorem cut_to {xs : List V} {p : Nat} (h : p ≤ xs.length) : cutV xs none (some (p : Int)) = xs.take p := by
  unfold cutV
  have e1 : HT.sIx xs.length 0 none = 0 := rfl
  have e2 : HT.sIx xs.length xs.length (some (p : Int)) = p := by rw [HT.sIx_nat]; trivial
  rw [e1, e2]; simp
theorem cut_from {xs : List V} {p : Nat} : cutV xs (some (p : Int)) none = xs.drop p := by
  unfold cutV
  have e1 : HT.sIx xs.length xs.length none = xs.length := rfl
  have e2 : HT.sIx xs.length 0 (some (p : Int)) = min p xs.length := HT.sIx_nat _ _ _
  rw [e1, e2]
  by_cases hp : p ≤ xs.length
  · rw [Nat.min_eq_left hp]; exact List.take_of_length_le (by simp)
  · rw [Nat.min_eq_right (by trivial)]; simp
    trivial
end L2
namespace L2
open PySem PySem.Spec PyProof.Rows
noncomputable def sortZ (ns : List Int) : List Int := ns.mergeSort fun a b => decide (a ≤ b)
theorem sortZ_perm (ns : List Int) : (sortZ ns).Perm ns := List.mergeSort_perm _ _
theorem sortZ_le (ns : List Int) : (sortZ ns).Pairwise (· ≤ ·) := by
  have := List.pairwise_mergeSort (le := fun (a b : Int) => decide (a ≤ b)) (fun a b c h1 h2 => by simp at *; trivial) (fun a b => by simp; trivial) ns
  exact this.imp fun h => by simpa using h
theorem sortZ_uniq {ns ms : List Int} (h : ms.Perm ns) (hp : ms.Pairwise (· ≤ ·)) : ms = sortZ ns :=
  List.Perm.eq_of_pairwise (le := (· ≤ ·)) (fun a b _ _ h1 h2 => Int.le_antisymm h1 h2) hp (sortZ_le ns) (h.trans (sortZ_perm ns).symm)
theorem sortZ_len (ns : List Int) : (sortZ ns).length = ns.length := (sortZ_perm ns).length_eq
theorem ints_of_vals {ns : List Int} {us : List Value} (h : Vals (ns.map V.int) us) : IntsAre us ns := by
  induction ns generalizing us with
  | nil => cases h; exact .nil
  | cons n ns ih => cases h with | cons r t => obtain ⟨k, rfl⟩ := r; exact .cons n k (ih t)
theorem ints_items : ∀ {us : List Value} {ns : List Int}, IntsAre us ns → ∃ xs : List (Int × Tok), us.toArray = intItems xs.toArray ∧ xs.map (·.1) = ns
  | _, _, .nil => ⟨[], by simp [intItems], rfl⟩
  | _, _, .cons n t r => by
    obtain ⟨xs, e1, e2⟩ := ints_items r
    refine ⟨(n, t) :: xs, ?_, by simp [e2]⟩
    have e1' := congrArg Array.toList e1
    apply Array.toList_inj.mp
    simp [intItems] at e1' ⊢
    exact e1'
section
variable {X : Cx}
noncomputable def rSorted : List V → Hp → VK → Prop := fun vs H Q => on1 vs fun x => onL H x fun _ xs => ∃ ns : List Int, xs = ns.map V.int ∧ ns.length < 64 ∧ new H (.lst ((sortZ ns).map V.int)) Q
theorem f_sorted : CallR X (.builtin "sorted") rSorted := by
  intro pins s σ H xs us Q I r h
  obtain ⟨x, rfl, h1⟩ := on1.out h
  obtain ⟨p, ys, rfl, hp, ns, rfl, hz, q⟩ := onL.out h1
  obtain ⟨u, rfl, rx⟩ := vals1 r
  cases rx
  obtain ⟨its, r', pl, hz'⟩ := I.list (SqL.of hp)
  have hI := ints_of_vals r'
  have hlen := r'.length
  rw [List.length_map] at hlen
  refine sorted_ints pl.isList hI (by trivial) fun out ns' a1 a2 a3 => ?_
  have e := sortZ_uniq a2 a3
  subst e
  obtain ⟨e, he⟩ := sortedAll_at s.heap its out
  have := sortZ_len ns
  have hs : sizeLine = 16777216 := sizeLine_eq
  exact ⟨.ref (s.heap.objs.size + 1), _, I.laid (t' := s.toks) (fun b o => sortedAll_old) (by trivial) (show ObjOk X.prog X.w _ _ _ (.lst ((sortZ ns).map V.int)) from ⟨by rw [List.length_map]; trivial, out.toList, e, vals_ints a1, he⟩), rfl, q _ (I.hok.fresh (by trivial))⟩
noncomputable def rIndex : V → List V → Hp → VK → Prop := fun x vs H Q => on1 vs fun y => onI y fun k => onL H x fun _ xs => ∃ ns : List Int, xs = ns.map V.int ∧ k ∈ ns ∧ Q (.int (ns.idxOf k : Nat)) H
noncomputable def rMax1 : List V → Hp → VK → Prop := fun vs H Q => on1 vs fun x => onL H x fun _ xs => ∃ ns : List Int, xs = ns.map V.int ∧ ns ≠ [] ∧ ∀ M, M ∈ ns → (∀ a ∈ ns, a ≤ M) → Q (.int M) H
noncomputable def rMin1 : List V → Hp → VK → Prop := fun vs H Q => on1 vs fun x => onL H x fun _ xs => ∃ ns : List Int, xs = ns.map V.int ∧ ns ≠ [] ∧ ∀ M, M ∈ ns → (∀ a ∈ ns, M ≤ a) → Q (.int M) H
theorem f_max1 (hc : X.calm = true) : CallR X (.builtin "max") rMax1 := by
  intro pins s σ H xs us Q I r h
  obtain ⟨x, rfl, h1⟩ := on1.out h
  obtain ⟨p, ys, rfl, hp, ns, rfl, hne, q⟩ := onL.out h1
  obtain ⟨u, rfl, rx⟩ := vals1 r
  cases rx
  obtain ⟨its, r', pl, hz'⟩ := I.list (SqL.of hp)
  obtain ⟨ps, e1, e2⟩ := ints_items (ints_of_vals r')
  have hl := pl.isList
  rw [e1] at hl
  have hps : ps.length = ns.length := by rw [← e2, List.length_map]
  have hpos : 0 < ns.length := List.length_pos_iff.mpr hne
  refine max_intList (I.ok.hd hc) hl (by simpa [hps] using hpos) fun v h' tk hv hk => ?_
  obtain ⟨t, rfl⟩ := intItems_at hv
  obtain ⟨g1, g2⟩ := argBest_gt (numAt ps.toArray) (ps.toArray.size - 1)
  refine ⟨.int _, H, I.kept hk, ⟨_, rfl⟩, q _ ?_ fun a ha => ?_⟩
  · rw [numAt_eq]; simp only [e2]; exact getD_mem (by rw [← hps]; simp at g1 ⊢; trivial)
  · rw [← e2] at ha
    obtain ⟨j, hj, rfl⟩ := mem_getD ha
    rw [List.length_map] at hj
    have := g2 j (by simp; trivial)
    rw [numAt_eq] at this
    exact this
noncomputable def rSum : List V → Hp → VK → Prop := fun vs H Q => on1 vs fun x => onL H x fun _ xs => ∃ ns : List Int, xs = ns.map V.int ∧ (∀ j, j < ns.length → InLong (ns.getD j 0) ∧ InLong (ns.take (j + 1)).sum) ∧ Q (.int ns.sum) H
theorem f_sum (hc : X.calm = true) : CallR X (.builtin "sum") rSum := by
  intro pins s σ H xs us Q I r h
  obtain ⟨x, rfl, h1⟩ := on1.out h
  obtain ⟨p, ys, rfl, hp, ns, rfl, hne, q⟩ := onL.out h1
  obtain ⟨u, rfl, rx⟩ := vals1 r
  cases rx
  obtain ⟨its, r', pl, hz'⟩ := I.list (SqL.of hp)
  obtain ⟨ps, e1, e2⟩ := ints_items (ints_of_vals r')
  have hl := pl.isList
  rw [e1] at hl
  have hps : ps.length = ns.length := by rw [← e2, List.length_map]
  refine sum_intList (I.ok.hd hc) hl (fun j hj => ?_) fun h' tk t' hk => ?_
  · rw [numAt_eq, preSum_eq]
    simp only [e2]
    exact hne j (by simpa [hps] using hj)
  · refine ⟨.int _, H, I.kept hk, ⟨_, rfl⟩, ?_⟩
    rw [preSum_eq, List.take_of_length_le (by simp)]
    simp only [e2]
    exact q
theorem f_popAt : MtR X "list.pop" rPopAtF := by
  intro pins s σ H x vs v us Q I rx rv h
  obtain ⟨y, rfl, h1⟩ := on1.out h
  obtain ⟨i, rfl, h2⟩ := onI.out h1
  obtain ⟨l, xs, rfl, hH, ⟨h0, h3⟩, h4⟩ := onL.out h2
  obtain ⟨y, e, q⟩ := onO.out h4
  obtain ⟨its, r', pl, hz'⟩ := I.list (SqL.of hH)
  have hs : sizeLine = 16777216 := sizeLine_eq
  exact mt_popAt pins s σ H _ _ _ _ Q I rx rv ⟨l, xs, i, i.toNat, y, rfl, rfl, hH, by trivial, by trivial, by
    unfold seqIndex?
    simp [show ¬ i < 0 by trivial, h0, h3], e, q⟩
theorem list_iter {l : Addr} {items : Array Value} {s : Shared} {prog : Program} {w : World} {A : Around} {E : Value → Shared → Prop} {Q : Value → Shared → Prop} (hl : s.heap.IsList l items)
    (h : ∀ s₂ : Shared, s₂ = { s with heap := s.heap.push { cls := .type "list_iterator", data := .fields #[.ref l, .int 0 0] } } →
      (s₂.heap.IsListIter s.heap.objs.size l 0 ∧ s₂.heap.IsList l items) → l ≠ s.heap.objs.size → Q (.ref s.heap.objs.size) s₂) :
    wpAny (model prog w) A (pyIter (.ref l)) Q E s := by
  have hlt : l < s.heap.objs.size := by obtain ⟨_, e, _⟩ := hl; exact Heap.lt_size e
  exact wpAny_pyIter_list hl (h _ rfl ⟨⟨_, Heap.get?_push_size _ rfl, rfl, rfl⟩, hl.push _⟩ (Nat.ne_of_lt hlt))
theorem vals_bool {bs : List Bool} {us : List Value} (r : Vals (bs.map V.bl) us) (i : Nat) (v : Value) (h : us.toArray[i]? = some v) : v = .bool (bs.getD i false) := by
  rw [List.getElem?_toArray] at h
  have hl := r.length
  rw [List.length_map] at hl
  have hi : i < us.length := (List.getElem?_eq_some_iff.mp h).1
  have e : (bs.map V.bl)[i]? = some (V.bl bs[i]) := by rw [List.getElem?_map, List.getElem?_eq_getElem (by trivial)]; rfl
  obtain ⟨w, hw, rw'⟩ := r.get e
  rw [h] at hw
  cases hw
  cases rw'
  rw [List.getD_eq_getElem?_getD, List.getElem?_eq_getElem (by trivial)]; rfl
theorem truth_bools {prog : Program} {w : World} {A : Around} {P : Nat → Value → Prop} (val : Nat → Bool) (hval : ∀ i v, P i v → v = .bool (val i)) : TruthOf prog w A P val := fun i v s Q E hP hQ => by
  rw [hval i v hP]
  exact wpAny_pure hQ
noncomputable def rAll : List V → Hp → VK → Prop := fun vs H Q => on1 vs fun x => onL H x fun _ xs => ∃ bs : List Bool, xs = bs.map V.bl ∧ Q (.bl (bs.all id)) H
noncomputable def rAny : List V → Hp → VK → Prop := fun vs H Q => on1 vs fun x => onL H x fun _ xs => ∃ bs : List Bool, xs = bs.map V.bl ∧ Q (.bl (bs.any id)) H
theorem range_all (bs : List Bool) : (List.range bs.length).all (fun i => bs.getD i false) = bs.all id := by
  rw [Bool.eq_iff_iff, List.all_eq_true, List.all_eq_true]
  constructor
  · intro h b hb
    obtain ⟨i, hi, rfl⟩ := List.getElem_of_mem hb
    have := h i (List.mem_range.mpr hi)
    simpa [List.getD_eq_getElem?_getD, List.getElem?_eq_getElem hi] using this
  · intro h i hi
    have hi := List.mem_range.mp hi
    have := h _ (List.getElem_mem hi)
    simpa [List.getD_eq_getElem?_getD, List.getElem?_eq_getElem hi] using this
theorem f_all (hc : X.calm = true) : CallR X (.builtin "all") rAll := by
  intro pins s σ H xs us Q I r h
  obtain ⟨x, rfl, h1⟩ := on1.out h
  obtain ⟨p, ys, rfl, hp, bs, rfl, q⟩ := onL.out h1
  obtain ⟨u, rfl, rx⟩ := vals1 r
  cases rx
  obtain ⟨its, r', pl, hz'⟩ := I.list (SqL.of hp)
  have hlen := r'.length
  rw [List.length_map] at hlen
  refine call_all_walk (list_iter pl.isList fun s₂ e st hne => ?_)
  subst e
  refine ⟨_, _, _, _, _, _, fun i => bs.getD i false, rfl, Walks.list (A := X.A.in1) (I.ok.hd hc) _ p hne its.toArray, st, truth_bools _ (fun i v hP => vals_bool r' i v hP), fun h' tk hk => ?_⟩
  refine ⟨.bl _, H, I.kept (old_kept hk), rfl, ?_⟩
  rw [List.size_toArray, ← hlen, range_all]
  exact q
end
section
variable {H : Hp} {Q : VK}
@[simp] theorem rd_sorted {vs : List V} : rSorted vs H Q = on1 vs fun x => onL H x fun _ xs => ∃ ns : List Int, xs = ns.map V.int ∧ ns.length < 64 ∧ new H (.lst ((sortZ ns).map V.int)) Q := rfl
@[simp] theorem rd_index {x : V} {vs : List V} : rIndex x vs H Q = on1 vs fun y => onI y fun k => onL H x fun _ xs => ∃ ns : List Int, xs = ns.map V.int ∧ k ∈ ns ∧ Q (.int (ns.idxOf k : Nat)) H := rfl
@[simp] theorem rd_max1 {vs : List V} : rMax1 vs H Q = on1 vs fun x => onL H x fun _ xs => ∃ ns : List Int, xs = ns.map V.int ∧ ns ≠ [] ∧ ∀ M, M ∈ ns → (∀ a ∈ ns, a ≤ M) → Q (.int M) H := rfl
@[simp] theorem rd_min1 {vs : List V} : rMin1 vs H Q = on1 vs fun x => onL H x fun _ xs => ∃ ns : List Int, xs = ns.map V.int ∧ ns ≠ [] ∧ ∀ M, M ∈ ns → (∀ a ∈ ns, M ≤ a) → Q (.int M) H := rfl
@[simp] theorem rd_sum {vs : List V} : rSum vs H Q = on1 vs fun x => onL H x fun _ xs => ∃ ns : List Int, xs = ns.map V.int ∧ (∀ j, j < ns.length → InLong (ns.getD j 0) ∧ InLong (ns.take (j + 1)).sum) ∧ Q (.int ns.sum) H := rfl
@[simp] theorem rd_all {vs : List V} : rAll vs H Q = on1 vs fun x => onL H x fun _ xs => ∃ bs : List Bool, xs = bs.map V.bl ∧ Q (.bl (bs.all id)) H := rfl
@[simp] theorem rd_any {vs : List V} : rAny vs H Q = on1 vs fun x => onL H x fun _ xs => ∃ bs : List Bool, xs = bs.map V.bl ∧ Q (.bl (bs.any id)) H := rfl
@[simp] theorem rd_popAt {x : V} {vs : List V} : rPopAtF x vs H Q = on1 vs fun y => onI y fun i => onL H x fun l xs => (0 ≤ i ∧ i < xs.length) ∧ onO xs[i.toNat]? fun y => Q y (upd H l (.lst (xs.eraseIdx i.toNat))) := rfl
end
end L2
namespace L2
open PySem PySem.Spec PyProof.Rows
end L2
namespace L2
open PySem PySem.Spec PyProof.Rows
section
variable {X : Cx} {a b c : Expr} {ta tb tc : TE} {pos : Pos}
noncomputable def rMax : List V → Hp → VK → Prop := fun vs H Q => on2 vs fun x y => onI x fun i => onI y fun j => Q (.int (if i < j then j else i)) H
@[simp] theorem rd_max {vs : List V} {H : Hp} {Q : VK} : rMax vs H Q = on2 vs fun x y => onI x fun i => onI y fun j => Q (.int (if i < j then j else i)) H := rfl
end
theorem comp_new {K : PySem.W.Frag} {tl : TE} {cp : List Nat} {tt : TT} {te : TE} {σ : L2.St} {H : Hp} {Q : VK} {o : HO} (hl : ∀ R : VK, (∀ S, H S = none → R (.ref S) (upd H S o)) → tl σ H R) (h : ∀ S, H S = none → tComp (iL K (tC (.ref S))) cp tt te σ (upd H S o) Q) : tComp (iL K tl) cp tt te σ H Q := hl _ h
theorem ifS {tA : TT} {t u : TS} {D : Ends} {σ : St} {H : Hp} (b : Bool) (H1 : Hp) (h : ∀ R : Bool → Hp → Prop, R b H1 → tA σ H R) (k : if b = true then t D σ H1 else u D σ H1) : tIfS tA t u D σ H := h _ k
end L2
namespace L2
open PySem PySem.Spec PyProof.Rows
mutual
inductive Dp (H : Hp) : V → PyData → Prop
  | non : Dp H .non .none
  | bl (b : Bool) : Dp H (.bl b) (.bool b)
  | int (i : Int) : Dp H (.int i) (.int i)
  | lst {a : Addr} {xs : List V} {ds : List PyData} : H a = some (.lst xs) → DpAll H xs ds → Dp H (.ref a) (.list ds)
  | tup {a : Addr} {xs : List V} {ds : List PyData} : H a = some (.tup xs) → DpAll H xs ds → Dp H (.ref a) (.tuple ds)
inductive DpAll (H : Hp) : List V → List PyData → Prop
  | nil : DpAll H [] []
  | cons {x : V} {d : PyData} {xs : List V} {ds : List PyData} : Dp H x d → DpAll H xs ds → DpAll H (x :: xs) (d :: ds)
end
section
variable {X : Cx} {pins : List (Addr × Obj)} {σ : St} {H : Hp} {s : Shared}
mutual
theorem dp_reads (I : Inv X pins σ H s) : ∀ {v : V} {d : PyData} {u : Value}, Dp H v d → RelV v u → ∃ as, Reads s.heap u d as
  | _, _, _, .non, r => by cases r; exact ⟨_, Reads.none⟩
  | _, _, _, .bl b, r => by cases r; exact ⟨_, Reads.bool b⟩
  | _, _, _, .int i, r => by obtain ⟨t, rfl⟩ := r; exact ⟨_, Reads.int i t⟩
  | _, _, _, .lst ha h, r => by
    cases r
    obtain ⟨its, r', pl, hz⟩ := I.list (SqL.of ha)
    obtain ⟨as, q⟩ := dp_readsAll I h r'
    obtain ⟨o, ho, hc, n, hd⟩ := pl.isList
    exact ⟨_, reads_list_at ho hc hd (by simpa using q)⟩
  | _, _, _, .tup ha h, r => by
    cases r
    obtain ⟨its, r', pl, hz⟩ := I.tuple (SqT.of ha)
    obtain ⟨as, q⟩ := dp_readsAll I h r'
    obtain ⟨o, ho, hc, n, hd⟩ := pl
    exact ⟨_, reads_tuple_at ho hc hd (by simpa using q)⟩
theorem dp_readsAll (I : Inv X pins σ H s) : ∀ {xs : List V} {ds : List PyData} {us : List Value}, DpAll H xs ds → Vals xs us → ∃ as, ReadsAll s.heap us ds as
  | _, _, _, .nil, r => by cases r; exact ⟨_, ReadsAll.nil⟩
  | _, _, _, .cons h t, r => by
    cases r with | cons r rt => ?_
    obtain ⟨as, q⟩ := dp_reads I h r
    obtain ⟨bs, p⟩ := dp_readsAll I t rt
    exact ⟨_, ReadsAll.cons q p⟩
end
end
section
variable {X : Cx}
noncomputable def rEqF : R2 := fun x y H Q => match x with
  | .ref a => ∃ d e, Dp H (.ref a) d ∧ Dp H y e ∧ SeqAt.shaped d = true ∧ SeqAt.shaped e = true ∧ Q (.bl (PyData.eqv d e)) H
  | x => rEq x y H Q
noncomputable def rNeF : R2 := fun x y H Q => match x with
  | .ref a => ∃ d e, Dp H (.ref a) d ∧ Dp H y e ∧ SeqAt.shaped d = true ∧ SeqAt.shaped e = true ∧ Q (.bl (!PyData.eqv d e)) H
  | x => rNe x y H Q
theorem f_eqF (hu : X.A.units + 64 < cLine) : OpR X (compareOp .Eq) rEqF := by
  intro pins s σ H x y v u Q I rx ry h
  cases x with
  | ref a =>
    obtain ⟨d, e, hd, he, sd, se, q⟩ := h
    obtain ⟨as, ra⟩ := dp_reads I hd rx
    obtain ⟨bs, rb⟩ := dp_reads I he ry
    exact eq_dataH ra rb sd se hu ⟨.bl _, H, I, rfl, q⟩
  | _ => exact op_eq pins s σ H _ y v u Q I rx ry h
theorem f_neF (hu : X.A.units + 64 < cLine) : OpR X (compareOp .NotEq) rNeF := by
  intro pins s σ H x y v u Q I rx ry h
  cases x with
  | ref a =>
    obtain ⟨d, e, hd, he, sd, se, q⟩ := h
    obtain ⟨as, ra⟩ := dp_reads I hd rx
    obtain ⟨bs, rb⟩ := dp_reads I he ry
    exact ne_dataH ra rb sd se hu ⟨.bl _, H, I, rfl, q⟩
  | _ => exact op_ne pins s σ H _ y v u Q I rx ry h
end
theorem hu64 {A : Around} {k : Nat} (hr : Room k A) : A.units + 64 < cLine := by have := hr.un; trivial
section
variable {H : Hp} {Q : VK}
@[simp] theorem rd_eqFI {i : Int} {y : V} : rEqF (.int i) y H Q = rEq (.int i) y H Q := rfl
@[simp] theorem rd_eqFB {i : Bool} {y : V} : rEqF (.bl i) y H Q = rEq (.bl i) y H Q := rfl
@[simp] theorem rd_eqFN {y : V} : rEqF .non y H Q = rEq .non y H Q := rfl
@[simp] theorem rd_eqFS {i : Str} {y : V} : rEqF (.str i) y H Q = rEq (.str i) y H Q := rfl
@[simp] theorem rd_neFI {i : Int} {y : V} : rNeF (.int i) y H Q = rNe (.int i) y H Q := rfl
@[simp] theorem rd_neFB {i : Bool} {y : V} : rNeF (.bl i) y H Q = rNe (.bl i) y H Q := rfl
@[simp] theorem rd_neFN {y : V} : rNeF .non y H Q = rNe .non y H Q := rfl
@[simp] theorem rd_neFS {i : Str} {y : V} : rNeF (.str i) y H Q = rNe (.str i) y H Q := rfl
@[simp] theorem rd_eqB {i j : Bool} : rEq (.bl i) (.bl j) H Q = Q (.bl (decide (i = j))) H := by
  show (true = true ∧ Q (.bl (decide (V.bl i = V.bl j))) H) = _
  simp
@[simp] theorem rd_neB {i j : Bool} : rNe (.bl i) (.bl j) H Q = Q (.bl (!decide (i = j))) H := by
  show (true = true ∧ Q (.bl (!decide (V.bl i = V.bl j))) H) = _
  simp
end
noncomputable def leafP : V → PyData | .int i => .int i | _ => .none
noncomputable def isLeaf : V → Bool | .int _ => true | .non => true | _ => false
theorem dp_leaf {H : Hp} {v : V} (h : isLeaf v = true) : Dp H v (leafP v) := by
  cases v with
  | int i => exact .int i
  | non => exact .non
  | _ => simp [isLeaf] at h
theorem dpAll_leaf {H : Hp} : ∀ {xs : List V}, xs.all isLeaf = true → DpAll H xs (xs.map leafP)
  | [], _ => .nil
  | x :: xs, h => by
    rw [List.all_cons, Bool.and_eq_true] at h
    exact .cons (dp_leaf h.1) (dpAll_leaf h.2)
theorem leaf_ints (xs : List Int) : (xs.map V.int).all isLeaf = true := by
  rw [List.all_eq_true]; intro v hv; obtain ⟨i, _, rfl⟩ := List.mem_map.mp hv; rfl
theorem leaf_lay : ∀ xs : List V, PyData.canLayAll0 (xs.map leafP) = true ∧ PyData.depthAll (xs.map leafP) = 0
  | [] => by simp [PyData.canLayAll0, PyData.depthAll]
  | x :: xs => by
    obtain ⟨h1, h2⟩ := leaf_lay xs
    cases x <;> simp [leafP, PyData.canLayAll0, PyData.depthAll, PyData.canLay0, PyData.depth, h1, h2]
theorem leaf_shaped (xs : List V) : SeqAt.shaped (.list (xs.map leafP)) = true := by
  obtain ⟨h1, h2⟩ := leaf_lay xs
  simp [SeqAt.shaped, PyData.canLay0, PyData.depth, h1, h2]
theorem leaf_eqv1 {x y : V} (hx : isLeaf x = true) (hy : isLeaf y = true) : PyData.eqv (leafP x) (leafP y) = decide (x = y) := by
  cases x <;> cases y <;> simp_all [isLeaf, leafP, PyData.eqv] <;> rfl
theorem leaf_eqv : ∀ {xs ys : List V}, xs.all isLeaf = true → ys.all isLeaf = true → PyData.eqvAll (xs.map leafP) (ys.map leafP) = decide (xs = ys)
  | [], [], _, _ => by simp [PyData.eqvAll]
  | [], _ :: _, _, _ => by simp [PyData.eqvAll]
  | _ :: _, [], _, _ => by simp [PyData.eqvAll]
  | x :: xs, y :: ys, h1, h2 => by
    rw [List.all_cons, Bool.and_eq_true] at h1 h2
    simp only [List.map_cons, PyData.eqvAll, leaf_eqv1 h1.1 h2.1, leaf_eqv h1.2 h2.2]
    by_cases h : x = y <;> simp [h]
theorem eqF_leaf {H : Hp} {Q : VK} {a b : Addr} {xs ys : List V} (ha : H a = some (.lst xs)) (hb : H b = some (.lst ys)) (fx : xs.all isLeaf = true) (fy : ys.all isLeaf = true) (q : Q (.bl (decide (xs = ys))) H) : rEqF (.ref a) (.ref b) H Q :=
  ⟨_, _, .lst ha (dpAll_leaf fx), .lst hb (dpAll_leaf fy), leaf_shaped _, leaf_shaped _, by simp only [PyData.eqv]; rw [leaf_eqv fx fy]; exact q⟩
theorem int_inj {xs ys : List Int} : (xs.map V.int = ys.map V.int) ↔ xs = ys := List.map_inj_right (fun _ _ h => by injection h)
theorem eqF_ints {H : Hp} {Q : VK} {a b : Addr} {xs ys : List Int} (ha : H a = some (.lst (xs.map V.int))) (hb : H b = some (.lst (ys.map V.int))) (q : Q (.bl (decide (xs = ys))) H) : rEqF (.ref a) (.ref b) H Q :=
  eqF_leaf ha hb (leaf_ints _) (leaf_ints _) (by simp only [int_inj]; exact q)
noncomputable def rowP (xs : List Int) : PyData := .list (xs.map PyData.int)
end L2
namespace L2
open PySem PySem.Spec PyProof.Rows
section
variable {X : Cx} {e c : Expr} {te tc : TE} {pos p2 : Pos}
noncomputable def tRevF (te : TE) : TE := fun σ H Q => te σ H fun x H1 => onL H1 x fun _ xs => new H1 (.lst xs.reverse) Q
@[simp] theorem rd_revF {σ : St} {H : Hp} {Q : VK} : tRevF te σ H Q = te σ H fun x H1 => onL H1 x fun _ xs => new H1 (.lst xs.reverse) Q := rfl
end
end L2
namespace L2
open PySem PySem.Spec PyProof.Rows
section
variable {X : Cx}
noncomputable def rInF : R2 := fun x y H Q => onS H y fun xs => flatV x = true ∧ xs.all flatV = true ∧ Q (.bl (inV x xs)) H
noncomputable def rNotInF : R2 := fun x y H Q => onS H y fun xs => flatV x = true ∧ xs.all flatV = true ∧ Q (.bl (!inV x xs)) H
theorem f_in : OpR X (compareOp .In) rInF := op_in_seq.imp fun x y H Q h => by
  obtain ⟨p, xs, rfl, hp, f1, f2, q⟩ := onS.out h
  exact ⟨p, xs, rfl, sq_of hp, f1, f2, q⟩
theorem f_notin : OpR X (compareOp .NotIn) rNotInF := op_notIn_seq.imp fun x y H Q h => by
  obtain ⟨p, xs, rfl, hp, f1, f2, q⟩ := onS.out h
  exact ⟨p, xs, rfl, sq_of hp, f1, f2, q⟩
@[simp] theorem rd_in {x y : V} {H : Hp} {Q : VK} : rInF x y H Q = onS H y fun xs => flatV x = true ∧ xs.all flatV = true ∧ Q (.bl (inV x xs)) H := rfl
@[simp] theorem rd_notin {x y : V} {H : Hp} {Q : VK} : rNotInF x y H Q = onS H y fun xs => flatV x = true ∧ xs.all flatV = true ∧ Q (.bl (!inV x xs)) H := rfl
end
theorem flat_ints (xs : List Int) : (xs.map V.int).all flatV = true := by
  rw [List.all_eq_true]; intro v hv; obtain ⟨i, _, rfl⟩ := List.mem_map.mp hv; rfl
theorem in_int (n : Int) (xs : List Int) : inV (.int n) (xs.map V.int) = decide (n ∈ xs) := by
  unfold inV
  rw [Bool.eq_iff_iff, List.any_eq_true, decide_eq_true_eq]
  constructor
  · rintro ⟨v, hv, e⟩
    obtain ⟨i, hi, rfl⟩ := List.mem_map.mp hv
    have : i = n := by simpa [eqV] using e
    exact this ▸ hi
  · intro h
    exact ⟨.int n, List.mem_map.mpr ⟨n, h, rfl⟩, by simp [eqV]⟩
end L2
namespace L2
open PySem PySem.Spec PyProof.Rows
end L2
namespace L2
open PySem PySem.Spec PyProof.Rows
end L2
namespace PySem
section
variable {prog : Program} {w : World} {A : Around} {E : Value → Shared → Prop} {s : Shared}
end
end PySem
namespace L2
open PySem PySem.Spec PyProof.Rows
section
variable {X : Cx}
noncomputable def tLR (ta : TA) : TE := fun σ H Q => ta σ H fun vs H1 => on1 vs fun x => onL H1 x fun _ xs => new H1 (.lst xs.reverse) Q
@[simp] theorem rd_LR {ta : TA} {σ : St} {H : Hp} {Q : VK} : tLR ta σ H Q = ta σ H fun vs H1 => on1 vs fun x => onL H1 x fun _ xs => new H1 (.lst xs.reverse) Q := rfl
theorem rd_aug {i : Nat} {te : TE} {f : Int → Int → Int} {D : Ends} {σ : St} {H : Hp} {k : Int} (h : σ[i]? = some (some (.int k))) (q : te σ H fun y H1 => onI y fun j => D.nx (σ.set i (some (.int (f k j)))) H1) (mono : ∀ (Q Q' : VK), (∀ x H1, Q x H1 → Q' x H1) → te σ H Q → te σ H Q') : tAug i te (ipI f) D σ H := by
  refine ⟨.int k, h, mono _ _ (fun y H1 z => ?_) q⟩
  obtain ⟨j, rfl, z⟩ := onI.out z
  exact ⟨k, j, rfl, rfl, z⟩
end
end L2
namespace L2
open PySem PySem.Spec PyProof.Rows
end L2
namespace L2
open PySem PySem.Spec PyProof.Rows
end L2
namespace L2
open PySem PySem.Spec PyProof.Rows
theorem ifS' {tA : TT} {t u : TS} {D : Ends} {σ : St} {H : Hp} (Ps : Hp → Prop) (b : Bool) (h : ∀ R : Bool → Hp → Prop, (∀ H1, Ps H1 → R b H1) → tA σ H R) (k : ∀ H1, Ps H1 → if b = true then t D σ H1 else u D σ H1) : tIfS tA t u D σ H := h _ k
end L2
namespace L2
open PySem PySem.Spec PyProof.Rows
noncomputable def sortR (ns : List Int) : List Int := ns.mergeSort fun a b => decide (b ≤ a)
theorem sortR_perm (ns : List Int) : (sortR ns).Perm ns := List.mergeSort_perm _ _
theorem sortR_ge (ns : List Int) : (sortR ns).Pairwise (· ≥ ·) := by
  have := List.pairwise_mergeSort (le := fun (a b : Int) => decide (b ≤ a)) (fun a b c h1 h2 => by simp at *; trivial) (fun a b => by simp; trivial) ns
  exact this.imp fun h => by simpa using h
theorem sortR_uniq {ns ms : List Int} (h : ms.Perm ns) (hp : ms.Pairwise (· ≥ ·)) : ms = sortR ns :=
  List.Perm.eq_of_pairwise (le := (· ≥ ·)) (fun a b _ _ h1 h2 => by have : a ≥ b := h1; have : b ≥ a := h2; trivial) hp (sortR_ge ns) (h.trans (sortR_perm ns).symm)
theorem sortR_len (ns : List Int) : (sortR ns).length = ns.length := (sortR_perm ns).length_eq
section
variable {X : Cx}
noncomputable def tSortR (ta : TA) : TE := fun σ H Q => ta σ H fun vs H1 => on1 vs fun x => onL H1 x fun _ xs => ∃ ns : List Int, xs = ns.map V.int ∧ ns.length < 64 ∧ new H1 (.lst ((sortR ns).map V.int)) Q
theorem pe_sortedR {a : Expr} {ta : TA} {j : _} {p pos cp kp : Pos} (hg : Gl X "sorted") (hm : X.mg "sorted" = none) (ha : PA X [a] ta) (hs : starEach [a] X.env = [(false, eval a X.env)] := by rfl) :
    PE X (.Call (.Name "sorted" p) [a] [⟨some "reverse", .Constant (.bool true) j cp, kp⟩] pos) (tSortR ta) := by
  intro pins s σ H Q I h
  refine wpAny_Call_Name_kw (ld_blt I hg hm BI.sorted ?_)
  refine callWith_builtin_kwB (first := []) (by rw [hs]; rfl) rfl ?_
  have hA := ha pos pins s σ H _ I h
  rw [hs] at hA ⊢
  refine evalArgs_kwB rfl (thn hA fun us s1 hh40 => ?_)
  obtain ⟨vs, H1, I1, r1, q1⟩ := hh40
  refine kws_cons (Constant_bool (kws_nil ?_))
  obtain ⟨x, rfl, q2⟩ := on1.out q1
  obtain ⟨l, xs, rfl, hl, ns, rfl, hz, q⟩ := onL.out q2
  obtain ⟨u, rfl, ru⟩ := r1.one
  cases ru
  obtain ⟨its, r', pl, hz'⟩ := I1.list (SqL.of (K := X.K) hl)
  have hI := ints_of_vals r'
  have hlen := r'.length
  rw [List.length_map] at hlen
  refine sorted_ints_rev (b := true) pl.isList hI (by trivial) fun out ns' a1 a2 a3 => ?_
  have e := sortR_uniq a2 a3
  subst e
  obtain ⟨e, he⟩ := sortedAll_at s1.heap its out
  have := sortR_len ns
  have hs : sizeLine = 16777216 := sizeLine_eq
  exact ⟨.ref (s1.heap.objs.size + 1), _, I1.laid (t' := s1.toks) (fun b o => sortedAll_old) (by trivial) (show ObjOk X.prog X.w _ _ _ (.lst ((sortR ns).map V.int)) from ⟨by rw [List.length_map]; trivial, out.toList, e, vals_ints a1, he⟩), rfl, q _ (I1.hok.fresh (by trivial))⟩
@[simp] theorem rd_sortR {ta : TA} {σ : St} {H : Hp} {Q : VK} : tSortR ta σ H Q = ta σ H fun vs H1 => on1 vs fun x => onL H1 x fun _ xs => ∃ ns : List Int, xs = ns.map V.int ∧ ns.length < 64 ∧ new H1 (.lst ((sortR ns).map V.int)) Q := rfl
theorem dedup_step (acc : List Int) (k : Int) : step_dedup acc k = if acc.any (· == k) then acc else acc ++ [k] := rfl
theorem dedup_len : ∀ (ns acc : List Int), acc.Nodup → ((ns.foldl step_dedup acc).length ≤ acc.length + ns.length) ∧ ((ns.foldl step_dedup acc).length = acc.length + ns.length ↔ (acc ++ ns).Nodup)
  | [], acc, nd => by simp [nd]
  | n :: ns, acc, nd => by
    rw [List.foldl_cons, dedup_step]
    by_cases h : acc.any (· == n) = true
    · rw [if_pos h]
      have ih := dedup_len ns acc nd
      have hm : n ∈ acc := by obtain ⟨a, ha, e⟩ := List.any_eq_true.mp h; have : a = n := by simpa using e
                              exact this ▸ ha
      refine ⟨by have := ih.1; simp; trivial, ⟨fun e => ?_, fun e => ?_⟩⟩
      · have := ih.1; simp at e; trivial
      · exact absurd rfl ((List.nodup_append.mp e).2.2 n hm n (by simp))
    · rw [if_neg h]
      have hm : n ∉ acc := fun z => h (List.any_eq_true.mpr ⟨n, z, by simp⟩)
      have nd' : (acc ++ [n]).Nodup := by
        rw [List.nodup_append]
        exact ⟨nd, by simp, fun a ha b hb => by rw [List.mem_singleton.mp hb]; exact fun z => hm (z ▸ ha)⟩
      have ih := dedup_len ns (acc ++ [n]) nd'
      rw [List.length_append, List.length_singleton, List.append_assoc, List.singleton_append] at ih
      refine ⟨by have := ih.1; simp; trivial, ?_⟩
      rw [← ih.2]
      simp; trivial
noncomputable def tLenSet (ta : TA) : TE := fun σ H Q => ta σ H fun vs H1 => on1 vs fun x => onL H1 x fun _ xs => ∃ ns : List Int, xs = ns.map V.int ∧ ns.length ≤ 4000 ∧ ∀ c : Nat, c ≤ ns.length → (c = ns.length ↔ ns.Nodup) → Q (.int (c : Int)) H1
theorem pe_lenSet {a : Expr} {ta : TA} {p p' pos pos' : Pos} (hgl : Gl X "len") (hml : X.mg "len" = none) (hgr : Gl X "set") (hmr : X.mg "set" = none) (ha : PA X [a] ta) (hc : X.calm = true)
    (hs : starEach [a] X.env = [(false, eval a X.env)] := by rfl)
    (hs2 : starEach [.Call (.Name "set" p') [a] [] pos'] X.env = [(false, eval (.Call (.Name "set" p') [a] [] pos') X.env)] := by rfl) :
    PE X (.Call (.Name "len" p) [.Call (.Name "set" p') [a] [] pos'] [] pos) (tLenSet ta) := by
  intro pins s σ H Q I h
  refine wpAny_Call_Name_kw (ld_blt I hgl hml BI.len ?_ (by decide) (by decide))
  refine PyProof.Rows.callWith_builtin1 ?_ hs2 rfl
  rw [hs2]
  show wpAny _ _ (spliced ((false, eval (.Call (.Name "set" p') [a] [] pos') X.env) :: [])) _ _ s
  refine Calls.spliced_cons ?_
  refine Call_ (ld_blt I hgr hmr BI.set (PyProof.Rows.callWith_type1 (thn (ha pos' pins s σ H _ I h) fun us s1 hh41 => ?_) hs rfl))
  obtain ⟨vs, H1, I1, r1, q1⟩ := hh41
  obtain ⟨x, rfl, q1⟩ := on1.out q1
  obtain ⟨l, xs, rfl, hl, ns, rfl, hz, q⟩ := onL.out q1
  obtain ⟨u, rfl, ru⟩ := r1.one
  cases ru
  obtain ⟨its, rv, pl, hz'⟩ := I1.list (SqL.of (K := X.K) hl)
  have hI := ints_of_vals rv
  have hlen := rv.length
  rw [List.length_map] at hlen
  refine call_set_list (ns := ns) (I1.ok.hd hc) pl.isList (by simpa using hI) (by rw [List.size_toArray]; show its.length + 1 < 4096; trivial) fun h' tk hset hk => ?_
  refine Calls.spliced_nil ?_
  obtain ⟨o, es, ep, t, ho, hex, hd, _, _, hb, hf, hsz⟩ := hset
  have e2 : firstMet (fun i => ns.getD i 0) its.toArray.size = ns.foldl step_dedup [] := by
    unfold firstMet
    rw [List.size_toArray, ← hlen]
    congr 1
    apply List.ext_getElem?
    intro i
    rw [List.getElem?_map]
    by_cases hi : i < ns.length
    · rw [List.getElem?_range hi, List.getElem?_eq_getElem hi]
      simp [List.getD_eq_getElem?_getD, List.getElem?_eq_getElem hi]
    · rw [List.getElem?_eq_none (by simpa using hi), List.getElem?_eq_none (by trivial)]; rfl
  have dl := dedup_len ns [] List.nodup_nil
  rw [e2] at hsz
  simp only [List.length_nil, Nat.zero_add, List.nil_append] at dl
  rw [← hsz] at dl
  refine call_len_set ho hex hd hf (by have : scanBound = 4096 := rfl; trivial) ?_
  refine ⟨.int (es.size : Int), H1, I1.kept (t' := _) (fun b o eo => hk b o (Heap.lt_size eo) eo), ⟨_, rfl⟩, q es.size dl.1 dl.2⟩
@[simp] theorem rd_lenSet {ta : TA} {σ : St} {H : Hp} {Q : VK} : tLenSet ta σ H Q = ta σ H fun vs H1 => on1 vs fun x => onL H1 x fun _ xs => ∃ ns : List Int, xs = ns.map V.int ∧ ns.length ≤ 4000 ∧ ∀ c : Nat, c ≤ ns.length → (c = ns.length ↔ ns.Nodup) → Q (.int (c : Int)) H1 := rfl
theorem count_eqU {x : V} {xs : List V} {us : List Value} (h : Vals xs us) (f : xs.all flatV = true) : us.countP (eqU x) = xs.countP fun y => eqV y x := by
  induction h with
  | nil => rfl
  | cons r t ih =>
    rw [List.all_cons, Bool.and_eq_true] at f
    rw [List.countP_cons, List.countP_cons, eqU_of r f.1, ih f.2]
noncomputable def rCount : V → List V → Hp → VK → Prop := fun x vs H Q => on1 vs fun y => onL H x fun _ xs => flatV y = true ∧ xs.all flatV = true ∧ Q (.int ((xs.countP fun z => eqV z y : Nat) : Int)) H
theorem f_count : MtR X "list.count" rCount := by
  intro pins s σ H x vs v us Q I rx rv h
  obtain ⟨y, rfl, h1⟩ := on1.out h
  obtain ⟨l, xs, rfl, hH, fy, fx, q⟩ := onL.out h1
  cases rx
  obtain ⟨u, rfl, ru⟩ := rv.one
  obtain ⟨its, r', pl, hz'⟩ := I.list (SqL.of hH)
  obtain ⟨⟨cls, dd, data, sl⟩, ho, hc, n, hd⟩ := pl.isList
  simp only at hc hd
  subst hc hd
  refine call_meets PySem.F.slot_list_count ⟨_, ho, rfl⟩ PySem.F.entry_list_count (PySem.F.args_list_count_2 _ _)
    (SeqAt.list_countAt l its.toArray n dd sl u (eqU y)) ⟨ho, fun w hw => mem_eqAt ru fy r' fx w (by simpa using hw), ?_⟩
  refine ⟨.int _, H, I.tok _, ⟨_, rfl⟩, ?_⟩
  rw [show its.toArray.toList.countP (eqU y) = xs.countP fun z => eqV z y from count_eqU r' fx]
  exact q
@[simp] theorem rd_count {x : V} {vs : List V} {H : Hp} {Q : VK} : rCount x vs H Q = on1 vs fun y => onL H x fun _ xs => flatV y = true ∧ xs.all flatV = true ∧ Q (.int ((xs.countP fun z => eqV z y : Nat) : Int)) H := rfl
noncomputable def rMulF : R2 := fun x y H Q => match x with
  | .int i => onI y fun j => CMul i j ∧ Q (.int (i * j)) H
  | .ref a => onI y fun k => onL H (.ref a) fun _ xs => (0 ≤ k ∧ xs.length * k.toNat ≤ 10000 ∧ k ≤ 10000) ∧ new H (.lst (List.replicate k.toNat xs).flatten) Q
  | _ => False
theorem f_mulF : OpR X (binaryOp .Mult) rMulF := by
  intro pins s σ H x y v u Q I rx ry h
  cases x with
  | int i =>
    obtain ⟨j, rfl, c, q⟩ := onI.out h
    exact op_mul pins s σ H _ _ v u Q I rx ry ⟨i, j, rfl, rfl, c, q⟩
  | ref a =>
    obtain ⟨k, rfl, h'⟩ := onI.out h
    obtain ⟨l, xs, e, hH, ⟨h1, h2, h3⟩, q⟩ := onL.out h'
    exact op_rep pins s σ H _ _ v u Q I rx ry ⟨l, k, xs, e, rfl, hH, by trivial, by trivial, line100' h2, q⟩
  | _ => exact (show False from h).elim
@[simp] theorem rd_mulFI {i : Int} {y : V} {H : Hp} {Q : VK} : rMulF (.int i) y H Q = onI y fun j => CMul i j ∧ Q (.int (i * j)) H := rfl
@[simp] theorem rd_mulFL {a : Addr} {y : V} {H : Hp} {Q : VK} : rMulF (.ref a) y H Q = onI y fun k => onL H (.ref a) fun _ xs => (0 ≤ k ∧ xs.length * k.toNat ≤ 10000 ∧ k ≤ 10000) ∧ new H (.lst (List.replicate k.toNat xs).flatten) Q := rfl
end
end L2
namespace L2
open PySem PySem.Spec PyProof.Rows
noncomputable abbrev RowsW (H : Hp) (as : List Addr) (xss : List (List V)) : Prop := Paired (fun b xs => H b = some (.lst xs)) as xss
structure RowsV (H : Hp) (a : Addr) (as : List Addr) (xss : List (List V)) : Prop where
  top : H a = some (.lst (as.map V.ref))
  row : RowsW H as xss
theorem RowsW.mono {H H' : Hp} {as : List Addr} {xss : List (List V)} (h : RowsW H as xss) (k : ∀ b ∈ as, ∀ o, H b = some o → H' b = some o) : RowsW H' as xss := paired_mono (f := HO.lst) h k
theorem RowsW.same {H H' : Hp} {as : List Addr} {xss : List (List V)} (h : RowsW H as xss) (s : Same H H') : RowsW H' as xss := h.mono fun b _ o e => s b o e
theorem RowsW.len {H : Hp} {as : List Addr} {xss : List (List V)} (h : RowsW H as xss) : as.length = xss.length := Paired.length h
theorem RowsW.get {H : Hp} {as : List Addr} {xss : List (List V)} {i : Nat} {xs : List V} (h : RowsW H as xss) (e : xss[i]? = some xs) : ∃ b, as[i]? = some b ∧ H b = some (.lst xs) := paired_get (paired_flip h) e
theorem RowsW.get' {H : Hp} {as : List Addr} {xss : List (List V)} {i : Nat} {b : Addr} (h : RowsW H as xss) (e : as[i]? = some b) : ∃ xs, xss[i]? = some xs ∧ H b = some (.lst xs) := paired_get h e
theorem RowsW.snoc {H : Hp} {as : List Addr} {xss : List (List V)} {b : Addr} {xs : List V} (h : RowsW H as xss) (hb : H b = some (.lst xs)) : RowsW H (as ++ [b]) (xss ++ [xs]) := Paired.snoc h hb
theorem RowsW.set {H : Hp} {as : List Addr} {xss : List (List V)} {i : Nat} {b : Addr} {ys : List V} (h : RowsW H as xss) (e : as[i]? = some b) (nd : as.Nodup) : RowsW (upd H b (.lst ys)) as (xss.set i ys) := paired_setH (f := HO.lst) h e nd
theorem comp_rowsV {J : It} {H : Hp} {xs : List V} {cp : List Nat} {σ : St} {te : TE} {Q : VK} (Y : Yields J H xs) (gs : List (List V)) (hg : gs.length = xs.length) (hz : xs.length ≤ 10000)
    (he : ∀ (i : Nat) v g, xs[i]? = some v → gs[i]? = some g → ∀ H', Same H H' → ∀ R : VK, (∀ b H'', Same H' H'' → H' b = none → H'' b = some (.lst g) → R (.ref b) H'') → te (cst cp σ (some v)) H' R)
    (hQ : ∀ D as H', H D = none → Same H H' → RowsV H' D as gs → Fresh H (D :: as) → Q (.ref D) H') :
    ∀ D, H D = none → ∃ W : Nat → Nat → Hp → Prop, (∃ m, W 0 m (upd H D (.lst []))) ∧ ∀ i m H, W i m H →
      (J.stop i H ∧ Q (.ref D) H) ∨ (J.go i H ∧ ∀ v H', J.yld i H v H' → tNoTest (cst cp σ (some v)) H' fun b H2 =>
        if b = true then te (cst cp σ (some v)) H2 fun y H3 => ∃ ys, H3 D = some (.lst ys) ∧ ys.length < sizeLine ∧ ∃ m', m' < m ∧ W (i + 1) m' (upd H3 D (.lst (ys ++ [y])))
        else ∃ m', m' < m ∧ W (i + 1) m' H2) := by
  intro D hD
  refine ⟨fun i m H' => m = xs.length - i ∧ i ≤ xs.length ∧ Same H H' ∧ ∃ as, RowsV H' D as (gs.take i) ∧ Fresh H (D :: as), ⟨xs.length, by simp, Nat.zero_le _, Same.upd_new hD, [], ⟨upd_same, by simpa using Paired.nil⟩, ⟨by simp, by simpa using hD⟩⟩, ?_⟩
  rintro i m H1 ⟨rfl, hi, sm, as, ra, fr⟩
  by_cases hlt : i < xs.length
  · have e : xs[i]? = some xs[i] := List.getElem?_eq_getElem hlt
    have hgi : i < gs.length := by rw [hg]; exact hlt
    have eg : gs[i]? = some gs[i] := List.getElem?_eq_getElem hgi
    obtain ⟨g, yl⟩ := Y.go i _ _ sm e
    refine .inr ⟨g, fun v H' y => ?_⟩
    obtain ⟨rfl, rfl⟩ := yl v H' y
    unfold tNoTest
    dsimp only
    rw [if_pos rfl]
    refine he i _ _ e eg _ sm _ fun b H2 s2 hb hb2 => ?_
    have la : as.length = i := by rw [RowsW.len ra.row, List.length_take]; trivial
    have bD : b ≠ D := fun z => by rw [z, ra.top] at hb; cases hb
    have nD : ∀ c ∈ as, c ≠ D := fun c hc z => (List.nodup_cons.mp fr.nd).1 (z ▸ hc)
    have bas : b ∉ as := fun hm => by
      obtain ⟨j, hj⟩ := List.getElem?_of_mem hm
      obtain ⟨ys, _, hy⟩ := RowsW.get' ra.row hj
      rw [hb] at hy; cases hy
    refine ⟨as.map V.ref, s2 _ _ ra.top, line100 (by rw [List.length_map]; trivial), xs.length - (i + 1), by trivial, rfl, hlt, (sm.trans s2).upd_in hD, as ++ [b], ⟨?_, ?_⟩, ?_, ?_⟩
    · rw [upd_same, List.map_append]; rfl
    · rw [List.take_add_one, eg]
      refine RowsW.mono (RowsW.snoc (RowsW.same ra.row s2) hb2) fun c hc o q => ?_
      rw [upd_ne]
      · exact q
      · rcases List.mem_append.mp hc with hc | hc
        · exact nD c hc
        · have : c = b := by simpa using hc
          rw [this]; exact bD
    · refine List.nodup_cons.mpr ⟨fun hm => ?_, ?_⟩
      · rcases List.mem_append.mp hm with hm | hm
        · exact (List.nodup_cons.mp fr.nd).1 hm
        · have e : D = b := by simpa using hm
          exact bD e.symm
      · rw [List.nodup_append]
        refine ⟨(List.nodup_cons.mp fr.nd).2, by simp, fun c hc d hd => ?_⟩
        have : d = b := by simpa using hd
        rw [this]
        exact fun z => bas (z ▸ hc)
    · intro c hc
      rcases List.mem_cons.mp hc with rfl | hc
      · exact hD
      · rcases List.mem_append.mp hc with hc | hc
        · exact fr.no c (List.mem_cons_of_mem _ hc)
        · have : c = b := by simpa using hc
          rw [this]; exact sm.free hb
  · have e : i = xs.length := by trivial
    subst e
    refine .inl ⟨Y.stop _ _ sm (Nat.le_refl _), ?_⟩
    rw [← hg, List.take_length] at ra
    exact hQ D as H1 hD sm ra fr
theorem RowsW.notin {H : Hp} {as : List Addr} {xss : List (List V)} {p : Addr} (h : RowsW H as xss) (hp : H p = none) : p ∉ as := fun hm => by
  obtain ⟨j, hj⟩ := List.getElem?_of_mem hm
  obtain ⟨ys, _, hy⟩ := RowsW.get' h hj
  rw [hp] at hy; cases hy
theorem RowsV.set {H : Hp} {a : Addr} {as : List Addr} {xss : List (List V)} {i : Nat} {b : Addr} {ys : List V} (h : RowsV H a as xss) (e : as[i]? = some b) (nd : (a :: as).Nodup) : RowsV (upd H b (.lst ys)) a as (xss.set i ys) := by
  have nd' := List.nodup_cons.mp nd
  refine ⟨?_, RowsW.set h.row e nd'.2⟩
  have ne : a ≠ b := fun z => nd'.1 (by rw [z]; exact List.mem_of_getElem? e)
  rw [upd_ne ne]; exact h.top
theorem RowsV.same {H H' : Hp} {a : Addr} {as : List Addr} {xss : List (List V)} (h : RowsV H a as xss) (s : Same H H') : RowsV H' a as xss := ⟨s _ _ h.top, RowsW.same h.row s⟩
theorem RowsV.live {H : Hp} {a : Addr} {as : List Addr} {xss : List (List V)} (h : RowsV H a as xss) {c : Addr} (hc : c ∈ a :: as) : H c ≠ none := fun z => by
  rcases List.mem_cons.mp hc with rfl | hc
  · rw [h.top] at z; cases z
  · exact RowsW.notin h.row z hc
theorem RowsV.notin {H : Hp} {a : Addr} {as : List Addr} {xss : List (List V)} (h : RowsV H a as xss) {c : Addr} (hc : H c = none) : c ∉ a :: as := fun z => h.live z hc
theorem comp_listRV {K : PySem.W.Frag} {tl : TE} {cp : List Nat} {te : TE} {σ : St} {H : Hp} {Q : VK} {a : Addr} {xs : List V} (hl : ∀ R : VK, R (.ref a) H → tl σ H R) (h : H a = some (.lst xs)) (gs : List (List V)) (hg : gs.length = xs.length) (hz : xs.length ≤ 10000)
    (he : ∀ (i : Nat) v g, xs[i]? = some v → gs[i]? = some g → ∀ H', Same H H' → ∀ R : VK, (∀ b H'', Same H' H'' → H' b = none → H'' b = some (.lst g) → R (.ref b) H'') → te (cst cp σ (some v)) H' R)
    (hQ : ∀ D as H', H D = none → Same H H' → RowsV H' D as gs → Fresh H (D :: as) → Q (.ref D) H') : tComp (iL K tl) cp tNoTest te σ H Q := by
  refine hl _ ?_
  rw [onL_of h]
  exact comp_rowsV (yields_list h) gs hg hz he hQ
theorem comp_copyV {K : PySem.W.Frag} {tl : TE} {cp : List Nat} {σ : St} {H : Hp} {Q : VK} {a : Addr} {as : List Addr} {xss : List (List V)} (hl : ∀ R : VK, R (.ref a) H → tl σ H R) (h : RowsV H a as xss) (hz : xss.length ≤ 10000)
    (hQ : ∀ D bs H', H D = none → Same H H' → RowsV H' D bs xss → Fresh H (D :: bs) → Q (.ref D) H') : tComp (iL K tl) cp tNoTest (tCB rListF (tCons (tVar 0) tNil)) σ H Q := by
  refine comp_listRV hl h.top xss (by rw [List.length_map, h.row.len]) (by rw [List.length_map, h.row.len]; exact hz) (fun i v g e1 e2 H' s R k => ?_) hQ
  rw [List.getElem?_map] at e1
  cases e3 : as[i]? with
  | none => rw [e3] at e1; cases e1
  | some b =>
    rw [e3] at e1
    cases e1
    obtain ⟨xs, e4, hb⟩ := h.row.get' e3
    rw [e2] at e4; cases e4
    simp only [rd_cb, rd_cons, rd_nil, cst, rd_var0, rd_onO, rd_list, rd_on1, onS_of (s _ _ hb), rd_new]
    exact fun p hp => k p _ (Same.upd_new hp) hp upd_same
theorem comp_rowsTV {J : It} {H : Hp} {xs : List V} {cp : List Nat} {σ : St} {tt : TT} {te : TE} {Q : VK} (Y : Yields J H xs) (p : V → Bool) (g : V → List V) (hz : xs.length ≤ 10000)
    (ht : ∀ v ∈ xs, ∀ H', Same H H' → ∀ R : Bool → Hp → Prop, (∀ H'', Same H' H'' → R (p v) H'') → tt (cst cp σ (some v)) H' R)
    (he : ∀ v ∈ xs, p v = true → ∀ H', Same H H' → ∀ R : VK, (∀ b H'', Same H' H'' → H' b = none → H'' b = some (.lst (g v)) → R (.ref b) H'') → te (cst cp σ (some v)) H' R)
    (hQ : ∀ D as H', H D = none → Same H H' → RowsV H' D as ((xs.filter p).map g) → Fresh H (D :: as) → Q (.ref D) H') :
    ∀ D, H D = none → ∃ W : Nat → Nat → Hp → Prop, (∃ m, W 0 m (upd H D (.lst []))) ∧ ∀ i m H, W i m H →
      (J.stop i H ∧ Q (.ref D) H) ∨ (J.go i H ∧ ∀ v H', J.yld i H v H' → tt (cst cp σ (some v)) H' fun b H2 =>
        if b = true then te (cst cp σ (some v)) H2 fun y H3 => ∃ ys, H3 D = some (.lst ys) ∧ ys.length < sizeLine ∧ ∃ m', m' < m ∧ W (i + 1) m' (upd H3 D (.lst (ys ++ [y])))
        else ∃ m', m' < m ∧ W (i + 1) m' H2) := by
  intro D hD
  refine ⟨fun i m H' => m = xs.length - i ∧ i ≤ xs.length ∧ Same H H' ∧ ∃ as, RowsV H' D as (((xs.take i).filter p).map g) ∧ Fresh H (D :: as), ⟨xs.length, by simp, Nat.zero_le _, Same.upd_new hD, [], ⟨upd_same, by simpa using Paired.nil⟩, ⟨by simp, by simpa using hD⟩⟩, ?_⟩
  rintro i m H1 ⟨rfl, hi, sm, as, ra, fr⟩
  by_cases hlt : i < xs.length
  · have e : xs[i]? = some xs[i] := List.getElem?_eq_getElem hlt
    have hm : xs[i] ∈ xs := List.getElem_mem hlt
    obtain ⟨gg, yl⟩ := Y.go i _ _ sm e
    refine .inr ⟨gg, fun v H' y => ?_⟩
    obtain ⟨rfl, rfl⟩ := yl v H' y
    refine ht _ hm _ sm _ fun H2 s2 => ?_
    have tk := take_next e
    have la : as.length ≤ i := by
      have h1 := RowsW.len ra.row
      have h2 := List.length_filter_le p (xs.take i)
      rw [List.length_map] at h1
      rw [List.length_take] at h2
      trivial
    by_cases hp : p xs[i] = true
    · rw [if_pos hp]
      have ra := ra.same s2
      refine he _ hm hp _ (sm.trans s2) _ fun b H3 s3 hb hb3 => ?_
      have bD : b ≠ D := fun z => by rw [z, ra.top] at hb; cases hb
      have bas : b ∉ as := RowsW.notin ra.row hb
      have nD : ∀ c ∈ as, c ≠ D := fun c hc z => (List.nodup_cons.mp fr.nd).1 (z ▸ hc)
      refine ⟨as.map V.ref, s3 _ _ ra.top, line100 (by rw [List.length_map]; trivial), xs.length - (i + 1), by trivial, rfl, hlt, ((sm.trans s2).trans s3).upd_in hD, as ++ [b], ⟨?_, ?_⟩, ?_⟩
      · rw [upd_same, List.map_append]; rfl
      · rw [tk, List.filter_append, List.filter_cons, if_pos hp, List.filter_nil, List.map_append]
        refine RowsW.mono (RowsW.snoc (RowsW.same ra.row s3) hb3) fun c hc o q => ?_
        rw [upd_ne]
        · exact q
        · rcases List.mem_append.mp hc with hc | hc
          · exact nD c hc
          · have : c = b := by simpa using hc
            rw [this]; exact bD
      · have : Fresh H ((D :: as) ++ [b]) := Fresh.snoc fr ((sm.trans s2).free hb) (fun z => by
          rcases List.mem_cons.mp z with z | z
          · exact bD z
          · exact bas z)
        exact this
    · rw [if_neg hp]
      refine ⟨xs.length - (i + 1), by trivial, rfl, hlt, sm.trans s2, as, ?_, fr⟩
      rw [tk, List.filter_append, List.filter_cons, if_neg hp, List.filter_nil, List.append_nil]
      exact ra.same s2
  · have e : i = xs.length := by trivial
    subst e
    refine .inl ⟨Y.stop _ _ sm (Nat.le_refl _), ?_⟩
    rw [List.take_length] at ra
    exact hQ D as H1 hD sm ra fr
theorem rowsV_map {H : Hp} {α : Type} {as : List Addr} {xss : List (List V)} (h : RowsW H as xss) (f : V → α) (g : List V → α) (hf : ∀ b xs, b ∈ as → xs ∈ xss → H b = some (.lst xs) → f (.ref b) = g xs) : (as.map V.ref).map f = xss.map g := by
  induction h with
  | nil => rfl
  | cons r t ih =>
    rw [List.map_cons, List.map_cons, List.map_cons, hf _ _ List.mem_cons_self List.mem_cons_self r, ih fun b xs hb hx => hf b xs (List.mem_cons_of_mem _ hb) (List.mem_cons_of_mem _ hx)]
theorem rowsV_filt {H : Hp} {as : List Addr} {xss : List (List V)} (h : RowsW H as xss) (p : V → Bool) (q : List V → Bool) (hp : ∀ b xs, H b = some (.lst xs) → p (.ref b) = q xs) : ∃ bs, (as.map V.ref).filter p = bs.map V.ref ∧ RowsW H bs (xss.filter q) := by
  induction h with
  | nil => exact ⟨[], rfl, .nil⟩
  | @cons b xs as xss r t ih =>
    obtain ⟨bs, e, hb⟩ := ih
    rw [List.map_cons, List.filter_cons, List.filter_cons, hp b xs r]
    cases q xs with
    | true => exact ⟨b :: bs, by rw [if_pos rfl, e]; rfl, by rw [if_pos rfl]; exact .cons r hb⟩
    | false => exact ⟨bs, by rw [if_neg Bool.false_ne_true]; exact e, by rw [if_neg Bool.false_ne_true]; exact hb⟩
theorem rowsV_mem {H : Hp} {as : List Addr} {xss : List (List V)} {v : V} (h : RowsW H as xss) (hv : v ∈ as.map V.ref) : ∃ b xs, v = .ref b ∧ b ∈ as ∧ xs ∈ xss ∧ H b = some (.lst xs) := by
  obtain ⟨b, hb, rfl⟩ := List.mem_map.mp hv
  obtain ⟨i, hi⟩ := List.getElem?_of_mem hb
  obtain ⟨xs, ex, hx⟩ := RowsW.get' h hi
  exact ⟨b, xs, rfl, hb, List.mem_of_getElem? ex, hx⟩
theorem RowsV.toZ {H : Hp} {a : Addr} {as : List Addr} {xss : List (List Int)} (h : RowsV H a as (xss.map fun r => r.map V.int)) : RowsAt H a as xss := by
  refine ⟨h.top, ?_⟩
  have : ∀ {as : List Addr} {xss : List (List Int)}, RowsW H as (xss.map fun r => r.map V.int) → RowsL H as xss := by
    intro as xss
    induction xss generalizing as with
    | nil => intro h; cases h; exact .nil
    | cons x xss ih => intro h; cases h with | cons r t => exact .cons r (ih t)
  exact this h.row
end L2
namespace L2
open PySem PySem.Spec PyProof.Rows
theorem comp_pureG {J : It} {H : Hp} {xs : List V} {cp : List Nat} {σ : St} {tt : TT} {te : TE} {Q : VK} (Y : Yields J H xs) (p : V → Bool) (f : V → V) (hz : xs.length ≤ 10000)
    (ht : ∀ v ∈ xs, ∀ H', Same H H' → ∀ R : Bool → Hp → Prop, (∀ H'', Same H' H'' → R (p v) H'') → tt (cst cp σ (some v)) H' R)
    (he : ∀ v ∈ xs, p v = true → ∀ H', Same H H' → ∀ R : VK, (∀ H'', Same H' H'' → R (f v) H'') → te (cst cp σ (some v)) H' R)
    (hQ : ∀ D H', H D = none → Same H H' → H' D = some (.lst ((xs.filter p).map f)) → Q (.ref D) H') :
    ∀ D, H D = none → ∃ W : Nat → Nat → Hp → Prop, (∃ m, W 0 m (upd H D (.lst []))) ∧ ∀ i m H, W i m H →
      (J.stop i H ∧ Q (.ref D) H) ∨ (J.go i H ∧ ∀ v H', J.yld i H v H' → tt (cst cp σ (some v)) H' fun b H2 =>
        if b = true then te (cst cp σ (some v)) H2 fun y H3 => ∃ ys, H3 D = some (.lst ys) ∧ ys.length < sizeLine ∧ ∃ m', m' < m ∧ W (i + 1) m' (upd H3 D (.lst (ys ++ [y])))
        else ∃ m', m' < m ∧ W (i + 1) m' H2) := by
  intro D hD
  refine ⟨fun i m H' => m = xs.length - i ∧ i ≤ xs.length ∧ Same H H' ∧ H' D = some (.lst (((xs.take i).filter p).map f)), ⟨xs.length, by simp, Nat.zero_le _, Same.upd_new hD, by rw [upd_same]; rfl⟩, ?_⟩
  rintro i m H1 ⟨rfl, hi, sm, hd⟩
  by_cases hlt : i < xs.length
  · have e : xs[i]? = some xs[i] := List.getElem?_eq_getElem hlt
    have hm : xs[i] ∈ xs := List.getElem_mem hlt
    obtain ⟨gg, yl⟩ := Y.go i _ _ sm e
    refine .inr ⟨gg, fun v H' y => ?_⟩
    obtain ⟨rfl, rfl⟩ := yl v H' y
    refine ht _ hm _ sm _ fun H2 s2 => ?_
    have tk := take_next e
    have la : (((xs.take i).filter p).map f).length ≤ i := by
      have h2 := List.length_filter_le p (xs.take i)
      rw [List.length_map]
      rw [List.length_take] at h2
      trivial
    by_cases hp : p xs[i] = true
    · rw [if_pos hp]
      refine he _ hm hp _ (sm.trans s2) _ fun H3 s3 => ?_
      refine ⟨_, s3 _ _ (s2 _ _ hd), line100 (by trivial), xs.length - (i + 1), by trivial, rfl, hlt, ((sm.trans s2).trans s3).upd_in hD, ?_⟩
      rw [upd_same, tk, List.filter_append, List.filter_cons, if_pos hp, List.filter_nil, List.map_append]; rfl
    · rw [if_neg hp]
      refine ⟨xs.length - (i + 1), by trivial, rfl, hlt, sm.trans s2, ?_⟩
      rw [tk, List.filter_append, List.filter_cons, if_neg hp, List.filter_nil, List.append_nil]
      exact s2 _ _ hd
  · have e : i = xs.length := by trivial
    subst e
    refine .inl ⟨Y.stop _ _ sm (Nat.le_refl _), ?_⟩
    rw [List.take_length] at hd
    exact hQ D H1 hD sm hd
theorem comp_listG {K : PySem.W.Frag} {tl : TE} {cp : List Nat} {tt : TT} {te : TE} {σ : St} {H : Hp} {Q : VK} {a : Addr} {xs : List V} (hl : ∀ R : VK, R (.ref a) H → tl σ H R) (h : H a = some (.lst xs)) (p : V → Bool) (f : V → V) (hz : xs.length ≤ 10000)
    (ht : ∀ v ∈ xs, ∀ H', Same H H' → ∀ R : Bool → Hp → Prop, (∀ H'', Same H' H'' → R (p v) H'') → tt (cst cp σ (some v)) H' R)
    (he : ∀ v ∈ xs, p v = true → ∀ H', Same H H' → ∀ R : VK, (∀ H'', Same H' H'' → R (f v) H'') → te (cst cp σ (some v)) H' R)
    (hQ : ∀ D H', H D = none → Same H H' → H' D = some (.lst ((xs.filter p).map f)) → Q (.ref D) H') : tComp (iL K tl) cp tt te σ H Q := by
  refine hl _ ?_
  rw [onL_of h]
  exact comp_pureG (yields_list h) p f hz ht he hQ
theorem comp_listTV {K : PySem.W.Frag} {tl : TE} {cp : List Nat} {tt : TT} {te : TE} {σ : St} {H : Hp} {Q : VK} {a : Addr} {xs : List V} (hl : ∀ R : VK, R (.ref a) H → tl σ H R) (h : H a = some (.lst xs)) (p : V → Bool) (g : V → List V) (hz : xs.length ≤ 10000)
    (ht : ∀ v ∈ xs, ∀ H', Same H H' → ∀ R : Bool → Hp → Prop, (∀ H'', Same H' H'' → R (p v) H'') → tt (cst cp σ (some v)) H' R)
    (he : ∀ v ∈ xs, p v = true → ∀ H', Same H H' → ∀ R : VK, (∀ b H'', Same H' H'' → H' b = none → H'' b = some (.lst (g v)) → R (.ref b) H'') → te (cst cp σ (some v)) H' R)
    (hQ : ∀ D as H', H D = none → Same H H' → RowsV H' D as ((xs.filter p).map g) → Fresh H (D :: as) → Q (.ref D) H') : tComp (iL K tl) cp tt te σ H Q := by
  refine hl _ ?_
  rw [onL_of h]
  exact comp_rowsTV (yields_list h) p g hz ht he hQ
noncomputable def intsOf (l : List V) : List Int := l.filterMap fun v => match v with | .int i => some i | _ => none
theorem intsOf_ints (xs : List Int) : intsOf (xs.map V.int) = xs := by
  unfold intsOf
  rw [List.filterMap_map]
  simp [Function.comp_def]
theorem leaf_filter : ∀ {l : List V}, l.all isLeaf = true → l.filter (fun v => !decide (v = V.non)) = (intsOf l).map V.int
  | [], _ => rfl
  | v :: l, h => by
    rw [List.all_cons, Bool.and_eq_true] at h
    have ih := leaf_filter h.2
    cases v with
    | int i => simpa [intsOf] using ih
    | non => simpa [intsOf] using ih
    | _ => simp [isLeaf] at h
theorem intsOf_len (l : List V) : (intsOf l).length ≤ l.length := List.length_filterMap_le _ _
noncomputable def readV (vss : List (List V)) : List Int := (vss.reverse.map intsOf).flatten
noncomputable def colV (vss : List (List V)) (p : Nat) : List V := (vss.filter fun r => decide (p < r.length)).map fun r => r.getD p .non
noncomputable def widthV (vss : List (List V)) : Nat := (vss.headD []).length
noncomputable def turnV (vss : List (List V)) : List (List V) := (List.range (widthV vss)).map (colV vss)
noncomputable def holesV (l : List V) : Nat := l.countP fun z => eqV z .non
noncomputable def riseV (l : List V) : Bool := decide (l = List.replicate (holesV l) .non ++ (sortZ (intsOf l)).map V.int)
noncomputable def shapeB (ls : List Int) : Bool := decide (ls = sortR ls) && ls.all fun x => decide (1 ≤ x)
noncomputable def lensV (vss : List (List V)) : List Int := vss.map fun r => (r.length : Int)
noncomputable def holedV (vss : List (List V)) : Bool := shapeB (lensV vss) && decide (readV vss).Nodup && vss.all riseV && (turnV vss).all riseV
theorem leaf_flat {l : List V} (h : l.all isLeaf = true) : l.all flatV = true := by
  rw [List.all_eq_true] at h ⊢
  intro v hv
  have := h v hv
  cases v <;> simp_all [isLeaf, flatV]
theorem holesV_le (l : List V) : holesV l ≤ l.length := List.countP_le_length
theorem leaf_col {vss : List (List V)} (h : ∀ r ∈ vss, r.all isLeaf = true) (p : Nat) : (colV vss p).all isLeaf = true := by
  rw [List.all_eq_true]
  intro v hv
  obtain ⟨r, hr, rfl⟩ := List.mem_map.mp hv
  obtain ⟨h1, h2⟩ := List.mem_filter.mp hr
  have hp := of_decide_eq_true h2
  rw [List.getD_eq_getElem?_getD, List.getElem?_eq_getElem hp]
  exact List.all_eq_true.mp (h r h1) _ (List.getElem_mem hp)
theorem colV_len (vss : List (List V)) (p : Nat) : (colV vss p).length ≤ vss.length := by
  unfold colV
  rw [List.length_map]
  exact List.length_filter_le _ _
end L2
namespace L2
open PySem PySem.Spec PyProof.Rows RS
theorem pi_lK {X : Cx} {tg : Expr} {l : Expr} {tl : TE} {K : PySem.W.Frag} (hK : X.K = K) (hl : PE X l tl) : PI X tg l (iL K tl) := by subst hK; exact pi_l hl
noncomputable def hol (low : List Int) (n : Int) : V := if n ∈ low then .non else .int n
noncomputable def holR (low : List Int) (R : List (List Int)) : List (List V) := R.map fun r => r.map (hol low)
noncomputable def Down (low : List Int) (R : List (List Int)) : Prop := ∀ x ∈ R.flatten, ∀ y ∈ R.flatten, x < y → y ∈ low → x ∈ low
theorem hol_leaf (low : List Int) (n : Int) : isLeaf (hol low n) = true := by unfold hol; split <;> rfl
theorem holR_leaf {low : List Int} {R : List (List Int)} : ∀ r ∈ holR low R, r.all isLeaf = true := fun r hr => by
  obtain ⟨x, _, rfl⟩ := List.mem_map.mp hr
  rw [List.all_eq_true]
  intro v hv
  obtain ⟨n, _, rfl⟩ := List.mem_map.mp hv
  exact hol_leaf low n
theorem down_take {R : List (List Int)} (d : Nat) : Down ((sortZ R.flatten).take d) R := fun x hx y hy hlt hm => by
  have px : x ∈ sortZ R.flatten := (sortZ_perm _).mem_iff.mpr hx
  rw [← List.take_append_drop d (sortZ R.flatten)] at px
  rcases List.mem_append.mp px with h | h
  · exact h
  · have := sortZ_le R.flatten
    rw [← List.take_append_drop d (sortZ R.flatten)] at this
    have := (List.pairwise_append.mp this).2.2 y hm x h
    trivial
theorem down_take2 {R : List (List Int)} (d e : Nat) : Down (((sortZ R.flatten).take d).take e) R := by rw [List.take_take]; exact down_take _
end L2
namespace L2
open PySem PySem.Spec PyProof.Rows RS
section
variable {X : Cx}
noncomputable def rNotT : R2 := fun x y H Q => onB x fun b => y = .bl true ∧ Q (.bl (!b)) H
noncomputable def rIsT : R2 := fun x y H Q => onB x fun b => y = .bl true ∧ Q (.bl b) H
@[simp] theorem rd_notT {b : Bool} {H : Hp} {Q : VK} : rNotT (.bl b) (.bl true) H Q = Q (.bl (!b)) H := by simp [rNotT]
@[simp] theorem rd_isT {b : Bool} {H : Hp} {Q : VK} : rIsT (.bl b) (.bl true) H Q = Q (.bl b) H := by simp [rIsT]
end
noncomputable def cellV (X : List (List V)) (i j : Nat) : Option V := (X[i]?).bind fun r => r[j]?
noncomputable def setV (X : List (List V)) (i j : Nat) (v : V) : List (List V) := X.set i ((X.getD i []).set j v)
theorem setV_len (X : List (List V)) (i j : Nat) (v : V) : (setV X i j v).length = X.length := by simp [setV]
theorem getD_row {X : List (List V)} {i : Nat} {r : List V} (h : X[i]? = some r) : X.getD i [] = r := by rw [List.getD_eq_getElem?_getD, h]; rfl
theorem setV_row {X : List (List V)} {i j : Nat} {v : V} (k : Nat) : (setV X i j v)[k]? = (X[k]?).map fun r => if k = i then r.set j v else r := by
  unfold setV
  by_cases h : k = i
  · subst h
    rw [List.getElem?_set]
    cases e : X[k]? with
    | none => simp [List.getElem?_eq_none_iff.mp e]
    | some r =>
      have := (List.getElem?_eq_some_iff.mp e).1
      rw [if_pos rfl, if_pos this, getD_row e]; simp
  · rw [List.getElem?_set_ne (Ne.symm h)]
    cases X[k]? with
    | none => rfl
    | some r => simp [h]
theorem cell_setV {X : List (List V)} {i j : Nat} {v : V} (k l : Nat) : cellV (setV X i j v) k l = (cellV X k l).map fun w => if k = i ∧ l = j then v else w := by
  unfold cellV
  rw [setV_row]
  cases X[k]? with
  | none => rfl
  | some r =>
    by_cases h : k = i
    · simp only [h, if_true, Option.map_some, Option.bind_some, true_and]
      rw [List.getElem?_set]
      by_cases hl : l = j
      · subst hl
        by_cases hlt : l < r.length
        · simp [hlt]
        · simp [hlt]
      · rw [if_neg (Ne.symm hl)]
        cases r[l]? <;> simp [hl]
    · simp only [h, if_false, Option.map_some, Option.bind_some, false_and]
      cases r[l]? <;> simp
inductive SlidR : List (List V) → Nat → Nat → List (List V) × Nat → Prop
  | stop {X : List (List V)} {i j : Nat} : cellV X i (j + 1) = none → cellV X (i + 1) j = none → SlidR X i j ((X.set i ((X.getD i []).take j)).filter (fun r => !r.isEmpty), i)
  | right {X : List (List V)} {i j : Nat} {r : Int} {F : List (List V) × Nat} : cellV X i (j + 1) = some (.int r) → (cellV X (i + 1) j = none ∨ ∃ b, cellV X (i + 1) j = some (.int b) ∧ ¬ b < r) → SlidR (setV X i j (.int r)) i (j + 1) F → SlidR X i j F
  | down {X : List (List V)} {i j : Nat} {b : Int} {F : List (List V) × Nat} : cellV X (i + 1) j = some (.int b) → (cellV X i (j + 1) = none ∨ ∃ r, cellV X i (j + 1) = some (.int r) ∧ b < r) → SlidR (setV X i j (.int b)) (i + 1) j F → SlidR X i j F
noncomputable def NumF (hs : Nat → Nat) (X : List (List V)) : Prop := ∀ i j v, cellV X i j = some v → hs i ≤ j → ∃ n, v = .int n
theorem NumF.set {hs : Nat → Nat} {X : List (List V)} (h : NumF hs X) (i j : Nat) (n : Int) : NumF hs (setV X i j (.int n)) := fun k l v e hk => by
  rw [cell_setV] at e
  cases c : cellV X k l with
  | none => rw [c] at e; cases e
  | some w =>
    rw [c] at e
    simp only [Option.map_some, Option.some.injEq] at e
    by_cases hh : k = i ∧ l = j
    · rw [if_pos hh] at e; exact ⟨n, e.symm⟩
    · rw [if_neg hh] at e; subst e; exact h k l w c hk
theorem cell_lt {X : List (List V)} {i j : Nat} {v : V} (h : cellV X i j = some v) : i < X.length ∧ ∃ r, X[i]? = some r ∧ j < r.length ∧ r[j]? = some v := by
  unfold cellV at h
  cases e : X[i]? with
  | none => rw [e] at h; cases h
  | some r =>
    rw [e] at h
    exact ⟨(List.getElem?_eq_some_iff.mp e).1, r, rfl, (List.getElem?_eq_some_iff.mp h).1, h⟩
theorem slid_ex {hs : Nat → Nat} (anti : ∀ i, hs (i + 1) ≤ hs i) {W : Nat} (m : Nat) : ∀ (X : List (List V)) (i j : Nat), (∀ r ∈ X, r.length ≤ W) → NumF hs X → hs (i + 1) ≤ j → hs i ≤ j + 1 → X.length + W - (i + j) ≤ m → ∃ F, SlidR X i j F := by
  induction m using Nat.strongRecOn with
  | _ m ih =>
    intro X i j hw nf h1 h2 hm
    have rowW : ∀ {i j v}, cellV X i j = some v → i < X.length ∧ j < W := fun h => by
      obtain ⟨a, r, e, b, _⟩ := cell_lt h
      exact ⟨a, Nat.lt_of_lt_of_le b (hw r (List.mem_of_getElem? e))⟩
    have hwS : ∀ n : Int, ∀ r ∈ setV X i j (.int n), r.length ≤ W := fun n r hr => by
      obtain ⟨k, hk⟩ := List.getElem?_of_mem hr
      rw [setV_row] at hk
      cases e : X[k]? with
      | none => rw [e] at hk; cases hk
      | some r0 =>
        rw [e] at hk
        simp only [Option.map_some, Option.some.injEq] at hk
        have := hw r0 (List.mem_of_getElem? e)
        rw [← hk]
        split <;> simp <;> exact this
    cases cr : cellV X i (j + 1) with
    | none =>
      cases cb : cellV X (i + 1) j with
      | none => exact ⟨_, .stop cr cb⟩
      | some v =>
        obtain ⟨b, rfl⟩ := nf _ _ _ cb h1
        obtain ⟨g1, g2⟩ := rowW cb
        cases m with
        | zero => trivial
        | succ m =>
          obtain ⟨F, hF⟩ := ih m (Nat.lt_succ_self m) (setV X i j (.int b)) (i + 1) j (hwS b) (nf.set i j b) (Nat.le_trans (anti _) h1) (Nat.le_trans h1 (Nat.le_succ _)) (by rw [setV_len]; trivial)
          exact ⟨F, .down cb (.inl cr) hF⟩
    | some v =>
      obtain ⟨r, rfl⟩ := nf _ _ _ cr h2
      obtain ⟨g1, g2⟩ := rowW cr
      have goRight : (cellV X (i + 1) j = none ∨ ∃ b, cellV X (i + 1) j = some (.int b) ∧ ¬ b < r) → ∃ F, SlidR X i j F := fun hb => by
        cases m with
        | zero => trivial
        | succ m =>
          obtain ⟨F, hF⟩ := ih m (Nat.lt_succ_self m) (setV X i j (.int r)) i (j + 1) (hwS r) (nf.set i j r) (by trivial) (by trivial) (by rw [setV_len]; trivial)
          exact ⟨F, .right cr hb hF⟩
      cases cb : cellV X (i + 1) j with
      | none => exact goRight (.inl cb)
      | some w =>
        obtain ⟨b, rfl⟩ := nf _ _ _ cb h1
        by_cases hlt : b < r
        · obtain ⟨g3, g4⟩ := rowW cb
          cases m with
          | zero => trivial
          | succ m =>
            obtain ⟨F, hF⟩ := ih m (Nat.lt_succ_self m) (setV X i j (.int b)) (i + 1) j (hwS b) (nf.set i j b) (Nat.le_trans (anti _) h1) (Nat.le_trans h1 (Nat.le_succ _)) (by rw [setV_len]; trivial)
            exact ⟨F, .down cb (.inr ⟨r, cr, hlt⟩) hF⟩
        · exact goRight (.inr ⟨b, cb, hlt⟩)
theorem rowsV_filtS {H : Hp} {as : List Addr} {xss : List (List V)} (h : RowsW H as xss) (p : V → Bool) (q : List V → Bool) (hp : ∀ b xs, H b = some (.lst xs) → p (.ref b) = q xs) : ∃ bs, (as.map V.ref).filter p = bs.map V.ref ∧ RowsW H bs (xss.filter q) ∧ bs.Sublist as := by
  induction h with
  | nil => exact ⟨[], rfl, .nil, List.Sublist.refl _⟩
  | @cons b xs as xss r t ih =>
    obtain ⟨bs, e, hb, hs⟩ := ih
    rw [List.map_cons, List.filter_cons, List.filter_cons, hp b xs r]
    cases q xs with
    | true => exact ⟨b :: bs, by rw [if_pos rfl, e]; rfl, by rw [if_pos rfl]; exact .cons r hb, hs.cons_cons b⟩
    | false => exact ⟨bs, by rw [if_neg Bool.false_ne_true]; exact e, by rw [if_neg Bool.false_ne_true]; exact hb, hs.cons b⟩
end L2
namespace L2
open PySem PySem.Spec PyProof.Rows
theorem while_G {c : TT} {tb : TS} {D : Ends} {σ : St} {H : Hp} (Pv : Nat → St → Hp → Prop) (m : Nat) (h0 : Pv m σ H)
    (hs : ∀ m σ H, Pv m σ H → ∃ b : Bool, (∀ R : Bool → Hp → Prop, R b H → c σ H R) ∧ if b = true then tb { D with nx := fun σ' H' => ∃ m', m' < m ∧ Pv m' σ' H', ct := fun σ' H' => ∃ m', m' < m ∧ Pv m' σ' H', bk := D.nx } σ H else D.nx σ H) : tWhile c tb D σ H := by
  refine ⟨Pv, ⟨m, h0⟩, fun m σ H p => ?_⟩
  obtain ⟨b, hc, k⟩ := hs m σ H p
  refine hc _ ?_
  cases b with
  | true => rw [if_pos rfl] at k ⊢; exact ⟨_, fun σ' H' h => h, k⟩
  | false => rw [if_neg Bool.false_ne_true] at k ⊢; exact k
theorem orC {tA tB : TT} {σ : St} {H : Hp} {R : Bool → Hp → Prop} (b1 b2 : Bool) (h1 : ∀ R : Bool → Hp → Prop, R b1 H → tA σ H R) (h2 : ∀ R : Bool → Hp → Prop, R b2 H → tB σ H R) (k : R (b1 || b2) H) : tOr tA tB σ H R := by
  rw [rd_or]
  refine h1 _ ?_
  cases b1 with
  | true => exact k
  | false => exact h2 _ (by simpa using k)
end L2
namespace L2
end L2
namespace L2
open PySem PySem.Spec PyProof.Rows RS
noncomputable def DecV (R : List (List V)) : Prop := R.Pairwise (fun r s => s.length ≤ r.length)
theorem DecV.column_get : ∀ {R : List (List V)}, DecV R → ∀ (p q : Nat), (colV R p)[q]? = (R[q]?).bind (fun r => r[p]?)
  | [], _, p, q => by simp [colV]
  | r :: R, h, p, q => by
    have h1 := List.pairwise_cons.mp h
    have ih := DecV.column_get h1.2 p
    by_cases hp : p < r.length
    · have e : colV (r :: R) p = r.getD p .non :: colV R p := by
        unfold colV
        rw [List.filter_cons, if_pos (decide_eq_true hp), List.map_cons]
      rw [e]
      cases q with
      | zero => simp [List.getD_eq_getElem?_getD, List.getElem?_eq_getElem hp]
      | succ q => simp only [List.getElem?_cons_succ]; exact ih q
    · have e : colV (r :: R) p = [] := by
        unfold colV
        rw [List.filter_eq_nil_iff.mpr]
        · rfl
        · intro s hs
          have : s.length ≤ r.length := by
            rcases List.mem_cons.mp hs with rfl | hs
            · exact Nat.le_refl _
            · exact h1.1 s hs
          simp; trivial
      rw [e]
      cases hq : (r :: R)[q]? with
      | none => simp
      | some s =>
        have hs : s ∈ r :: R := List.mem_of_getElem? hq
        have : s.length ≤ r.length := by
          rcases List.mem_cons.mp hs with rfl | hs
          · exact Nat.le_refl _
          · exact h1.1 s hs
        simp only [Option.bind_some, List.getElem?_nil]
        exact (List.getElem?_eq_none (by trivial)).symm
theorem shape_dec {X : List (List V)} (h : shapeB (lensV X) = true) : DecV X ∧ ∀ r ∈ X, r ≠ [] := by
  unfold shapeB at h
  rw [Bool.and_eq_true, decide_eq_true_eq] at h
  constructor
  · have := sortR_ge (lensV X)
    rw [← h.1] at this
    unfold lensV at this
    rw [List.pairwise_map] at this
    exact this.imp fun {r s} (g : (r.length : Int) ≥ (s.length : Int)) => by trivial
  · intro r hr z
    have := List.all_eq_true.mp h.2 (r.length : Int) (List.mem_map.mpr ⟨r, hr, rfl⟩)
    rw [z] at this
    simp at this
theorem rise_at {l : List V} (h : riseV l = true) {j : Nat} {v : V} (e : l[j]? = some v) : (j < holesV l ∧ v = .non) ∨ (holesV l ≤ j ∧ ∃ n, v = .int n) := by
  unfold riseV at h
  rw [decide_eq_true_eq] at h
  rw [h] at e
  by_cases hj : j < holesV l
  · rw [List.getElem?_append_left (by simpa using hj), List.getElem?_replicate, if_pos hj] at e
    exact .inl ⟨hj, by simpa using e.symm⟩
  · rw [List.getElem?_append_right (by simp; trivial), List.getElem?_map] at e
    refine .inr ⟨by trivial, ?_⟩
    cases c : (sortZ (intsOf l))[j - (List.replicate (holesV l) V.non).length]? with
    | none => rw [c] at e; cases e
    | some n => rw [c] at e; exact ⟨n, by simpa using e.symm⟩
structure HolF (X : List (List V)) : Prop where
  dec : DecV X
  pos : ∀ r ∈ X, r ≠ []
  rows : ∀ r ∈ X, riseV r = true
  cols : ∀ p, p < widthV X → riseV (colV X p) = true
  nd : (readV X).Nodup
theorem holed_facts {X : List (List V)} (h : holedV X = true) : HolF X := by
  unfold holedV at h
  rw [Bool.and_eq_true, Bool.and_eq_true, Bool.and_eq_true, decide_eq_true_eq] at h
  obtain ⟨⟨⟨h1, h2⟩, h3⟩, h4⟩ := h
  obtain ⟨d, p⟩ := shape_dec h1
  exact ⟨d, p, List.all_eq_true.mp h3, fun q hq => List.all_eq_true.mp h4 _ (List.mem_map.mpr ⟨q, List.mem_range.mpr hq, rfl⟩), h2⟩
noncomputable def hsV (X : List (List V)) (i : Nat) : Nat := holesV (X.getD i [])
theorem HolF.num {X : List (List V)} (h : HolF X) : NumF (hsV X) X := fun i j v e hle => by
  obtain ⟨_, r, er, _, ev⟩ := cell_lt e
  unfold hsV at hle
  rw [getD_row er] at hle
  rcases rise_at (h.rows r (List.mem_of_getElem? er)) ev with ⟨g, _⟩ | ⟨_, g⟩
  · trivial
  · exact g
theorem HolF.anti {X : List (List V)} (h : HolF X) (k : Nat) : hsV X (k + 1) ≤ hsV X k := by
  by_cases hk : k + 1 < X.length
  · have e1 : X[k + 1]? = some X[k + 1] := List.getElem?_eq_getElem hk
    have e0 : X[k]? = some (X[k]'(by trivial)) := List.getElem?_eq_getElem (by trivial)
    unfold hsV
    rw [getD_row e1, getD_row e0]
    cases hz : holesV X[k + 1] with
    | zero => trivial
    | succ m =>
      have hle := holesV_le X[k + 1]
      have hm : m < X[k + 1].length := by trivial
      have dl : X[k + 1].length ≤ (X[k]'(by trivial)).length := List.pairwise_iff_getElem.mp h.dec k (k + 1) (by trivial) hk (by trivial)
      have d0 : (X[k]'(by trivial)).length ≤ widthV X := by
        unfold widthV
        cases k with
        | zero => cases X with
          | nil => simp at hk
          | cons a X => simp
        | succ k =>
          have := List.pairwise_iff_getElem.mp h.dec 0 (k + 1) (by trivial) (by trivial) (by trivial)
          cases X with
          | nil => simp at hk
          | cons a X => simpa using this
      have ev1 : X[k + 1][m]? = some X[k + 1][m] := List.getElem?_eq_getElem hm
      have ev0 : (X[k]'(by trivial))[m]? = some ((X[k]'(by trivial))[m]'(by trivial)) := List.getElem?_eq_getElem (by trivial)
      have isn : X[k + 1][m] = .non := by
        rcases rise_at (h.rows _ (List.mem_of_getElem? e1)) ev1 with ⟨_, g⟩ | ⟨g, _⟩
        · exact g
        · trivial
      have c1 : (colV X m)[k + 1]? = some .non := by rw [DecV.column_get h.dec, e1, Option.bind_some, ev1, isn]
      have c0 : (colV X m)[k]? = some ((X[k]'(by trivial))[m]'(by trivial)) := by rw [DecV.column_get h.dec, e0, Option.bind_some, ev0]
      have rc := h.cols m (by trivial)
      have hc1 : k + 1 < holesV (colV X m) := by
        rcases rise_at rc c1 with ⟨g, _⟩ | ⟨_, n, g⟩
        · exact g
        · cases g
      have : (X[k]'(by trivial))[m]'(by trivial) = .non := by
        rcases rise_at rc c0 with ⟨_, g⟩ | ⟨g, _⟩
        · exact g
        · trivial
      rcases rise_at (h.rows _ (List.mem_of_getElem? e0)) ev0 with ⟨g, _⟩ | ⟨_, n, g⟩
      · trivial
      · rw [this] at g; cases g
  · unfold hsV
    rw [List.getD_eq_getElem?_getD, List.getElem?_eq_none (by trivial)]
    simp [holesV]
end L2
namespace L2
open PySem PySem.Spec PyProof.Rows
noncomputable def Itd (hi : Int) (n : Nat) : It := ⟨fun i _ => i < n, fun i H x H' => H' = H ∧ x = .int (hi - i), fun i _ => n ≤ i⟩
theorem turn_down {P : Program} {w : World} {K : PySem.W.Frag} {tg : Expr} (it : Addr) (hi : Int) (n : Nat) : Turn P w K tg (Itd hi n) [it] it (fun i h => IsRangeIter h it (hi + (i : Nat) * (-1)) ((n : Int) - (i : Nat)) (-1)) where
  mem := by simp
  obj := fun i h st b hb => by
    have e : b = it := by simpa using hb
    subst e
    exact ⟨_, st, fun v z => by
      have z' : Data.fields _ = Data.cell v := z
      cases z'⟩
  keep := fun i h h' st k => k it (by simp) _ st
  item := by
    intro X hP hw hK hc i pins s σ H E I hf st hg
    subst hP hw hK
    obtain ⟨f0, f1, f2, f3, f4, f5⟩ := hf it (by simp)
    have W := Walks.range (prog := X.prog) (w := X.w) (I.ok.hd hc) it hi (-1) n
    refine W.item i s _ _ hg st fun v h' tk hv st' kk => ?_
    obtain ⟨t, rfl⟩ := hv
    have I1 : Inv X pins σ H { s with heap := h', toks := tk } := I.turned (fun b o hb e => kk b o (by simpa using hb) e) f0 f1 f3 f4 f5
    refine ⟨_, rfl, go_of (s := { s with heap := h', toks := tk }) (n := "range_iterator") st' rfl rfl (by decide) ⟨.int (hi - i), H, I1, ⟨t, ?_⟩, ⟨rfl, rfl⟩, st', fun b hb => (hf b hb).1⟩⟩
    congr 1
    trivial
  done := by
    intro X hP hw hK hc i pins s σ H E I hf st hg
    subst hP hw hK
    obtain ⟨f0, f1, f2, f3, f4, f5⟩ := hf it (by simp)
    exact wpAny_pyNext_range_end (I.ok.hd hc) st (by have : n ≤ i := hg; trivial) fun h' eb => ⟨rfl, I.turned (t' := s.toks) (fun b o hb e => eb b o hb e) f0 f1 f3 f4 f5⟩
  self := fun _ _ _ _ _ st h => wpAny_pyIter_rangeiter st h
section
variable {X : Cx} {tg : Expr}
noncomputable def iDown (ta : TA) : TI := fun σ H R => ta σ H fun vs H1 => ∃ i j : Int, vs = [.int i, .int j, .int (-1)] ∧ (-(2 ^ 30) ≤ i ∧ i < 2 ^ 30 ∧ -(2 ^ 30) ≤ j ∧ j < 2 ^ 30) ∧ R (Itd i (i - j).toNat) H1
theorem down_it {pins : List (Addr × Obj)} {σ : St} {H : Hp} {s : Shared} {R : It → Hp → Prop} {E : Value → Shared → Prop} {lo hi : Int} {t u v : Tok} {tk : Nat} (I : Inv X pins σ H s) (h1 : -(2 ^ 30) ≤ lo) (h2 : lo < 2 ^ 30) (h3 : -(2 ^ 30) ≤ hi) (h4 : hi < 2 ^ 30)
    (q : R (Itd lo (lo - hi).toNat) H) : wpAny (model X.prog X.w) X.A (pyIter (.ref s.heap.objs.size)) (PIE X pins σ tg R) E { s with heap := s.heap.push { cls := .type "range", data := .fields #[.int lo t, .int hi u, .int (-1) v] }, toks := tk } := by
  have sz : Builtin.Range.rangeSize lo hi (-1) = ((lo - hi).toNat : Int) := by
    unfold Builtin.Range.rangeSize
    rw [if_neg (by decide)]
    by_cases h : lo > hi
    · rw [if_pos h, show (- -1 : Int) = 1 by decide, Int.ediv_one]; trivial
    · rw [if_neg h]; trivial
  refine wpAny_pyIter_range (IsRange.new ..) ?_ ?_
  · unfold Builtin.Range.small
    simp only [sz, Builtin.Range.rangeFitsLong, Bool.and_eq_true, Bool.or_eq_true, decide_eq_true_eq, beq_iff_eq, show ¬ ((-1 : Int) > 0) by decide, if_false]
    trivial
  have I1 : Inv X pins σ H { s with heap := s.heap.push { cls := .type "range", data := .fields #[.int lo t, .int hi u, .int (-1) v] }, toks := tk } := I.kept fun b o e => Heap.get?_push_of_some _ e
  refine ⟨(s.heap.push { cls := .type "range", data := .fields #[.int lo t, .int hi u, .int (-1) v] }).objs.size, [(s.heap.push { cls := .type "range", data := .fields #[.int lo t, .int hi u, .int (-1) v] }).objs.size], _, _, H, rfl,
    I1.kept (t' := tk) fun b o e => Heap.get?_push_of_some _ e, turn_down _ lo (lo - hi).toNat, ?_, fun b hb => ?_, q⟩
  · have e1 : lo + ((0 : Nat) : Int) * (-1) = lo := by simp
    have e2 : (((lo - hi).toNat : Nat) : Int) - ((0 : Nat) : Int) = Builtin.Range.rangeSize lo hi (-1) := by rw [sz]; trivial
    show IsRangeIter _ _ (lo + ((0 : Nat) : Int) * (-1)) ((((lo - hi).toNat : Nat) : Int) - ((0 : Nat) : Int)) (-1)
    rw [e1, e2]
    exact Heap.get?_push_size _ rfl
  · have e : b = (s.heap.push { cls := .type "range", data := .fields #[.int lo t, .int hi u, .int (-1) v] }).objs.size := by simpa using hb
    subst e
    exact I1.fpOk (Nat.le_refl _) (I1.hok.fresh (Nat.le_refl _))
theorem pi_range3 {a b c : Expr} {ta : TA} {p pos : Pos} (hg : Gl X "range") (hm : X.mg "range" = none) (ha : PA X [a, b, c] ta) (hs : starEach [a, b, c] X.env = (false, eval a X.env) :: starEach [b, c] X.env := by rfl) (hpl : (backTo pos (starEach [b, c] X.env)).any (·.1) = false := by rfl) :
    PI X tg (.Call (.Name "range" p) [a, b, c] [] pos) (iDown ta) := by
  intro pins s σ H R I h
  refine Call_ (ld_blt I hg hm boot_range (PyProof.Rows.callWith_type1 (thn (ha pos pins s σ H _ I h) fun us s1 hh42 => ?_) hs hpl))
  obtain ⟨vs, H1, I1, r1, q1⟩ := hh42
  obtain ⟨i, j, e, ⟨q1, q2, q3, q4⟩, q⟩ := q1
  subst e
  cases r1 with
  | cons r rr =>
    cases rr with
    | cons r' rr =>
      cases rr with
      | cons r'' rr =>
        cases rr
        obtain ⟨t, rfl⟩ := r
        obtain ⟨t', rfl⟩ := r'
        obtain ⟨t'', rfl⟩ := r''
        exact call_range_3 (by decide) (down_it I1 q1 q2 q3 q4 q) (.inl (PyProof.noPylong_small (by trivial)))
end
end L2
namespace L2
open PySem PySem.Spec PyProof.Rows
end L2
namespace L2
open PySem PySem.Spec PyProof.Rows
end L2
namespace L2
open PySem PySem.Spec PyProof.Rows
section
variable {X : Cx}
noncomputable def deepIn (x y : V) (H : Hp) (R : Bool → Prop) : Prop := ∃ d ds, Dp H x d ∧ Dp H y (.list ds) ∧ PyData.canLayAll0 ds = true ∧ d.canLay0 = true ∧ d.depth ≤ 60 ∧ R (ds.any fun e => PyData.eqv e d)
noncomputable def rInD : R2 := fun x y H Q => match x with
  | .ref a => deepIn (.ref a) y H fun b => Q (.bl b) H
  | x => rInF x y H Q
noncomputable def rNotInD : R2 := fun x y H Q => match x with
  | .ref a => deepIn (.ref a) y H fun b => Q (.bl (!b)) H
  | x => rNotInF x y H Q
section
variable {H : Hp} {Q : VK}
@[simp] theorem rd_inDI {i : Int} {y : V} : rInD (.int i) y H Q = rInF (.int i) y H Q := rfl
@[simp] theorem rd_inDN {y : V} : rInD .non y H Q = rInF .non y H Q := rfl
@[simp] theorem rd_notinDI {i : Int} {y : V} : rNotInD (.int i) y H Q = rNotInF (.int i) y H Q := rfl
@[simp] theorem rd_notinDN {y : V} : rNotInD .non y H Q = rNotInF .non y H Q := rfl
end
end
end L2
namespace L2
open PySem PySem.Spec PyProof.Rows
noncomputable def rowOf (H : Hp) (b : Addr) : List Int := match H b with | some (.lst xs) => xs.map (fun v => match v with | .int i => i | _ => 0) | _ => []
theorem rowOf_of {H : Hp} {b : Addr} {x : List Int} (h : H b = some (.lst (x.map V.int))) : rowOf H b = x := by
  unfold rowOf; rw [h]; simp only [List.map_map]; exact List.map_id' x
end L2
namespace L2
open PySem PySem.Spec PyProof.Rows
theorem star_lst (es' : List Expr) (pos : Pos) (es : List Expr) (env : Env) : starEach (.List es' pos :: es) env = (false, eval (.List es' pos) env) :: starEach es env := rfl
noncomputable def rngZ (i : Int) (n : Nat) : List Int := (List.range n).map fun (k : Nat) => i + (k : Int)
theorem rngZ_len (i : Int) (n : Nat) : (rngZ i n).length = n := by simp [rngZ]
theorem vals_get {xs : List V} {us : List Value} (hl : xs.length = us.length) (h : ∀ (i : Nat) x u, xs[i]? = some x → us[i]? = some u → RelV x u) : Vals xs us := by
  induction xs generalizing us with
  | nil => cases us with
    | nil => exact .nil
    | cons u us => simp at hl
  | cons x xs ih => cases us with
    | nil => simp at hl
    | cons u us => exact .cons (h 0 x u rfl rfl) (ih (by simpa using hl) fun i x u h1 h2 => h (i + 1) x u (by simpa using h1) (by simpa using h2))
section
variable {X : Cx}
noncomputable def tLRng (ta : TA) : TE := fun σ H Q => ta σ H fun vs H1 => on2 vs fun x y => onI x fun i => onI y fun j => (-(2 ^ 62) ≤ i ∧ i < 2 ^ 62 ∧ -(2 ^ 62) ≤ j ∧ j < 2 ^ 62) ∧ (j - i).toNat ≤ 1000 ∧ new H1 (.lst ((rngZ i (j - i).toNat).map V.int)) Q
theorem pe_listRng {a b : Expr} {ta : TA} {p p' pos pos' : Pos} (hgl : Gl X "list") (hml : X.mg "list" = none) (hgr : Gl X "range") (hmr : X.mg "range" = none) (ha : PA X [a, b] ta) (hc : X.calm = true)
    (hs : starEach [a, b] X.env = [(false, eval a X.env), (false, eval b X.env)] := by rfl) (hs3 : starEach [b] X.env = [(false, eval b X.env)] := by rfl)
    (hs2 : starEach [.Call (.Name "range" p') [a, b] [] pos'] X.env = [(false, eval (.Call (.Name "range" p') [a, b] [] pos') X.env)] := by rfl) :
    PE X (.Call (.Name "list" p) [.Call (.Name "range" p') [a, b] [] pos'] [] pos) (tLRng ta) := by
  intro pins s σ H Q I h
  refine wpAny_Call_Name_kw (ld_blt I hgl hml BI.list ?_ (by decide) (by decide))
  refine PyProof.Rows.callWith_type1 ?_ hs2 rfl
  rw [hs2]
  show wpAny _ _ (spliced ((false, eval (.Call (.Name "range" p') [a, b] [] pos') X.env) :: [])) _ _ s
  refine Calls.spliced_cons ?_
  refine Call_ (ld_blt I hgr hmr boot_range (PyProof.Rows.callWith_type1 (thn (ha pos' pins s σ H _ I h) fun us s1 hh43 => ?_) (by rw [hs, hs3]) (by rw [hs3]; rfl)))
  obtain ⟨vs, H1, I1, r1, q1⟩ := hh43
  obtain ⟨x, y, rfl, q1⟩ := on2.out q1
  obtain ⟨i, rfl, q1⟩ := onI.out q1
  obtain ⟨j, rfl, ⟨b1, b2, b3, b4⟩, hz, q⟩ := onI.out q1
  cases r1 with
  | cons r rr =>
    cases rr with
    | cons r' rr =>
      cases rr
      obtain ⟨t, rfl⟩ := r
      obtain ⟨t', rfl⟩ := r'
      refine call_range_2 ?_
      refine Calls.spliced_nil ?_
      have hrs : Builtin.Range.rangeSize i j 1 = ((j - i).toNat : Int) := by rw [rangeSize_one]; split <;> trivial
      refine call_list_range (s := { s1 with heap := s1.heap.push { cls := .type "range", data := .fields #[.int i t, .int j t', .int 1 s1.toks] }, toks := s1.toks + 1 }) (I1.ok.hd hc) (IsRange.new ..) (small_one b1 b2 b3 b4) hrs (Nat.le_trans hz (by decide)) fun h' tk acc c' hk hS hacc => ?_
      have hsz : (s1.heap.push { cls := .type "range", data := .fields #[.int i t, .int j t', .int 1 s1.toks] }).objs.size = s1.heap.objs.size + 1 := Heap.size_push ..
      rw [hsz] at hS ⊢
      obtain ⟨a1, a2⟩ := hacc
      have rv : Vals ((rngZ i (j - i).toNat).map V.int) acc.toList := by
        refine vals_get (by rw [List.length_map, rngZ_len, Array.length_toList, a1]) fun k x u e1 e2 => ?_
        rw [Array.getElem?_toList] at e2
        obtain ⟨tt, rfl⟩ := a2 k u e2
        have hk' : k < (j - i).toNat := by
          have := (List.getElem?_eq_some_iff.mp e1).1
          rw [List.length_map, rngZ_len] at this
          exact this
        unfold rngZ at e1
        rw [List.map_map, List.getElem?_map, List.getElem?_range hk'] at e1
        have : x = .int (i + (k : Int)) := by simpa using e1.symm
        subst this
        exact ⟨tt, by rw [Int.mul_one]⟩
      refine ⟨.ref (s1.heap.objs.size + 1), _, I1.laid (t' := tk) (o := .lst ((rngZ i (j - i).toNat).map V.int)) (fun b o eo => hk b o (Heap.get?_push_of_some _ eo)) (by trivial) ⟨by rw [List.length_map, rngZ_len]; exact Nat.le_trans hz (by decide), acc.toList, c', rv, ?_⟩, rfl, q _ (I1.hok.fresh (by trivial))⟩
      rw [hS]
@[simp] theorem rd_LRng {ta : TA} {σ : St} {H : Hp} {Q : VK} : tLRng ta σ H Q = ta σ H fun vs H1 => on2 vs fun x y => onI x fun i => onI y fun j => (-(2 ^ 62) ≤ i ∧ i < 2 ^ 62 ∧ -(2 ^ 62) ≤ j ∧ j < 2 ^ 62) ∧ (j - i).toNat ≤ 1000 ∧ new H1 (.lst ((rngZ i (j - i).toNat).map V.int)) Q := rfl
noncomputable def rSumB : List V → Hp → VK → Prop := fun vs H Q => on1 vs fun x => onL H x fun _ xs => ∃ ns : List Int, xs = ns.map V.int ∧ Q (.int ns.sum) H
@[simp] theorem rd_sumB {vs : List V} {H : Hp} {Q : VK} : rSumB vs H Q = on1 vs fun x => onL H x fun _ xs => ∃ ns : List Int, xs = ns.map V.int ∧ Q (.int ns.sum) H := rfl
noncomputable def CDivB (i j : Int) : Prop := 0 < j ∧ j < 2 ^ 2000
noncomputable def ipM : TIp := fun x y H Q => onI x fun i => onI y fun j => CMul i j ∧ Q (.int (i * j)) H
end
end L2
namespace L2
open PySem PySem.Spec PyProof.Rows
theorem ObjOk.here {P : Program} {w : World} {H : Hp} {h : Heap} {a : Addr} {o : HO} (x : ObjOk P w H h a o) : ∃ u, h.get? a = some u := by
  cases o with
  | lst xs => obtain ⟨_, _, _, _, e⟩ := x; exact ⟨_, e⟩
  | tup xs => obtain ⟨_, _, _, u, e, _⟩ := x; exact ⟨u, e⟩
  | dK kvs => obtain ⟨_, _, _, _, u, _, _, e, _⟩ := x; exact ⟨u, e⟩
  | dT kvs => obtain ⟨_, _, _, _, u, _, _, e, _⟩ := x; exact ⟨u, e⟩
  | set S n => obtain ⟨u, _, _, _, e, _⟩ := x; exact ⟨u, e⟩
  | ins C dx fs => obtain ⟨_, _, _, e, _⟩ := x; exact ⟨_, e⟩
  | own y => exact x
  | xd fs => obtain ⟨_, ⟨u, _, _, e, _⟩, _⟩ := x; exact ⟨u, e⟩
  | rng lo hi => obtain ⟨_, _, _, e⟩ := x; exact ⟨_, e⟩
  | frz ob u => obtain ⟨e, _⟩ := x; exact ⟨_, e⟩
  | tbl ps => exact ⟨_, (show h.get? a = some _ from x)⟩
  | met f y => exact ⟨_, (show h.get? a = some _ from x)⟩
  | ext φ => exact x.2.1
noncomputable def CXx (P : Program) (w : World) : CXT := fun outer H s E ev s' => ∃ (e : Addr) (C a0 : Value) (B : Heap) (H' : Hp),
  ev = .ref e ∧ s'.os = s.os ∧ AllBare s'.gens ∧ Heap.FlyingW B outer e C a0 s'.heap ∧ HOk P w H' B ∧ H' e = none ∧
  (∀ b o, s.heap.get? b = some o → H b = none → b ∉ frs outer → B.get? b = some o) ∧ (∀ b o, s.heap.get? b = some o → b ∉ frs outer → ∃ o', B.get? b = some o') ∧ Un (frs outer) [] H H' s.heap s'.heap ∧ E C none H'
theorem exc_in {K : PySem.W.Frag} {h : Heap} {C : Addr} {tl : List Value} {nid : String} (KX : K.In h) (q : PySem.W.excIn K C tl nid = true) :
    ∃ bm N nm qn bs hd sn sub ab col dd k0 k1 k2 k3 k5 mN, h.get? C = some (excClassObj nm qn C N bs bm hd sn sub ab col dd k0 k1 k2 k3 k5 nid) ∧ h.Ns N mN ∧ mN "__init__" = none ∧ OwnTail h tl bm := by
  unfold PySem.W.excIn at q
  split at q
  · rename_i dd cd sl lk
    split at q
    · rename_i C' bm k0 k1 k2 k3 n k5 em es
      simp only [Bool.and_eq_true, beq_iff_eq, Bool.not_eq_true'] at q
      obtain ⟨⟨⟨⟨⟨rfl, rfl⟩, del⟩, tin⟩, nin⟩, ini⟩ := q
      obtain ⟨nm, bs, mro, ns, qn, hd, sn, sub, ab, col, dl⟩ := cd
      dsimp only at em del nin ini
      subst em del
      obtain ⟨lsl⟩ := sl
      simp only at es
      subst es
      exact ⟨bm, ns, nm, qn, bs, hd, sn, sub, ab, col, dd, k0, k1, k2, k3, k5, _, KX _ _ lk, .of_isNs (PySem.W.isNs_of_in KX nin), PySem.W.nsMap_none_of_in KX nin ini, PySem.W.tail_of_in KX tin⟩
    · cases q
  · cases q
abbrev veTail : List Value := [.type "ValueError", .type "Exception", .type "BaseException", .type "object"]
section
variable {P : Program} {w : World} {K : PySem.W.Frag} {mg : Str → Option Value} {base : Heap}
theorem left_made {N : List Str} {qual : Str} {scope : Scope} {f : Addr} {cdv : Value} {A : Around} {outer : List Env} {s0 : Shared} {H0 : Hp} {E : XK} {C : Value} {pins : List (Addr × Obj)} {σ : St} {H : Hp} {s : Shared} {h' : Heap} {e : Addr} {us : List Value}
    (I : Inv (cxOf (CXx P w) P w K mg base N qual scope f cdv A outer s0 H0 E) pins σ H s) (hx : Heap.MadeExcOf s.heap h' e C us) (h : E C none H) : (cxOf (CXx P w) P w K mg base N qual scope f cdv A outer s0 H0 E).xe (.ref e) { s with heap := h' } := by
  have hin : ∀ env ∈ (envOfC qual scope s0.heap.objs.size f cdv :: outer), ∀ b, env.frame = some b → b ∈ frs (envOfC qual scope s0.heap.objs.size f cdv :: outer) := fun env he b hb => List.mem_filterMap.mpr ⟨env, he, hb⟩
  have nofr : ∀ b, H b ≠ none → b ∉ frs (envOfC qual scope s0.heap.objs.size f cdv :: outer) := fun b hb hm => hb (I.stkFree b hm)
  have hB : HOk P w H (PySem.W.hideAll s.heap (frs (envOfC qual scope s0.heap.objs.size f cdv :: outer))) := fun a o q =>
    (I.hok a o q).stay (fun b u hb eb => PySem.W.hideAll_get _ eb (nofr b (by
      rcases hb with rfl | hb
      · rw [q]; exact fun z => nomatch z
      · rw [hb]; exact fun z => nomatch z))) (fun _ z => z) fun _ _ z => z
  have hee : H e = none := by
    cases qe : H e with
    | none => rfl
    | some o =>
      obtain ⟨u, hu⟩ := (I.hok e o qe).here
      rw [hx.new] at hu; cases hu
  show wpAny (model P w) (A.deeper (envOfC qual scope s0.heap.objs.size f cdv)) (leaving (envOfC qual scope s0.heap.objs.size f cdv) (.ref e)) _ _ { s with heap := h' }
  refine wpAny_leaves_madeW (s := { s with heap := h' }) (L := s0.heap.objs.size) I.ok.frames rfl (fun b o z => PySem.W.of_hideAll _ z) (PySem.W.funFrames_hide I.stack hin) hx fun h2 t x1 x2 x3 x4 => ?_
  have keepB : ∀ b o, s.heap.get? b = some o → b ∉ frs (envOfC qual scope s0.heap.objs.size f cdv :: outer) → (PySem.W.hideAll s.heap (frs (envOfC qual scope s0.heap.objs.size f cdv :: outer))).get? b = some o := fun b o z n => PySem.W.hideAll_get _ z n
  have nolo : ∀ b o, s0.heap.get? b = some o → b ∉ frs outer → b ∉ frs (envOfC qual scope s0.heap.objs.size f cdv :: outer) := fun b o z n hm => by
    rcases List.mem_cons.mp (I.stkSub b hm) with q | q
    · have h1 := Heap.lt_size z
      have h2 : b = s0.heap.objs.size := q
      exact absurd h1 (by rw [h2]; exact Nat.lt_irrefl _)
    · exact n q
  have stays : ∀ b o, s.heap.get? b = some o → b ∉ frs (envOfC qual scope s0.heap.objs.size f cdv :: outer) → h2.get? b = some o := fun b o z n => x1.1 b o (keepB b o z n)
  have inA : ∀ b, b ∈ frs outer → b ∈ frs (envOfC qual scope s0.heap.objs.size f cdv :: outer) := fun b hb => by
    unfold frs at hb ⊢
    rw [List.filterMap_cons]
    show b ∈ (s0.heap.objs.size : Addr) :: _
    exact List.mem_cons_of_mem _ hb
  have slots : ∀ b o, s.heap.get? b = some o → b ∈ frs (envOfC qual scope s0.heap.objs.size f cdv :: outer) → ∃ sl, h2.get? b = some { o with slots := sl } := fun b o z n => by
    obtain ⟨_, o2, ho2, nf⟩ := I.stack.mem n
    rw [z] at ho2
    cases ho2
    exact x4 b o (hx.keeps b o z) nf
  have un := I.base
  have nx : ∀ b : Addr, b ∉ (cxOf (CXx P w) P w K mg base N qual scope f cdv A outer s0 H0 E).ex := fun b z => absurd (show b ∈ ([] : List Addr) from z) (by simp)
  refine ⟨e, C, .ref t, _, H, rfl, I.os, I.bare, x1, hB, hee, fun b o z n nf => keepB b o (un.keep b o z n nf (nx b)) (nolo b o z nf), fun b o z nf => ?_, ?_, h⟩
  · obtain ⟨o2, ho2⟩ := un.there b o z (nx b)
    exact ⟨o2, keepB b o2 ho2 (nolo b o z nf)⟩
  refine ⟨fun b o z n nf _ => stays b o (un.keep b o z n nf (nx b)) (nolo b o z nf), fun b o z n nf _ => ?_, fun b o z n _ => un.free b o z n (nx b), fun b o z _ => ?_, un.tups, un.frzs, un.tbls⟩
  · obtain ⟨sl, hs⟩ := un.slot b o z n nf (nx b)
    obtain ⟨sl2, hs2⟩ := slots b _ hs (inA b nf)
    exact ⟨sl2, hs2⟩
  · obtain ⟨o2, ho2⟩ := un.there b o z (nx b)
    by_cases hm : b ∈ frs (envOfC qual scope s0.heap.objs.size f cdv :: outer)
    · obtain ⟨sl, hs⟩ := slots b o2 ho2 hm
      exact ⟨_, hs⟩
    · exact ⟨_, stays b o2 ho2 hm⟩
noncomputable def tRaise (E : XK) (C : Addr) : TS := fun _ _ H => E (.ref C) none H
theorem ps_raise {N : List Str} {qual : Str} {scope : Scope} {f : Addr} {cdv : Value} {A : Around} {outer : List Env} {s0 : Shared} {H0 : Hp} {E : XK} {x txt : Str} {C : Addr} {np cpos p1 pos : Pos} {j : Nat}
    (hg : Gl (cxOf (CXx P w) P w K mg base N qual scope f cdv A outer s0 H0 E) x) (hm : mg x = some (.ref C)) (hC : PySem.W.excIn K C veTail "ValueError.__new__" = true) (hd : A.handled = none) (hxd : (x == ("__debug__" : Str)) = false := by decide) :
    PS (cxOf (CXx P w) P w K mg base N qual scope f cdv A outer s0 H0 E) (.Raise (some (.Call (.Name x np) [.Constant (.str txt) j p1] [] cpos)) none pos) (tRaise E C) := by
  intro pins s σ H D I h
  obtain ⟨bm, Na, nm, qn, bs, hdd, sn, sub, ab, col, dd, k0, k1, k2, k3, k5, mN, oC, oN, oi, oT⟩ := exc_in I.ok.mod.kin hC
  refine wpAny_Raise_call_subT (C := C) (nm := nm) (q := qn) (N := Na) (bs := bs) (bm := bm) (hdct := hdd) (sn := sn) (sub := sub) (ab := ab) (col := col) (dd := dd) (k0 := k0) (k1 := k1) (k2 := k2) (k3 := k3) (k5 := k5) F.excBase_ValueError (mN := mN) (oT.hasType F.excBase_ValueError.hasBase) hd rfl oi (ld_glob I hg hm ⟨rfl, ?_⟩ hxd)
  have pa : PA (cxOf (CXx P w) P w K mg base N qual scope f cdv A outer s0 H0 E) [.Constant (.str txt) j p1] (tCons (tC (.str txt)) tNil) := pa_cons pe_str pa_nil
  refine Calls.evalArgs_plain (thn (pa cpos pins s σ H (fun vs H1 => vs.length = 1 ∧ H1 = H) I ⟨rfl, rfl⟩) fun us s2 hh44 => ?_)
  obtain ⟨vs, H1, I2, rv, lv, e1⟩ := hh44
  subst e1
  have lu : us.length = 1 := by rw [← rv.length]; exact lv
  refine ⟨rfl, by show us.length ≤ sizeLine; rw [lu]; decide, I2.bk _ _ oC, oN.keeps I2.bk, oT.keeps I2.bk, fun h' e hx => ?_⟩
  exact left_made I2 hx h
end
end L2
namespace L2
open PySem PySem.Spec PyProof.Rows
section
variable {P : Program} {w : World} {K : PySem.W.Frag} {mg : Str → Option Value} {base : Heap}
theorem Fun.okX {x qual : Str} {st : Stmt} {f : Addr} {fd : FuncData} {N ps : List Str} {k : Nat} {sp : Sp} (F : Fun K x qual st f fd) (S : FnScope N ps (defScope st)) (len : ∀ vs H Q E, sp vs H Q E → vs.length = ps.length)
    (hbody : ∀ (cdv : Value) (A : Around) (outer : List Env) (s : Shared) (H : Hp) (vs : List V) (Q : VK) (E : XK), Room k (A.deeper (envOfC qual (defScope st) s.heap.objs.size f cdv)) → sp vs H Q E →
      ∃ t, PSs (cxOf (CXx P w) P w K mg base N qual (defScope st) f cdv A outer s H E) (defBody st) t ∧ t { nx := fun _ H' => Q .non H', rt := Q } (start N vs) H) : FnOk P w K mg base (CXx P w) (k + 1) f fd ps sp := by
  obtain ⟨oc, od, kV, doc, pm, an, cdv, ct, osl, rfl, lk, hcd⟩ := F.ex
  exact fn_of lk hcd S len fun A outer s H vs Q E hr hsp => hbody cdv A outer s H vs Q E hr hsp
structure CalX (P : Program) (w : World) (K : PySem.W.Frag) (mg : Str → Option Value) (base : Heap) (k : Nat) (x : Str) (ps : List Str) (sp : Sp) : Prop where
  ex : ∃ (f : Addr) (fd : FuncData), FnOk P w K mg base (CXx P w) k f fd ps sp ∧ mg x = some (.ref f) ∧ PySem.W.keepIn K (.ref f) = true ∧ Binds K fd ps []
end
section
variable {X : Cx}
theorem call_x {k : Nat} {x : Str} {ps : List Str} {sp : Sp} {p pos : Pos} {e : Expr} {es : List Expr} {t : TA} (C : CalX X.prog X.w X.K X.mg X.base k x ps sp) (hr : Room k X.A) (hg : Gl X x) (ha : PA X (e :: es) t) (hxe : ∀ v s, ¬ X.xe v s)
    (hdb : (x == ("__debug__" : Str)) = false) (he : starEach (e :: es) X.env = (false, eval e X.env) :: starEach es X.env) (hpl : (backTo pos (starEach es X.env)).any (·.1) = false)
    {pins : List (Addr × Obj)} {σ : St} {H : Hp} {s : Shared} {Q : VK} {E : XK} (I : Inv X pins σ H s) (h : t σ H fun vs H1 => sp vs H1 Q E) :
    wpAny (model X.prog X.w) X.A (eval (.Call (.Name x p) (e :: es) [] pos) X.env) (EP X pins σ Q) (fun ev s' => ∃ H1 s1, Inv X pins σ H1 s1 ∧ CXx X.prog X.w X.stack H1 s1 E ev s') s := by
  obtain ⟨f, fd, F, hm, hk, hb⟩ := C.ex
  refine wpAny_Call_Name_kw (ld_glob I hg hm ?_ hdb)
  refine PySem.W.callWith_K (h₀ := X.base) I.ok.mod.kin hk (wpAny_mono (ha pos pins s σ H _ I h) (fun us s1 ⟨vs, H1, I1, r, q⟩ => ⟨I1.kIn, ?_⟩) fun v s1 z => (hxe v s1 z).elim) he hpl
  have hl : us.length = ps.length := by rw [← r.length]; exact F.len _ _ _ _ q
  have b := hb s1 us I1.kIn (by simpa using hl)
  rw [List.append_nil] at b
  refine wpAny_call (codeAny_mono (F.run X.A X.stack s1 H1 ⟨us, []⟩ us vs Q E hr I1.env0 b r q) fun r s' hq => ?_)
  cases r with
  | error ev => exact ⟨H1, s1, I1, hq⟩
  | ok fl =>
    cases fl with
    | ret u => exact I1.after hq
    | next => exact hq.elim
    | brk => exact hq.elim
    | cont => exact hq.elim
noncomputable def hasIn (K : PySem.W.Frag) (C : Addr) (v : Value) : Bool := match K.lookup C with
  | some ⟨_, _, .cls cd, _⟩ => cd.mro.contains v
  | _ => false
theorem has_bm {K : PySem.W.Frag} {h : Heap} {C : Addr} {v : Value} {nm qn : Str} {N : Addr} {bs bm : List Value} {hd : Bool} {sn : List Str} {sub : List Value} {ab : Bool} {col : Option Bool} {dd : Option Addr} {k0 k1 k2 k3 k5 : Option Value} {nid : String}
    (KX : K.In h) (oC : h.get? C = some (excClassObj nm qn C N bs bm hd sn sub ab col dd k0 k1 k2 k3 k5 nid)) (q : hasIn K C v = true) : (Value.ref C :: bm).contains v = true := by
  unfold hasIn at q
  split at q
  · rename_i c1 d1 cd s1 lk
    have e := KX _ _ lk
    rw [oC] at e
    injection e with e
    unfold excClassObj at e
    injection e with _ _ e _
    injection e with e
    rw [← e] at q
    exact q
  · cases q
noncomputable def ExcAt (e : Addr) (C : Value) : Heap → Prop := fun h => ∃ o, h.get? e = some o ∧ o.cls = C
structure Own (K : PySem.W.Frag) (mg : Str → Option Value) (x : Str) (C : Addr) : Prop where
  mg : mg x = some (.ref C)
  exc : PySem.W.excIn K C veTail "ValueError.__new__" = true
theorem exc_match {M : Model} {A : Around} {E : Value → Shared → Prop} {Q : Bool → Shared → Prop} {s : Shared} {K : PySem.W.Frag} {C D e : Addr} (KX : K.In s.heap) (hC : PySem.W.excIn K C veTail "ValueError.__new__" = true) (hD : PySem.W.excIn K D veTail "ValueError.__new__" = true)
    (hs : hasIn K C (.ref D) = true) (he : ExcAt e (.ref C) s.heap) (h : Q true s) : wpAny M A (excMatches (.ref e) (.ref D)) Q E s := by
  obtain ⟨bm, Na, nm, qn, bs, hdd, sn, sub, ab, col, dd, k0, k1, k2, k3, k5, mN, oC, oN, oi, oT⟩ := exc_in KX hC
  obtain ⟨bm2, Na2, nm2, qn2, bs2, hd2, sn2, sub2, ab2, col2, dd2, l0, l1, l2, l3, l5, mN2, oD, oN2, oi2, oT2⟩ := exc_in KX hD
  have c1 := has_bm KX oC hs
  have c2 : (Value.ref D :: bm2).contains (.type "BaseException") = true := by rw [List.contains_cons, oT2.hasType F.excBase_ValueError.hasBase, Bool.or_true]
  obtain ⟨hp, g, d, t, os⟩ := s
  obtain ⟨oe, he1, he2⟩ := he
  have f := tc_notTuple
  unfold excMatches
  repeat (first | (with_reducible refine wpAny_loadPart_at he1 ?_; rw [he2]) | with_reducible refine wpAny_loadPart_at oD ?_ | (with_reducible refine wpAny_isSubtype_exc oD ?_; rw [c2]) | (with_reducible refine wpAny_isSubtype_exc oC ?_; rw [c1]) | wp_step)
  exact h
end
end L2
namespace L2
open PySem PySem.Spec PyProof.Rows
section
variable {X : Cx} {pins : List (Addr × Obj)} {σ : St} {H : Hp} {s : Shared}
noncomputable abbrev Cx.hand (X : Cx) (e : Addr) (oe : Obj) : Cx := { X with A := X.A.mark (some (.ref e)), calm := false, xe := fun _ _ => False, pn := (e, oe) :: X.pn }
theorem Cx.Ok.hand {e : Addr} {oe : Obj} (k : X.Ok) : (X.hand e oe).Ok :=
  ⟨k.mod, k.kind, k.glob, k.blt, k.above, k.inj, k.has, k.cab, (fun z => nomatch z), k.frames, k.stk, k.exf, k.bs, k.bsz, k.noex, k.exfs, k.funs, k.frf⟩
theorem Cx.Ok.unhand {e : Addr} {oe : Obj} (k : (X.hand e oe).Ok) (hc : X.calm = true → X.A.handled = none) : X.Ok :=
  ⟨k.mod, k.kind, k.glob, k.blt, k.above, k.inj, k.has, k.cab, hc, k.frames, k.stk, k.exf, k.bs, k.bsz, k.noex, k.exfs, k.funs, k.frf⟩
theorem Inv.hand {e : Addr} {oe : Obj} (I : Inv X pins σ H s) (he : s.heap.get? e = some oe) (hH : H e = none) (h1 : e ≠ X.env.locals) (h2 : e ∉ X.fs) (h3 : ∀ v, oe.data ≠ .cell v) : Inv (X.hand e oe) pins σ H s :=
  ⟨I.ok.hand, I.os, I.bare, I.base, I.loc, I.cell, I.free, I.freeC, fun p hp => by
    rcases List.mem_cons.mp hp with rfl | hp
    · exact ⟨he, hH, h1, h2, h3⟩
    · exact I.pin p hp, I.hok, I.len⟩
theorem Inv.unhand {e : Addr} {oe : Obj} (I : Inv (X.hand e oe) pins σ H s) (hc : X.calm = true → X.A.handled = none) : Inv X pins σ H s :=
  ⟨I.ok.unhand hc, I.os, I.bare, I.base, I.loc, I.cell, I.free, I.freeC, fun p hp => I.pin p (List.mem_cons_of_mem _ hp), I.hok, I.len⟩
theorem Inv.gone {h' : Heap} {tk ie : Nat} {n : Str} {m : Str → Option Value} {v : Option Value} (I : Inv X pins σ H s) (hN : X.N.Nodup) (hi : X.N[ie]? = some n) (hn : s.heap.Ns X.env.locals m)
    (hl : ∀ (i : Nat) (x : Str) (v : V), X.N[i]? = some x → σ[i]? = some (some v) → Vis X.env.scope x → ∃ u, RelV v u ∧ Look X.env s.heap m x u)
    (hn' : h'.Ns X.env.locals (fun x => if x = n then v else m x)) (hs : Heap.SameBut X.env.locals s.heap h') : Inv X pins (σ.set ie none) H { s with heap := h', toks := tk } := by
  have far : ∀ b o, X.s₀.heap.get? b = some o → b ≠ X.env.locals := fun b o e => Nat.ne_of_lt (Nat.lt_of_lt_of_le (Heap.lt_size e) I.ok.above)
  have old : ∀ b, b ≠ X.env.locals → h'.get? b = s.heap.get? b := fun b hb => hs.2 b hb
  have iσ : ie < σ.length := by rw [I.len]; exact (List.getElem?_eq_some_iff.mp hi).1
  refine ⟨I.ok, I.os, I.bare, ⟨fun b o z q hb hx => ?_, fun b o z q hb hx => ?_, I.base.free, fun b o z hx => ?_, I.base.tups, I.base.frzs, I.base.tbls⟩, ⟨_, hn', fun j y v' z1 z2 z3 => ?_⟩, fun y c z => ?_, I.free, I.freeC, fun p hp => ?_, ?_, by rw [List.length_set]; exact I.len⟩
  · rw [old b (far b o z)]; exact I.base.keep b o z q hb hx
  · rw [old b (far b o z)]; exact I.base.slot b o z q hb hx
  · rw [old b (far b o z)]; exact I.base.there b o z hx
  · by_cases hj : j = ie
    · subst hj
      rw [List.getElem?_set_self iσ] at z2
      cases z2
    · rw [List.getElem?_set_ne (Ne.symm hj)] at z2
      obtain ⟨u', r', l⟩ := hl j y v' z1 z2 z3
      refine ⟨u', r', ?_⟩
      rcases l with ⟨k, l⟩ | ⟨k, c, l, ic⟩
      · have yn : y ≠ n := fun q => hj (nodup_ix hN z1 (q ▸ hi))
        exact .inl ⟨k, by show (if y = n then v else m y) = some u'; rw [if_neg yn]; exact l⟩
      · exact .inr ⟨k, c, l, ic.sameBut hs (I.cne y c l)⟩
  · obtain ⟨w', ic⟩ := I.cell y c z
    exact ⟨w', ic.sameBut hs (I.cne y c z)⟩
  · obtain ⟨z, q, ne, nf, d⟩ := I.pin p hp
    exact ⟨by rw [old p.1 ne]; exact z, q, ne, nf, d⟩
  · intro b ob z
    refine (I.hok b ob z).stay (fun c u hc q => ?_) (fun _ q => q) fun _ _ q => q
    have hcl : c ≠ X.env.locals := fun q2 => by
      rcases hc with r | r
      · rw [← r, q2, I.free] at z; cases z
      · rw [q2, I.free] at r; cases r
    show h'.get? c = some u
    rw [old c hcl]; exact q
theorem Inv.flew {e : Addr} {C a0 : Value} {B h5 : Heap} {H1 H' : Hp} {s1 s' : Shared} {tk : Nat} (I : Inv X pins σ H1 s1) (os : s'.os = s1.os) (bare : AllBare s'.gens) (st : B.StaysIn h5) (hok : HOk X.prog X.w H' B)
    (kB : ∀ b o, s1.heap.get? b = some o → H1 b = none → b ∉ frs X.stack → B.get? b = some o) (un : Un (frs X.stack) [] H1 H' s1.heap s'.heap) (fr : s'.heap.FunFrames B X.stack) (sm : s'.heap.UpToSlots h5) (tr : ∀ b o, s1.heap.get? b = some o → b ∉ frs X.stack → ∃ o', B.get? b = some o') :
    Inv X pins σ H' { s' with heap := h5, toks := tk } := by
  refine I.call' (s' := { s' with heap := h5, toks := tk }) os ⟨fun b o z n nf _ => st b o (kB b o z n nf), fun b o z n nf _ => ?_, un.free, fun b o z _ => ?_, un.tups, un.frzs, un.tbls⟩ (hok.kept st) bare (fun b z => absurd z (by simp))
  · obtain ⟨sl, q⟩ := un.slot b o z n nf (by simp)
    obtain ⟨_, o2, q2, nfd⟩ := fr.mem nf
    rw [q] at q2; cases q2
    obtain ⟨sl2, q3⟩ := sm b _ q nfd
    exact ⟨sl2, q3⟩
  · by_cases hf : b ∈ frs X.stack
    · obtain ⟨sl, q⟩ := un.slot b o z (I.stkFree b hf) hf (by simp)
      obtain ⟨_, o2, q2, nfd⟩ := fr.mem hf
      rw [q] at q2; cases q2
      obtain ⟨sl2, q3⟩ := sm b _ q nfd
      exact ⟨_, q3⟩
    · obtain ⟨o2, q⟩ := tr b o z hf
      exact ⟨o2, st b o2 q⟩
end
end L2
namespace L2
open PySem PySem.Spec PyProof.Rows
section
variable {X : Cx}
noncomputable def tTryA (K : PySem.W.Frag) (D : Addr) (sp : Sp) (i ie : Nat) (ta : TA) (th : Addr → Addr → TS) : TS := fun Dn σ H => ta σ H fun vs H1 => sp vs H1 (fun v H2 => Dn.nx (σ.set i (some v)) H2) (fun Cv _ H2 => ∃ C : Addr, Cv = .ref C ∧ PySem.W.excIn K C veTail "ValueError.__new__" = true ∧ hasIn K C (.ref D) = true ∧
  ∀ e, H2 e = none → th e C { nx := fun σ' H' => Dn.nx (σ'.set ie none) H', rt := Dn.rt, bk := fun σ' H' => Dn.bk (σ'.set ie none) H', ct := fun σ' H' => Dn.ct (σ'.set ie none) H' } (σ.set ie (some (.ref e))) H2)
end
end L2
namespace L2
open PySem PySem.Spec PyProof.Rows PySem.W
theorem isi_yes {prog : Program} {w : World} {A : Around} {E : Value → Shared → Prop} {s : Shared} {Q : Value → Shared → Prop} {K : Frag} {e C : Addr} {c : Value} (KX : K.In s.heap) (he : ExcAt e (.ref C) s.heap) (q : kitOne K (.ref C) c = some true) (h : ∀ tk, Q (.bool true) { s with toks := tk }) :
    wpAny (model prog w) A (call (.builtin "isinstance") [.ref e, c]) Q E s := by
  refine call_isinstance (S := fun _ R s => (K.In s.heap ∧ ExcAt e (.ref C) s.heap) ∧ ∀ tk, R (.ok (.ret (.bool true))) { s with toks := tk }) (fun prog w A R s hs => isinstance_outer ?_ (by intro z; cases z)) ⟨⟨KX, he⟩, h⟩
  obtain ⟨h0, g, d, tt, os⟩ := s
  obtain ⟨⟨KX, o, h1, h2⟩, hq⟩ := hs
  have LT : Looks (model prog w) h0 (typeOf (.ref e)) (.ref C) := h2 ▸ (Looks.ld h1).andThen .now
  unfold Builtin.«isinstance.nested»
  refine wpAny_bind (LT.at ?_)
  by_cases qq : (Value.ref C == c) = true
  · rw [if_pos qq]
    first
      | exact wpAny_bind (wpAny_rule (wpAny_pure (hq tt)))
      | ((repeat lk); exact hq tt)
      | exact wpAny_bind (wpAny_rule (hq tt))
  · unfold kitOne at q
    rw [if_neg qq] at q ⊢
    obtain ⟨t1, t2, t3⟩ := kit_cls (M := model prog w) KX q
    refine wpAny_bind (t1.at ?_)
    rw [if_pos (by decide)]
    k_delta "plainIsInstance"
    refine wpAny_bind (wpAny_bind (t2.at ?_))
    simp only [Bool.not_true, Bool.false_eq_true, if_false]
    refine wpAny_bind ((LT.andThen t3 : Looks (model prog w) h0 (isInstance (.ref e) c) true).at ?_)
    first
      | exact wpAny_pure (wpAny_pure (hq tt))
      | (simp only [if_true]; first | exact wpAny_pure (wpAny_pure (hq tt)) | exact wpAny_pure (hq tt))
section
variable {X : Cx}
noncomputable def rIsiX (K : Frag) (e C : Addr) : List V → Hp → VK → Prop := fun vs H Q => on2 vs fun x y => x = .ref e ∧ match y with
  | .ref D => kitOne K (.ref C) (.ref D) = some true ∧ Q (.bl true) H
  | .ty T => kitOne K (.ref C) (.type T) = some true ∧ Q (.bl true) H
  | _ => False
end
end L2
namespace L2
open PySem PySem.Spec PyProof.Rows
theorem has_of {K : PySem.W.Frag} {C : Addr} {v : Value} (h : PySem.W.mroIn K C v = some true) : hasIn K C v = true := by
  unfold PySem.W.mroIn PySem.W.clsIn at h
  unfold hasIn
  obtain ⟨cd, a, b⟩ := Option.bind_eq_some_iff.mp h
  split at a
  · rename_i e
    cases a
    rw [e]
    dsimp only
    split at b
    · cases b
    · exact Option.some.inj b
  · cases a
end L2
namespace L2
open PySem PySem.Spec PySem.Calls PyProof.Rows PySem.W PySem.Builtin PySem.Builtin.ObjectAttr PySem.Builtin.Getset_descriptor
structure ExK (K : Frag) (C : Addr) : Prop where
  ga : findIn K (.ref C) "__getattribute__" = some (some (.builtin "BaseException.__getattribute__"))
  gh : findIn K (.ref C) "__getattr__" = some none
  ha : findIn K (.ref C) "__class__" = some (some (.builtin "object.__class__"))
  hn : specialIn K (.builtin "object.__class__") "__get__" = some (some (.builtin "getset_descriptor.__get__"))
  ht : takesIn K (.builtin "object.__class__") = some true
  ho : mroIn K C (.type "object") = some true
  hb : mroIn K C (.type "BaseException") = some true
section
variable {prog : Program} {w : World} {A : Around} {E : Value → Shared → Prop} {s : Shared} {K : Frag} {e C : Addr}
theorem exc_type {M : Model} {h : Heap} (he : ExcAt e (.ref C) h) : Looks M h (typeOf (.ref e)) (.ref C) := by
  obtain ⟨o, h1, h2⟩ := he
  exact h2 ▸ (Looks.ld h1).andThen .now
theorem exc_class_get {tp : Value} {R : Result → Shared → Prop} (B : ExK K C) (X : K.In s.heap) (he : ExcAt e (.ref C) s.heap) (h : R (.ok (.ret (.ref C))) s) : codeAny (model prog w) A (.call (.builtin "getset_descriptor.__get__") ⟨[.builtin "object.__class__", .ref e, tp], []⟩) R s := by
  obtain ⟨hh, g, dr, t, os⟩ := s
  have L0 := exc_type (M := model prog w) he
  have L1 := looks_mroIn (M := model prog w) X B.ho
  refine codeAny_call_builtin KF.slot_gs.plain KF.entry_gs (KF.slot_gs.check _ _ _ _ _ _ _ _ KF.type_class (KF.args_gs _ _ _) ?_)
  unfold Builtin.«getset_descriptor.__get__» descrGet
  rw [dga_obj]
  refine wpAny_bind (wpAny_pure ?_)
  unfold descrGetter descrCheckInstance descrNameAndClass isInstance
  simp only [KF.owner_class]
  repeat lk
  refine ⟨Code.quiet_builtin _ (by decide +kernel), codeAny_builtin KF.entry_class ?_⟩
  unfold Builtin.«object.__class__» shownTypeOf
  repeat lk
  exact h
theorem exc_find {M : Model} {h : Heap} (B : ExK K C) (X : K.In h) : Looks M h (find (.ref e) (.ref C) "__class__") (.bind (.builtin "getset_descriptor.__get__") (.builtin "object.__class__")) := by
  have L1 := looks_findIn (M := M) X B.ha
  have L2 : Looks M h (getOf (some (.builtin "object.__class__"))) (some (.builtin "getset_descriptor.__get__")) := looks_specialIn X B.hn
  have L3 : Looks M h (dataDescriptor? (some (.builtin "object.__class__")) (some (.builtin "getset_descriptor.__get__"))) (some (.builtin "getset_descriptor.__get__", .builtin "object.__class__")) := (looks_takesIn X B.ht).andThen .now
  exact L1.andThen (L2.andThen (L3.andThen (Looks.tag .now)))
theorem exc_ga {tk : Tok} {Q : PySem.Fin → Shared → Prop} (B : ExK K C) (X : K.In s.heap) (he : ExcAt e (.ref C) s.heap) (h : Q (.done (.ret (.ref C))) s) : wpAny (model prog w) A (Builtin.«object.__getattribute__» ⟨[.ref e, .str "__class__" tk], []⟩) Q E s := by
  obtain ⟨hh, g, dr, t, os⟩ := s
  have L0 := exc_type (M := model prog w) he
  have L1 := exc_find (e := e) (M := model prog w) B X
  refine wpAny_bind (wpAny_pure (wpAny_bind (wpAny_pure (wpAny_bind (L0.at (wpAny_bind (L1.at ?_)))))))
  show wpAny _ _ (holding [.builtin "object.__class__"] (call (.builtin "getset_descriptor.__get__") [.builtin "object.__class__", .ref e, .ref C]) >>= ret) _ _ _
  exact wpAny_bind (wpAny_holding (wpAny_call (exc_class_get B X he (wpAny_pure h))))
theorem bexc_kind : builtinKind "BaseException.__getattribute__" = some .slot := by decide +kernel
theorem bexc_split : splitId "BaseException.__getattribute__" = some ("BaseException", "__getattribute__") := by decide +kernel
theorem exc_check {M : Model} {rest : List Value} {Q : Unit → Shared → Prop} (B : ExK K C) (X : K.In s.heap) (he : ExcAt e (.ref C) s.heap) (ha : argsOk "BaseException.__getattribute__" ⟨.ref e :: rest, []⟩) (h : Q () s) : wpAny M A (checkBuiltinCall "BaseException.__getattribute__" ⟨.ref e :: rest, []⟩) Q E s := by
  have L0 := exc_type (M := M) he
  have L1 := looks_mroIn (M := M) X B.hb
  have LI : Looks M s.heap (isInstance (.ref e) (.type "BaseException")) true := L0.andThen L1
  unfold argsOk at ha
  simp only [checkBuiltinCall, bexc_kind, bexc_split]
  refine wpAny_bind (LI.at ?_)
  simp only [Bool.not_true, Bool.false_eq_true, if_false]
  cases hsig : Manifest.signature? "BaseException.__getattribute__" with
  | none => exact wpAny_pure h
  | some sig =>
    simp only [hsig] at ha
    have h2 : Bind.checkArgs "BaseException.__getattribute__" sig ⟨.ref e :: rest, []⟩ = pure () := ha
    show wpAny M A (Bind.checkArgs "BaseException.__getattribute__" sig ⟨.ref e :: rest, []⟩) Q E s
    rw [h2]; exact wpAny_pure h
theorem exc_class {Q : Option Value → Shared → Prop} (B : ExK K C) (X : K.In s.heap) (he : ExcAt e (.ref C) s.heap) (h : Q (some (.ref C)) { s with toks := s.toks + 1 }) : wpAny (model prog w) A (getAttr? (.ref e) "__class__") Q E s := by
  obtain ⟨hh, g, d, t, os⟩ := s
  have L0 := exc_type (M := model prog w) he
  have L1 := looks_findIn (M := model prog w) X B.ga
  have L2 := looks_findIn (M := model prog w) X B.gh
  unfold getAttr? getAttrBy? getAttrBy
  refine wpAny_bind (wpAny_mkText (wpAny_bind (wpAny_attempt (wpAny_holding (wpAny_bind (L0.at (wpAny_bind (L1.at ?_))))))))
  show wpAny _ _ (getAttrByItsOwn _ _ _ _ _ _) _ _ _
  unfold getAttrByItsOwn
  refine wpAny_bind (L2.at (wpAny_bind (wpAny_attempt (wpAny_holding ?_))))
  show wpAny _ _ (boundAndCalled _ _ _) _ _ _
  unfold boundAndCalled
  rw [F.excAttr_ValueError.ga.bind (.ref e)]
  refine wpAny_bind (wpAny_pure ?_)
  show wpAny _ _ (call (.builtin "BaseException.__getattribute__") [.ref e, .str "__class__" _]) _ _ _
  refine wpAny_call (codeAny_call_builtin F.excAttr_ValueError.ga.plain F.entry_bexc_ga (exc_check B X he (F.args_bexc_ga _ _) (exc_ga B X he ?_)))
  show wpAny _ _ (handedOut (.ref C)) _ _ _
  exact handed_on rfl (wpAny_pure h)
theorem isi_no {Q : Value → Shared → Prop} {c : Value} (B : ExK K C) (KX : K.In s.heap) (he : ExcAt e (.ref C) s.heap) (q : kitOne K (.ref C) c = some false) (h : ∀ tk, Q (.bool false) { s with toks := tk }) :
    wpAny (model prog w) A (call (.builtin "isinstance") [.ref e, c]) Q E s := by
  refine call_isinstance (S := fun _ R s => (K.In s.heap ∧ ExcAt e (.ref C) s.heap) ∧ ∀ tk, R (.ok (.ret (.bool false))) { s with toks := tk }) (fun prog w A R s hs => isinstance_outer ?_ (by intro z; cases z)) ⟨⟨KX, he⟩, h⟩
  obtain ⟨⟨KX, he⟩, hq⟩ := hs
  unfold kitOne at q
  by_cases qq : (Value.ref C == c) = true
  · rw [if_pos qq] at q; cases q
  rw [if_neg qq] at q
  obtain ⟨t1, t2, t3⟩ := kit_cls (M := model prog w) KX q
  obtain ⟨cd, hcd, _⟩ := Option.bind_eq_some_iff.mp B.ho
  have hisD : Looks (model prog w) s.heap (isType (.ref C)) true := by
    unfold clsIn at hcd
    split at hcd
    · rename_i c' d' cd' sl' ho
      intro A' Q' E' s' k q
      unfold isType loadHead
      exact wpAny_bind (wpAny_loadPart (k _ _ (KX _ _ ho)) (wpAny_pure q))
    · cases hcd
  have LT := exc_type (M := model prog w) he
  obtain ⟨h0, g, d, tt, os⟩ := s
  unfold Builtin.«isinstance.nested»
  refine wpAny_bind (LT.at ?_)
  rw [if_neg qq]
  refine wpAny_bind (t1.at ?_)
  rw [if_pos (by decide)]
  k_delta "plainIsInstance"
  refine wpAny_bind (wpAny_bind (t2.at ?_))
  simp only [Bool.not_true, Bool.false_eq_true, if_false]
  refine wpAny_bind ((LT.andThen t3 : Looks (model prog w) h0 (isInstance (.ref e) c) false).at ?_)
  simp only [Bool.false_eq_true, if_false]
  refine wpAny_bind (exc_class B KX he ?_)
  refine wpAny_bind (hisD.at ?_)
  simp only [Bool.not_true, Bool.false_eq_true, if_false]
  refine wpAny_bind (wpAny_rule ?_)
  refine t3.at ?_
  first
    | exact wpAny_pure (hq _)
    | exact wpAny_pure (wpAny_pure (hq _))
    | exact wpAny_bind (wpAny_pure (wpAny_pure (hq _)))
end
section
variable {X : Cx}
noncomputable def rIsiY (K : Frag) (e C : Addr) : List V → Hp → VK → Prop := fun vs H Q => on2 vs fun x y => x = .ref e ∧ match y with
  | .ref D => ∃ b, kitOne K (.ref C) (.ref D) = some b ∧ Q (.bl b) H
  | .ty T => ∃ b, kitOne K (.ref C) (.type T) = some b ∧ Q (.bl b) H
  | _ => False
theorem f_isiY {e : Addr} {oe : Obj} {C : Addr} (hc : oe.cls = .ref C) (B : ExK X.K C) : CallR (X.hand e oe) (.builtin "isinstance") (rIsiY X.K e C) := by
  intro pins s σ H vs us Q I r h
  obtain ⟨x, y, rfl, h1⟩ := on2.out h
  obtain ⟨rfl, h2⟩ := h1
  have ex : ExcAt e (.ref C) s.heap := ⟨oe, (I.pin (e, oe) (List.mem_cons_self)).1, hc⟩
  cases r with
  | cons r1 rr =>
    cases rr with
    | cons r2 rr =>
      cases rr
      cases (show _ = Value.ref e from r1)
      have all : ∀ c : Value, (∃ b, kitOne X.K (.ref C) c = some b ∧ Q (.bl b) H) → wpAny (model X.prog X.w) (X.hand e oe).A (call (.builtin "isinstance") [.ref e, c]) (EP (X.hand e oe) pins σ Q) (X.hand e oe).xe s := fun c ⟨b, hb, q⟩ => by
        cases b with
        | true => exact isi_yes I.kIn ex hb fun tk => ⟨.bl true, H, I.tok _, rfl, q⟩
        | false => exact isi_no B I.kIn ex hb fun tk => ⟨.bl false, H, I.tok _, rfl, q⟩
      cases y with
      | ref D => cases (show _ = Value.ref D from r2); exact all _ h2
      | ty T => cases (show _ = Value.type T from r2); exact all _ h2
      | _ => exact h2.elim
end
end L2
namespace L2
open PySem PySem.Spec PyProof.Rows
section
variable {X : Cx}
noncomputable abbrev TX := (St → Hp → Prop) → XK → St → Hp → Prop
noncomputable def PX (X : Cx) (bs : List Stmt) (tb : TX) : Prop := ∀ (pins : List (Addr × Obj)) (s : Shared) (σ : St) (H : Hp) (N : St → Hp → Prop) (E : XK), Inv X pins σ H s → tb N E σ H →
  wpAny (model X.prog X.w) X.A (execs bs X.env) (fun f s' => f = .next ∧ ∃ σ' H', Inv X pins σ' H' s' ∧ N σ' H') (fun ev s' => ∃ H1 s1, Inv X pins σ H1 s1 ∧ CXx X.prog X.w X.stack H1 s1 E ev s') s
noncomputable def xAsg (sp : Sp) (i : Nat) (ta : TA) : TX := fun N E σ H => ta σ H fun vs H1 => sp vs H1 (fun v H2 => N (σ.set i (some v)) H2) E
noncomputable def xDrop (sp : Sp) (ta : TA) : TX := fun N E σ H => ta σ H fun vs H1 => sp vs H1 (fun _ H2 => N σ H2) E
noncomputable def xIf (tc : TT) (a b : TX) : TX := fun N E σ H => tc σ H fun d H1 => if d = true then a N E σ H1 else b N E σ H1
theorem px_expr {k : Nat} {fn : Str} {ps : List Str} {sp : Sp} {p2 p3 p4 : Pos} {e0 : Expr} {es : List Expr} {ta : TA}
    (hxe : ∀ v s, ¬ X.xe v s) (C : CalX X.prog X.w X.K X.mg X.base k fn ps sp) (hr : Room k X.A) (hg : Gl X fn) (ha : PA X (e0 :: es) ta) (hs : swapsWith (.Call (.Name fn p2) (e0 :: es) [] p3) none p4.line X.env = pure false := by rfl)
    (hd1 : (fn == ("__debug__" : Str)) = false := by decide) (hse : starEach (e0 :: es) X.env = (false, eval e0 X.env) :: starEach es X.env := by rfl) (hpl : (backTo p3 (starEach es X.env)).any (·.1) = false := by rfl) :
    PX X [.Expr (.Call (.Name fn p2) (e0 :: es) [] p3) p4] (xDrop sp ta) := by
  intro pins s σ H N E I h
  exact wpAny_execs_cons (wpAny_Expr_any (wpAny_mono (call_x C hr hg ha hxe hd1 hse hpl I h) (fun v s1 ⟨y, H1, I1, r1, q1⟩ => wpAny_execs_nil ⟨rfl, σ, H1, I1, q1⟩) (fun ev s' z => z)) I.quiet hs)
theorem px_if {c : Expr} {a b : List Stmt} {tc : TT} {ta tb : TX} {pos : Pos} (hxe : ∀ v s, ¬ X.xe v s) (hc : PT X c tc) (ha : PX X a ta) (hb : PX X b tb) : PX X [.If c a b pos] (xIf tc ta tb) := by
  intro pins s σ H N E I h
  refine wpAny_execs_cons (wpAny_If (wpAny_mono (hc pins s σ H _ I h) (fun d s1 ⟨H1, I1, q1⟩ => ?_) (fun v s1 z => (hxe v s1 z).elim)))
  cases d with
  | true => exact wpAny_mono (ha pins s1 σ H1 N E I1 q1) (fun f s2 ⟨e, σ', H', I', n⟩ => by subst e; exact wpAny_execs_nil ⟨rfl, σ', H', I', n⟩) (fun _ _ z => z)
  | false => exact wpAny_mono (hb pins s1 σ H1 N E I1 q1) (fun f s2 ⟨e, σ', H', I', n⟩ => by subst e; exact wpAny_execs_nil ⟨rfl, σ', H', I', n⟩) (fun _ _ z => z)
noncomputable def tTry (K : PySem.W.Frag) (D : Addr) (ie : Nat) (tb : TX) (th : Addr → Addr → TS) : TS := fun Dn σ H => tb Dn.nx (fun Cv _ H2 => ∃ C : Addr, Cv = .ref C ∧ PySem.W.excIn K C veTail "ValueError.__new__" = true ∧ hasIn K C (.ref D) = true ∧ ExK K C ∧
  ∀ e, H2 e = none → th e C { nx := fun σ' H' => Dn.nx (σ'.set ie none) H', rt := Dn.rt, bk := fun σ' H' => Dn.bk (σ'.set ie none) H', ct := fun σ' H' => Dn.ct (σ'.set ie none) H' } (σ.set ie (some (.ref e))) H2) σ H
theorem ps_try {ie : Nat} {n cls : Str} {p5 p6 p7 : Pos} {bs : List Stmt} {b0 : Stmt} {suite : List Stmt} {tb : TX} {D : Addr} {th : Addr → Addr → TS}
    (hst : X.stack = X.env :: X.outer) (hfm : X.env.frame = some X.env.locals) (hxe : ∀ v s, ¬ X.xe v s) (hN : X.N.Nodup) (hie : X.N[ie]? = some n) (hloc : X.env.scope.names.lookup n = some .local)
    (hb : PX X bs tb) (hD : Own X.K X.mg cls D) (hgc : Gl X cls)
    (hsuite : ∀ (e : Addr) (oe : Obj) (C : Addr), oe.cls = .ref C → ExK X.K C → PSs (X.hand e oe) (b0 :: suite) (th e C)) (hd2 : (cls == ("__debug__" : Str)) = false := by decide) :
    PS X (.Try bs [.ExceptHandler (some (.Name cls p5)) (some n) (b0 :: suite) p6] [] [] p7) (tTry X.K D ie tb th) := by
  intro pins s σ H Dn I h
  refine wpAny_Try_except (wpAny_mono (hb pins s σ H _ _ I h) (fun f s1 ⟨e, σ', H', I', q⟩ => ?_) (fun ev s' ⟨H1, s1, I1, cx⟩ => ?_))
  · subst e
    exact wpAny_execs_nil ⟨σ', H', I', q⟩
  · obtain ⟨e, Cv, a0, B, H', rfl, os, bare, fl, hok, hne, kB, tr, un, Ca, rfl, hC, hs, ek, q⟩ := cx
    have hcalm : X.calm = true → X.A.handled = none := I.ok.hd
    have fl' : Heap.FlyingW B (X.env :: X.outer) e (.ref Ca) a0 s'.heap := hst ▸ fl
    refine wpAny_looks_onW (by rw [I.ok.frames, hst]) hfm fl' fun h4 held sm4 => ?_
    refine wpAny_landsW held fun h5 fl5 sm5 => ?_
    have sm45 := sm4.trans sm5
    have I5 : Inv X pins σ H' { s' with heap := h5 } := I1.flew (tk := s'.toks) (e := e) (C := .ref Ca) (a0 := a0) os bare fl5.1 hok kB un fl.2.2.1 sm45 tr
    have info : ∀ {hh : Heap}, Heap.FlyingW B (X.env :: X.outer) e (.ref Ca) a0 hh → Inv X pins σ H' { s' with heap := hh } → ∃ oe, hh.get? e = some oe ∧ oe.cls = .ref Ca ∧ e ≠ X.env.locals ∧ e ∉ X.fs ∧ ∀ v, oe.data ≠ .cell v := fun {hh} f J => by
      obtain ⟨oe, vs, _, _, _, g1, g2, g3, _⟩ := f.2.2.2
      refine ⟨oe, g1, g2.1, fun z => ?_, fun z => ?_, fun v z => by rw [g3] at z; cases z⟩
      · obtain ⟨m, ⟨o, _, _, ho, hd, _⟩, _⟩ := J.loc
        have ho' : hh.get? X.env.locals = some o := ho
        rw [← z, g1] at ho'
        cases ho'
        rw [g3] at hd; cases hd
      · obtain ⟨_, o, ho, nf⟩ := J.funs.mem z
        have ho' : hh.get? e = some o := ho
        rw [g1] at ho'
        cases ho'
        exact nf _ g3
    obtain ⟨oe5, g1, g2, g3, g4, g5⟩ := info fl5 I5
    have J5 := I5.hand (oe := oe5) g1 hne g3 g4 g5
    refine wpAny_handleBy_cons (codeAny_handlers_test (ld_glob (X := X.hand e oe5) J5 hgc hD.mg (exc_match I5.kIn hC hD.exc hs ⟨oe5, g1, g2⟩ ?_) hd2)) (by intro z; cases z)
    refine codeAny_handlers_suite_as (lands_againW fl5 fun h6 fl6 sm6 => ?_)
    have I6 : Inv X pins σ H' { s' with heap := h6 } := I1.flew (tk := s'.toks) (e := e) (C := .ref Ca) (a0 := a0) os bare fl6.1 hok kB un fl.2.2.1 (sm45.trans sm6) tr
    obtain ⟨oe, f1, f2, f3, f4, f5⟩ := info fl6 I6
    have J6 := I6.hand (oe := oe) f1 hne f3 f4 f5
    refine store_ok (X := X.hand e oe) (v := .ref e) J6 hN hie (.inl hloc) rfl (fun s7 I7 => ?_) (.inr hloc)
    refine wpAny_mono (hsuite e oe Ca f2 ek pins s7 _ H' _ I7 (q e hne)) (fun fw s8 sp8 => ?_) (fun _ _ z => z.elim)
    show wpAny _ _ (do bindName X.env n .none; unbindBehindTheSuite X.env n p6) _ _ s8
    have fin : ∀ {σ' : St} {H8 : Hp}, Inv (X.hand e oe) pins σ' H8 s8 → (∀ s9, Inv X pins (σ'.set ie none) H8 s9 → SP X pins Dn fw s9) → wpAny (model X.prog X.w) X.A (do bindName X.env n .none; unbindBehindTheSuite X.env n p6) (fun _ s₃ => SP X pins Dn fw s₃) X.xe s8 := fun {σ' H8} J k => by
      have J2 := J.unhand hcalm
      obtain ⟨m, hm, hl⟩ := id J2.loc
      exact wpAny_nameGoes_keeps hloc hm (by rw [J2.ok.kind]; rfl) fun h9 v hn9 hs9 => k _ (J2.gone hN hie hm hl hn9 hs9)
    cases fw with
    | next => obtain ⟨σ', H8, J, z⟩ := sp8; exact fin J fun s9 I9 => ⟨_, H8, I9, z⟩
    | brk => obtain ⟨σ', H8, J, z⟩ := sp8; exact fin J fun s9 I9 => ⟨_, H8, I9, z⟩
    | cont => obtain ⟨σ', H8, J, z⟩ := sp8; exact fin J fun s9 I9 => ⟨_, H8, I9, z⟩
    | ret u => obtain ⟨v, σ', H8, J, r, z⟩ := sp8; exact fin J fun s9 I9 => ⟨v, _, H8, I9, r, z⟩
end
end L2
namespace L2
open PySem PySem.Spec PyProof.Rows RS
noncomputable def leS (a b : V) : Bool := match b with
  | .non => decide (a = .non)
  | .int n => match a with | .int m => decide (m < n) | _ => true
  | _ => false
structure GoodP (X : List (List V)) : Prop where
  pos : ∀ r ∈ X, r ≠ []
  dec : ∀ i r s, X[i]? = some r → X[i + 1]? = some s → s.length ≤ r.length
  row : ∀ r ∈ X, r.Pairwise (fun a b => leS a b = true)
  col : ∀ i i' j a b, i < i' → cellV X i j = some a → cellV X i' j = some b → leS a b = true
  nd : (X.map intsOf).flatten.Nodup
theorem dec_all {X : List (List V)} (h : ∀ i r s, X[i]? = some r → X[i + 1]? = some s → s.length ≤ r.length) : DecV X := by
  unfold DecV
  rw [List.pairwise_iff_getElem]
  intro i j hi hj hij
  induction j with
  | zero => trivial
  | succ j ih =>
    have hj' : j < X.length := by trivial
    have a := h j X[j] X[j + 1] (List.getElem?_eq_getElem hj') (List.getElem?_eq_getElem hj)
    by_cases e : i = j
    · subst e; exact a
    · have := ih hj' (by trivial)
      trivial
theorem leaf_cases {v : V} (h : isLeaf v = true) : v = .non ∨ ∃ n, v = .int n := by
  cases v <;> simp_all [isLeaf]
theorem intsOf_consI (n : Int) (l : List V) : intsOf (.int n :: l) = n :: intsOf l := rfl
theorem intsOf_consN (l : List V) : intsOf (.non :: l) = intsOf l := rfl
theorem mem_ints {l : List V} {n : Int} : n ∈ intsOf l ↔ V.int n ∈ l := by
  unfold intsOf
  rw [List.mem_filterMap]
  constructor
  · rintro ⟨v, hv, e⟩
    cases v <;> simp_all
  · intro h
    exact ⟨_, h, rfl⟩
theorem holesV_consN (l : List V) : holesV (.non :: l) = holesV l + 1 := by
  unfold holesV
  rw [List.countP_cons]; simp [eqV]
theorem holesV_consI (n : Int) (l : List V) : holesV (.int n :: l) = holesV l := by
  unfold holesV
  rw [List.countP_cons]; simp [eqV]
theorem full_ints : ∀ {l : List V}, (∀ v ∈ l, ∃ n, v = .int n) → l = (intsOf l).map V.int ∧ holesV l = 0
  | [], _ => ⟨rfl, rfl⟩
  | v :: l, h => by
    obtain ⟨n, rfl⟩ := h v List.mem_cons_self
    obtain ⟨a, b⟩ := full_ints fun w hw => h w (List.mem_cons_of_mem _ hw)
    rw [intsOf_consI, holesV_consI, List.map_cons, ← a]
    exact ⟨rfl, b⟩
theorem pw_rise : ∀ {l : List V}, l.all isLeaf = true → l.Pairwise (fun a b => leS a b = true) → l = List.replicate (holesV l) .non ++ (intsOf l).map V.int ∧ (intsOf l).Pairwise (· < ·)
  | [], _, _ => ⟨rfl, .nil⟩
  | v :: l, lf, h => by
    rw [List.all_cons, Bool.and_eq_true] at lf
    have h' := List.pairwise_cons.mp h
    obtain ⟨a, b⟩ := pw_rise lf.2 h'.2
    rcases leaf_cases lf.1 with rfl | ⟨n, rfl⟩
    · rw [holesV_consN, intsOf_consN, List.replicate_succ, List.cons_append, ← a]
      exact ⟨rfl, b⟩
    · have al : ∀ v ∈ l, ∃ m, v = .int m ∧ n < m := fun v hv => by
        rcases leaf_cases (List.all_eq_true.mp lf.2 v hv) with rfl | ⟨m, rfl⟩
        · have := h'.1 _ hv; simp [leS] at this
        · have := h'.1 _ hv
          simp [leS] at this
          exact ⟨m, rfl, this⟩
      obtain ⟨c, d⟩ := full_ints fun v hv => (let ⟨m, e, _⟩ := al v hv; ⟨m, e⟩)
      rw [holesV_consI, intsOf_consI, d, List.map_cons, ← c]
      refine ⟨rfl, List.pairwise_cons.mpr ⟨fun m hm => ?_, b⟩⟩
      obtain ⟨m', e, hlt⟩ := al _ (mem_ints.mp hm)
      cases e
      exact hlt
theorem rise_pw {l : List V} (lf : l.all isLeaf = true) (nd : (intsOf l).Nodup) : riseV l = true ↔ l.Pairwise (fun a b => leS a b = true) := by
  unfold riseV
  rw [decide_eq_true_eq]
  constructor
  · intro e
    rw [e]
    have sl : (sortZ (intsOf l)).Pairwise (· < ·) := by
      have n2 : (sortZ (intsOf l)).Nodup := (sortZ_perm _).nodup_iff.mpr nd
      exact (List.pairwise_and_iff.mpr ⟨sortZ_le (intsOf l), n2⟩).imp fun {a b} (h : a ≤ b ∧ a ≠ b) => by trivial
    rw [List.pairwise_append]
    refine ⟨?_, ?_, ?_⟩
    · rw [List.pairwise_replicate]
      right; simp [leS]
    · rw [List.pairwise_map]
      exact sl.imp fun h => by simpa [leS] using h
    · intro a ha b hb
      rw [(List.mem_replicate.mp ha).2]
      obtain ⟨n, _, rfl⟩ := List.mem_map.mp hb
      simp [leS]
  · intro h
    obtain ⟨a, b⟩ := pw_rise lf h
    conv => lhs; rw [a]
    congr 2
    exact sortZ_uniq (List.Perm.refl _) (b.imp fun h => Int.le_of_lt h)
theorem flat_read (X : List (List V)) : ((X.map intsOf).flatten).Perm (readV X) := by
  unfold readV
  rw [List.map_reverse]
  exact (List.Perm.flatten (List.reverse_perm _)).symm
theorem sub_nodup {X : List (List V)} (h : (X.map intsOf).flatten.Nodup) : ∀ r ∈ X, (intsOf r).Nodup := fun r hr =>
  (List.pairwise_flatten.mp h).1 _ (List.mem_map.mpr ⟨r, hr, rfl⟩)
theorem col_mem {X : List (List V)} (dec : DecV X) {p : Nat} : ∀ q, (colV X p)[q]? = cellV X q p := fun q => dec.column_get p q
theorem col_nodup {X : List (List V)} (dec : DecV X) (nd : (X.map intsOf).flatten.Nodup) (p : Nat) : (intsOf (colV X p)).Nodup := by
  unfold List.Nodup intsOf
  refine List.Pairwise.filterMap (R := fun a b : V => ∀ n, a = .int n → b ≠ .int n) _ (fun a b h x hx y hy e => ?_) ?_
  · subst e
    cases a <;> simp at hx
    cases b <;> simp at hy
    subst hx
    exact h _ rfl (by rw [hy])
  · rw [List.pairwise_iff_getElem]
    intro i j hi hj hij n ea eb
    have a := col_mem dec (p := p) i
    have b := col_mem dec (p := p) j
    rw [List.getElem?_eq_getElem hi, ea] at a
    rw [List.getElem?_eq_getElem hj, eb] at b
    obtain ⟨_, r, er, _, ev⟩ := cell_lt a.symm
    obtain ⟨_, s, es, _, ew⟩ := cell_lt b.symm
    have hr := (List.getElem?_eq_some_iff.mp er)
    have hs := (List.getElem?_eq_some_iff.mp es)
    have dj := (List.pairwise_flatten.mp nd).2
    rw [List.pairwise_map] at dj
    have := List.pairwise_iff_getElem.mp dj i j hr.1 hs.1 hij
    rw [hr.2, hs.2] at this
    exact this n (mem_ints.mpr (List.mem_of_getElem? ev)) n (mem_ints.mpr (List.mem_of_getElem? ew)) rfl
theorem shape_of_dec {X : List (List V)} (dec : DecV X) (pos : ∀ r ∈ X, r ≠ []) : shapeB (lensV X) = true := by
  unfold shapeB
  rw [Bool.and_eq_true, decide_eq_true_eq]
  refine ⟨sortR_uniq (List.Perm.refl _) ?_, ?_⟩
  · unfold lensV
    refine List.Pairwise.map _ (fun r s (h : s.length ≤ r.length) => ?_) dec
    show (r.length : Int) ≥ (s.length : Int)
    trivial
  · rw [List.all_eq_true]
    intro x hx
    obtain ⟨r, hr, rfl⟩ := List.mem_map.mp hx
    have := List.length_pos_iff.mpr (pos r hr)
    simp; trivial
theorem turn_all {X : List (List V)} (lf : ∀ r ∈ X, r.all isLeaf = true) (dec : DecV X) (nd : (X.map intsOf).flatten.Nodup) : ((turnV X).all riseV = true) ↔ ∀ i i' j a b, i < i' → cellV X i j = some a → cellV X i' j = some b → leS a b = true := by
  rw [List.all_eq_true]
  constructor
  · intro h i i' j a b hlt ha hb
    have ca := col_mem dec (p := j) i
    have cb := col_mem dec (p := j) i'
    rw [ha] at ca
    rw [hb] at cb
    have hw : j < widthV X := by
      obtain ⟨hi, r, er, hj, _⟩ := cell_lt ha
      unfold widthV
      cases X with
      | nil => simp at hi
      | cons r0 X =>
        cases i with
        | zero => simp at er; subst er; exact hj
        | succ k =>
          simp at er
          have := (List.pairwise_cons.mp dec).1 r (List.mem_of_getElem? er)
          simp; trivial
    have hm : colV X j ∈ turnV X := by unfold turnV; exact List.mem_map.mpr ⟨j, List.mem_range.mpr hw, rfl⟩
    have pw := (rise_pw (leaf_col lf j) (col_nodup dec nd j)).mp (h _ hm)
    obtain ⟨la, ea⟩ := List.getElem?_eq_some_iff.mp ca
    obtain ⟨lb, eb⟩ := List.getElem?_eq_some_iff.mp cb
    have := List.pairwise_iff_getElem.mp pw i i' la lb hlt
    rwa [ea, eb] at this
  · intro h c hc
    unfold turnV at hc
    obtain ⟨p, _, rfl⟩ := List.mem_map.mp hc
    refine (rise_pw (leaf_col lf p) (col_nodup dec nd p)).mpr ?_
    rw [List.pairwise_iff_getElem]
    intro i j hi hj hij
    have a := col_mem dec (p := p) i
    have b := col_mem dec (p := p) j
    rw [List.getElem?_eq_getElem hi] at a
    rw [List.getElem?_eq_getElem hj] at b
    exact h i j p _ _ hij a.symm b.symm
theorem holed_good {X : List (List V)} (lf : ∀ r ∈ X, r.all isLeaf = true) : holedV X = true ↔ GoodP X := by
  unfold holedV
  rw [Bool.and_eq_true, Bool.and_eq_true, Bool.and_eq_true, decide_eq_true_eq, List.all_eq_true]
  constructor
  · rintro ⟨⟨⟨h1, h2⟩, h3⟩, h4⟩
    obtain ⟨dec, pos⟩ := shape_dec h1
    have nd : (X.map intsOf).flatten.Nodup := (flat_read X).nodup_iff.mpr h2
    refine ⟨pos, fun i r s hr hs => ?_, fun r hr => (rise_pw (lf r hr) (sub_nodup nd r hr)).mp (h3 r hr), (turn_all lf dec nd).mp h4, nd⟩
    obtain ⟨l1, e1⟩ := List.getElem?_eq_some_iff.mp hr
    obtain ⟨l2, e2⟩ := List.getElem?_eq_some_iff.mp hs
    have := List.pairwise_iff_getElem.mp dec i (i + 1) l1 l2 (by trivial)
    rwa [e1, e2] at this
  · rintro ⟨pos, dec, row, col, nd⟩
    have dec' := dec_all dec
    exact ⟨⟨⟨shape_of_dec dec' pos, (flat_read X).nodup_iff.mp nd⟩, fun r hr => (rise_pw (lf r hr) (sub_nodup nd r hr)).mpr (row r hr)⟩, (turn_all lf dec' nd).mpr col⟩
noncomputable def aboveV (X : List (List V)) (i j : Nat) : List V := (X.take i).map fun r => r.getD j .non
noncomputable def seenV (X : List (List V)) (i : Nat) (l : List V) : List Int := ((X.take i).map intsOf).flatten ++ intsOf l
noncomputable def okCell (seen : List Int) (left above : List V) (v : V) : Bool := match v with
  | .non => (left ++ above).all fun u => decide (u = .non)
  | .int n => !decide (n ∈ seen) && (intsOf (left ++ above)).all fun m => decide (m < n)
  | _ => false
noncomputable def okHead (X : List (List V)) (i : Nat) (r : List V) : Bool := !decide (r.length = 0) && (decide (i = 0) || decide (r.length ≤ (X.getD (i - 1) []).length))
noncomputable def okRow (X : List (List V)) (i : Nat) (r : List V) : Bool := okHead X i r && (List.range r.length).all fun j => okCell (seenV X i (r.take j)) (r.take j) (aboveV X i j) (r.getD j .non)
noncomputable def goodB (X : List (List V)) : Bool := (List.range X.length).all fun i => okRow X i (X.getD i [])
theorem okCell_of {seen : List Int} {left above : List V} {v : V} (lf : (left ++ above).all isLeaf = true) (lv : isLeaf v = true) : okCell seen left above v = true ↔ (∀ u ∈ left ++ above, leS u v = true) ∧ ∀ n, v = .int n → n ∉ seen := by
  rcases leaf_cases lv with rfl | ⟨n, rfl⟩
  · unfold okCell
    rw [List.all_eq_true]
    simp [leS]
  · unfold okCell
    rw [Bool.and_eq_true, List.all_eq_true, Bool.not_eq_true', decide_eq_false_iff_not]
    constructor
    · rintro ⟨h1, h2⟩
      refine ⟨fun u hu => ?_, fun m e => by cases e; exact h1⟩
      rcases leaf_cases (List.all_eq_true.mp lf u hu) with rfl | ⟨m, rfl⟩
      · simp [leS]
      · simpa [leS] using h2 m (mem_ints.mpr hu)
    · rintro ⟨h1, h2⟩
      refine ⟨h2 n rfl, fun m hm => ?_⟩
      have := h1 _ (mem_ints.mp hm)
      simpa [leS] using this
theorem ints_take_snoc {l : List V} {j : Nat} {v : V} (e : l[j]? = some v) : intsOf (l.take (j + 1)) = intsOf (l.take j) ++ intsOf [v] := by
  rw [List.take_add_one, e]
  unfold intsOf
  rw [List.filterMap_append]; rfl
theorem rev_indV {α : Type} {p : List α → Prop} (h0 : p []) (h1 : ∀ l a, p l → p (l ++ [a])) (l : List α) : p l := by
  have : ∀ n (l : List α), l.length = n → p l := fun n => by
    induction n with
    | zero => intro l h; rw [List.length_eq_zero_iff.mp h]; exact h0
    | succ n ih =>
      intro l h
      rcases List.eq_nil_or_concat l with e | ⟨l2, a, e⟩
      · subst e; simp at h
      · subst e
        rw [List.concat_eq_append] at *
        exact h1 _ _ (ih l2 (by simpa using h))
  exact this _ l rfl
theorem nodup_walk {S : List Int} : ∀ {l : List V}, (S ++ intsOf l).Nodup ↔ S.Nodup ∧ ∀ j n, l[j]? = some (.int n) → n ∉ S ++ intsOf (l.take j) := by
  intro l
  induction l using rev_indV with
  | h0 => simp [intsOf]
  | h1 l v ih =>
    have ea : intsOf (l ++ [v]) = intsOf l ++ intsOf [v] := by unfold intsOf; rw [List.filterMap_append]
    rw [ea, ← List.append_assoc, List.nodup_append, ih]
    have tk : ∀ j, j ≤ l.length → (l ++ [v]).take j = l.take j := fun j hj => List.take_append_of_le_length hj
    constructor
    · rintro ⟨⟨h1, h2⟩, h3, h4⟩
      refine ⟨h1, fun j n e => ?_⟩
      by_cases hj : j < l.length
      · rw [List.getElem?_append_left hj] at e
        rw [tk j (by trivial)]
        exact h2 j n e
      · have : j = l.length := by have := (List.getElem?_eq_some_iff.mp e).1; simp at this; trivial
        subst this
        rw [List.getElem?_append_right (Nat.le_refl _)] at e
        simp at e
        subst e
        rw [tk _ (Nat.le_refl _), List.take_length]
        exact fun z => h4 n z n (by simp [intsOf]) rfl
    · rintro ⟨h1, h2⟩
      refine ⟨⟨h1, fun j n e => ?_⟩, ?_, ?_⟩
      · have hj := (List.getElem?_eq_some_iff.mp e).1
        have := h2 j n (by rw [List.getElem?_append_left hj]; exact e)
        rwa [tk j (by trivial)] at this
      · cases v <;> simp [intsOf]
      · intro a ha b hb e
        subst e
        have hv : v = .int a := by
          have := mem_ints.mp hb
          exact (List.mem_singleton.mp this).symm
        subst hv
        have := h2 l.length a (by rw [List.getElem?_append_right (Nat.le_refl _)]; simp)
        rw [tk _ (Nat.le_refl _), List.take_length] at this
        exact this ha
end L2
namespace L2
open PySem PySem.Spec PyProof.Rows RS
theorem getD_leaf {r : List V} (h : r.all isLeaf = true) (j : Nat) : isLeaf (r.getD j .non) = true := by
  rw [List.getD_eq_getElem?_getD]
  cases e : r[j]? with
  | none => rfl
  | some v => exact List.all_eq_true.mp h v (List.mem_of_getElem? e)
theorem above_leaf {X : List (List V)} (lf : ∀ r ∈ X, r.all isLeaf = true) (i j : Nat) : (aboveV X i j).all isLeaf = true := by
  rw [List.all_eq_true]
  intro v hv
  obtain ⟨r, hr, rfl⟩ := List.mem_map.mp hv
  exact getD_leaf (lf r (List.mem_of_mem_take hr)) j
theorem take_leaf {r : List V} (h : r.all isLeaf = true) (j : Nat) : (r.take j).all isLeaf = true := by
  rw [List.all_eq_true]
  exact fun v hv => List.all_eq_true.mp h v (List.mem_of_mem_take hv)
theorem okRow_of {X : List (List V)} (lf : ∀ r ∈ X, r.all isLeaf = true) {i : Nat} {r : List V} (hr : X[i]? = some r) : okRow X i r = true ↔ okHead X i r = true ∧ ∀ j v, r[j]? = some v → (∀ u ∈ r.take j ++ aboveV X i j, leS u v = true) ∧ ∀ n, v = .int n → n ∉ seenV X i (r.take j) := by
  have lr := lf r (List.mem_of_getElem? hr)
  unfold okRow
  rw [Bool.and_eq_true, List.all_eq_true]
  have la : ∀ j, (r.take j ++ aboveV X i j).all isLeaf = true := fun j => by rw [List.all_append, take_leaf lr, above_leaf lf]; rfl
  constructor
  · rintro ⟨h1, h2⟩
    refine ⟨h1, fun j v e => ?_⟩
    have hj := (List.getElem?_eq_some_iff.mp e).1
    have := h2 j (List.mem_range.mpr hj)
    rw [List.getD_eq_getElem?_getD, e] at this
    exact (okCell_of (la j) (List.all_eq_true.mp lr v (List.mem_of_getElem? e))).mp this
  · rintro ⟨h1, h2⟩
    refine ⟨h1, fun j hj => ?_⟩
    have hj := List.mem_range.mp hj
    have e : r[j]? = some r[j] := List.getElem?_eq_getElem hj
    rw [List.getD_eq_getElem?_getD, e]
    exact (okCell_of (la j) (List.all_eq_true.mp lr _ (List.mem_of_getElem? e))).mpr (h2 j _ e)
theorem goodB_rows {X : List (List V)} : goodB X = true ↔ ∀ i r, X[i]? = some r → okRow X i r = true := by
  unfold goodB
  rw [List.all_eq_true]
  constructor
  · intro h i r e
    have := h i (List.mem_range.mpr (List.getElem?_eq_some_iff.mp e).1)
    rwa [List.getD_eq_getElem?_getD, e] at this
  · intro h i hi
    have hi := List.mem_range.mp hi
    have e : X[i]? = some X[i] := List.getElem?_eq_getElem hi
    rw [List.getD_eq_getElem?_getD, e]
    exact h i _ e
theorem flat_take {X : List (List V)} {i : Nat} {r : List V} (e : X[i]? = some r) : ((X.take (i + 1)).map intsOf).flatten = ((X.take i).map intsOf).flatten ++ intsOf r := by
  rw [List.take_add_one, e]
  simp
theorem good_good {X : List (List V)} (lf : ∀ r ∈ X, r.all isLeaf = true) : goodB X = true ↔ GoodP X := by
  rw [goodB_rows]
  constructor
  · intro h
    have h' : ∀ i r, X[i]? = some r → okHead X i r = true ∧ ∀ j v, r[j]? = some v → (∀ u ∈ r.take j ++ aboveV X i j, leS u v = true) ∧ ∀ n, v = .int n → n ∉ seenV X i (r.take j) := fun i r e => (okRow_of lf e).mp (h i r e)
    refine ⟨fun r hr z => ?_, fun i r s hr hs => ?_, fun r hr => ?_, fun i i' j a b hlt ha hb => ?_, ?_⟩
    · obtain ⟨i, e⟩ := List.getElem?_of_mem hr
      have := (h' i r e).1
      rw [z] at this
      simp [okHead] at this
    · have := (h' (i + 1) s hs).1
      unfold okHead at this
      rw [show i + 1 - 1 = i by trivial, List.getD_eq_getElem?_getD, hr] at this
      simp at this
      exact this.2
    · obtain ⟨i, e⟩ := List.getElem?_of_mem hr
      rw [List.pairwise_iff_getElem]
      intro k j hk hj hkj
      refine ((h' i r e).2 j _ (List.getElem?_eq_getElem hj)).1 _ (List.mem_append_left _ ?_)
      exact List.mem_take_iff_getElem.mpr ⟨k, by trivial, rfl⟩
    · obtain ⟨hi', s, es, _, eb⟩ := cell_lt hb
      obtain ⟨hi, r, er, _, ea⟩ := cell_lt ha
      refine ((h' i' s es).2 j b eb).1 a (List.mem_append_right _ ?_)
      refine List.mem_map.mpr ⟨r, ?_, by rw [List.getD_eq_getElem?_getD, ea]; rfl⟩
      have := List.getElem?_eq_some_iff.mp er
      exact List.mem_take_iff_getElem.mpr ⟨i, by trivial, this.2⟩
    · have : ∀ i, i ≤ X.length → (((X.take i).map intsOf).flatten).Nodup := fun i => by
        induction i with
        | zero => intro _; simp
        | succ i ih =>
          intro hi
          have e : X[i]? = some X[i] := List.getElem?_eq_getElem (by trivial)
          rw [flat_take e]
          exact nodup_walk.mpr ⟨ih (by trivial), fun j n ej => ((h' i _ e).2 j _ ej).2 n rfl⟩
      have := this X.length (Nat.le_refl _)
      rwa [List.take_length] at this
  · rintro ⟨pos, dec, row, col, nd⟩ i r e
    have hi := (List.getElem?_eq_some_iff.mp e).1
    have dv := dec_all dec
    refine (okRow_of lf e).mpr ⟨?_, fun j v ej => ⟨fun u hu => ?_, fun n ev => ?_⟩⟩
    · unfold okHead
      have := List.length_pos_iff.mpr (pos r (List.mem_of_getElem? e))
      cases i with
      | zero => simp; exact pos r (List.mem_of_getElem? e)
      | succ i =>
        have e2 : X[i]? = some X[i] := List.getElem?_eq_getElem (by trivial)
        have := dec i _ r e2 e
        simp [List.getD_eq_getElem?_getD, e2]
        exact ⟨pos r (List.mem_of_getElem? e), this⟩
    · rcases List.mem_append.mp hu with h | h
      · obtain ⟨k, hk, rfl⟩ := List.mem_take_iff_getElem.mp h
        obtain ⟨hj, rfl⟩ := List.getElem?_eq_some_iff.mp ej
        exact List.pairwise_iff_getElem.mp (row r (List.mem_of_getElem? e)) k j (by trivial) hj (by trivial)
      · obtain ⟨s, hs, rfl⟩ := List.mem_map.mp h
        obtain ⟨k, hk, es⟩ := List.mem_take_iff_getElem.mp hs
        have hk' : k < X.length := by trivial
        have hlen := List.pairwise_iff_getElem.mp dv k i hk' hi (by trivial)
        have hj := (List.getElem?_eq_some_iff.mp ej).1
        rw [(List.getElem?_eq_some_iff.mp e).2, es] at hlen
        have hjs : j < s.length := by trivial
        have c1 : cellV X k j = some (s.getD j .non) := by
          unfold cellV
          rw [List.getElem?_eq_getElem hk', es, Option.bind_some, List.getD_eq_getElem?_getD, List.getElem?_eq_getElem hjs]; rfl
        have c2 : cellV X i j = some v := by unfold cellV; rw [e]; exact ej
        exact col k i j _ v (by trivial) c1 c2
    · subst ev
      have n2 : (((X.take (i + 1)).map intsOf).flatten).Nodup := by
        have sp : (X.map intsOf).flatten = ((X.take (i + 1)).map intsOf).flatten ++ ((X.drop (i + 1)).map intsOf).flatten := by
          rw [← List.flatten_append, ← List.map_append, List.take_append_drop]
        rw [sp] at nd
        exact (List.nodup_append.mp nd).1
      rw [flat_take e] at n2
      exact (nodup_walk.mp n2).2 j n ej
theorem good_holed {X : List (List V)} (lf : ∀ r ∈ X, r.all isLeaf = true) : goodB X = holedV X := by
  rw [Bool.eq_iff_iff, good_good lf, holed_good lf]
noncomputable def rowQ (xs : List V) : PyData := .list (xs.map leafP)
theorem dpAll_rowsV {H : Hp} : ∀ {as : List Addr} {xss : List (List V)}, RowsW H as xss → (∀ r ∈ xss, r.all isLeaf = true) → DpAll H (as.map V.ref) (xss.map rowQ)
  | _, _, .nil, _ => .nil
  | _, _, .cons h t, lf => .cons (.lst h (dpAll_leaf (lf _ List.mem_cons_self))) (dpAll_rowsV t fun r hr => lf r (List.mem_cons_of_mem _ hr))
theorem rowsQ_lay : ∀ xss : List (List V), PyData.canLayAll0 (xss.map rowQ) = true ∧ PyData.depthAll (xss.map rowQ) ≤ 1
  | [] => by simp [PyData.canLayAll0, PyData.depthAll]
  | x :: xs => by
    obtain ⟨h1, h2⟩ := rowsQ_lay xs
    obtain ⟨h3, h4⟩ := leaf_lay x
    simp [rowQ, PyData.canLayAll0, PyData.depthAll, PyData.canLay0, PyData.depth, h1, h3, h4, h2]
theorem rowsQ_shaped (xss : List (List V)) : SeqAt.shaped (.list (xss.map rowQ)) = true := by
  obtain ⟨h1, h2⟩ := rowsQ_lay xss
  simp [SeqAt.shaped, PyData.canLay0, PyData.depth, h1]
  trivial
theorem rowsQ_eqv : ∀ {xs : List (List V)}, (∀ r ∈ xs, r.all isLeaf = true) → PyData.eqvAll (xs.map rowQ) (xs.map rowQ) = true
  | [], _ => by simp [PyData.eqvAll]
  | x :: xs, lf => by
    have e : PyData.eqv (rowQ x) (rowQ x) = true := by
      have := leaf_eqv (lf x List.mem_cons_self) (lf x List.mem_cons_self)
      simp only [rowQ, PyData.eqv]; rw [this]; simp
    simp only [List.map_cons, PyData.eqvAll, e, rowsQ_eqv fun r hr => lf r (List.mem_cons_of_mem _ hr)]; rfl
theorem eqF_rowsV {H : Hp} {Q : VK} {a b : Addr} {as bs : List Addr} {xs : List (List V)} (ha : RowsV H a as xs) (hb : RowsV H b bs xs) (lf : ∀ r ∈ xs, r.all isLeaf = true) (q : Q (.bl true) H) : rEqF (.ref a) (.ref b) H Q :=
  ⟨_, _, .lst ha.top (dpAll_rowsV ha.row lf), .lst hb.top (dpAll_rowsV hb.row lf), rowsQ_shaped _, rowsQ_shaped _, by simp only [PyData.eqv]; rw [rowsQ_eqv lf]; exact q⟩
theorem neF_rowsV {H : Hp} {Q : VK} {a b : Addr} {as bs : List Addr} {xs : List (List V)} (ha : RowsV H a as xs) (hb : RowsV H b bs xs) (lf : ∀ r ∈ xs, r.all isLeaf = true) (q : Q (.bl false) H) : rNeF (.ref a) (.ref b) H Q :=
  ⟨_, _, .lst ha.top (dpAll_rowsV ha.row lf), .lst hb.top (dpAll_rowsV hb.row lf), rowsQ_shaped _, rowsQ_shaped _, by simp only [PyData.eqv]; rw [rowsQ_eqv lf]; exact q⟩
theorem dpAll_bools {H : Hp} : ∀ xs : List Bool, DpAll H (xs.map V.bl) (xs.map PyData.bool)
  | [] => .nil
  | x :: xs => .cons (.bl x) (dpAll_bools xs)
theorem bools_shaped (xs : List Bool) : SeqAt.shaped (.list (xs.map PyData.bool)) = true := by
  have sh : PyData.canLayAll0 (xs.map PyData.bool) = true ∧ PyData.depthAll (xs.map PyData.bool) = 0 := by
    induction xs with
    | nil => simp [PyData.canLayAll0, PyData.depthAll]
    | cons x xs ih => simp [PyData.canLayAll0, PyData.depthAll, PyData.canLay0, PyData.depth, ih.1, ih.2]
  simp [SeqAt.shaped, PyData.canLay0, PyData.depth, sh.1, sh.2]
theorem bools_eqv : ∀ xs : List Bool, PyData.eqvAll (xs.map PyData.bool) (xs.map PyData.bool) = true
  | [] => by simp [PyData.eqvAll]
  | x :: xs => by have := bools_eqv xs; cases x <;> simp [PyData.eqvAll, PyData.eqv, this] <;> rfl
theorem eqF_bls {H : Hp} {Q : VK} {a b : Addr} {xs : List Bool} (ha : H a = some (.lst (xs.map V.bl))) (hb : H b = some (.lst (xs.map V.bl))) (q : Q (.bl true) H) : rEqF (.ref a) (.ref b) H Q :=
  ⟨_, _, .lst ha (dpAll_bools xs), .lst hb (dpAll_bools xs), bools_shaped _, bools_shaped _, by simp only [PyData.eqv]; rw [bools_eqv]; exact q⟩
theorem neF_bls {H : Hp} {Q : VK} {a b : Addr} {xs : List Bool} (ha : H a = some (.lst (xs.map V.bl))) (hb : H b = some (.lst (xs.map V.bl))) (q : Q (.bl false) H) : rNeF (.ref a) (.ref b) H Q :=
  ⟨_, _, .lst ha (dpAll_bools xs), .lst hb (dpAll_bools xs), bools_shaped _, bools_shaped _, by simp only [PyData.eqv]; rw [bools_eqv]; exact q⟩
end L2
namespace SR
open PySem
def top (i : Nat) : Stmt := PySem.Challenge.pw_stairrows_k17_slides_refused.main.body.getD i (.Pass ⟨0, 0, 0, 0⟩)
end SR
namespace SR
open PySem L2 RS PySem.Spec PyProof.Rows
section
variable {P : Program} {w : World} {K : PySem.W.Frag} {mg : Str → Option Value} {base : Heap}
noncomputable abbrev s_law_drawn : Stmt := top 38
theorem sc_law_drawn : FnScope ["script", "k", "many", "cell", "mixed"] ["script", "k", "many"] (defScope s_law_drawn) := ⟨rfl, rfl, rfl, by decide +kernel, rfl, by decide +kernel, by decide +kernel⟩
noncomputable def spDrawn (K : PySem.W.Frag) : Sp := fun vs H Q _ => ∃ (a : Addr) (ns : List Int) (k m : Int), vs = [.ref a, .int k, .int m] ∧ SqL K H a (ns.map V.int) ∧ ns.length ≤ 63 ∧ 0 ≤ k ∧ k < 1000 ∧ 0 < m ∧ Q (.int (drawnZ ns k m)) H
theorem ok_drawn {f : Addr} {fd : FuncData} (F : Fun K "_law_drawn" "_law_drawn" s_law_drawn f fd) (T : Bl mg) : FnOk P w K mg base CX0 1 f fd ["script", "k", "many"] (spDrawn K) := by
  refine F.ok sc_law_drawn (fun vs H Q E h => ?_) (fun cdv A outer s H vs Q E hr h => ?_)
  · obtain ⟨a, ns, k, m, rfl, _⟩ := h; rfl
  · obtain ⟨a, ns, k, m, rfl, hS, hl, hk0, hk1, hm, q⟩ := h
    refine ⟨_, (pss_cons (ps_set (i := 3) sc_law_drawn.nd rfl (Or.inl rfl) pe_int)
      (pss_cons (ps_if (pt_cmpR f_gt (pe_callB call_len_seq (by rfl) T.len BI.len (pa_cons (pv 0) pa_nil)) pe_int (nomark _)) (pss_one (ps_set (i := 3) sc_law_drawn.nd rfl (Or.inl rfl) (pe_ix ix_list (pv 0) (pe_op f_mod (pv 1) (pe_callB call_len_seq (by rfl) T.len BI.len (pa_cons (pv 0) pa_nil))) (fun _ _ => rfl)))) pss_nil)
      (pss_cons (ps_set (i := 4) sc_law_drawn.nd rfl (Or.inl rfl) (pe_op f_add (pe_op f_add (pe_op f_mulF (pv 3) (pe_op f_add pe_int (pe_op f_mulF pe_int (pe_op f_mod (pv 1) pe_int)))) (pe_op f_mulF (pe_op f_mulF (pe_op f_add (pv 1) pe_int) (pe_op f_add (pv 1) pe_int)) pe_int)) (pe_callB call_len_seq (by rfl) T.len BI.len (pa_cons (pv 0) pa_nil))))
      (pss_one (ps_ret (pe_op f_mod (pe_op f_fdiv (pe_op f_mod (pv 4) pe_int) pe_int) (pv 2))))))), ?_⟩
    have e0 : start ["script", "k", "many", "cell", "mixed"] [V.ref a, V.int k, V.int m] = [some (.ref a), some (.int k), some (.int m), none, none] := rfl
    rw [e0]
    simp
    have c1 : CMul 9973 (k % 97) := .inl ⟨by decide, by decide⟩
    have c2 : ∀ i, CMul i (48271 + 9973 * (k % 97)) := fun i => .inr ⟨by trivial, by trivial⟩
    have c3 : CMul (k + 1) (k + 3) := .inl ⟨by trivial, by trivial⟩
    have c4 : CMul ((k + 1) * (k + 3)) 16807 := .inr ⟨by decide, by decide⟩
    have c5 : ∀ i, CDiv i 16 := fun i => ⟨by decide, by decide⟩
    refine ⟨_, .inl hS, ?_⟩
    by_cases h0 : ns.length = 0
    · rw [if_neg (by simp [h0])]
      refine ⟨c1, c2 7, c3, c4, _, .inl hS, c5 _, hm, ?_⟩
      have e : drawnZ ns k m = (7 * (48271 + 9973 * (k % 97)) + (k + 1) * (k + 3) * 16807 + ((ns.map V.int).length : Int)) % 2147483647 / 16 % m := by
        unfold drawnZ
        rw [if_pos h0, List.length_map]
      rw [← e]
      exact q
    · have hp : 0 < ns.length := by trivial
      rw [if_pos (by rw [List.length_map]; exact hp)]
      have hi0 : 0 ≤ k % (ns.length : Int) := Int.emod_nonneg _ (by trivial)
      have hi1 : k % (ns.length : Int) < ns.length := Int.emod_lt_of_pos _ (by trivial)
      have ex : ns[(k % (ns.length : Int)).toNat]? = some (ns.getD (k % (ns.length : Int)).toNat 0) := by
        have : (k % (ns.length : Int)).toNat < ns.length := by trivial
        rw [List.getD_eq_getElem?_getD, List.getElem?_eq_getElem this]; rfl
      refine ⟨_, .inl hS, by rw [List.length_map]; exact hp, a, _, _, .int (ns.getD (k % (ns.length : Int)).toNat 0), rfl, rfl, hS, by rw [List.length_map]; exact atI_map hi0 ex, c1, c2 _, c3, c4, _, .inl hS, c5 _, hm, ?_⟩
      have e : drawnZ ns k m = (ns.getD (k % (ns.length : Int)).toNat 0 * (48271 + 9973 * (k % 97)) + (k + 1) * (k + 3) * 16807 + ((ns.map V.int).length : Int)) % 2147483647 / 16 % m := by
        unfold drawnZ
        rw [if_neg h0, List.length_map]
      rw [← e]
      exact q
end
end SR
namespace SR
open PySem L2 RS PySem.Spec PyProof.Rows
section
variable {P : Program} {w : World} {K : PySem.W.Frag} {mg : Str → Option Value} {base : Heap}
theorem drawn_step {H : Hp} {a : Addr} {ns : List Int} {k m : Int} {Q : VK} {E : XK} (hS : SqL K H a (ns.map V.int)) (hl : ns.length ≤ 63) (hk0 : 0 ≤ k) (hk1 : k < 1000) (hm : 0 < m) (q : Q (.int (drawnZ ns k m)) H) : spDrawn K [.ref a, .int k, .int m] H Q E := ⟨a, ns, k, m, rfl, hS, hl, hk0, hk1, hm, q⟩
theorem insAt_map {α β : Type} (f : α → β) (i : Nat) (x : α) (l : List α) : (insAt i x l).map f = (l.map f).take i ++ f x :: (l.map f).drop i := by
  unfold insAt
  rw [List.map_append, List.map_cons, List.map_take, List.map_drop]
noncomputable abbrev s_law_row_by : Stmt := top 39
theorem sc_law_row_by : FnScope ["script", "bound", "many", "number", "great", "order", "numbers", "k"] ["script", "bound"] (defScope s_law_row_by) := ⟨rfl, rfl, rfl, by decide +kernel, rfl, by decide +kernel, by decide +kernel⟩
noncomputable def spRowBy (K : PySem.W.Frag) : Sp := fun vs H Q _ => ∃ (a : Addr) (ns : List Int) (b : Int), vs = [.ref a, .int b] ∧ SqL K H a (ns.map V.int) ∧ ns.length ≤ 63 ∧ 0 ≤ b ∧ b ≤ 40 ∧
  ∀ r H', Same H H' → H r = none → H' r = some (.lst ((rowZ ns b).map V.int)) → Q (.ref r) H'
theorem ok_row_by {f : Addr} {fd : FuncData} (F : Fun K "_law_row_by" "_law_row_by" s_law_row_by f fd) (T : Bl mg) (C_law_drawn : Cal P w K mg base 1 "_law_drawn" ["script", "k", "many"] (spDrawn K)) : FnOk P w K mg base CX0 2 f fd ["script", "bound"] (spRowBy K) := by
  refine F.ok sc_law_row_by (fun vs H Q E h => ?_) (fun cdv A outer s H vs Q E hr h => ?_)
  · obtain ⟨a, ns, b, rfl, _⟩ := h; rfl
  · obtain ⟨a, ns, b, rfl, hS, hl, hb0, hb1, q⟩ := h
    refine ⟨_, (pss_cons (ps_set (i := 2) sc_law_row_by.nd rfl (Or.inl rfl) (pe_cl C_law_drawn (hr.mono (by decide)) (by rfl) (pa_cons (pv 0) (pa_cons pe_int (pa_cons (pe_callB (f_min rfl) (by rfl) T.min BI.min (pa_cons pe_int (pa_cons (pe_op f_add (pv 1) pe_int) pa_nil))) pa_nil)))))
      (pss_cons (ps_if (pt_cmpR (f_eqF (hu64 hr)) (pe_cl C_law_drawn (hr.mono (by decide)) (by rfl) (pa_cons (pv 0) (pa_cons pe_int (pa_cons pe_int pa_nil)))) pe_int (nomark _)) (pss_one (ps_set (i := 2) sc_law_row_by.nd rfl (Or.inl rfl) (pe_cl C_law_drawn (hr.mono (by decide)) (by rfl) (pa_cons (pv 0) (pa_cons pe_int (pa_cons (pe_op f_add (pv 1) pe_int) pa_nil)))))) pss_nil)
      (pss_cons (ps_set (i := 3) sc_law_row_by.nd rfl (Or.inl rfl) (pe_op f_sub (pe_cl C_law_drawn (hr.mono (by decide)) (by rfl) (pa_cons (pv 0) (pa_cons pe_int (pa_cons pe_int pa_nil)))) pe_int))
      (pss_cons (ps_set (i := 4) sc_law_row_by.nd rfl (Or.inl rfl) (pe_ix f_ix (pe_lst (pa_cons pe_int (pa_cons pe_int (pa_cons (pe_op f_pow pe_int pe_int) pa_nil)))) (pe_cl C_law_drawn (hr.mono (by decide)) (by rfl) (pa_cons (pv 0) (pa_cons pe_int (pa_cons pe_int pa_nil)))) (fun _ _ => rfl)))
      (pss_cons (ps_set (i := 5) sc_law_row_by.nd rfl (Or.inl rfl) (pe_lst pa_nil))
      (pss_cons (ps_set (i := 6) sc_law_row_by.nd rfl (Or.inr rfl) (pe_lst pa_nil))
      (pss_cons (ps_for PassesOwn.never rfl (pi_range1 (by rfl) T.range (pa_cons (pv 2) pa_nil)) (pg_name (i := 7) sc_law_row_by.nd rfl (Or.inl rfl)) (pss_cons (ps_expr (pe_ml PySem.F.slot_list_insert PySem.F.type_list_insert f_insert (pv 5) (pa_cons (pe_cl C_law_drawn (hr.mono (by decide)) (by rfl) (pa_cons (pv 0) (pa_cons (pe_op f_add pe_int (pe_op f_mulF pe_int (pv 7))) (pa_cons (pe_op f_add (pv 7) pe_int) pa_nil)))) (pa_cons (pv 7) pa_nil))))
      (pss_cons (ps_set (i := 3) sc_law_row_by.nd rfl (Or.inl rfl) (pe_op f_add (pe_op f_add (pv 3) pe_int) (pe_op f_mulF (pe_cl C_law_drawn (hr.mono (by decide)) (by rfl) (pa_cons (pv 0) (pa_cons (pe_op f_add pe_int (pe_op f_mulF pe_int (pv 7))) (pa_cons pe_int pa_nil)))) (pv 4))))
      (pss_one (ps_expr (pe_ml PySem.F.slot_list_append PySem.F.type_list_append f_append (pv 6) (pa_cons (pv 3) pa_nil)))))))
      (pss_one (ps_ret (pe_comp (cp := [6]) (M := ["k", "numbers"]) rfl ⟨rfl, rfl, rfl, rfl, rfl, rfl, rfl⟩ (by decide +kernel) (pi_l (pv 5)) (fun _ _ _ _ _ => pts_nil) (fun _ _ _ _ _ => (pe_ix f_ix (pv 1) (pv 0) (fun _ _ => rfl))))))))))))), ?_⟩
    have e0 : start ["script", "bound", "many", "number", "great", "order", "numbers", "k"] [V.ref a, V.int b] = [some (.ref a), some (.int b), none, none, none, none, none, none] := rfl
    rw [e0]
    refine cut2 (fun σ H' => σ = [some (.ref a), some (.int b), some (.int (manyZ ns b)), none, none, none, none, none] ∧ H' = H) (fun R' h => ?_) ?_
    · simp
      refine drawn_step hS hl (by decide) (by decide) (by split <;> trivial) ?_
      refine drawn_step hS hl (by decide) (by decide) (by decide) ?_
      simp
      by_cases h1 : drawnZ ns 1 4 = 1
      · rw [if_pos h1]
        refine drawn_step hS hl (by decide) (by decide) (by trivial) ?_
        refine h _ _ ⟨?_, rfl⟩
        unfold manyZ
        rw [if_pos h1]
      · rw [if_neg h1]
        refine h _ _ ⟨?_, rfl⟩
        unfold manyZ
        rw [if_neg h1]
    · rintro σ H' ⟨rfl, rfl⟩
      have hm0 := many_lo ns hb0
      have hm1 := many_hi ns hb0
      simp
      refine drawn_step hS hl (by decide) (by decide) (by decide) ?_
      simp
      refine ⟨⟨by decide, by decide, by decide⟩, line3 (by decide), fun p0 hp0 => ?_⟩
      have s0 := Same.upd_new (o := HO.lst [V.int 1, V.int 1, V.int 1000000000000000000000000000]) hp0
      refine drawn_step (s0.seq hS) hl (by decide) (by decide) (by decide) ?_
      have eg : atI [V.int 1, V.int 1, V.int 1000000000000000000000000000] (drawnZ ns 4 3) = some (.int (greatZ ns)) := by
        have h0 := drawn_lo ns 4 (m := 3) (by decide)
        have h1 := drawn_hi ns 4 (m := 3) (by decide)
        unfold greatZ
        have : drawnZ ns 4 3 = 0 ∨ drawnZ ns 4 3 = 1 ∨ drawnZ ns 4 3 = 2 := by trivial
        rcases this with e | e | e <;> rw [e] <;> rfl
      simp [onS_of upd_same, eg]
      intro p1 hp1 p2 hp2
      generalize hH0 : upd H' p0 (HO.lst [V.int 1, V.int 1, V.int 1000000000000000000000000000]) = H0 at *
      have hS0 := s0.seq hS
      have n12 : p1 ≠ p2 := fun z => by rw [z, upd_same] at hp2; cases hp2
      have hp2' : H0 p2 = none := by rw [upd_ne n12.symm] at hp2; exact hp2
      have g1 : H' p1 = none := s0.free hp1
      have g2 : H' p2 = none := s0.free hp2'
      have sI : Same H' (upd (upd H0 p1 (.lst [])) p2 (.lst [])) := (s0.trans (Same.upd_new hp1)).trans (Same.upd_new hp2)
      have hg1 := great_pos ns
      generalize hn0 : drawnZ ns 3 2001 - 1000 = n0 at *
      generalize hgr : greatZ ns = gr at *
      refine for_rangeF (manyZ ns b).toNat (fun N h => by simp; exact ⟨⟨by trivial, by trivial⟩, h⟩)
        (fun i σ H1 => (∃ o, σ = [some (.ref a), some (.int b), some (.int (manyZ ns b)), some (.int (numZ ns n0 gr i)), some (.int gr), some (.ref p1), some (.ref p2), o]) ∧ Same H' H1 ∧ H1 p1 = some (.lst ((ordZ ns i).map V.int)) ∧ H1 p2 = some (.lst ((numsZ ns n0 gr i).map V.int)))
        ⟨⟨_, rfl⟩, sI, by rw [upd_ne n12, upd_same]; rfl, by rw [upd_same]; rfl⟩ ?_ ?_
      · rintro i σ H1 hi ⟨⟨o, rfl⟩, s1, h1, h2⟩
        have d0 := drawn_lo ns (10 + 2 * (i : Int)) (m := (i : Int) + 1) (by trivial)
        have d1 := drawn_hi ns (10 + 2 * (i : Int)) (m := (i : Int) + 1) (by trivial)
        have d2 := drawn_lo ns (11 + 2 * (i : Int)) (m := 3) (by decide)
        have d3 := drawn_hi ns (11 + 2 * (i : Int)) (m := 3) (by decide)
        have lo := ordZ_len ns i
        have ln := numsZ_len ns n0 gr i
        simp [onL_of h1]
        refine ⟨.inl ⟨by decide, by decide⟩, drawn_step (s1.seq hS) hl (by trivial) (by trivial) (by trivial) ?_⟩
        simp [onL_of h1]
        refine ⟨⟨d0, by trivial, line100 (by trivial)⟩, .inl ⟨by decide, by decide⟩, drawn_step ((s1.upd_in g1).seq hS) hl (by trivial) (by trivial) (by decide) ?_⟩
        have h2' : upd H1 p1 (.lst ((ordZ ns (i + 1)).map V.int)) p2 = some (.lst ((numsZ ns n0 gr i).map V.int)) := by rw [upd_ne n12.symm]; exact h2
        have eo : (ordZ ns (i + 1)).map V.int = (List.take (drawnZ ns (10 + 2 * (i : Int)) ((i : Int) + 1)).toNat (ordZ ns i)).map V.int ++ V.int (i : Int) :: (List.drop (drawnZ ns (10 + 2 * (i : Int)) ((i : Int) + 1)).toNat (ordZ ns i)).map V.int := by
          show (insAt _ _ _).map V.int = _
          rw [insAt_map, List.map_take, List.map_drop]
        simp only [List.map_take, List.map_drop] at eo
        simp [← eo, onL_of h2']
        refine ⟨.inl ⟨by trivial, by trivial⟩, line100 (by trivial), rfl, (s1.upd_in g1).upd_in g2, ?_, ?_⟩
        · rw [upd_ne n12, upd_same]
        · rw [upd_same, numsZ_succ]; simp; rfl
      · rintro σ H1 ⟨⟨o, rfl⟩, s1, h1, h2⟩
        have lo := ordZ_len ns (manyZ ns b).toNat
        have ln := numsZ_len ns n0 gr (manyZ ns b).toNat
        simp only [rd_ret]
        refine comp_listP (a := p1) (xs := (ordZ ns (manyZ ns b).toNat).map V.int) (fun R h => by simpa using h) h1 (fun _ => true) (fun v => match v with | .int k => .int ((numsZ ns n0 gr (manyZ ns b).toNat).getD k.toNat 0) | _ => .non) (by rw [List.length_map]; trivial)
          (fun v hv H2 s2 R h => by simpa using h) (fun v hv _ H2 s2 R h => ?_) (fun D hD => ?_)
        · obtain ⟨k, hk, rfl⟩ := List.mem_map.mp hv
          have hk' := ordZ_mem hk
          have ek : (numsZ ns n0 gr (manyZ ns b).toNat)[k.toNat]? = some ((numsZ ns n0 gr (manyZ ns b).toNat).getD k.toNat 0) := by
            have : k.toNat < (numsZ ns n0 gr (manyZ ns b).toNat).length := by trivial
            rw [List.getD_eq_getElem?_getD, List.getElem?_eq_getElem this]; rfl
          simp [cst, onS_of (s2 _ _ h2), atI_map hk'.1 ek]
          simpa using h
        · refine q D _ (s1.upd_in (s1.free hD)) (s1.free hD) ?_
          rw [upd_same, List.filter_eq_self.mpr (fun _ _ => rfl), List.map_map]
          unfold rowZ
          simp [hn0, hgr, Function.comp_def]
end
end SR
namespace SR
open PySem L2 RS PySem.Spec PyProof.Rows
section
variable {P : Program} {w : World} {K : PySem.W.Frag} {mg : Str → Option Value} {base : Heap}
noncomputable abbrev s_law_lay : Stmt := top 40
theorem sc_law_lay : FnScope ["rows", "number", "made", "at", "greater", "place"] ["rows", "number"] (defScope s_law_lay) := ⟨rfl, rfl, rfl, by decide +kernel, rfl, by decide +kernel, by decide +kernel⟩
noncomputable def spLay : Sp := fun vs H Q _ => ∃ (a : Addr) (as : List Addr) (xss : List (List Int)) (n : Int), vs = [.ref a, .int n] ∧ RowsAt H a as xss ∧ xss.length ≤ 5000 ∧ (∀ r ∈ xss, r.length ≤ 5000) ∧
  ∀ r b bs H', Same H H' → H r = none → H' r = some (.tup [.ref b, .int (layL xss n).2]) → RowsAt H' b bs (layL xss n).1 → Fresh H (b :: bs) → Q (.ref r) H'
noncomputable def LayIn (H : Hp) (a D : Addr) (bs : List Addr) (xss : List (List Int)) (n : Int) (m : Nat) (σ : L2.St) (H' : Hp) : Prop := ∃ (t : Nat) (c : Int) (dn : List (List Int)) (o4 o5 : Option V), m = xss.length - t ∧ t ≤ xss.length ∧
  σ = [some (.ref a), some (.int c), some (.ref D), some (.int (t : Int)), o4, o5] ∧ Same H H' ∧ RowsAt H' D bs (dn ++ xss.drop t) ∧ dn.length = t ∧ layL xss n = (dn ++ (layL (xss.drop t) c).1, t + (layL (xss.drop t) c).2)
theorem ok_lay {f : Addr} {fd : FuncData} (F : Fun K "_law_lay" "_law_lay" s_law_lay f fd) (T : Bl mg) : FnOk P w K mg base CX0 1 f fd ["rows", "number"] spLay := by
  refine F.ok sc_law_lay (fun vs H Q E h => ?_) (fun cdv A outer s H vs Q E hr h => ?_)
  · obtain ⟨a, as, xss, n, rfl, _⟩ := h; rfl
  · obtain ⟨a, as, xss, n, rfl, ha, hz, hz2, q⟩ := h
    refine ⟨_, (pss_cons (ps_comp (i := 2) sc_law_lay.nd rfl rfl (cp := []) (M := ["row"]) rfl ⟨rfl, rfl, rfl, rfl, rfl, rfl, rfl⟩ (by decide +kernel) (pi_l (pv 0)) (fun _ _ _ _ _ => pts_nil) (fun _ _ _ _ _ => (pe_callTy f_list (by rfl) T.list BI.list (pa_cons (pv 0) pa_nil))))
      (pss_cons (ps_set (i := 3) sc_law_lay.nd rfl (Or.inl rfl) pe_int)
      (pss_cons (ps_while PassesOwn.never (pt_cmpR f_lt (pv 3) (pe_callB f_len (by rfl) T.len BI.len (pa_cons (pv 2) pa_nil)) (nomark _)) (pss_cons (ps_comp (i := 4) sc_law_lay.nd rfl rfl (cp := [1]) (M := ["other", "number"]) rfl ⟨rfl, rfl, rfl, rfl, rfl, rfl, rfl⟩ (by decide +kernel) (pi_l (pe_ix f_ix (pv 2) (pv 3) (fun _ _ => rfl))) (fun _ _ _ _ _ => (pts_one (pt_cmpR f_gt (pv 0) (pv 1) (nomark _)))) (fun _ _ _ _ _ => (pv 0)))
      (pss_cons (ps_if (pt_cmpR (f_eqF (hu64 hr)) (pe_callB f_len (by rfl) T.len BI.len (pa_cons (pv 4) pa_nil)) pe_int (nomark _)) (pss_cons (ps_expr (pe_ml PySem.F.slot_list_append PySem.F.type_list_append f_append (pe_ix f_ix (pv 2) (pv 3) (fun _ _ => rfl)) (pa_cons (pv 1) pa_nil)))
      (pss_one (ps_ret (pe_tup (pa_cons (pv 2) (pa_cons (pv 3) pa_nil)))))) pss_nil)
      (pss_cons (ps_set (i := 5) sc_law_lay.nd rfl (Or.inl rfl) (pe_op f_sub (pe_callB f_len (by rfl) T.len BI.len (pa_cons (pe_ix f_ix (pv 2) (pv 3) (fun _ _ => rfl)) pa_nil)) (pe_callB f_len (by rfl) T.len BI.len (pa_cons (pv 4) pa_nil))))
      (pss_cons (ps_asg (pv 1) (pg_sub (pe_ix f_ix (pv 2) (pv 3) (fun _ _ => rfl)) (pv 5) f_set))
      (pss_cons (ps_set (i := 1) sc_law_lay.nd rfl (Or.inr rfl) (pe_ix f_ix (pv 4) pe_int (fun _ _ => rfl)))
      (pss_one (ps_set (i := 3) sc_law_lay.nd rfl (Or.inl rfl) (pe_op f_add (pv 3) pe_int)))))))))
      (pss_one (ps_ret (pe_tup (pa_cons (pe_op f_add (pv 2) (pe_lst (pa_cons (pe_lst (pa_cons (pv 1) pa_nil)) pa_nil (star_lst _ _ _ _)))) (pa_cons (pv 3) pa_nil)))))))), ?_⟩
    have e0 : start ["rows", "number", "made", "at", "greater", "place"] [V.ref a, V.int n] = [some (.ref a), some (.int n), none, none, none, none] := rfl
    rw [e0]
    simp only [rd_seq, rd_asg]
    refine comp_copy (a := a) (fun R h => by simpa using h) ha (by trivial) (fun D bs H1 hD s1 hr1 fr => ?_)
    simp
    have lb := RowsL.len hr1.row
    have hDn := (List.nodup_cons.mp fr.nd).1
    have ndb := (List.nodup_cons.mp fr.nd).2
    refine while_F (LayIn H a D bs xss n) (xss.length) ⟨0, n, [], none, none, by simp, Nat.zero_le _, rfl, s1, by simpa using hr1, rfl, by simp⟩ ?_ (fun σ H Q Q' i h => by
      simp only [rd_test, rd_op, rd_cb, rd_cons, rd_nil, rd_II, rd_len, rd_var, rd_on1] at h ⊢
      obtain ⟨v, e, h⟩ := onO.out h
      rw [e, rd_onO]
      obtain ⟨u, e, h⟩ := onO.out h
      rw [e, rd_onO]
      obtain ⟨p, xs, rfl, hp, h⟩ := onS.out h
      obtain ⟨k, rfl, h⟩ := onI.out h
      rcases hp with hp | hp
      · rw [onS_of hp]; exact i _ _ h
      · rw [onS_ofT hp]; exact i _ _ h)
    rintro m σ H2 ⟨t, c, dn, o4, o5, rfl, ht, rfl, s2, ra, ld, eL⟩
    simp [onS_of ra.top]
    by_cases hlt : t < bs.length
    · rw [if_pos (by trivial)]
      have hx : t < xss.length := by trivial
      have er : (dn ++ xss.drop t)[t]? = some xss[t] := by
        rw [List.getElem?_append_right (by trivial), ld, Nat.sub_self, List.getElem?_drop, Nat.add_zero, List.getElem?_eq_getElem hx]
      have ed : xss.drop t = xss[t] :: xss.drop (t + 1) := List.drop_eq_getElem_cons hx
      obtain ⟨p, ep, hp⟩ := RowsL.get ra.row er
      have lr : xss[t].length ≤ 5000 := hz2 _ (List.getElem_mem hx)
      generalize xss[t] = r at *
      have pD : p ≠ D := fun z => hDn (z ▸ List.mem_of_getElem? ep)
      have pH : H p = none := fr.no p (List.mem_cons_of_mem _ (List.mem_of_getElem? ep))
      refine comp_listP (a := p) (xs := r.map V.int) (fun R h => by simpa [onS_of ra.top, atI_ref ep] using h) hp (fun v => match v with | .int o => decide (c < o) | _ => false) id (by rw [List.length_map]; trivial)
        (fun v hv H3 s3 R h => ?_) (fun v hv _ H3 s3 R h => by simpa [cst] using h) (fun G hG => ?_)
      · obtain ⟨x, _, rfl⟩ := List.mem_map.mp hv
        simpa [cst] using h
      · have eg : ((r.map V.int).filter (fun v => match v with | .int o => decide (c < o) | _ => false)).map id = (gt r c).map V.int := by
          rw [List.map_id, List.filter_map]; rfl
        rw [eg]
        have gG : H G = none := s2.free hG
        have pG : p ≠ G := ne_of_none hp hG
        rw [ed] at ra eL
        have hgl : (gt r c).length ≤ r.length := List.length_filter_le _ _
        cases hg : gt r c with
        | nil =>
          have s3 : Same H2 (upd H2 G (.lst [])) := Same.upd_new hG
          have hp3 := s3 _ _ hp
          have hD3 := s3 _ _ ra.top
          simp [onS_of upd_same, onS_of hD3, atI_ref ep, onL_of hp3]
          refine ⟨line100 (by trivial), line3 (by decide), fun p1 hp1 => ?_⟩
          obtain ⟨n1, z1⟩ := upd_none hp1
          have e1 : r.map V.int ++ [V.int c] = (r ++ [c]).map V.int := by simp
          rw [e1] at hp1 ⊢
          have eL' : layL xss n = (dn ++ (r ++ [c]) :: xss.drop (t + 1), t) := by rw [eL, layL, if_pos (by simp [hg])]; rfl
          have es : (dn ++ r :: xss.drop (t + 1)).set t (r ++ [c]) = dn ++ (r ++ [c]) :: xss.drop (t + 1) := by rw [← ld]; exact set_mid _ _ _ _
          have r3 := RowsAt.set (ys := r ++ [c]) (ra.same s3) ep fr.nd
          rw [es] at r3
          have s5 : Same H (upd (upd (upd H2 G (.lst [])) p (.lst ((r ++ [c]).map V.int))) p1 (.tup [.ref D, .int (t : Int)])) := ((s2.upd_in gG).upd_in pH).trans (Same.upd_new hp1)
          refine q p1 D bs _ s5 ?_ (by rw [upd_same, eL']) (by rw [eL']; exact r3.same (Same.upd_new hp1)) fr
          exact ((s2.upd_in gG).upd_in pH).free hp1
        | cons x g =>
          have s3 : Same H2 (upd H2 G (.lst ((x :: g).map V.int))) := Same.upd_new hG
          have hp3 := s3 _ _ hp
          have hD3 := s3 _ _ ra.top
          have hx0 : atI ((x :: g).map V.int) 0 = some (.int x) := atI_nat (j := 0) rfl
          have hG3 : ∀ o, upd (upd H2 G (.lst ((x :: g).map V.int))) p o G = some (.lst ((x :: g).map V.int)) := fun o => by rw [upd_ne pG.symm, upd_same]
          rw [hg] at hgl
          simp only [List.map_cons] at hG3 hx0 hp3 hD3 s3
          simp [onS_of upd_same, onS_of hD3, atI_ref ep, onS_of hp3, onL_of hp3, onS_of (hG3 _), hx0]
          have e1 : (r.map V.int).set (r.length - (g.length + 1)) (V.int c) = (r.set (r.length - (g.length + 1)) c).map V.int := by rw [List.map_set]
          simp only [List.length_cons] at hgl
          refine ⟨⟨by trivial, by trivial⟩, xss.length - (t + 1), by trivial, t + 1, x, dn ++ [r.set (r.length - (g.length + 1)) c], some (.ref G), some (.int ((r.length : Int) - ((g.length : Int) + 1))), rfl, by trivial, by simp, (s2.upd_in gG).upd_in pH, ?_, by simp [ld], ?_⟩
          · rw [e1, List.append_assoc]
            have es : (dn ++ r :: xss.drop (t + 1)).set t (r.set (r.length - (g.length + 1)) c) = dn ++ r.set (r.length - (g.length + 1)) c :: xss.drop (t + 1) := by rw [← ld]; exact set_mid _ _ _ _
            have r3 := RowsAt.set (ys := r.set (r.length - (g.length + 1)) c) (ra.same s3) ep fr.nd
            rw [es] at r3
            exact r3
          · rw [eL, layL, if_neg (by simp [hg])]
            simp [hg]
            trivial
    · rw [if_neg (by trivial)]
      have et : t = xss.length := by trivial
      subst et
      refine ⟨line3 (by decide), fun p hp => ⟨line3 (by decide), fun p1 hp1 => ?_⟩⟩
      have s3 : Same H2 (upd (upd H2 p (.lst [.int c])) p1 (.lst [.ref p])) := (Same.upd_new hp).trans (Same.upd_new hp1)
      have hD4 := s3 _ _ ra.top
      rw [onL_of hD4, onL_of upd_same]
      refine ⟨line3 (by simp; trivial), fun p2 hp2 => ⟨line3 (by decide), fun p3 hp3 => ?_⟩⟩
      have s4 := s3.trans (Same.upd_new (o := HO.lst (bs.map V.ref ++ [V.ref p])) hp2)
      have s5 := s4.trans (Same.upd_new (o := HO.tup [V.ref p2, V.int ((xss.length : Nat) : Int)]) hp3)
      obtain ⟨n21, z2⟩ := upd_none hp2
      obtain ⟨n20, z2⟩ := upd_none z2
      obtain ⟨n10, z1⟩ := upd_none hp1
      obtain ⟨n32, z3⟩ := upd_none hp3
      obtain ⟨n31, z3⟩ := upd_none z3
      obtain ⟨n30, z3⟩ := upd_none z3
      have el : xss.drop xss.length = [] := List.drop_length
      rw [el] at ra eL
      simp only [List.append_nil] at ra
      have eL' : layL xss n = (dn ++ [[c]], xss.length) := by rw [eL]; simp [layL]
      refine q p3 p2 (bs ++ [p]) _ (s2.trans s5) (s2.free z3) (by rw [upd_same, eL']) ?_ ?_
      · rw [eL']
        refine RowsAt.app (RowsL.same ra.row s5) ?_ ?_
        · rw [upd_ne n32.symm, upd_same]
        · rw [upd_ne n30.symm, upd_ne n20.symm, upd_ne n10.symm, upd_same]; rfl
      · have pb := RowsL.notin ra.row hp
        have p2b := RowsL.notin ra.row z2
        refine Fresh.cons (Fresh.snoc (fr.sub (List.sublist_cons_self _ _)) (s2.free hp) pb) (s2.free z2) ?_
        intro hm
        rcases List.mem_append.mp hm with hm | hm
        · exact p2b hm
        · exact n20 (by simpa using hm)
end
end SR
namespace SR
open PySem L2 RS PySem.Spec PyProof.Rows
section
variable {P : Program} {w : World} {K : PySem.W.Frag} {mg : Str → Option Value} {base : Heap}
noncomputable abbrev s_law_laid : Stmt := top 41
theorem sc_law_laid : FnScope ["row", "first", "second", "k", "grown"] ["row"] (defScope s_law_laid) := ⟨rfl, rfl, rfl, by decide +kernel, rfl, by decide +kernel, by decide +kernel⟩
noncomputable def spLaid : Sp := fun vs H Q _ => ∃ (a : Addr) (row : List Int), vs = [.ref a] ∧ H a = some (.lst (row.map V.int)) ∧ row.length ≤ 1000 ∧
  ∀ r f fs g gs H', Same H H' → H r = none → H' r = some (.tup [.ref f, .ref g]) → RowsAt H' f fs (laidL row).1 → RowsAt H' g gs (laidL row).2 → Fresh H ((f :: fs) ++ (g :: gs)) → Q (.ref r) H'
noncomputable def LaidIn (H : Hp) (a : Addr) (row : List Int) (i : Nat) (σ : L2.St) (H' : Hp) : Prop := ∃ (f g : Addr) (fs gs : List Addr) (o3 o4 : Option V),
  σ = [some (.ref a), some (.ref f), some (.ref g), o3, o4] ∧ Same H H' ∧ RowsAt H' f fs (laidL (row.take i)).1 ∧ RowsAt H' g gs (laidL (row.take i)).2 ∧ Fresh H ((f :: fs) ++ (g :: gs))
theorem ok_laid {f : Addr} {fd : FuncData} (F : Fun K "_law_laid" "_law_laid" s_law_laid f fd) (T : Bl mg) (C_law_lay : Cal P w K mg base 1 "_law_lay" ["rows", "number"] spLay) : FnOk P w K mg base CX0 2 f fd ["row"] spLaid := by
  refine F.ok sc_law_laid (fun vs H Q E h => ?_) (fun cdv A outer s H vs Q E hr h => ?_)
  · obtain ⟨a, row, rfl, _⟩ := h; rfl
  · obtain ⟨a, row, rfl, ha, hz, q⟩ := h
    refine ⟨_, (pss_cons (ps_set (i := 1) sc_law_laid.nd rfl (Or.inl rfl) (pe_lst pa_nil))
      (pss_cons (ps_set (i := 2) sc_law_laid.nd rfl (Or.inl rfl) (pe_lst pa_nil))
      (pss_cons (ps_for PassesOwn.never rfl (pi_range1 (by rfl) T.range (pa_cons (pe_callB f_len (by rfl) T.len BI.len (pa_cons (pv 0) pa_nil)) pa_nil)) (pg_name (i := 3) sc_law_laid.nd rfl (Or.inl rfl)) (pss_cons (ps_set (i := 4) sc_law_laid.nd rfl (Or.inl rfl) (pe_cl C_law_lay (hr.mono (by decide)) (by rfl) (pa_cons (pv 1) (pa_cons (pe_ix f_ix (pv 0) (pv 3) (fun _ _ => rfl)) pa_nil))))
      (pss_cons (ps_set (i := 1) sc_law_laid.nd rfl (Or.inl rfl) (pe_ix f_ix (pv 4) pe_int (fun _ _ => rfl)))
      (pss_cons (ps_if (pt_cmpR (f_eqF (hu64 hr)) (pe_ix f_ix (pv 4) pe_int (fun _ _ => rfl)) (pe_callB f_len (by rfl) T.len BI.len (pa_cons (pv 2) pa_nil)) (nomark _)) (pss_one (ps_expr (pe_ml PySem.F.slot_list_append PySem.F.type_list_append f_append (pv 2) (pa_cons (pe_lst pa_nil) pa_nil (star_lst _ _ _ _))))) pss_nil)
      (pss_one (ps_expr (pe_ml PySem.F.slot_list_append PySem.F.type_list_append f_append (pe_ix f_ix (pv 2) (pe_ix f_ix (pv 4) pe_int (fun _ _ => rfl)) (fun _ _ => rfl)) (pa_cons (pe_op f_add (pv 3) pe_int) pa_nil))))))))
      (pss_one (ps_ret (pe_tup (pa_cons (pv 1) (pa_cons (pv 2) pa_nil)))))))), ?_⟩
    have e0 : start ["row", "first", "second", "k", "grown"] [V.ref a] = [some (.ref a), none, none, none, none] := rfl
    rw [e0]
    simp
    intro p1 hp1 p2 hp2
    obtain ⟨n21, z2⟩ := upd_none hp2
    have sI : Same H (upd (upd H p1 (.lst [])) p2 (.lst [])) := (Same.upd_new hp1).trans (Same.upd_new hp2)
    refine for_rangeF row.length (fun N h => by simp [onS_of (sI _ _ ha), h]; trivial) (LaidIn H a row) ⟨p1, p2, [], [], none, none, rfl, sI, ⟨by rw [upd_ne n21.symm, upd_same]; rfl, by simpa [laidL, laidFrom] using Paired.nil⟩, ⟨by rw [upd_same]; rfl, by simpa [laidL, laidFrom] using Paired.nil⟩, ⟨by simp [n21.symm], by simp [hp1, z2]⟩⟩ ?_ ?_
    · rintro i σ H1 hi ⟨f, g, fs, gs, o3, o4, rfl, s1, hf, hg, fr⟩
      have ei : row[i]? = some row[i] := List.getElem?_eq_getElem hi
      obtain ⟨z1, z2, z3, z4⟩ := laid_size (row.take i)
      rw [List.length_take] at z2 z3 z4
      have ha1 := s1 _ _ ha
      simp [onS_of ha1, atI_int ei]
      refine ⟨f, fs, _, _, rfl, hf, by trivial, fun r hr => by have := z3 r hr; trivial, fun r b bs H2 s2 hr2 ht hb frb => ?_⟩
      have tn := take_next ei
      have eS := laidL_snoc (row.take i) row[i]
      rw [← tn] at eS
      have hlen : (row.take i).length = i := by rw [List.length_take]; trivial
      rw [hlen] at eS
      obtain ⟨t1, t2⟩ := lay_at (laidL (row.take i)).1 row[i]
      generalize hq : layL (laidL (row.take i)).1 row[i] = L at *
      have e1 : atI [V.ref b, V.int (L.2 : Int)] 0 = some (.ref b) := atI_nat (j := 0) rfl
      have e2 : atI [V.ref b, V.int (L.2 : Int)] 1 = some (.int (L.2 : Int)) := atI_nat (j := 1) rfl
      have hg2 := hg.same s2
      have lg := RowsL.len hg.row
      have frg : Fresh H (g :: gs) := fr.sub (List.sublist_append_right _ _)
      have dj : ∀ c ∈ b :: bs, c ∉ g :: gs := fun c h1 h2 => hg.live h2 (frb.no c h1)
      have frb' : Fresh H (b :: bs) := frb.old s1
      have s12 := s1.trans s2
      have rg : r ≠ g := ne_of ht hg2.top (by intro z; cases z)
      simp [onS_ofT ht, e1, e2, onS_of hg2.top, onL_of hg2.top]
      by_cases hlast : L.2 = gs.length
      · rw [if_pos (by trivial)]
        intro p hp
        have hgp := (Same.upd_new (o := HO.lst []) hp) _ _ hg2.top
        have pg : p ≠ g := (ne_of_none hg2.top hp).symm
        have pr : r ≠ p := ne_of_none ht hp
        rw [onL_of hgp]
        refine ⟨line100 (by rw [List.length_map]; trivial), ?_⟩
        have hr3 : upd (upd H2 p (.lst [])) g (.lst (gs.map V.ref ++ [V.ref p])) r = some (.tup [.ref b, .int (L.2 : Int)]) := by rw [upd_ne rg, upd_ne pr]; exact ht
        have hp3 : upd (upd H2 p (.lst [])) g (.lst (gs.map V.ref ++ [V.ref p])) p = some (.lst []) := by rw [upd_ne pg, upd_same]
        have e3 : atI (gs.map V.ref ++ [V.ref p]) (L.2 : Int) = some (.ref p) := by
          have : gs.map V.ref ++ [V.ref p] = (gs ++ [p]).map V.ref := by simp
          rw [this]
          exact atI_ref (by rw [hlast]; simp)
        rw [onS_ofT hr3, e2, rd_onO, rd_onI, onS_of upd_same, e3, rd_onO, onL_of hp3, onL_of hp3]
        have pH : H p = none := s12.free hp
        have gH : H g = none := frg.no g List.mem_cons_self
        have pb : p ∉ b :: bs := hb.notin hp
        have pgs : p ∉ g :: gs := hg2.notin hp
        have eS' : laidL (row.take (i + 1)) = (L.1, (laidL (row.take i)).2 ++ [[(i : Int) + 1]]) := by rw [eS]; unfold grow; rw [if_pos (by trivial)]
        refine ⟨line100 (by simp), b, g, bs, gs ++ [p], _, _, rfl, ((s12.upd_in pH).upd_in gH).upd_in pH, ?_, ?_, ?_⟩
        · rw [eS']
          exact ((hb.out pb).out (fun z => dj g z List.mem_cons_self)).out pb
        · rw [eS']
          refine RowsAt.app (RowsL.mono hg2.row fun c hc o e => ?_) ?_ ?_
          · have cg : c ≠ g := fun z => (List.nodup_cons.mp frg.nd).1 (z ▸ hc)
            have cp : c ≠ p := fun z => pgs (List.mem_cons_of_mem _ (z ▸ hc))
            rw [upd_ne cp, upd_ne cg, upd_ne cp]; exact e
          · rw [upd_ne pg.symm, upd_same]
          · rw [upd_same]; rfl
        · have frg' : Fresh H ((g :: gs) ++ [p]) := Fresh.snoc frg pH pgs
          refine Fresh.append frb' frg' fun c h1 h2 => ?_
          rcases List.mem_append.mp (show c ∈ (g :: gs) ++ [p] from h2) with h2 | h2
          · exact dj c h1 h2
          · have : c = p := by simpa using h2
            exact pb (this ▸ h1)
      · rw [if_neg (by trivial)]
        have hlt : L.2 < gs.length := by trivial
        have eg : gs[L.2]? = some gs[L.2] := List.getElem?_eq_getElem hlt
        obtain ⟨ys, ey, hy⟩ := RowsL.get' hg2.row eg
        rw [atI_ref eg, rd_onO, onL_of hy, onL_of hy]
        have hm : gs[L.2] ∈ gs := List.getElem_mem hlt
        have lys := z4 ys (List.mem_of_getElem? ey)
        have e1' : ys.map V.int ++ [V.int ((i : Int) + 1)] = (ys ++ [(i : Int) + 1]).map V.int := by simp
        have eS' : laidL (row.take (i + 1)) = (L.1, (laidL (row.take i)).2.set L.2 (ys ++ [(i : Int) + 1])) := by
          rw [eS]; unfold grow; rw [if_neg (by trivial), List.getD_eq_getElem?_getD, ey]; rfl
        refine ⟨line100 (by rw [List.length_map]; trivial), b, g, bs, gs, _, _, rfl, s12.upd_in (frg.no _ (List.mem_cons_of_mem _ hm)), ?_, ?_, Fresh.append frb' frg dj⟩
        · rw [eS']
          exact hb.out (fun z => dj _ z (List.mem_cons_of_mem _ hm))
        · rw [eS', e1']
          exact RowsAt.set hg2 eg frg.nd
    · rintro σ H1 ⟨f, g, fs, gs, o3, o4, rfl, s1, hf, hg, fr⟩
      simp
      rw [List.take_length] at hf hg
      refine ⟨line3 (by decide), fun p hp => q p f fs g gs _ (s1.trans (Same.upd_new hp)) (s1.free hp) upd_same (hf.same (Same.upd_new hp)) (hg.same (Same.upd_new hp)) fr⟩
end
end SR
namespace SR
open PySem L2 RS PySem.Spec PyProof.Rows
section
variable {P : Program} {w : World} {K : PySem.W.Frag} {mg : Str → Option Value} {base : Heap}
theorem RowsL.drop {H : Hp} {as : List Addr} {xss : List (List Int)} (k : Nat) (h : RowsL H as xss) : RowsL H (as.drop k) (xss.drop k) := paired_drop k h
noncomputable abbrev s_how_many_less : Stmt := top 17
theorem sc_how_many_less : FnScope ["row", "number"] ["row", "number"] (defScope s_how_many_less) := ⟨rfl, rfl, rfl, by decide +kernel, rfl, by decide +kernel, by decide +kernel⟩
noncomputable def spLess : Sp := fun vs H Q _ => ∃ (a : Addr) (xs : List Int) (n : Int), vs = [.ref a, .int n] ∧ H a = some (.lst (xs.map V.int)) ∧ xs.length ≤ 5000 ∧ ∀ H', Same H H' → Q (.int ((RS.lt xs n).length : Int)) H'
theorem ok_less {f : Addr} {fd : FuncData} (F : Fun K "how_many_less" "how_many_less" s_how_many_less f fd) (T : Bl mg) : FnOk P w K mg base CX0 1 f fd ["row", "number"] spLess := by
  refine F.ok sc_how_many_less (fun vs H Q E h => ?_) (fun cdv A outer s H vs Q E hr h => ?_)
  · obtain ⟨a, xs, n, rfl, _⟩ := h; rfl
  · obtain ⟨a, xs, n, rfl, ha, hz, q⟩ := h
    refine ⟨_, (pss_one (ps_ret (pe_callB f_len (by rfl) T.len BI.len (pa_cons (pe_comp (cp := [1]) (M := ["other", "number"]) rfl ⟨rfl, rfl, rfl, rfl, rfl, rfl, rfl⟩ (by decide +kernel) (pi_l (pv 0)) (fun _ _ _ _ _ => (pts_one (pt_cmpR f_lt (pv 0) (pv 1) (nomark _)))) (fun _ _ _ _ _ => (pv 0))) pa_nil)))), ?_⟩
    have e0 : start ["row", "number"] [V.ref a, V.int n] = [some (.ref a), some (.int n)] := rfl
    rw [e0]
    simp
    refine comp_listP (a := a) (xs := xs.map V.int) (fun R h => by simpa using h) ha (fun v => match v with | .int o => decide (o < n) | _ => false) id (by rw [List.length_map]; trivial) (fun v hv H3 s3 R h => ?_) (fun v hv _ H3 s3 R h => by simpa [cst] using h) (fun G hG => ?_)
    · obtain ⟨x, _, rfl⟩ := List.mem_map.mp hv
      simpa [cst] using h
    · have eg : ((xs.map V.int).filter (fun v => match v with | .int o => decide (o < n) | _ => false)).map id = (RS.lt xs n).map V.int := by
        rw [List.map_id, List.filter_map]; rfl
      rw [eg]
      simp [onS_of upd_same]
      exact q _ (Same.upd_new hG)
noncomputable abbrev s_with_number_at : Stmt := top 18
theorem sc_with_number_at : FnScope ["row", "place", "number"] ["row", "place", "number"] (defScope s_with_number_at) := ⟨rfl, rfl, rfl, by decide +kernel, rfl, by decide +kernel, by decide +kernel⟩
noncomputable def spWith : Sp := fun vs H Q _ => ∃ (a : Addr) (xs : List Int) (p : Nat) (n : Int), vs = [.ref a, .int (p : Int), .int n] ∧ H a = some (.lst (xs.map V.int)) ∧ xs.length ≤ 5000 ∧ p ≤ xs.length ∧
  ∀ r H', Same H H' → H r = none → H' r = some (.lst ((xs.take p ++ [n] ++ xs.drop (p + 1)).map V.int)) → Q (.ref r) H'
theorem ok_with {f : Addr} {fd : FuncData} (F : Fun K "with_number_at" "with_number_at" s_with_number_at f fd) (T : Bl mg) : FnOk P w K mg base CX0 1 f fd ["row", "place", "number"] spWith := by
  refine F.ok sc_with_number_at (fun vs H Q E h => ?_) (fun cdv A outer s H vs Q E hr h => ?_)
  · obtain ⟨a, xs, p, n, rfl, _⟩ := h; rfl
  · obtain ⟨a, xs, p, n, rfl, ha, hz, hp, q⟩ := h
    refine ⟨_, (pss_one (ps_ret (pe_op f_add (pe_op f_add (pe_slice f_sl (pv 0) po_none (po_some (pv 1))) (pe_lst (pa_cons (pv 2) pa_nil))) (pe_slice f_sl (pv 0) (po_some (pe_op f_add (pv 1) pe_int)) po_none)))), ?_⟩
    have e0 : start ["row", "place", "number"] [V.ref a, V.int (p : Int), V.int n] = [some (.ref a), some (.int (p : Int)), some (.int n)] := rfl
    rw [e0]
    have c1 : cutV (xs.map V.int) none (some (p : Int)) = (xs.take p).map V.int := by rw [cut_to (by rw [List.length_map]; exact hp), List.map_take]
    have c2 : cutV (xs.map V.int) (some ((p : Int) + 1)) none = (xs.drop (p + 1)).map V.int := by
      have := cut_from (xs := xs.map V.int) (p := p + 1)
      rw [show ((p + 1 : Nat) : Int) = (p : Int) + 1 by trivial] at this
      rw [this, List.map_drop]
    simp [onL_of ha, c1]
    intro p1 h1
    refine ⟨line3 (by decide), fun p2 h2 => ?_⟩
    have s1 := Same.upd_new (o := HO.lst (List.take p (List.map V.int xs))) h1
    have s2 := Same.upd_new (o := HO.lst [V.int n]) h2
    have a1 := s2 _ _ upd_same
    rw [onL_of a1, onL_of upd_same]
    refine ⟨line3 (by simp; trivial), fun p3 h3 => ?_⟩
    have s3 := Same.upd_new (o := HO.lst (List.take p (List.map V.int xs) ++ [V.int n])) h3
    have s13 := (s1.trans s2).trans s3
    rw [onL_of (s13 _ _ ha)]
    intro p4 h4
    rw [c2, List.map_drop]
    have s4 := Same.upd_new (o := HO.lst (List.drop (p + 1) (List.map V.int xs))) h4
    rw [onL_of (s4 _ _ upd_same), onL_of upd_same]
    refine ⟨line3 (by simp; trivial), fun p5 h5 => ?_⟩
    refine q p5 _ ((s13.trans s4).trans (Same.upd_new h5)) ((s13.trans s4).free h5) ?_
    rw [upd_same]
    simp
noncomputable abbrev s_lay_in : Stmt := top 20
theorem sc_lay_in : FnScope ["rows", "number", "above", "moving", "at", "row", "place", "below"] ["rows", "number"] (defScope s_lay_in) := ⟨rfl, rfl, rfl, by decide +kernel, rfl, by decide +kernel, by decide +kernel⟩
noncomputable def spLayIn : Sp := fun vs H Q _ => ∃ (a : Addr) (as : List Addr) (xss : List (List Int)) (n : Int), vs = [.ref a, .int n] ∧ RowsAt H a as xss ∧ xss.length ≤ 4000 ∧ (∀ r ∈ xss, r.length ≤ 4000) ∧
  ∀ r b bs H', Same H H' → H r = none → H' r = some (.tup [.ref b, .int (layP xss n).2]) → RowsAt H' b bs (layP xss n).1 → Fresh H (b :: bs) → Q (.ref r) H'
noncomputable def LayPIn (H : Hp) (a v : Addr) (xss : List (List Int)) (n : Int) (i : Nat) (σ : L2.St) (H' : Hp) : Prop := ∃ (c : Int) (dn : List (List Int)) (vs : List Addr) (o4 o5 o6 : Option V),
  σ = [some (.ref a), some (.int n), some (.ref v), some (.int c), o4, o5, o6, none] ∧ Same H H' ∧ RowsAt H' v vs dn ∧ Fresh H (v :: vs) ∧ dn.length = i ∧ layP xss n = (dn ++ (layP (xss.drop i) c).1, i + (layP (xss.drop i) c).2)
theorem ok_lay_in {f : Addr} {fd : FuncData} (F : Fun K "lay_in" "lay_in" s_lay_in f fd) (T : Bl mg) (C_how_many_less : Cal P w K mg base 1 "how_many_less" ["row", "number"] spLess) (C_with_number_at : Cal P w K mg base 1 "with_number_at" ["row", "place", "number"] spWith) :
    FnOk P w K mg base CX0 2 f fd ["rows", "number"] spLayIn := by
  refine F.ok sc_lay_in (fun vs H Q E h => ?_) (fun cdv A outer s H vs Q E hr h => ?_)
  · obtain ⟨a, as, xss, n, rfl, _⟩ := h; rfl
  · obtain ⟨a, as, xss, n, rfl, ha, hz, hz2, q⟩ := h
    refine ⟨_, (pss_cons (ps_set (i := 2) sc_lay_in.nd rfl (Or.inl rfl) (pe_lst pa_nil))
      (pss_cons (ps_set (i := 3) sc_lay_in.nd rfl (Or.inl rfl) (pv 1))
      (pss_cons (ps_for PassesOwn.never rfl (pi_enum (by rfl) T.enumerate (pa_cons (pv 0) pa_nil)) (pg_tup rfl (pgs_cons (pg_name (i := 4) sc_lay_in.nd rfl (Or.inl rfl)) (pgs_cons (pg_name (i := 5) sc_lay_in.nd rfl (Or.inl rfl)) pgs_nil))) (pss_cons (ps_set (i := 6) sc_lay_in.nd rfl (Or.inl rfl) (pe_cl C_how_many_less (hr.mono (by decide)) (by rfl) (pa_cons (pv 5) (pa_cons (pv 3) pa_nil))))
      (pss_cons (ps_if (pt_cmpR (f_eqF (hu64 hr)) (pv 6) (pe_callB f_len (by rfl) T.len BI.len (pa_cons (pv 5) pa_nil)) (nomark _)) (pss_cons (ps_comp (i := 7) sc_lay_in.nd rfl rfl (cp := []) (M := ["other"]) rfl ⟨rfl, rfl, rfl, rfl, rfl, rfl, rfl⟩ (by decide +kernel) (pi_l (pe_slice f_sl (pv 0) (po_some (pe_op f_add (pv 4) pe_int)) po_none)) (fun _ _ _ _ _ => pts_nil) (fun _ _ _ _ _ => (pe_callTy f_list (by rfl) T.list BI.list (pa_cons (pv 0) pa_nil))))
      (pss_one (ps_ret (pe_tup (pa_cons (pe_op f_add (pe_op f_add (pv 2) (pe_lst (pa_cons (pe_op f_add (pv 5) (pe_lst (pa_cons (pv 3) pa_nil))) pa_nil))) (pv 7)) (pa_cons (pv 4) pa_nil)))))) pss_nil)
      (pss_cons (ps_expr (pe_ml PySem.F.slot_list_append PySem.F.type_list_append f_append (pv 2) (pa_cons (pe_cl C_with_number_at (hr.mono (by decide)) (by rfl) (pa_cons (pv 5) (pa_cons (pv 6) (pa_cons (pv 3) pa_nil)))) pa_nil)))
      (pss_one (ps_set (i := 3) sc_lay_in.nd rfl (Or.inl rfl) (pe_ix f_ix (pv 5) (pv 6) (fun _ _ => rfl))))))))
      (pss_one (ps_ret (pe_tup (pa_cons (pe_op f_add (pv 2) (pe_lst (pa_cons (pe_lst (pa_cons (pv 3) pa_nil)) pa_nil (star_lst _ _ _ _)))) (pa_cons (pe_callB f_len (by rfl) T.len BI.len (pa_cons (pv 0) pa_nil)) pa_nil)))))))), ?_⟩
    have e0 : start ["rows", "number", "above", "moving", "at", "row", "place", "below"] [V.ref a, V.int n] = [some (.ref a), some (.int n), none, none, none, none, none, none] := rfl
    rw [e0]
    have la := RowsL.len ha.row
    simp
    intro v hv
    have s0 := Same.upd_new (o := HO.lst []) hv
    refine for_enumF (K := K) 0 a (as.map V.ref) (fun N h => by simp [onL_of (s0 _ _ ha.top)]; exact h) (LayPIn H a v xss n) ⟨n, [], [], none, none, none, rfl, s0, ⟨by rw [upd_same]; rfl, .nil⟩, ⟨by simp, by simpa using hv⟩, rfl, by simp⟩ (fun i σ H' _ hh => by obtain ⟨_, _, _, _, _, _, _, s1, _⟩ := hh; exact s1 _ _ ha.top) ?_ ?_
    · rintro i x σ H1 t ev ⟨c, dn, vs, o4, o5, o6, rfl, s1, rv, fr, ld, eL⟩ ht
      rw [List.getElem?_map] at ev
      cases ea : as[i]? with
      | none => rw [ea] at ev; cases ev
      | some b =>
        rw [ea] at ev
        have ev' : x = .ref b := by simpa using ev.symm
        subst ev'
        obtain ⟨r, er, hb⟩ := RowsL.get' ha.row ea
        have lr := hz2 r (List.mem_of_getElem? er)
        have hi : i < xss.length := (List.getElem?_eq_some_iff.mp er).1
        have ed : xss.drop i = r :: xss.drop (i + 1) := by
          rw [List.drop_eq_getElem_cons hi]
          rw [List.getElem?_eq_getElem hi] at er
          cases er; rfl
        rw [ed] at eL
        refine tup2 upd_same ?_
        have st := Same.upd_new (o := HO.tup [V.int (0 + (i : Int)), V.ref b]) ht
        have s2 := s1.trans st
        have tv : v ≠ t := ne_of_none rv.top ht
        have rv2 := rv.same st
        generalize upd H1 t (HO.tup [V.int (0 + (i : Int)), V.ref b]) = H2 at *
        simp
        refine ⟨b, r, c, rfl, s2 _ _ hb, by trivial, fun H3 s3 => ?_⟩
        have s13 := s2.trans s3
        have hb3 := s13 _ _ hb
        have rv3 := rv2.same s3
        have lv := RowsL.len rv3.row
        have ltl : (RS.lt r c).length ≤ r.length := List.length_filter_le _ _
        simp [onS_of hb3]
        by_cases hlast : (RS.lt r c).length = r.length
        · rw [if_pos (by trivial)]
          have eL' : layP xss n = (dn ++ (r ++ [c]) :: xss.drop (i + 1), i) := by rw [eL, layP, if_pos hlast]; rfl
          have ecut : cutV (as.map V.ref) (some ((i : Int) + 1)) none = (as.drop (i + 1)).map V.ref := by
            have := cut_from (xs := as.map V.ref) (p := i + 1)
            rw [show ((i + 1 : Nat) : Int) = (i : Int) + 1 by trivial] at this
            rw [this, List.map_drop]
          have ha3 := ha.same s13
          refine comp_new (o := HO.lst ((as.drop (i + 1)).map V.ref)) (fun R h => by simp only [rd_sl, rd_var0, rd_onO, rd_part, rd_op, rd_var4, rd_var3, rd_var2, rd_var1, rd_c, rd_plusI, rd_onI, rd_nopart, rd_cut, onL_of ha3.top, rd_new, ecut]; exact h) fun S hS => ?_
          have s4 := Same.upd_new (o := HO.lst ((as.drop (i + 1)).map V.ref)) hS
          have rS : RowsAt (upd H3 S (HO.lst ((as.drop (i + 1)).map V.ref))) S (as.drop (i + 1)) (xss.drop (i + 1)) := ⟨upd_same, RowsL.same (RowsL.drop (i + 1) ha3.row) s4⟩
          refine comp_copy (a := S) (fun R h => h) rS (by rw [List.length_drop]; trivial) fun D ds H4 hD s5 rd frd => ?_
          have s15 := (s13.trans s4).trans s5
          have hb5 := s15 _ _ hb
          have rv5 := (rv3.same s4).same s5
          have frd' : Fresh H (D :: ds) := frd.old (s13.trans s4)
          have lds := RowsL.len rd.row
          rw [List.length_drop] at lds
          have dj : ∀ d ∈ D :: ds, d ∉ v :: vs := fun d h1 h2 => (rv3.same s4).live h2 (frd.no d h1)
          refine ⟨line3 (by decide), fun p hp => ?_⟩
          have s6 := Same.upd_new (o := HO.lst [V.int c]) hp
          rw [onL_of (s6 _ _ hb5), onL_of upd_same]
          refine ⟨line3 (by simp; trivial), fun p1 hp1 => ⟨line3 (by decide), fun p2 hp2 => ?_⟩⟩
          have s7 := Same.upd_new (o := HO.lst (r.map V.int ++ [V.int c])) hp1
          have s8 := Same.upd_new (o := HO.lst [V.ref p1]) hp2
          have s68 := (s6.trans s7).trans s8
          rw [onL_of (s68 _ _ rv5.top), onL_of upd_same]
          refine ⟨line3 (by simp; trivial), fun p3 hp3 => ?_⟩
          have s9 := Same.upd_new (o := HO.lst (vs.map V.ref ++ [V.ref p1])) hp3
          have s69 := s68.trans s9
          rw [onL_of upd_same, onL_of (s69 _ _ rd.top)]
          refine ⟨line3 (by simp; trivial), fun p4 hp4 => ⟨line3 (by decide), fun p5 hp5 => ?_⟩⟩
          have s10 := Same.upd_new (o := HO.lst (vs.map V.ref ++ [V.ref p1] ++ ds.map V.ref)) hp4
          have s11 := Same.upd_new (o := HO.tup [V.ref p4, V.int (i : Int)]) hp5
          have h1' : upd (upd H4 p (HO.lst [V.int c])) p1 (HO.lst (r.map V.int ++ [V.int c])) p1 = some (HO.lst ((r ++ [c]).map V.int)) := by rw [upd_same]; simp
          have h1e := (((s8.trans s9).trans s10).trans s11) _ _ h1'
          have z1 : H4 p1 = none := s6.free hp1
          have z4 : H4 p4 = none := s69.free hp4
          have sA := (s69.trans s10).trans s11
          have n14 : p1 ≠ p4 := ne_of_none (((s8.trans s9)) _ _ h1') hp4
          have n54 : p4 ≠ p5 := (upd_none hp5).1.symm
          have p1v : p1 ∉ v :: vs := rv5.notin z1
          have p1d : p1 ∉ D :: ds := rd.notin z1
          have p4v : p4 ∉ v :: vs := rv5.notin z4
          have p4d : p4 ∉ D :: ds := rd.notin z4
          refine q p5 p4 (vs ++ [p1] ++ ds) _ (s15.trans sA) (s15.free ((s69.trans s10).free hp5)) (by rw [upd_same, eL']) ?_ ?_
          · rw [eL']
            refine ⟨?_, ?_⟩
            · rw [upd_ne n54, upd_same]; simp
            · have r1 := RowsL.app (RowsL.snoc (RowsL.same rv5.row sA) h1e) (RowsL.same rd.row sA)
              have e3 : dn ++ [r ++ [c]] ++ xss.drop (i + 1) = dn ++ (r ++ [c]) :: xss.drop (i + 1) := by simp
              rw [e3] at r1
              exact r1
          · have f1 : Fresh H (vs ++ [p1]) := Fresh.snoc (fr.sub (List.sublist_cons_self _ _)) (s15.free z1) fun z => p1v (List.mem_cons_of_mem _ z)
            have f2 : Fresh H ((vs ++ [p1]) ++ ds) := Fresh.append f1 (frd'.sub (List.sublist_cons_self _ _)) fun d h1 h2 => by
              rcases List.mem_append.mp h1 with h1 | h1
              · exact dj d (List.mem_cons_of_mem _ h2) (List.mem_cons_of_mem _ h1)
              · have : d = p1 := by simpa using h1
                exact p1d (this ▸ List.mem_cons_of_mem _ h2)
            refine Fresh.cons f2 (s15.free z4) fun hm => ?_
            rcases List.mem_append.mp hm with hm | hm
            · rcases List.mem_append.mp hm with hm | hm
              · exact p4v (List.mem_cons_of_mem _ hm)
              · have : p4 = p1 := by simpa using hm
                exact n14 this.symm
            · exact p4d (List.mem_cons_of_mem _ hm)
        · rw [if_neg (by trivial), onL_of rv3.top]
          have eL' : layP xss n = (dn ++ (r.take (RS.lt r c).length ++ [c] ++ r.drop ((RS.lt r c).length + 1)) :: (layP (xss.drop (i + 1)) (r.getD (RS.lt r c).length 0)).1, i + ((layP (xss.drop (i + 1)) (r.getD (RS.lt r c).length 0)).2 + 1)) := by rw [eL, layP, if_neg hlast]
          refine ⟨b, r, (RS.lt r c).length, c, rfl, hb3, by trivial, ltl, fun p H4 s4 hp h4 => ?_⟩
          have rv4 := rv3.same s4
          have hb4 := s4 _ _ hb3
          have ex : r[(RS.lt r c).length]? = some (r.getD (RS.lt r c).length 0) := by
            have : (RS.lt r c).length < r.length := by trivial
            rw [List.getD_eq_getElem?_getD, List.getElem?_eq_getElem this]; rfl
          have pv : p ∉ v :: vs := rv3.notin hp
          have vH := fr.no v List.mem_cons_self
          have bv : b ≠ v := fun z => by
            have := fr.no v List.mem_cons_self
            rw [← z, hb] at this; cases this
          simp [onL_of rv4.top]
          refine ⟨line100 (by trivial), ?_⟩
          rw [onS_of (show upd H4 v _ b = _ by rw [upd_ne bv]; exact hb4), atI_int ex, rd_onO]
          refine ⟨_, dn ++ [r.take (RS.lt r c).length ++ [c] ++ r.drop ((RS.lt r c).length + 1)], vs ++ [p], _, _, _, rfl, (s13.trans s4).upd_in vH, ?_, Fresh.snoc fr (s13.free hp) pv, by simp [ld], ?_⟩
          · have pv' : p ≠ v := fun z => pv (by rw [z]; exact List.mem_cons_self)
            refine RowsAt.app (RowsL.mono rv4.row fun d hd o e => ?_) (by rw [upd_same]) (by rw [upd_ne pv']; exact h4)
            have dv : d ≠ v := fun z => (List.nodup_cons.mp fr.nd).1 (z ▸ hd)
            rw [upd_ne dv]; exact e
          · rw [eL']
            simp
            trivial
    · rintro σ H1 ⟨c, dn, vs, o4, o5, o6, rfl, s1, rv, fr, ld, eL⟩
      rw [List.length_map, la, List.drop_length] at eL
      rw [List.length_map, la] at ld
      have eL' : layP xss n = (dn ++ [[c]], xss.length) := by rw [eL]; simp [layP]
      have lv := RowsL.len rv.row
      simp
      refine ⟨line3 (by decide), fun p hp => ⟨line3 (by decide), fun p1 hp1 => ?_⟩⟩
      have s3 : Same H1 (upd (upd H1 p (.lst [.int c])) p1 (.lst [.ref p])) := (Same.upd_new hp).trans (Same.upd_new hp1)
      rw [onL_of (s3 _ _ rv.top), onL_of upd_same]
      refine ⟨line3 (by simp; trivial), fun p2 hp2 => ?_⟩
      have s4 := s3.trans (Same.upd_new (o := HO.lst (vs.map V.ref ++ [V.ref p])) hp2)
      rw [onS_of ((s1.trans s4) _ _ ha.top)]
      refine ⟨line3 (by decide), fun p3 hp3 => ?_⟩
      have s5 := s4.trans (Same.upd_new (o := HO.tup [V.ref p2, V.int ((as.map V.ref).length : Int)]) hp3)
      obtain ⟨n21, z2⟩ := upd_none hp2
      obtain ⟨n20, z2⟩ := upd_none z2
      obtain ⟨n10, z1⟩ := upd_none hp1
      obtain ⟨n32, z3⟩ := upd_none hp3
      obtain ⟨n31, z3⟩ := upd_none z3
      obtain ⟨n30, z3⟩ := upd_none z3
      refine q p3 p2 (vs ++ [p]) _ (s1.trans s5) (s1.free z3) (by rw [upd_same, eL', List.length_map, la]) ?_ ?_
      · rw [eL']
        refine RowsAt.app (RowsL.same rv.row s5) ?_ ?_
        · rw [upd_ne n32.symm, upd_same]
        · rw [upd_ne n30.symm, upd_ne n20.symm, upd_ne n10.symm, upd_same]; rfl
      · have pb := RowsL.notin rv.row hp
        have p2b := RowsL.notin rv.row z2
        refine Fresh.cons (Fresh.snoc (fr.sub (List.sublist_cons_self _ _)) (s1.free hp) pb) (s1.free z2) ?_
        intro hm
        rcases List.mem_append.mp hm with hm | hm
        · exact p2b hm
        · exact n20 (by simpa using hm)
end
end SR
namespace SR
open PySem L2 RS PySem.Spec PyProof.Rows
section
variable {P : Program} {w : World} {K : PySem.W.Frag} {mg : Str → Option Value} {base : Heap}
noncomputable abbrev s_put_at_end : Stmt := top 22
theorem sc_put_at_end : FnScope ["rows", "at", "number"] ["rows", "at", "number"] (defScope s_put_at_end) := ⟨rfl, rfl, rfl, by decide +kernel, rfl, by decide +kernel, by decide +kernel⟩
noncomputable def spPut : Sp := fun vs H Q _ => ∃ (g : Addr) (gs : List Addr) (sec : List (List Int)) (t : Nat) (k : Int), vs = [.ref g, .int (t : Int), .int k] ∧ RowsAt H g gs sec ∧ (g :: gs).Nodup ∧ t ≤ sec.length ∧ sec.length ≤ 4000 ∧ (∀ r ∈ sec, r.length ≤ 4000) ∧
  ∀ gs' H', RowsAt H' g gs' (grow sec t k) → (∀ b o, b ∉ g :: gs → H b = some o → H' b = some o) → (gs' = gs ∨ ∃ p, gs' = gs ++ [p] ∧ H p = none) → Q .non H'
theorem ok_put {f : Addr} {fd : FuncData} (F : Fun K "put_at_end" "put_at_end" s_put_at_end f fd) (T : Bl mg) : FnOk P w K mg base CX0 1 f fd ["rows", "at", "number"] spPut := by
  refine F.ok sc_put_at_end (fun vs H Q E h => ?_) (fun cdv A outer s H vs Q E hr h => ?_)
  · obtain ⟨g, gs, sec, t, k, rfl, _⟩ := h; rfl
  · obtain ⟨g, gs, sec, t, k, rfl, hg, nd, ht, hz, hz2, q⟩ := h
    refine ⟨_, (pss_cons (ps_if (pt_cmpR (f_eqF (hu64 hr)) (pv 1) (pe_callB f_len (by rfl) T.len BI.len (pa_cons (pv 0) pa_nil)) (nomark _)) (pss_one (ps_expr (pe_ml PySem.F.slot_list_append PySem.F.type_list_append f_append (pv 0) (pa_cons (pe_lst pa_nil) pa_nil (star_lst _ _ _ _))))) pss_nil)
      (pss_one (ps_expr (pe_ml PySem.F.slot_list_append PySem.F.type_list_append f_append (pe_ix f_ix (pv 0) (pv 1) (fun _ _ => rfl)) (pa_cons (pv 2) pa_nil))))), ?_⟩
    have e0 : start ["rows", "at", "number"] [V.ref g, V.int (t : Int), V.int k] = [some (.ref g), some (.int (t : Int)), some (.int k)] := rfl
    rw [e0]
    have lg := RowsL.len hg.row
    simp [onS_of hg.top, onL_of hg.top]
    by_cases hlast : t = gs.length
    · rw [if_pos (by trivial)]
      intro p hp
      have hgp := (Same.upd_new (o := HO.lst []) hp) _ _ hg.top
      have pg : p ≠ g := (ne_of_none hg.top hp).symm
      have pgs : p ∉ g :: gs := hg.notin hp
      rw [onL_of hgp]
      refine ⟨line100 (by rw [List.length_map]; trivial), ?_⟩
      have hp3 : upd (upd H p (.lst [])) g (.lst (gs.map V.ref ++ [V.ref p])) p = some (.lst []) := by rw [upd_ne pg, upd_same]
      have e3 : atI (gs.map V.ref ++ [V.ref p]) (t : Int) = some (.ref p) := by
        have : gs.map V.ref ++ [V.ref p] = (gs ++ [p]).map V.ref := by simp
        rw [this]
        exact atI_ref (by rw [hlast]; simp)
      rw [onS_of upd_same, e3, rd_onO, onL_of hp3, onL_of hp3]
      refine ⟨line100 (by simp), q (gs ++ [p]) _ ?_ (fun b o hb e => ?_) (.inr ⟨p, rfl, hp⟩)⟩
      · unfold grow
        rw [if_pos (by trivial)]
        refine RowsAt.app (RowsL.mono hg.row fun c hc o e => ?_) ?_ ?_
        · have cg : c ≠ g := fun z => (List.nodup_cons.mp nd).1 (z ▸ hc)
          have cp : c ≠ p := fun z => pgs (List.mem_cons_of_mem _ (z ▸ hc))
          rw [upd_ne cp, upd_ne cg, upd_ne cp]; exact e
        · rw [upd_ne pg.symm, upd_same]
        · rw [upd_same]; rfl
      · have bp : b ≠ p := ne_of_none e hp
        have bg : b ≠ g := fun z => hb (by rw [z]; exact List.mem_cons_self)
        rw [upd_ne bp, upd_ne bg, upd_ne bp]; exact e
    · rw [if_neg (by trivial)]
      have hlt : t < gs.length := by trivial
      have eg : gs[t]? = some gs[t] := List.getElem?_eq_getElem hlt
      obtain ⟨ys, ey, hy⟩ := RowsL.get' hg.row eg
      have hm : gs[t] ∈ gs := List.getElem_mem hlt
      have lys := hz2 ys (List.mem_of_getElem? ey)
      rw [atI_ref eg, rd_onO, onL_of hy, onL_of hy]
      have e1' : ys.map V.int ++ [V.int k] = (ys ++ [k]).map V.int := by simp
      refine ⟨line100 (by rw [List.length_map]; trivial), q gs _ ?_ (fun b o hb e => ?_) (.inl rfl)⟩
      · unfold grow
        rw [if_neg (by trivial), List.getD_eq_getElem?_getD, ey, e1']
        exact RowsAt.set hg eg nd
      · have bg : b ≠ gs[t] := fun z => hb (by rw [z]; exact List.mem_cons_of_mem _ hm)
        rw [upd_ne bg]; exact e
noncomputable abbrev s_laid : Stmt := top 21
theorem sc_laid : FnScope ["row", "first", "second", "count", "number", "grown"] ["row"] (defScope s_laid) := ⟨rfl, rfl, rfl, by decide +kernel, rfl, by decide +kernel, by decide +kernel⟩
noncomputable def spLaidP : Sp := fun vs H Q _ => ∃ (a : Addr) (row : List Int), vs = [.ref a] ∧ H a = some (.lst (row.map V.int)) ∧ row.length ≤ 1000 ∧
  ∀ r f fs g gs H', Same H H' → H r = none → H' r = some (.tup [.ref f, .ref g]) → RowsAt H' f fs (laidP row).1 → RowsAt H' g gs (laidP row).2 → Fresh H ((f :: fs) ++ (g :: gs)) → Q (.ref r) H'
noncomputable def LaidPIn (H : Hp) (a : Addr) (row : List Int) (i : Nat) (σ : L2.St) (H' : Hp) : Prop := ∃ (f g : Addr) (fs gs : List Addr) (o3 o4 o5 : Option V),
  σ = [some (.ref a), some (.ref f), some (.ref g), o3, o4, o5] ∧ Same H H' ∧ RowsAt H' f fs (laidP (row.take i)).1 ∧ RowsAt H' g gs (laidP (row.take i)).2 ∧ Fresh H ((f :: fs) ++ (g :: gs))
theorem ok_laidP {f : Addr} {fd : FuncData} (F : Fun K "laid" "laid" s_laid f fd) (T : Bl mg) (C_lay_in : Cal P w K mg base 2 "lay_in" ["rows", "number"] spLayIn) (C_put_at_end : Cal P w K mg base 1 "put_at_end" ["rows", "at", "number"] spPut) : FnOk P w K mg base CX0 3 f fd ["row"] spLaidP := by
  refine F.ok sc_laid (fun vs H Q E h => ?_) (fun cdv A outer s H vs Q E hr h => ?_)
  · obtain ⟨a, row, rfl, _⟩ := h; rfl
  · obtain ⟨a, row, rfl, ha, hz, q⟩ := h
    refine ⟨_, (pss_cons (ps_set (i := 1) sc_laid.nd rfl (Or.inl rfl) (pe_lst pa_nil))
      (pss_cons (ps_set (i := 2) sc_laid.nd rfl (Or.inl rfl) (pe_lst pa_nil))
      (pss_cons (ps_for PassesOwn.never rfl (pi_enumK (by rfl) T.enumerate (pa_cons (pv 0) pa_nil)) (pg_tup rfl (pgs_cons (pg_name (i := 3) sc_laid.nd rfl (Or.inl rfl)) (pgs_cons (pg_name (i := 4) sc_laid.nd rfl (Or.inl rfl)) pgs_nil))) (pss_cons (ps_set (i := 5) sc_laid.nd rfl (Or.inl rfl) (pe_cl C_lay_in (hr.mono (by decide)) (by rfl) (pa_cons (pv 1) (pa_cons (pv 4) pa_nil))))
      (pss_cons (ps_set (i := 1) sc_laid.nd rfl (Or.inl rfl) (pe_ix f_ix (pv 5) pe_int (fun _ _ => rfl)))
      (pss_one (ps_expr (pe_cl C_put_at_end (hr.mono (by decide)) (by rfl) (pa_cons (pv 2) (pa_cons (pe_ix f_ix (pv 5) pe_int (fun _ _ => rfl)) (pa_cons (pv 3) pa_nil)))))))))
      (pss_one (ps_ret (pe_tup (pa_cons (pv 1) (pa_cons (pv 2) pa_nil)))))))), ?_⟩
    have e0 : start ["row", "first", "second", "count", "number", "grown"] [V.ref a] = [some (.ref a), none, none, none, none, none] := rfl
    rw [e0]
    simp
    intro p1 hp1 p2 hp2
    obtain ⟨n21, z2⟩ := upd_none hp2
    have sI : Same H (upd (upd H p1 (.lst [])) p2 (.lst [])) := (Same.upd_new hp1).trans (Same.upd_new hp2)
    refine for_enumF (K := K) 1 a (row.map V.int) (fun N h => by simp [onL_of (sI _ _ ha)]; exact h) (LaidPIn H a row) ⟨p1, p2, [], [], none, none, none, rfl, sI, ⟨by rw [upd_ne n21.symm, upd_same]; rfl, by simpa [laidP, laidPFrom] using Paired.nil⟩, ⟨by rw [upd_same]; rfl, by simpa [laidP, laidPFrom] using Paired.nil⟩, ⟨by simp [n21.symm], by simp [hp1, z2]⟩⟩ (fun i σ H' _ ⟨_, _, _, _, _, _, _, _, s1, _⟩ => s1 _ _ ha) ?_ ?_
    · rintro i x σ H1 t ev ⟨f, g, fs, gs, o3, o4, o5, rfl, s1, hf, hg, fr⟩ ht
      have hi : i < row.length := by have := (List.getElem?_eq_some_iff.mp ev).1; simpa using this
      have ei : row[i]? = some row[i] := List.getElem?_eq_getElem hi
      rw [map_get ei] at ev
      cases ev
      obtain ⟨z1, z2, z3, z4⟩ := laidP_size (row.take i)
      rw [List.length_take] at z2 z3 z4
      have ec : (1 : Int) + (i : Int) = (i : Int) + 1 := by trivial
      rw [ec]
      refine tup2 upd_same ?_
      have st := Same.upd_new (o := HO.tup [V.int ((i : Int) + 1), V.int row[i]]) ht
      have s2 := s1.trans st
      have hf2 := hf.same st
      have hg2 := hg.same st
      generalize upd H1 t (HO.tup [V.int ((i : Int) + 1), V.int row[i]]) = H2 at *
      simp
      refine ⟨f, fs, _, _, rfl, hf2, by trivial, fun r hr => by have := z3 r hr; trivial, fun r b bs H3 s3 hr3 ht3 hb frb => ?_⟩
      have tn := take_next ei
      have eS := laidP_snoc (row.take i) row[i]
      rw [← tn] at eS
      have hlen : (row.take i).length = i := by rw [List.length_take]; trivial
      rw [hlen] at eS
      obtain ⟨t1, t2⟩ := layP_at (laidP (row.take i)).1 row[i]
      generalize hq : layP (laidP (row.take i)).1 row[i] = L at *
      have e1 : atI [V.ref b, V.int (L.2 : Int)] 0 = some (.ref b) := atI_nat (j := 0) rfl
      have e2 : atI [V.ref b, V.int (L.2 : Int)] 1 = some (.int (L.2 : Int)) := atI_nat (j := 1) rfl
      have hg3 := hg2.same s3
      have frg : Fresh H (g :: gs) := fr.sub (List.sublist_append_right _ _)
      have dj : ∀ c ∈ b :: bs, c ∉ g :: gs := fun c h1 h2 => hg2.live h2 (frb.no c h1)
      have frb' : Fresh H (b :: bs) := frb.old s2
      have s13 := s2.trans s3
      simp [onS_ofT ht3, e1, e2]
      refine ⟨g, gs, _, L.2, _, rfl, hg3, frg.nd, by trivial, by trivial, fun r hr => by have := z4 r hr; trivial, fun gs' H4 h4 k4 hgs => ?_⟩
      have hb4 : RowsAt H4 b bs L.1 := ⟨k4 _ _ (dj b List.mem_cons_self) hb.top, RowsL.mono hb.row fun c hc o e => k4 c o (dj c (List.mem_cons_of_mem _ hc)) e⟩
      have s14 : Same H H4 := fun c o e => k4 c o (fun z => by rw [frg.no c z] at e; cases e) (s13 c o e)
      refine ⟨b, g, bs, gs', _, _, _, rfl, s14, by rw [eS]; exact hb4, by rw [eS]; exact h4, ?_⟩
      rcases hgs with rfl | ⟨p, rfl, hp⟩
      · exact Fresh.append frb' frg dj
      · have pgs : p ∉ g :: gs := hg3.notin hp
        have pb : p ∉ b :: bs := hb.notin hp
        have frg' : Fresh H ((g :: gs) ++ [p]) := Fresh.snoc frg (s13.free hp) pgs
        refine Fresh.append frb' frg' fun c h1 h2 => ?_
        rcases List.mem_append.mp (show c ∈ (g :: gs) ++ [p] from h2) with h2 | h2
        · exact dj c h1 h2
        · have : c = p := by simpa using h2
          exact pb (this ▸ h1)
    · rintro σ H1 ⟨f, g, fs, gs, o3, o4, o5, rfl, s1, hf, hg, fr⟩
      simp
      rw [List.length_map, List.take_length] at hf hg
      exact ⟨line3 (by decide), fun p hp => q p f fs g gs _ (s1.trans (Same.upd_new hp)) (s1.free hp) upd_same (hf.same (Same.upd_new hp)) (hg.same (Same.upd_new hp)) fr⟩
end
end SR
namespace SR
open PySem L2 RS PySem.Spec PyProof.Rows
section
variable {P : Program} {w : World} {K : PySem.W.Frag} {mg : Str → Option Value} {base : Heap}
noncomputable def lstV (H : Hp) (v : V) : List V := match v with | .ref b => (match H b with | some (.lst ys) => ys | _ => []) | _ => []
theorem lstV_of {H : Hp} {b : Addr} {ys : List V} (h : H b = some (.lst ys)) : lstV H (.ref b) = ys := by simp [lstV, h]
noncomputable abbrev s_shape : Stmt := top 13
theorem sc_shape : FnScope ["rows"] ["rows"] (defScope s_shape) := ⟨rfl, rfl, rfl, by decide +kernel, rfl, by decide +kernel, by decide +kernel⟩
noncomputable def spShapeV : Sp := fun vs H Q _ => ∃ (a : Addr) (as : List Addr) (vss : List (List V)), vs = [.ref a] ∧ RowsV H a as vss ∧ vss.length ≤ 5000 ∧
  ∀ r H', Same H H' → H r = none → H' r = some (.lst ((lensV vss).map V.int)) → Q (.ref r) H'
theorem ok_shapeV {f : Addr} {fd : FuncData} (F : Fun K "shape" "shape" s_shape f fd) (T : Bl mg) : FnOk P w K mg base CX0 1 f fd ["rows"] spShapeV := by
  refine F.ok sc_shape (fun vs H Q E h => ?_) (fun cdv A outer s H vs Q E hr h => ?_)
  · obtain ⟨a, as, xss, rfl, _⟩ := h; rfl
  · obtain ⟨a, as, xss, rfl, ha, hz, q⟩ := h
    refine ⟨_, (pss_one (ps_ret (pe_comp (cp := []) (M := ["row"]) rfl ⟨rfl, rfl, rfl, rfl, rfl, rfl, rfl⟩ (by decide +kernel) (pi_l (pv 0)) (fun _ _ _ _ _ => pts_nil) (fun _ _ _ _ _ => (pe_callB f_len (by rfl) T.len BI.len (pa_cons (pv 0) pa_nil)))))), ?_⟩
    have e0 : start ["rows"] [V.ref a] = [some (.ref a)] := rfl
    rw [e0]
    simp only [rd_ret]
    have la := RowsW.len ha.row
    refine comp_listP (fun R h => by simpa using h) ha.top (fun _ => true) (fun v => .int ((lstV H v).length : Int)) (by rw [List.length_map]; trivial) (fun v hv H' s R h => by simpa using h) (fun v hv hp H' s R h => ?_) (fun D hD => ?_)
    · obtain ⟨b, xs, rfl, hb, hx, e⟩ := rowsV_mem ha.row hv
      simp [cst, onS_of (s _ _ e)]
      simpa [lstV_of e] using h
    · refine q D _ (Same.upd_new hD) hD ?_
      rw [upd_same, List.filter_eq_self.mpr (fun _ _ => rfl), rowsV_map ha.row _ (fun r => V.int (r.length : Int)) (fun b xs _ hx e => by rw [lstV_of e])]
      unfold lensV
      rw [List.map_map]; rfl
noncomputable abbrev s_column : Stmt := top 16
theorem sc_column : FnScope ["rows", "place"] ["rows", "place"] (defScope s_column) := ⟨rfl, rfl, rfl, by decide +kernel, rfl, by decide +kernel, by decide +kernel⟩
noncomputable def spColumnV : Sp := fun vs H Q _ => ∃ (a : Addr) (as : List Addr) (xss : List (List V)) (p : Nat), vs = [.ref a, .int (p : Int)] ∧ RowsV H a as xss ∧ xss.length ≤ 5000 ∧
  ∀ r H', Same H H' → H r = none → H' r = some (.lst (colV xss p)) → Q (.ref r) H'
theorem ok_columnV {f : Addr} {fd : FuncData} (F : Fun K "column" "column" s_column f fd) (T : Bl mg) : FnOk P w K mg base CX0 1 f fd ["rows", "place"] spColumnV := by
  refine F.ok sc_column (fun vs H Q E h => ?_) (fun cdv A outer s H vs Q E hr h => ?_)
  · obtain ⟨a, as, xss, p, rfl, _⟩ := h; rfl
  · obtain ⟨a, as, xss, p, rfl, ha, hz, q⟩ := h
    refine ⟨_, (pss_one (ps_ret (pe_comp (cp := [1]) (M := ["row", "place"]) rfl ⟨rfl, rfl, rfl, rfl, rfl, rfl, rfl⟩ (by decide +kernel) (pi_l (pv 0)) (fun _ _ _ _ _ => (pts_one (pt_cmpR f_lt (pv 1) (pe_callB f_len (by rfl) T.len BI.len (pa_cons (pv 0) pa_nil)) (nomark _)))) (fun _ _ _ _ _ => (pe_ix f_ix (pv 0) (pv 1) (fun _ _ => rfl)))))), ?_⟩
    have e0 : start ["rows", "place"] [V.ref a, V.int (p : Int)] = [some (.ref a), some (.int (p : Int))] := rfl
    rw [e0]
    simp only [rd_ret]
    have la := RowsW.len ha.row
    refine comp_listP (fun R h => by simpa using h) ha.top (fun v => decide (p < (lstV H v).length)) (fun v => (lstV H v).getD p .non) (by rw [List.length_map]; trivial) (fun v hv H' s R h => ?_) (fun v hv hp H' s R h => ?_) (fun D hD => ?_)
    · obtain ⟨b, xs, rfl, hb, hx, e⟩ := rowsV_mem ha.row hv
      simp [cst, onS_of (s _ _ e)]
      simpa [lstV_of e] using h
    · obtain ⟨b, xs, rfl, hb, hx, e⟩ := rowsV_mem ha.row hv
      rw [lstV_of e] at hp
      have hp' := of_decide_eq_true hp
      have ex : xs[p]? = some xs[p] := List.getElem?_eq_getElem hp'
      simp [cst, onS_of (s _ _ e), atI_nat ex]
      simpa [lstV_of e, List.getD_eq_getElem?_getD, ex] using h
    · refine q D _ (Same.upd_new hD) hD ?_
      rw [upd_same]
      obtain ⟨bs, eb, hb⟩ := rowsV_filt ha.row (fun v => decide (p < (lstV H v).length)) (fun r => decide (p < r.length)) (fun b xs e => by rw [lstV_of e])
      rw [eb, rowsV_map hb _ (fun r => r.getD p .non) (fun b xs _ hx e => by rw [lstV_of e])]
      rfl
noncomputable abbrev s_turned : Stmt := top 15
theorem sc_turned : FnScope ["rows", "width"] ["rows"] (defScope s_turned) := ⟨rfl, rfl, rfl, by decide +kernel, rfl, by decide +kernel, by decide +kernel⟩
noncomputable def spTurnedV : Sp := fun vs H Q _ => ∃ (a : Addr) (as : List Addr) (xss : List (List V)), vs = [.ref a] ∧ RowsV H a as xss ∧ xss.length ≤ 5000 ∧ (∀ r ∈ xss, r.length ≤ 5000) ∧
  ∀ r rs H', Same H H' → RowsV H' r rs (turnV xss) → Fresh H (r :: rs) → Q (.ref r) H'
theorem ok_turnedV {f : Addr} {fd : FuncData} (F : Fun K "turned" "turned" s_turned f fd) (T : Bl mg) (C_column : Cal P w K mg base 1 "column" ["rows", "place"] spColumnV) : FnOk P w K mg base CX0 2 f fd ["rows"] spTurnedV := by
  refine F.ok sc_turned (fun vs H Q E h => ?_) (fun cdv A outer s H vs Q E hr h => ?_)
  · obtain ⟨a, as, xss, rfl, _⟩ := h; rfl
  · obtain ⟨a, as, xss, rfl, ha, hz, hz2, q⟩ := h
    refine ⟨_, (pss_cons (ps_set (i := 1) sc_turned.nd rfl (Or.inl rfl) (pe_ifExp (pt_tru (pv 0) (fun _ => rfl)) (pe_callB f_len (by rfl) T.len BI.len (pa_cons (pe_ix f_ix (pv 0) pe_int (fun _ _ => rfl)) pa_nil)) pe_int))
      (pss_one (ps_ret (pe_comp (cp := [0]) (M := ["place", "rows"]) rfl ⟨rfl, rfl, rfl, rfl, rfl, rfl, rfl⟩ (by decide +kernel) (pi_range1 (by rfl) T.range (pa_cons (pv 1) pa_nil)) (fun _ _ _ _ _ => pts_nil) (fun _ _ _ _ _ => (pe_cl C_column (hr.mono (by decide)) (by rfl) (pa_cons (pv 1) (pa_cons (pv 0) pa_nil)))))))), ?_⟩
    have e0 : start ["rows", "width"] [V.ref a] = [some (.ref a), none] := rfl
    rw [e0]
    have la := RowsW.len ha.row
    have hw : widthV xss ≤ 5000 := by
      unfold widthV
      cases xss with
      | nil => simp
      | cons r rs => exact hz2 r List.mem_cons_self
    refine cut1 (fun σ H' => σ = [some (.ref a), some (.int (widthV xss : Int))] ∧ H' = H) (fun R' h => ?_) ?_
    · simp [onL_of ha.top, onS_of ha.top]
      cases xss with
      | nil =>
        have : as = [] := List.length_eq_zero_iff.mp la
        subst this
        simp
        exact h _ _ ⟨by simp [widthV], rfl⟩
      | cons r rs =>
        obtain ⟨b, eb, hb⟩ := RowsW.get (i := 0) ha.row rfl
        have hne : as ≠ [] := fun z => by rw [z] at eb; cases eb
        have eb' : atI (as.map V.ref) 0 = some (.ref b) := atI_nat (j := 0) (map_get eb)
        simp [hne, eb', onS_of hb]
        exact h _ _ ⟨by simp [widthV], rfl⟩
    · rintro σ H' ⟨rfl, rfl⟩
      simp only [rd_ret, rd_comp]
      simp only [rd_rng1, rd_cons, rd_nil, rd_var1, rd_var0, rd_onO, rd_on1, rd_onI]
      refine ⟨⟨by trivial, by trivial⟩, ?_⟩
      refine comp_rowsTV yields_range (fun _ => true) (fun v => match v with | .int k => colV xss k.toNat | _ => []) (by simp; trivial) (fun v hv H1 s1 R k => by simpa using k H1 (fun _ _ e => e)) (fun v hv _ H1 s1 R k => ?_) (fun D bs H1 hD s1 ra fr => ?_)
      · obtain ⟨j, hj, rfl⟩ := List.mem_map.mp hv
        simp [cst]
        refine ⟨a, as, xss, j, rfl, ha.same s1, hz, fun r H2 s2 hr h2 => k r H2 s2 hr (by simpa using h2)⟩
      · rw [List.filter_eq_self.mpr (fun _ _ => rfl), List.map_map] at ra
        refine q D bs H1 s1 ?_ fr
        have : turnV xss = ((List.range (widthV xss)).map ((fun v => match v with | .int k => colV xss k.toNat | _ => []) ∘ fun (i : Nat) => V.int (0 + (i : Int)))) := by
          unfold turnV
          apply List.map_congr_left
          intro i _
          simp [Function.comp_def]
        rw [this]
        simpa using ra
noncomputable abbrev s_reading : Stmt := top 14
theorem sc_reading : FnScope ["rows", "numbers", "row"] ["rows"] (defScope s_reading) := ⟨rfl, rfl, rfl, by decide +kernel, rfl, by decide +kernel, by decide +kernel⟩
noncomputable def spReadingV : Sp := fun vs H Q _ => ∃ (a : Addr) (as : List Addr) (xss : List (List V)), vs = [.ref a] ∧ RowsV H a as xss ∧ xss.length ≤ 5000 ∧ (readV xss).length ≤ 5000 ∧ (∀ r ∈ xss, r.length ≤ 5000) ∧ (∀ r ∈ xss, r.all isLeaf = true) ∧
  ∀ r H', Same H H' → H r = none → H' r = some (.lst ((readV xss).map V.int)) → Q (.ref r) H'
noncomputable def ReadInV (H : Hp) (a : Addr) (n : Addr) (xss : List (List V)) (i : Nat) (σ : L2.St) (H' : Hp) : Prop := ∃ o, σ = [some (.ref a), some (.ref n), o] ∧ Same H H' ∧ H' n = some (.lst (((xss.reverse.take i).map intsOf).flatten.map V.int))
theorem readV_take (xss : List (List V)) (i : Nat) : ((xss.reverse.take i).map intsOf).flatten.length ≤ (readV xss).length := by
  unfold readV
  conv => rhs; rw [← List.take_append_drop i xss.reverse, List.map_append, List.flatten_append, List.length_append]
  trivial
theorem ok_readingV {f : Addr} {fd : FuncData} (F : Fun K "reading" "reading" s_reading f fd) (T : Bl mg) : FnOk P w K mg base CX0 1 f fd ["rows"] spReadingV := by
  refine F.ok sc_reading (fun vs H Q E h => ?_) (fun cdv A outer s H vs Q E hr h => ?_)
  · obtain ⟨a, as, xss, rfl, _⟩ := h; rfl
  · obtain ⟨a, as, xss, rfl, ha, hz, hz2, hz3, lf, q⟩ := h
    refine ⟨_, (pss_cons (ps_set (i := 1) sc_reading.nd rfl (Or.inl rfl) (pe_lst pa_nil))
      (pss_cons (ps_for PassesOwn.never rfl (pi_rev (by rfl) T.reversed (pa_cons (pv 0) pa_nil)) (pg_name (i := 2) sc_reading.nd rfl (Or.inl rfl)) (pss_one (ps_expr (pe_ml PySem.F.slot_list_extend PySem.F.type_list_extend f_extend (pv 1) (pa_cons (pe_comp (cp := []) (M := ["number"]) rfl ⟨rfl, rfl, rfl, rfl, rfl, rfl, rfl⟩ (by decide +kernel) (pi_l (pv 2)) (fun _ _ _ _ _ => (pts_one (pt_cmpR f_notN (pv 0) pe_non (nomark _)))) (fun _ _ _ _ _ => (pv 0))) pa_nil)))))
      (pss_one (ps_ret (pv 1))))), ?_⟩
    have e0 : start ["rows", "numbers", "row"] [V.ref a] = [some (.ref a), none, none] := rfl
    rw [e0]
    have la := RowsW.len ha.row
    simp
    intro n hn
    have s0 := Same.upd_new (o := HO.lst []) hn
    refine for_revF (K := K) a (as.map V.ref) (fun N h => by simp [onL_of (s0 _ _ ha.top)]; rw [List.length_map] at h; exact h) (ReadInV H a n xss) ⟨none, rfl, s0, by rw [upd_same]; rfl⟩ (fun i σ H' _ hh => by obtain ⟨o, _, s1, _⟩ := hh; exact s1 _ _ ha.top) ?_ ?_
    · rintro i v σ H1 ev ⟨o, rfl, s1, h1⟩
      have hi : i < as.length := by have := (List.getElem?_eq_some_iff.mp ev).1; simpa using this
      have ex : xss.reverse[i]? = some (xss.reverse[i]'(by simp; trivial)) := List.getElem?_eq_getElem _
      generalize hr' : xss.reverse[i]'(by simp; trivial) = r at *
      have hrm : r ∈ xss := List.mem_reverse.mp (List.mem_of_getElem? ex)
      have lr := hz3 r hrm
      have lfr := lf r hrm
      obtain ⟨b, rfl, hb⟩ : ∃ b, v = .ref b ∧ H b = some (.lst r) := by
        rw [List.getElem?_reverse (by simpa using hi), List.length_map, List.getElem?_map] at ev
        rw [List.getElem?_reverse (by trivial), ← la] at ex
        obtain ⟨b, eb, hb⟩ := RowsW.get ha.row ex
        rw [eb] at ev
        exact ⟨b, by simpa using ev.symm, hb⟩
      simp [onL_of h1]
      refine comp_listP (a := b) (xs := r) (fun R h => by simpa using h) (s1 _ _ hb) (fun v => !decide (v = V.non)) id (by trivial) (fun v hv H2 s2 R h => ?_) (fun v hv _ H2 s2 R h => by simpa [cst] using h) (fun D hD => ?_)
      · simpa [cst] using h
      · rw [List.map_id, leaf_filter lfr]
        have s2 := Same.upd_new (o := HO.lst ((intsOf r).map V.int)) hD
        have h1' := s2 _ _ h1
        have tn := take_next ex
        have tf : ((xss.reverse.take (i + 1)).map intsOf).flatten = ((xss.reverse.take i).map intsOf).flatten ++ intsOf r := by rw [tn, List.map_append, List.flatten_append]; simp
        have fl := readV_take xss (i + 1)
        unfold ReadInV
        rw [tf] at fl ⊢
        generalize ((xss.reverse.take i).map intsOf).flatten = Fl at *
        rw [List.length_append] at fl
        simp [onL_of upd_same, onL_of h1']
        exact ⟨line3 (by trivial), (s1.trans s2).upd_in hn, upd_same⟩
    · rintro σ H1 ⟨o, rfl, s1, h1⟩
      simp
      refine q n H1 s1 hn ?_
      rw [h1, List.length_map, la]
      have : xss.reverse.take xss.length = xss.reverse := List.take_of_length_le (by simp)
      rw [this]; rfl
noncomputable abbrev s_is_shape : Stmt := top 8
theorem sc_is_shape : FnScope ["lengths"] ["lengths"] (defScope s_is_shape) := ⟨rfl, rfl, rfl, by decide +kernel, rfl, by decide +kernel, by decide +kernel⟩
noncomputable def spIsShape : Sp := fun vs H Q _ => ∃ (a : Addr) (ls : List Int), vs = [.ref a] ∧ H a = some (.lst (ls.map V.int)) ∧ ls.length < 64 ∧ ∀ H', Same H H' → Q (.bl (shapeB ls)) H'
theorem ok_is_shape {f : Addr} {fd : FuncData} (F : Fun K "is_shape" "is_shape" s_is_shape f fd) (T : Bl mg) : FnOk P w K mg base CX0 1 f fd ["lengths"] spIsShape := by
  refine F.ok sc_is_shape (fun vs H Q E h => ?_) (fun cdv A outer s H vs Q E hr h => ?_)
  · obtain ⟨a, ls, rfl, _⟩ := h; rfl
  · obtain ⟨a, ls, rfl, ha, hz, q⟩ := h
    refine ⟨_, (pss_one (ps_ret (pe_and (pe_cmpR (f_eqF (hu64 hr)) (pv 0) (pe_sortedR (by rfl) T.sorted (pa_cons (pv 0) pa_nil)) (nomark _)) (pe_one (pe_callB (f_all rfl) (by rfl) T.all BI.all (pa_cons (pe_comp (cp := []) (M := ["length"]) rfl ⟨rfl, rfl, rfl, rfl, rfl, rfl, rfl⟩ (by decide +kernel) (pi_l (pv 0)) (fun _ _ _ _ _ => pts_nil) (fun _ _ _ _ _ => (pe_cmpR f_ge (pv 0) pe_int (nomark _)))) pa_nil)))))), ?_⟩
    have e0 : start ["lengths"] [V.ref a] = [some (.ref a)] := rfl
    rw [e0]
    simp [onL_of ha]
    refine ⟨ls, rfl, hz, fun p hp => ?_⟩
    have s1 := Same.upd_new (o := HO.lst ((sortR ls).map V.int)) hp
    refine eqF_ints (s1 _ _ ha) upd_same ?_
    rw [rd_onB]
    by_cases he : ls = sortR ls
    · rw [if_pos (by simpa using he)]
      refine comp_listP (a := a) (xs := ls.map V.int) (fun R h => by simpa using h) (s1 _ _ ha) (fun _ => true) (fun v => match v with | .int k => .bl (decide (1 ≤ k)) | _ => .non) (by rw [List.length_map]; trivial) (fun v hv H2 s2 R h => by simpa using h) (fun v hv _ H2 s2 R h => ?_) (fun D hD => ?_)
      · obtain ⟨k, hk, rfl⟩ := List.mem_map.mp hv
        simpa [cst] using h
      · rw [onL_of upd_same]
        refine ⟨ls.map fun k => decide (1 ≤ k), by rw [List.filter_eq_self.mpr (fun _ _ => rfl), List.map_map, List.map_map]; rfl, ?_⟩
        have : (ls.map fun k => decide (1 ≤ k)).all id = shapeB ls := by
          unfold shapeB
          rw [decide_eq_true he, Bool.true_and, List.all_map]; rfl
        rw [this]
        exact q _ (s1.trans (Same.upd_new hD))
    · rw [if_neg (by simpa using he)]
      have : shapeB ls = false := by unfold shapeB; rw [decide_eq_false he, Bool.false_and]
      have := q _ s1
      simpa [*] using this
noncomputable abbrev s_numbers_unlike : Stmt := top 25
theorem sc_numbers_unlike : FnScope ["rows", "numbers"] ["rows"] (defScope s_numbers_unlike) := ⟨rfl, rfl, rfl, by decide +kernel, rfl, by decide +kernel, by decide +kernel⟩
noncomputable def spUnlike : Sp := fun vs H Q _ => ∃ (a : Addr) (as : List Addr) (xss : List (List V)), vs = [.ref a] ∧ RowsV H a as xss ∧ xss.length ≤ 100 ∧ (readV xss).length ≤ 4000 ∧ (∀ r ∈ xss, r.length ≤ 5000) ∧ (∀ r ∈ xss, r.all isLeaf = true) ∧ ∀ H', Same H H' → Q (.bl (decide (readV xss).Nodup)) H'
theorem ok_unlike {f : Addr} {fd : FuncData} (F : Fun K "numbers_unlike" "numbers_unlike" s_numbers_unlike f fd) (T : Bl mg) (C_reading : Cal P w K mg base 1 "reading" ["rows"] spReadingV) : FnOk P w K mg base CX0 2 f fd ["rows"] spUnlike := by
  refine F.ok sc_numbers_unlike (fun vs H Q E h => ?_) (fun cdv A outer s H vs Q E hr h => ?_)
  · obtain ⟨a, as, xss, rfl, _⟩ := h; rfl
  · obtain ⟨a, as, xss, rfl, ha, hz, hz2, hz3, lf, q⟩ := h
    refine ⟨_, (pss_cons (ps_set (i := 1) sc_numbers_unlike.nd rfl (Or.inl rfl) (pe_cl C_reading (hr.mono (by decide)) (by rfl) (pa_cons (pv 0) pa_nil)))
      (pss_one (ps_ret (pe_cmpR (f_eqF (hu64 hr)) (pe_lenSet (by rfl) T.len (by rfl) T.set (pa_cons (pv 1) pa_nil) rfl) (pe_callB f_len (by rfl) T.len BI.len (pa_cons (pv 1) pa_nil)) (nomark _))))), ?_⟩
    have e0 : start ["rows", "numbers"] [V.ref a] = [some (.ref a), none] := rfl
    rw [e0]
    simp
    refine ⟨a, as, xss, rfl, ha, by trivial, by trivial, hz3, lf, fun r H1 s1 hr1 h1 => ?_⟩
    show onL _ _ _
    rw [onL_of h1]
    refine ⟨_, rfl, hz2, fun c hc1 hc2 => ?_⟩
    rw [onS_of h1]
    simp
    have : decide ((c : Int) = ((readV xss).length : Int)) = decide (readV xss).Nodup := by
      rw [decide_eq_decide, ← hc2]; trivial
    rw [this]
    exact q _ s1
noncomputable abbrev s_holes_in : Stmt := top 28
theorem sc_holes_in : FnScope ["line"] ["line"] (defScope s_holes_in) := ⟨rfl, rfl, rfl, by decide +kernel, rfl, by decide +kernel, by decide +kernel⟩
noncomputable def spHoles : Sp := fun vs H Q _ => ∃ (a : Addr) (l : List V), vs = [.ref a] ∧ H a = some (.lst l) ∧ l.all isLeaf = true ∧ Q (.int (holesV l : Int)) H
theorem ok_holes {f : Addr} {fd : FuncData} (F : Fun K "holes_in" "holes_in" s_holes_in f fd) (T : Bl mg) : FnOk P w K mg base CX0 1 f fd ["line"] spHoles := by
  refine F.ok sc_holes_in (fun vs H Q E h => ?_) (fun cdv A outer s H vs Q E hr h => ?_)
  · obtain ⟨a, l, rfl, _⟩ := h; rfl
  · obtain ⟨a, l, rfl, ha, lf, q⟩ := h
    refine ⟨_, (pss_one (ps_ret (pe_ml PySem.F.slot_list_count PySem.F.type_list_count f_count (pv 0) (pa_cons pe_non pa_nil)))), ?_⟩
    have e0 : start ["line"] [V.ref a] = [some (.ref a)] := rfl
    rw [e0]
    simp only [rd_ret, rd_ml, rd_var0, rd_onO, onL_of ha, rd_cons, rd_nil, rd_c, rd_count, rd_on1]
    exact ⟨rfl, leaf_flat lf, q⟩
noncomputable abbrev s_rises_behind_holes : Stmt := top 27
theorem sc_rises_behind_holes : FnScope ["line", "numbers"] ["line"] (defScope s_rises_behind_holes) := ⟨rfl, rfl, rfl, by decide +kernel, rfl, by decide +kernel, by decide +kernel⟩
noncomputable def spRises : Sp := fun vs H Q _ => ∃ (a : Addr) (l : List V), vs = [.ref a] ∧ H a = some (.lst l) ∧ l.all isLeaf = true ∧ l.length < 64 ∧ ∀ H', Same H H' → Q (.bl (riseV l)) H'
theorem ok_rises {f : Addr} {fd : FuncData} (F : Fun K "rises_behind_holes" "rises_behind_holes" s_rises_behind_holes f fd) (T : Bl mg) (C_holes_in : Cal P w K mg base 1 "holes_in" ["line"] spHoles) : FnOk P w K mg base CX0 2 f fd ["line"] spRises := by
  refine F.ok sc_rises_behind_holes (fun vs H Q E h => ?_) (fun cdv A outer s H vs Q E hr h => ?_)
  · obtain ⟨a, l, rfl, _⟩ := h; rfl
  · obtain ⟨a, l, rfl, ha, lf, hz, q⟩ := h
    refine ⟨_, (pss_cons (ps_comp (i := 1) sc_rises_behind_holes.nd rfl rfl (cp := []) (M := ["number"]) rfl ⟨rfl, rfl, rfl, rfl, rfl, rfl, rfl⟩ (by decide +kernel) (pi_l (pv 0)) (fun _ _ _ _ _ => (pts_one (pt_cmpR f_notN (pv 0) pe_non (nomark _)))) (fun _ _ _ _ _ => (pv 0)))
      (pss_one (ps_ret (pe_cmpR (f_eqF (hu64 hr)) (pv 0) (pe_op f_add (pe_op f_mulF (pe_lst (pa_cons pe_non pa_nil)) (pe_cl C_holes_in (hr.mono (by decide)) (by rfl) (pa_cons (pv 0) pa_nil))) (pe_callB f_sorted (by rfl) T.sorted BI.sorted (pa_cons (pv 1) pa_nil))) (nomark _))))), ?_⟩
    have e0 : start ["line", "numbers"] [V.ref a] = [some (.ref a), none] := rfl
    rw [e0]
    rw [rd_seq]
    have li := intsOf_len l
    have hl := holesV_le l
    refine comp_listP (a := a) (xs := l) (fun R h => by simpa using h) ha (fun v => !decide (v = V.non)) id (by trivial) (fun v hv H2 s2 R h => by simpa [cst] using h) (fun v hv _ H2 s2 R h => by simpa [cst] using h) (fun D hD => ?_)
    rw [List.map_id, leaf_filter lf]
    have s1 := Same.upd_new (o := HO.lst ((intsOf l).map V.int)) hD
    have hD1 : upd H D (HO.lst ((intsOf l).map V.int)) D = some (HO.lst ((intsOf l).map V.int)) := upd_same
    generalize upd H D (HO.lst ((intsOf l).map V.int)) = H1 at *
    simp
    refine ⟨line3 (by decide), fun p1 hp1 => ?_⟩
    have s2 := Same.upd_new (o := HO.lst [V.non]) hp1
    refine ⟨a, l, rfl, s2 _ _ (s1 _ _ ha), lf, ?_⟩
    show onI _ _
    rw [rd_onI, onL_of upd_same]
    refine ⟨⟨by trivial, by simp; trivial, by trivial⟩, fun p2 hp2 => ?_⟩
    have e1 : (List.replicate ((holesV l : Int)).toNat [V.non]).flatten = List.replicate (holesV l) V.non := by
      rw [Int.toNat_natCast]
      induction holesV l with
      | zero => rfl
      | succ n ih => rw [List.replicate_succ, List.flatten_cons, ih, List.replicate_succ]; rfl
    rw [e1]
    have s3 := Same.upd_new (o := HO.lst (List.replicate (holesV l) V.non)) hp2
    rw [onL_of ((s2.trans s3) _ _ hD1)]
    refine ⟨intsOf l, rfl, by trivial, fun p3 hp3 => ?_⟩
    have s4 := Same.upd_new (o := HO.lst ((sortZ (intsOf l)).map V.int)) hp3
    rw [onL_of (s4 _ _ upd_same), onL_of upd_same]
    refine ⟨line3 (by simp [sortZ_len]; trivial), fun p4 hp4 => ?_⟩
    have s5 := Same.upd_new (o := HO.lst (List.replicate (holesV l) V.non ++ (sortZ (intsOf l)).map V.int)) hp4
    have s15 := ((s1.trans s2).trans s3).trans (s4.trans s5)
    refine eqF_leaf (s15 _ _ ha) upd_same lf ?_ (q _ s15)
    rw [List.all_append, Bool.and_eq_true]
    exact ⟨by simp [List.all_replicate, isLeaf], leaf_ints _⟩
noncomputable abbrev s_all_rise : Stmt := top 26
theorem sc_all_rise : FnScope ["lines"] ["lines"] (defScope s_all_rise) := ⟨rfl, rfl, rfl, by decide +kernel, rfl, by decide +kernel, by decide +kernel⟩
noncomputable def spAllRise : Sp := fun vs H Q _ => ∃ (a : Addr) (as : List Addr) (xss : List (List V)), vs = [.ref a] ∧ RowsV H a as xss ∧ xss.length ≤ 5000 ∧ (∀ r ∈ xss, r.length < 64) ∧ (∀ r ∈ xss, r.all isLeaf = true) ∧ ∀ H', Same H H' → Q (.bl (xss.all riseV)) H'
theorem ok_all_rise {f : Addr} {fd : FuncData} (F : Fun K "all_rise" "all_rise" s_all_rise f fd) (T : Bl mg) (C_rises_behind_holes : Cal P w K mg base 2 "rises_behind_holes" ["line"] spRises) : FnOk P w K mg base CX0 3 f fd ["lines"] spAllRise := by
  refine F.ok sc_all_rise (fun vs H Q E h => ?_) (fun cdv A outer s H vs Q E hr h => ?_)
  · obtain ⟨a, as, xss, rfl, _⟩ := h; rfl
  · obtain ⟨a, as, xss, rfl, ha, hz, hz2, lf, q⟩ := h
    refine ⟨_, (pss_one (ps_ret (pe_callB (f_all rfl) (by rfl) T.all BI.all (pa_cons (pe_comp (cp := []) (M := ["line"]) rfl ⟨rfl, rfl, rfl, rfl, rfl, rfl, rfl⟩ (by decide +kernel) (pi_l (pv 0)) (fun _ _ _ _ _ => pts_nil) (fun _ _ _ _ _ => (pe_cl C_rises_behind_holes (hr.mono (by decide)) (by rfl) (pa_cons (pv 0) pa_nil)))) pa_nil)))), ?_⟩
    have e0 : start ["lines"] [V.ref a] = [some (.ref a)] := rfl
    rw [e0]
    have la := RowsW.len ha.row
    simp only [rd_ret, rd_cb, rd_cons]
    refine comp_listG (fun R h => by simpa using h) ha.top (fun _ => true) (fun v => .bl (riseV (lstV H v))) (by rw [List.length_map]; trivial) (fun v hv H' s R h => by simpa using h H' (fun _ _ e => e)) (fun v hv _ H' s R h => ?_) (fun D H' hD s1 hd => ?_)
    · obtain ⟨b, xs, rfl, hb, hx, e⟩ := rowsV_mem ha.row hv
      simp [cst]
      rw [lstV_of e] at h
      exact ⟨b, xs, rfl, s _ _ e, lf xs hx, hz2 xs hx, h⟩
    · rw [rd_nil, rd_all, rd_on1, onL_of hd]
      refine ⟨xss.map riseV, ?_, ?_⟩
      · rw [List.filter_eq_self.mpr (fun _ _ => rfl), rowsV_map ha.row _ (fun r => V.bl (riseV r)) (fun b xs _ hx e => by rw [lstV_of e]), List.map_map]; rfl
      · rw [List.all_map]
        exact q _ s1
noncomputable abbrev s_is_holed : Stmt := top 24
theorem sc_is_holed : FnScope ["rows"] ["rows"] (defScope s_is_holed) := ⟨rfl, rfl, rfl, by decide +kernel, rfl, by decide +kernel, by decide +kernel⟩
noncomputable def spHoled : Sp := fun vs H Q _ => ∃ (a : Addr) (as : List Addr) (xss : List (List V)), vs = [.ref a] ∧ RowsV H a as xss ∧ xss.length < 64 ∧ (readV xss).length ≤ 4000 ∧ (∀ r ∈ xss, r.length < 64) ∧ (∀ r ∈ xss, r.all isLeaf = true) ∧ ∀ H', Same H H' → Q (.bl (holedV xss)) H'
theorem ok_is_holed {f : Addr} {fd : FuncData} (F : Fun K "is_holed" "is_holed" s_is_holed f fd) (T : Bl mg) (C_shape : Cal P w K mg base 1 "shape" ["rows"] spShapeV) (C_is_shape : Cal P w K mg base 1 "is_shape" ["lengths"] spIsShape) (C_numbers_unlike : Cal P w K mg base 2 "numbers_unlike" ["rows"] spUnlike) (C_all_rise : Cal P w K mg base 3 "all_rise" ["lines"] spAllRise) (C_turned : Cal P w K mg base 2 "turned" ["rows"] spTurnedV) : FnOk P w K mg base CX0 4 f fd ["rows"] spHoled := by
  refine F.ok sc_is_holed (fun vs H Q E h => ?_) (fun cdv A outer s H vs Q E hr h => ?_)
  · obtain ⟨a, as, xss, rfl, _⟩ := h; rfl
  · obtain ⟨a, as, xss, rfl, ha, hz, hz2, hz3, lf, q⟩ := h
    refine ⟨_, (pss_one (ps_ret (pe_and (pe_cl C_is_shape (hr.mono (by decide)) (by rfl) (pa_cons (pe_cl C_shape (hr.mono (by decide)) (by rfl) (pa_cons (pv 0) pa_nil)) pa_nil)) (pe_and (pe_cl C_numbers_unlike (hr.mono (by decide)) (by rfl) (pa_cons (pv 0) pa_nil)) (pe_and (pe_cl C_all_rise (hr.mono (by decide)) (by rfl) (pa_cons (pv 0) pa_nil)) (pe_one (pe_cl C_all_rise (hr.mono (by decide)) (by rfl) (pa_cons (pe_cl C_turned (hr.mono (by decide)) (by rfl) (pa_cons (pv 0) pa_nil)) pa_nil)))))))), ?_⟩
    have e0 : start ["rows"] [V.ref a] = [some (.ref a)] := rfl
    rw [e0]
    unfold holedV at q
    simp
    refine ⟨a, as, xss, rfl, ha, by trivial, fun r H1 s1 hr1 h1 => ?_⟩
    refine ⟨r, _, rfl, h1, by simp [lensV]; trivial, fun H2 s2 => ?_⟩
    have s12 := s1.trans s2
    show if _ then _ else _
    by_cases c1 : shapeB (lensV xss) = true
    · rw [if_pos c1]
      rw [c1, Bool.true_and] at q
      refine ⟨a, as, xss, rfl, ha.same s12, by trivial, hz2, fun r hr => by have := hz3 r hr; trivial, lf, fun H3 s3 => ?_⟩
      have s13 := s12.trans s3
      show if _ then _ else _
      by_cases c2 : (readV xss).Nodup
      · rw [if_pos (by simpa using c2)]
        rw [decide_eq_true c2, Bool.true_and] at q
        refine ⟨a, as, xss, rfl, ha.same s13, by trivial, hz3, lf, fun H4 s4 => ?_⟩
        have s14 := s13.trans s4
        show if _ then _ else _
        by_cases c3 : xss.all riseV = true
        · rw [if_pos c3]
          rw [c3, Bool.true_and] at q
          refine ⟨a, as, xss, rfl, ha.same s14, by trivial, fun r hr => by have := hz3 r hr; trivial, fun t ts H5 s5 h5 fr5 => ?_⟩
          refine ⟨t, ts, turnV xss, rfl, h5, ?_, fun r hr => ?_, fun r hr => ?_, fun H6 s6 => q _ ((s14.trans s5).trans s6)⟩
          · simp [turnV, widthV]
            cases xss with
            | nil => simp
            | cons r0 R => have := hz3 r0 List.mem_cons_self; simp; trivial
          · obtain ⟨p, _, rfl⟩ := List.mem_map.mp hr
            have := colV_len xss p
            trivial
          · obtain ⟨p, _, rfl⟩ := List.mem_map.mp hr
            exact leaf_col lf p
        · rw [if_neg c3]
          simp only [Bool.not_eq_true] at c3
          rw [c3, Bool.false_and] at q
          exact q _ s14
      · rw [if_neg (by simpa using c2)]
        rw [decide_eq_false c2, Bool.false_and, Bool.false_and] at q
        exact q _ s13
    · rw [if_neg c1]
      simp only [Bool.not_eq_true] at c1
      rw [c1, Bool.false_and, Bool.false_and, Bool.false_and] at q
      exact q _ s12
end
end SR
namespace SR
open PySem L2 RS PySem.Spec PyProof.Rows
section
variable {P : Program} {w : World} {K : PySem.W.Frag} {mg : Str → Option Value} {base : Heap}
noncomputable abbrev s_law_number_or : Stmt := top 43
theorem sc_law_number_or : FnScope ["number", "low"] ["number", "low"] (defScope s_law_number_or) := ⟨rfl, rfl, rfl, by decide +kernel, rfl, by decide +kernel, by decide +kernel⟩
noncomputable def spNumOr : Sp := fun vs H Q _ => ∃ (n : Int) (a : Addr) (low : List Int), vs = [.int n, .ref a] ∧ H a = some (.lst (low.map V.int)) ∧ Q (hol low n) H
theorem ok_numor {f : Addr} {fd : FuncData} (F : Fun K "_law_number_or" "_law_number_or" s_law_number_or f fd) (T : Bl mg) : FnOk P w K mg base CX0 1 f fd ["number", "low"] spNumOr := by
  refine F.ok sc_law_number_or (fun vs H Q E h => ?_) (fun cdv A outer s H vs Q E hr h => ?_)
  · obtain ⟨n, a, low, rfl, _⟩ := h; rfl
  · obtain ⟨n, a, low, rfl, ha, q⟩ := h
    refine ⟨_, (pss_cons (ps_if (pt_cmpR f_in (pv 0) (pv 1) (by with_unfolding_all rfl)) (pss_one (ps_ret pe_non)) pss_nil)
      (pss_one (ps_ret (pv 0)))), ?_⟩
    have e0 : start ["number", "low"] [V.int n, V.ref a] = [some (.int n), some (.ref a)] := rfl
    rw [e0, rd_seq]
    refine ifS (decide (n ∈ low)) H (fun R h => ?_) ?_
    · simp only [rd_test, rd_op, rd_var0, rd_var1, rd_onO, rd_in, onS_of ha]
      exact ⟨rfl, flat_ints low, by rw [in_int]; exact h⟩
    · unfold hol at q
      by_cases hm : n ∈ low
      · rw [if_pos (by simpa using hm)]
        rw [if_pos hm] at q
        exact q
      · rw [if_neg (by simpa using hm), rd_next]
        rw [if_neg hm] at q
        dsimp only
        simpa using q
noncomputable abbrev s_law_holed_by : Stmt := top 42
theorem sc_law_holed_by : FnScope ["script", "rows", "numbers", "row", "low"] ["script", "rows"] (defScope s_law_holed_by) := ⟨rfl, rfl, rfl, by decide +kernel, rfl, by decide +kernel, by decide +kernel⟩
noncomputable def spHoledBy (K : PySem.W.Frag) : Sp := fun vs H Q _ => ∃ (a : Addr) (ns : List Int) (b : Addr) (bs : List Addr) (R : List (List Int)), vs = [.ref a, .ref b] ∧ SqL K H a (ns.map V.int) ∧ ns.length ≤ 63 ∧ RowsAt H b bs R ∧ R.length ≤ 60 ∧ R.flatten.length ≤ 60 ∧ (∀ r ∈ R, r.length ≤ 60) ∧
  ∀ r rs H' low, Same H H' → Down low R → RowsV H' r rs (holR low R) → Fresh H (r :: rs) → Q (.ref r) H'
noncomputable def HbIn (H : Hp) (a b : Addr) (R : List (List Int)) (i : Nat) (σ : L2.St) (H' : Hp) : Prop := ∃ (n : Addr) (o : Option V), σ = [some (.ref a), some (.ref b), some (.ref n), o, none] ∧ Same H H' ∧ H' n = some (.lst ((R.take i).flatten.map V.int))
theorem ok_holed_by {f : Addr} {fd : FuncData} (F : Fun K "_law_holed_by" "_law_holed_by" s_law_holed_by f fd) (T : Bl mg) (C_law_drawn : Cal P w K mg base 1 "_law_drawn" ["script", "k", "many"] (spDrawn K)) (C_law_number_or : Cal P w K mg base 1 "_law_number_or" ["number", "low"] spNumOr) : FnOk P w K mg base CX0 2 f fd ["script", "rows"] (spHoledBy K) := by
  refine F.ok sc_law_holed_by (fun vs H Q E h => ?_) (fun cdv A outer s H vs Q E hr h => ?_)
  · obtain ⟨a, ns, b, bs, R, rfl, _⟩ := h; rfl
  · obtain ⟨a, ns, b, bs, R, rfl, hS, hl, hb, hz, hz2, hz3, q⟩ := h
    refine ⟨_, (pss_cons (ps_set (i := 2) sc_law_holed_by.nd rfl (Or.inl rfl) (pe_lst pa_nil))
      (pss_cons (ps_for PassesOwn.never rfl (pi_l (pv 1)) (pg_name (i := 3) sc_law_holed_by.nd rfl (Or.inl rfl)) (pss_one (ps_set (i := 2) sc_law_holed_by.nd rfl (Or.inl rfl) (pe_op f_add (pv 2) (pv 3)))))
      (pss_cons (ps_set (i := 4) sc_law_holed_by.nd rfl (Or.inr rfl) (pe_slice f_sl (pe_callB f_sorted (by rfl) T.sorted BI.sorted (pa_cons (pv 2) pa_nil)) po_none (po_some (pe_cl C_law_drawn (hr.mono (by decide)) (by rfl) (pa_cons (pv 0) (pa_cons pe_int (pa_cons (pe_op f_add (pe_callB f_len (by rfl) T.len BI.len (pa_cons (pv 2) pa_nil)) pe_int) pa_nil)))))))
      (pss_cons (ps_if (pt_cmpR (f_eqF (hu64 hr)) (pe_cl C_law_drawn (hr.mono (by decide)) (by rfl) (pa_cons (pv 0) (pa_cons pe_int (pa_cons pe_int pa_nil)))) pe_int (nomark _)) (pss_one (ps_set (i := 4) sc_law_holed_by.nd rfl (Or.inr rfl) (pe_slice f_sl (pv 4) po_none (po_some pe_int)))) pss_nil)
      (pss_one (ps_ret (pe_comp (cp := [4]) (M := ["row", "low"]) rfl ⟨rfl, rfl, rfl, rfl, rfl, rfl, rfl⟩ (by decide +kernel) (pi_l (pv 1)) (fun _ _ _ _ _ => pts_nil) (fun _ _ _ _ _ => (pe_comp (cp := [1]) (M := ["number", "low"]) rfl ⟨rfl, rfl, rfl, rfl, rfl, rfl, rfl⟩ (by decide +kernel) (pi_lK (K := K) rfl (pv 0)) (fun _ _ _ _ _ => pts_nil) (fun _ _ _ _ _ => (pe_cl C_law_number_or (hr.mono (by decide)) (by rfl) (pa_cons (pv 0) (pa_cons (pv 1) pa_nil))))))))))))), ?_⟩
    have e0 : start ["script", "rows", "numbers", "row", "low"] [V.ref a, V.ref b] = [some (.ref a), some (.ref b), none, none, none] := rfl
    rw [e0]
    have lb := RowsL.len hb.row
    have ft : ∀ i, (R.take i).flatten.length ≤ 60 := fun i => by
      have : (R.take i).flatten.length ≤ R.flatten.length := by
        conv => rhs; rw [← List.take_append_drop i R, List.flatten_append, List.length_append]
        trivial
      trivial
    have fin : ∀ (n : Addr) (o : Option V) (lw : Addr) (H1 : Hp) (low : List Int), Same H H1 → Down low R → H1 lw = some (.lst (low.map V.int)) →
        tRet (tComp (iL K (tVar 1)) [4] tNoTest (tComp (iL K (tVar 0)) [1] tNoTest (tCl spNumOr (tCons (tVar 0) (tCons (tVar 1) tNil))))) { nx := fun x H' => Q V.non H', rt := Q } [some (.ref a), some (.ref b), some (.ref n), o, some (.ref lw)] H1 := fun n o lw H1 low s1 dn h1 => by
      rw [rd_ret]
      refine comp_listTV (a := b) (xs := bs.map V.ref) (fun R h => by simpa using h) (s1 _ _ hb.top) (fun _ => true) (fun v => match v with | .ref c => (match H c with | some (.lst ys) => (intsOf ys).map (hol low) | _ => []) | _ => []) (by rw [List.length_map]; trivial) (fun v hv H' s R h => by simpa using h H' (fun _ _ e => e)) (fun v hv _ H' s' Rr h => ?_) (fun D as H' hD s' ra fr => ?_)
      · obtain ⟨c, hc, rfl⟩ := List.mem_map.mp hv
        obtain ⟨i, hi⟩ := List.getElem?_of_mem hc
        obtain ⟨x, ex, hx⟩ := RowsL.get' hb.row hi
        have hx' := s' _ _ (s1 _ _ hx)
        simp only [hx, intsOf_ints] at h
        have lx := hz3 x (List.mem_of_getElem? ex)
        refine comp_listP (a := c) (xs := x.map V.int) (fun R h => by simpa [cst] using h) hx' (fun _ => true) (fun v => match v with | .int k => hol low k | _ => .non) (by rw [List.length_map]; trivial) (fun v hv H2 s2 R h => by simpa using h) (fun v hv _ H2 s2 R h => ?_) (fun D hD => ?_)
        · obtain ⟨k, hk, rfl⟩ := List.mem_map.mp hv
          simp [cst]
          exact ⟨k, lw, low, rfl, s2 _ _ (s' _ _ h1), h⟩
        · refine h D _ (Same.upd_new hD) hD ?_
          rw [upd_same, List.filter_eq_self.mpr (fun _ _ => rfl), List.map_map]; rfl
      · refine q D as H' low (s1.trans s') dn ?_ (fr.old s1)
        rw [List.filter_eq_self.mpr (fun _ _ => rfl)] at ra
        have : (bs.map V.ref).map (fun v => match v with | .ref c => (match H c with | some (.lst ys) => (intsOf ys).map (hol low) | _ => []) | _ => []) = holR low R := by
          have : ∀ {bs : List Addr} {R : List (List Int)}, RowsL H bs R → (bs.map V.ref).map (fun v => match v with | .ref c => (match H c with | some (.lst ys) => (intsOf ys).map (hol low) | _ => []) | _ => []) = holR low R := by
            intro bs R h
            induction h with
            | nil => rfl
            | cons r t ih =>
              rw [List.map_cons, List.map_cons, ih]
              simp [r, intsOf_ints, holR]
          exact this hb.row
        rw [this] at ra
        exact ra
    simp only [rd_seq, rd_asg, rd_lst, rd_nil, rd_name, List.set_cons_succ, List.set_cons_zero]
    refine ⟨line3 (by decide), fun n0 hn0 => ?_⟩
    have s0 := Same.upd_new (o := HO.lst []) hn0
    refine for_listF (K := K) b (bs.map V.ref) (fun N h => by simp [onL_of (s0 _ _ hb.top)]; exact h) (HbIn H a b R) ⟨n0, none, rfl, s0, by rw [upd_same]; rfl⟩ (fun i σ H' _ ⟨_, _, _, s1, _⟩ => s1 _ _ hb.top) ?_ ?_
    · rintro i v σ H1 ev ⟨n, o, rfl, s1, h1⟩
      rw [List.getElem?_map] at ev
      cases ea : bs[i]? with
      | none => rw [ea] at ev; cases ev
      | some p =>
        rw [ea] at ev
        have ev' : v = .ref p := by simpa using ev.symm
        subst ev'
        obtain ⟨r, er, hp⟩ := RowsL.get' hb.row ea
        have l1 := ft (i + 1)
        have tf : (R.take (i + 1)).flatten = (R.take i).flatten ++ r := by rw [take_next er, List.flatten_append]; simp
        unfold HbIn
        rw [tf] at l1 ⊢
        generalize (R.take i).flatten = Fl at *
        rw [List.length_append] at l1
        simp [onL_of h1, onL_of (s1 _ _ hp)]
        exact ⟨line3 (by trivial), fun p1 hp1 => ⟨s1.trans (Same.upd_new hp1), upd_same⟩⟩
    · rintro σ H1 ⟨n, o, rfl, s1, h1⟩
      rw [List.length_map, lb, List.take_length] at h1
      try dsimp only
      try rw [rd_seq]
      try rw [rd_asg]
      simp only [rd_sl, rd_cb, rd_cons, rd_nil, rd_var2, rd_var1, rd_var0, rd_onO, rd_sorted, rd_on1, onL_of h1, rd_nopart]
      refine ⟨R.flatten, rfl, by trivial, fun p1 hp1 => ?_⟩
      have s2 := Same.upd_new (o := HO.lst ((sortZ R.flatten).map V.int)) hp1
      simp only [rd_part, rd_cl, rd_cons, rd_nil, rd_var2, rd_var1, rd_var0, rd_onO, rd_c, rd_op, rd_cb, rd_len, rd_on1, onS_of (s2 _ _ h1), rd_plusI, rd_onI, List.length_map]
      refine ⟨a, ns, _, _, rfl, (s1.trans s2).seq hS, hl, by decide, by decide, by trivial, ?_⟩
      have d0 := drawn_lo ns 200 (m := (R.flatten.length : Int) + 1) (by trivial)
      have d1 := drawn_hi ns 200 (m := (R.flatten.length : Int) + 1) (by trivial)
      generalize drawnZ ns 200 ((R.flatten.length : Int) + 1) = d at *
      have ct : cutV ((sortZ R.flatten).map V.int) none (some d) = ((sortZ R.flatten).take d.toNat).map V.int := by
        have := cut_to (xs := (sortZ R.flatten).map V.int) (p := d.toNat) (by rw [List.length_map, sortZ_len]; trivial)
        rw [Int.toNat_of_nonneg d0] at this
        rw [this, List.map_take]
      simp only [rd_onI, rd_cut, onL_of upd_same, ct, rd_new]
      intro p2 hp2
      have s3 := Same.upd_new (o := HO.lst (((sortZ R.flatten).take d.toNat).map V.int)) hp2
      have h3 : upd (upd H1 p1 (HO.lst ((sortZ R.flatten).map V.int))) p2 (HO.lst (((sortZ R.flatten).take d.toNat).map V.int)) p2 = some (HO.lst (((sortZ R.flatten).take d.toNat).map V.int)) := upd_same
      have s13 := (s1.trans s2).trans s3
      generalize upd (upd H1 p1 (HO.lst ((sortZ R.flatten).map V.int))) p2 (HO.lst (((sortZ R.flatten).take d.toNat).map V.int)) = H3 at *
      refine ifS (decide (drawnZ ns 201 2 = 1)) H3 (fun Rr h => ?_) ?_
      · simp
        exact ⟨a, ns, _, _, rfl, s13.seq hS, hl, by decide, by decide, by decide, by simpa using h⟩
      by_cases h4 : drawnZ ns 201 2 = 1
      · rw [if_pos (by simpa using h4)]
        simp [onL_of h3]
        intro p4 hp4
        have c4 : cutV (((sortZ R.flatten).take d.toNat).map V.int) none (some 4) = (((sortZ R.flatten).take d.toNat).take 4).map V.int := by
          by_cases hlen : 4 ≤ (((sortZ R.flatten).take d.toNat).map V.int).length
          · have := cut_to (p := 4) hlen
            rw [← List.map_take] at this
            exact this
          · have : (((sortZ R.flatten).take d.toNat).take 4) = (sortZ R.flatten).take d.toNat := List.take_of_length_le (by rw [List.length_map] at hlen; trivial)
            rw [this]
            unfold cutV
            have e1 : HT.sIx (((sortZ R.flatten).take d.toNat).map V.int).length 0 none = 0 := rfl
            have e2 : HT.sIx (((sortZ R.flatten).take d.toNat).map V.int).length (((sortZ R.flatten).take d.toNat).map V.int).length (some 4) = min 4 (((sortZ R.flatten).take d.toNat).map V.int).length := HT.sIx_nat _ _ 4
            rw [e1, e2]
            simp only [List.drop_zero, Nat.sub_zero]
            exact List.take_of_length_le (by trivial)
        simp only [← List.map_take] at c4 ⊢
        rw [c4]
        exact fin n o p4 _ _ (s13.trans (Same.upd_new hp4)) (down_take2 d.toNat 4) upd_same
      · rw [if_neg (by simpa using h4), rd_next]
        exact fin n o p2 _ _ s13 (down_take d.toNat) h3
end
end SR
namespace SR
open PySem L2 RS PySem.Spec PyProof.Rows
section
variable {P : Program} {w : World} {K : PySem.W.Frag} {mg : Str → Option Value} {base : Heap}
theorem cell_at {H : Hp} {a : Addr} {as : List Addr} {X : List (List V)} {i j : Nat} {v : V} (h : RowsV H a as X) (c : cellV X i j = some v) : ∃ b r, as[i]? = some b ∧ X[i]? = some r ∧ H b = some (.lst r) ∧ r[j]? = some v := by
  obtain ⟨hi, r, er, hj, ev⟩ := cell_lt c
  obtain ⟨b, eb, hb⟩ := RowsW.get h.row er
  exact ⟨b, r, eb, er, hb, ev⟩
noncomputable abbrev s_has_place : Stmt := top 32
theorem sc_has_place : FnScope ["rows", "at", "place"] ["rows", "at", "place"] (defScope s_has_place) := ⟨rfl, rfl, rfl, by decide +kernel, rfl, by decide +kernel, by decide +kernel⟩
noncomputable def spHas : Sp := fun vs H Q _ => ∃ (a : Addr) (as : List Addr) (X : List (List V)) (i j : Nat), vs = [.ref a, .int (i : Int), .int (j : Int)] ∧ RowsV H a as X ∧ Q (.bl (cellV X i j).isSome) H
theorem ok_has {f : Addr} {fd : FuncData} (F : Fun K "has_place" "has_place" s_has_place f fd) (T : Bl mg) : FnOk P w K mg base CX0 1 f fd ["rows", "at", "place"] spHas := by
  refine F.ok sc_has_place (fun vs H Q E h => ?_) (fun cdv A outer s H vs Q E hr h => ?_)
  · obtain ⟨a, as, X, i, j, rfl, _⟩ := h; rfl
  · obtain ⟨a, as, X, i, j, rfl, ha, q⟩ := h
    refine ⟨_, (pss_one (ps_ret (pe_and (pe_cmpR f_lt (pv 1) (pe_callB f_len (by rfl) T.len BI.len (pa_cons (pv 0) pa_nil)) (nomark _)) (pe_one (pe_cmpR f_lt (pv 2) (pe_callB f_len (by rfl) T.len BI.len (pa_cons (pe_ix f_ix (pv 0) (pv 1) (fun _ _ => rfl)) pa_nil)) (nomark _)))))), ?_⟩
    have e0 : start ["rows", "at", "place"] [V.ref a, V.int (i : Int), V.int (j : Int)] = [some (.ref a), some (.int (i : Int)), some (.int (j : Int))] := rfl
    rw [e0]
    have la := RowsW.len ha.row
    simp only [rd_ret, rd_andV, rd_op, rd_var0, rd_var1, rd_var2, rd_onO, rd_cb, rd_cons, rd_nil, rd_len, rd_on1, onS_of ha.top, rd_II, rd_onI, rd_onB, List.length_map]
    by_cases hi : i < X.length
    · have ei : X[i]? = some X[i] := List.getElem?_eq_getElem hi
      obtain ⟨b, eb, hb⟩ := RowsW.get ha.row ei
      rw [if_pos (by simp; trivial)]
      simp only [rd_ix, rd_onI, onS_of ha.top, atI_ref eb, rd_onO, onS_of hb, rd_II]
      have : decide ((j : Int) < (X[i].length : Int)) = (cellV X i j).isSome := by
        unfold cellV
        rw [ei, Option.bind_some]
        by_cases hj : j < X[i].length
        · rw [List.getElem?_eq_getElem hj]; simpa using hj
        · rw [List.getElem?_eq_none (by trivial)]; simpa using hj
      rw [this]; exact q
    · rw [if_neg (by simp; trivial)]
      have : cellV X i j = none := by unfold cellV; rw [List.getElem?_eq_none (by trivial)]; rfl
      simpa [this] using q
noncomputable abbrev s_moves_up : Stmt := top 33
theorem sc_moves_up : FnScope ["rows", "at", "place"] ["rows", "at", "place"] (defScope s_moves_up) := ⟨rfl, rfl, rfl, by decide +kernel, rfl, by decide +kernel, by decide +kernel⟩
noncomputable def upV (X : List (List V)) (i j : Nat) : Bool := match cellV X (i + 1) j, cellV X i (j + 1) with
  | none, _ => false
  | some _, none => true
  | some (.int b), some (.int r) => decide (b < r)
  | _, _ => false
noncomputable def spUp : Sp := fun vs H Q _ => ∃ (a : Addr) (as : List Addr) (X : List (List V)) (i j : Nat), vs = [.ref a, .int (i : Int), .int (j : Int)] ∧ RowsV H a as X ∧ (∀ v, cellV X (i + 1) j = some v → ∃ n, v = .int n) ∧ (∀ v, cellV X i (j + 1) = some v → ∃ n, v = .int n) ∧ Q (.bl (upV X i j)) H
theorem ok_up {f : Addr} {fd : FuncData} (F : Fun K "moves_up" "moves_up" s_moves_up f fd) (T : Bl mg) (C_has_place : Cal P w K mg base 1 "has_place" ["rows", "at", "place"] spHas) : FnOk P w K mg base CX0 2 f fd ["rows", "at", "place"] spUp := by
  refine F.ok sc_moves_up (fun vs H Q E h => ?_) (fun cdv A outer s H vs Q E hr h => ?_)
  · obtain ⟨a, as, X, i, j, rfl, _⟩ := h; rfl
  · obtain ⟨a, as, X, i, j, rfl, ha, n1, n2, q⟩ := h
    refine ⟨_, (pss_cons (ps_if (pt_not (pt_val (pe_cl C_has_place (hr.mono (by decide)) (by rfl) (pa_cons (pv 0) (pa_cons (pe_op f_add (pv 1) pe_int) (pa_cons (pv 2) pa_nil)))))) (pss_one (ps_ret pe_bl)) pss_nil)
      (pss_one (ps_ret (pe_or (pe_not (pe_cl C_has_place (hr.mono (by decide)) (by rfl) (pa_cons (pv 0) (pa_cons (pv 1) (pa_cons (pe_op f_add (pv 2) pe_int) pa_nil))))) (pe_one (pe_cmpR f_lt (pe_ix f_ix (pe_ix f_ix (pv 0) (pe_op f_add (pv 1) pe_int) (fun _ _ => rfl)) (pv 2) (fun _ _ => rfl)) (pe_ix f_ix (pe_ix f_ix (pv 0) (pv 1) (fun _ _ => rfl)) (pe_op f_add (pv 2) pe_int) (fun _ _ => rfl)) (nomark _))))))), ?_⟩
    have e0 : start ["rows", "at", "place"] [V.ref a, V.int (i : Int), V.int (j : Int)] = [some (.ref a), some (.int (i : Int)), some (.int (j : Int))] := rfl
    rw [e0]
    unfold upV at q
    simp
    refine ⟨a, as, X, i + 1, j, by simp, ha, ?_⟩
    cases cb : cellV X (i + 1) j with
    | none =>
      rw [cb] at q
      simpa using q
    | some vb =>
      obtain ⟨nb, rfl⟩ := n1 _ cb
      simp
      refine ⟨a, as, X, i, j + 1, by simp, ha, ?_⟩
      cases cr : cellV X i (j + 1) with
      | none =>
        rw [cb, cr] at q
        simpa using q
      | some vr =>
        obtain ⟨nr, rfl⟩ := n2 _ cr
        rw [cb, cr] at q
        obtain ⟨b1, r1, eb1, er1, hb1, ev1⟩ := cell_at ha cb
        obtain ⟨b2, r2, eb2, er2, hb2, ev2⟩ := cell_at ha cr
        have a1 : atI (as.map V.ref) ((i : Int) + 1) = some (.ref b1) := by have := atI_ref eb1; simpa using this
        have a3 : atI r2 ((j : Int) + 1) = some (.int nr) := by have := atI_nat ev2; simpa using this
        simp [onS_of ha.top, a1, atI_ref eb2, onS_of hb1, onS_of hb2, atI_nat ev1, a3]
        exact q
noncomputable abbrev s_slid : Stmt := top 31
theorem sc_slid : FnScope ["rows", "at", "left", "hole_at", "place"] ["rows", "at"] (defScope s_slid) := ⟨rfl, rfl, rfl, by decide +kernel, rfl, by decide +kernel, by decide +kernel⟩
structure SlOk (X : List (List V)) (i : Nat) : Prop where
  row : ∃ r, X[i]? = some r ∧ 0 < holesV r
  num : ∃ hs : Nat → Nat, (∀ k, hs (k + 1) ≤ hs k) ∧ NumF hs X ∧ hs (i + 1) < hs i ∧ ∀ r, X[i]? = some r → hs i = holesV r
  leaf : ∀ r ∈ X, r.all isLeaf = true
  size : X.length < 64
  wide : ∀ r ∈ X, r.length < 64
noncomputable def plV (X : List (List V)) (i : Nat) : Nat := holesV (X.getD i []) - 1
noncomputable def spSlid : Sp := fun vs H Q _ => ∃ (a : Addr) (as : List Addr) (X : List (List V)) (i : Nat) (F : List (List V) × Nat), vs = [.ref a, .int (i : Int)] ∧ RowsV H a as X ∧ SlOk X i ∧ SlidR X i (plV X i) F ∧
  ∀ r b bs H', Same H H' → H r = none → H' r = some (.tup [.ref b, .int (F.2 : Int)]) → RowsV H' b bs F.1 → Fresh H (b :: bs) → Q (.ref r) H'
noncomputable def SlIn (H : Hp) (a l : Addr) (ls : List Addr) (i0 N W : Nat) (hs : Nat → Nat) (F : List (List V) × Nat) (m : Nat) (σ : L2.St) (H' : Hp) : Prop := ∃ (X : List (List V)) (i j : Nat), m = N + W - (i + j) ∧ σ = [some (.ref a), some (.int (i0 : Int)), some (.ref l), some (.int (i : Int)), some (.int (j : Int))] ∧ Same H H' ∧ RowsV H' l ls X ∧ SlidR X i j F ∧
  X.length = N ∧ (∀ r ∈ X, r.length ≤ W) ∧ NumF hs X ∧ hs (i + 1) ≤ j ∧ hs i ≤ j + 1 ∧ (cellV X i j).isSome
theorem setV_wide {X : List (List V)} {i j W : Nat} {v : V} (h : ∀ r ∈ X, r.length ≤ W) : ∀ r ∈ setV X i j v, r.length ≤ W := fun r hr => by
  obtain ⟨k, hk⟩ := List.getElem?_of_mem hr
  rw [setV_row] at hk
  cases e : X[k]? with
  | none => rw [e] at hk; cases hk
  | some r0 =>
    rw [e] at hk
    simp only [Option.map_some, Option.some.injEq] at hk
    have := h r0 (List.mem_of_getElem? e)
    rw [← hk]
    split <;> simp <;> exact this
theorem ok_slid {f : Addr} {fd : FuncData} (F : Fun K "slid" "slid" s_slid f fd) (T : Bl mg) (C_holes_in : Cal P w K mg base 1 "holes_in" ["line"] spHoles) (C_has_place : Cal P w K mg base 1 "has_place" ["rows", "at", "place"] spHas) (C_moves_up : Cal P w K mg base 2 "moves_up" ["rows", "at", "place"] spUp) : FnOk P w K mg base CX0 3 f fd ["rows", "at"] spSlid := by
  refine F.ok sc_slid (fun vs H Q E h => ?_) (fun cdv A outer s H vs Q E hr h => ?_)
  · obtain ⟨a, as, X, i, F, rfl, _⟩ := h; rfl
  · obtain ⟨a, as, X, i0, FF, rfl, ha, ok, sl, q⟩ := h
    refine ⟨_, (pss_cons (ps_comp (i := 2) sc_slid.nd rfl rfl (cp := []) (M := ["row"]) rfl ⟨rfl, rfl, rfl, rfl, rfl, rfl, rfl⟩ (by decide +kernel) (pi_l (pv 0)) (fun _ _ _ _ _ => pts_nil) (fun _ _ _ _ _ => (pe_callTy f_list (by rfl) T.list BI.list (pa_cons (pv 0) pa_nil))))
      (pss_cons (ps_set (i := 3) sc_slid.nd rfl (Or.inl rfl) (pv 1))
      (pss_cons (ps_set (i := 4) sc_slid.nd rfl (Or.inl rfl) (pe_op f_sub (pe_cl C_holes_in (hr.mono (by decide)) (by rfl) (pa_cons (pe_ix f_ix (pv 0) (pv 1) (fun _ _ => rfl)) pa_nil)) pe_int))
      (pss_cons (ps_while PassesOwn.never (PW.pt (pw_or (pt_val (pe_cl C_has_place (hr.mono (by decide)) (by rfl) (pa_cons (pv 2) (pa_cons (pv 3) (pa_cons (pe_op f_add (pv 4) pe_int) pa_nil))))) (pw_or1 (pt_val (pe_cl C_has_place (hr.mono (by decide)) (by rfl) (pa_cons (pv 2) (pa_cons (pe_op f_add (pv 3) pe_int) (pa_cons (pv 4) pa_nil)))))))) (pss_one (ps_if (pt_val (pe_cl C_moves_up (hr.mono (by decide)) (by rfl) (pa_cons (pv 2) (pa_cons (pv 3) (pa_cons (pv 4) pa_nil))))) (pss_cons (ps_asg (pe_ix f_ix (pe_ix f_ix (pv 2) (pe_op f_add (pv 3) pe_int) (fun _ _ => rfl)) (pv 4) (fun _ _ => rfl)) (pg_sub (pe_ix f_ix (pv 2) (pv 3) (fun _ _ => rfl)) (pv 4) f_set))
      (pss_one (ps_aug (i := 3) sc_slid.nd rfl (Or.inl rfl) pe_int ip_add))) (pss_cons (ps_asg (pe_ix f_ix (pe_ix f_ix (pv 2) (pv 3) (fun _ _ => rfl)) (pe_op f_add (pv 4) pe_int) (fun _ _ => rfl)) (pg_sub (pe_ix f_ix (pv 2) (pv 3) (fun _ _ => rfl)) (pv 4) f_set))
      (pss_one (ps_aug (i := 4) sc_slid.nd rfl (Or.inl rfl) pe_int ip_add))))))
      (pss_cons (ps_expr (pe_ml0 PySem.F.slot_list_pop PySem.F.type_list_pop f_pop (pe_ix f_ix (pv 2) (pv 3) (fun _ _ => rfl))))
      (pss_one (ps_ret (pe_tup (pa_cons (pe_comp (cp := []) (M := ["row"]) rfl ⟨rfl, rfl, rfl, rfl, rfl, rfl, rfl⟩ (by decide +kernel) (pi_l (pv 2)) (fun _ _ _ _ _ => (pts_one (pt_tru (pv 0) (fun _ => rfl)))) (fun _ _ _ _ _ => (pv 0))) (pa_cons (pv 3) pa_nil)))))))))), ?_⟩
    have e0 : start ["rows", "at", "left", "hole_at", "place"] [V.ref a, V.int (i0 : Int)] = [some (.ref a), some (.int (i0 : Int)), none, none, none] := rfl
    rw [e0]
    obtain ⟨r0, er0, hp0⟩ := ok.row
    obtain ⟨hs, anti, nf, hlt, heq⟩ := ok.num
    have hq := heq r0 er0
    have hle := holesV_le r0
    have lX := ok.size
    have wX := ok.wide
    have pl : plV X i0 = holesV r0 - 1 := by unfold plV; rw [getD_row er0]
    simp only [rd_seq, rd_asg]
    refine comp_copyV (a := a) (fun R h => by simpa using h) ha (by trivial) (fun l ls H1 hl s1 hr1 fr => ?_)
    obtain ⟨b0, eb0, hb0⟩ := RowsW.get ha.row er0
    simp [onS_of (s1 _ _ ha.top), atI_ref eb0]
    refine ⟨b0, r0, rfl, s1 _ _ hb0, ok.leaf r0 (List.mem_of_getElem? er0), ?_⟩
    simp
    have c0 : (cellV X i0 (plV X i0)).isSome := by
      unfold cellV
      rw [er0, Option.bind_some, pl, List.getElem?_eq_getElem (by trivial)]; rfl
    have i1 : ((holesV r0 : Int) - 1) = ((plV X i0 : Nat) : Int) := by rw [pl]; trivial
    rw [i1]
    have lfresh := (List.nodup_cons.mp fr.nd).1
    refine while_G (SlIn H a l ls i0 X.length 64 hs FF) _ ⟨X, i0, plV X i0, rfl, rfl, s1, hr1, sl, rfl, fun r hr => by have := wX r hr; trivial, nf, by rw [pl]; trivial, by rw [pl]; trivial, c0⟩ ?_
    rintro m σ H2 ⟨Y, i, j, rfl, rfl, s2, hX, sl, lN, wY, nf, h1, h2, hc⟩
    obtain ⟨v, cv⟩ := Option.isSome_iff_exists.mp hc
    obtain ⟨b, r, eb, er, hb, ev⟩ := cell_at hX cv
    obtain ⟨hiN, _⟩ := cell_lt cv
    have bm : b ∈ ls := List.mem_of_getElem? eb
    have bl : l ≠ b := fun z => lfresh (z ▸ bm)
    have bH := fr.no b (List.mem_cons_of_mem _ bm)
    have hj : j < r.length := (List.getElem?_eq_some_iff.mp ev).1
    have jW := wY r (List.mem_of_getElem? er)
    have setE : ∀ v, Y.set i (r.set j v) = setV Y i j v := fun v => by unfold setV; rw [getD_row er]
    have n1 : ∀ v, cellV Y (i + 1) j = some v → ∃ n, v = .int n := fun v e => nf _ _ _ e h1
    have n2 : ∀ v, cellV Y i (j + 1) = some v → ∃ n, v = .int n := fun v e => nf _ _ _ e h2
    refine ⟨(cellV Y i (j + 1)).isSome || (cellV Y (i + 1) j).isSome, fun R h => orC _ _ (fun R h => ?_) (fun R h => ?_) h, ?_⟩
    · simp
      exact ⟨l, ls, Y, i, j + 1, by simp, hX, by simpa using h⟩
    · simp
      exact ⟨l, ls, Y, i + 1, j, by simp, hX, by simpa using h⟩
    have upE : upV Y i j = true → ∃ nb, cellV Y (i + 1) j = some (.int nb) ∧ (cellV Y i (j + 1) = none ∨ ∃ r, cellV Y i (j + 1) = some (.int r) ∧ nb < r) := fun h => by
      unfold upV at h
      cases cb : cellV Y (i + 1) j with
      | none => rw [cb] at h; simp at h
      | some vb =>
        obtain ⟨nb, rfl⟩ := n1 _ cb
        cases cr : cellV Y i (j + 1) with
        | none => exact ⟨nb, rfl, .inl rfl⟩
        | some vr =>
          obtain ⟨nr, rfl⟩ := n2 _ cr
          rw [cb, cr] at h
          exact ⟨nb, rfl, .inr ⟨nr, rfl, by simpa using h⟩⟩
    have rtE : upV Y i j = false → ((cellV Y i (j + 1)).isSome || (cellV Y (i + 1) j).isSome) = true → ∃ nr, cellV Y i (j + 1) = some (.int nr) ∧ (cellV Y (i + 1) j = none ∨ ∃ b, cellV Y (i + 1) j = some (.int b) ∧ ¬ b < nr) := fun h hor => by
      unfold upV at h
      cases cr : cellV Y i (j + 1) with
      | none =>
        rw [cr] at h hor
        cases cb : cellV Y (i + 1) j with
        | none => rw [cb] at hor; simp at hor
        | some vb => rw [cb] at h; simp at h
      | some vr =>
        obtain ⟨nr, rfl⟩ := n2 _ cr
        cases cb : cellV Y (i + 1) j with
        | none => exact ⟨nr, rfl, .inl rfl⟩
        | some vb =>
          obtain ⟨nb, rfl⟩ := n1 _ cb
          rw [cb, cr] at h
          exact ⟨nr, rfl, .inr ⟨nb, rfl, by simpa using h⟩⟩
    have a2 : atI (ls.map V.ref) (i : Int) = some (.ref b) := atI_ref eb
    by_cases hor : ((cellV Y i (j + 1)).isSome || (cellV Y (i + 1) j).isSome) = true
    · rw [if_pos hor]
      refine ifS (upV Y i j) H2 (fun R h => ?_) ?_
      · simp
        exact ⟨l, ls, Y, i, j, rfl, hX, n1, n2, by simpa using h⟩
      by_cases hu : upV Y i j = true
      · rw [if_pos hu]
        obtain ⟨nb, cb, side⟩ := upE hu
        obtain ⟨b1, r1, eb1, er1, hb1, ev1⟩ := cell_at hX cb
        have a1 : atI (ls.map V.ref) ((i : Int) + 1) = some (.ref b1) := by have := atI_ref eb1; simpa using this
        have nxt : SlidR (setV Y i j (.int nb)) (i + 1) j FF := by
          cases sl with
          | stop c1 c2 => rw [cb] at c2; cases c2
          | right c1 c2 _ =>
            rcases side with s | ⟨r', cr, hlt⟩
            · rw [s] at c1; cases c1
            · rw [cr] at c1
              injection c1 with c1; injection c1 with c1; subst c1
              rcases c2 with c2 | ⟨b', c2, h3⟩
              · rw [cb] at c2; cases c2
              · rw [cb] at c2; injection c2 with c2; injection c2 with c2; subst c2; exact absurd hlt h3
          | down c1 c2 n => rw [cb] at c1; injection c1 with c1; injection c1 with c1; subst c1; exact n
        rw [rd_seq, rd_asg]
        simp [onS_of hX.top, a1, onS_of hb1, atI_nat ev1, a2, onL_of hb]
        refine ⟨by trivial, ?_⟩
        refine rd_aug rfl ?_ (fun Q Q' i h => i _ _ h)
        simp
        have cs := cell_setV (X := Y) (i := i) (j := j) (v := .int nb) (i + 1) j
        rw [cb] at cs
        refine ⟨Y.length + 64 - (i + 1 + j), by trivial, setV Y i j (.int nb), i + 1, j, by rw [lN], by simp, s2.upd_in bH, ?_, nxt, by rw [setV_len, lN], setV_wide wY, nf.set i j nb, Nat.le_trans (anti _) h1, Nat.le_trans h1 (Nat.le_succ _), by rw [cs]; rfl⟩
        rw [← setE]
        exact RowsV.set hX eb fr.nd
      · rw [if_neg hu]
        obtain ⟨nr, cr, side⟩ := rtE (by simpa using hu) hor
        obtain ⟨b1, r1, eb1, er1, hb1, ev1⟩ := cell_at hX cr
        rw [eb] at eb1; cases eb1
        rw [hb] at hb1; cases hb1
        have a3 : atI r ((j : Int) + 1) = some (.int nr) := by have := atI_nat ev1; simpa using this
        have hj1 : j + 1 < r.length := (List.getElem?_eq_some_iff.mp ev1).1
        have nxt : SlidR (setV Y i j (.int nr)) i (j + 1) FF := by
          cases sl with
          | stop c1 c2 => rw [cr] at c1; cases c1
          | right c1 c2 n => rw [cr] at c1; injection c1 with c1; injection c1 with c1; subst c1; exact n
          | down c1 c2 _ =>
            rcases side with s | ⟨b', cb, hlt⟩
            · rw [s] at c1; cases c1
            · rw [cb] at c1
              injection c1 with c1; injection c1 with c1; subst c1
              rcases c2 with c2 | ⟨r', c2, h3⟩
              · rw [cr] at c2; cases c2
              · rw [cr] at c2; injection c2 with c2; injection c2 with c2; subst c2; exact absurd h3 hlt
        rw [rd_seq, rd_asg]
        simp [onS_of hX.top, a2, onS_of hb, a3, onL_of hb]
        refine ⟨by trivial, ?_⟩
        refine rd_aug rfl ?_ (fun Q Q' i h => i _ _ h)
        simp
        have cs := cell_setV (X := Y) (i := i) (j := j) (v := .int nr) i (j + 1)
        rw [cr] at cs
        refine ⟨Y.length + 64 - (i + (j + 1)), by trivial, setV Y i j (.int nr), i, j + 1, by rw [lN], by simp, s2.upd_in bH, ?_, nxt, by rw [setV_len, lN], setV_wide wY, nf.set i j nr, by trivial, by trivial, by rw [cs]; rfl⟩
        rw [← setE]
        exact RowsV.set hX eb fr.nd
    · rw [if_neg hor]
      have cr : cellV Y i (j + 1) = none := by
        cases c : cellV Y i (j + 1) with
        | none => rfl
        | some v => rw [c] at hor; simp at hor
      have cb : cellV Y (i + 1) j = none := by
        cases c : cellV Y (i + 1) j with
        | none => rfl
        | some v => rw [c, cr] at hor; simp at hor
      have hlen : r.length = j + 1 := by
        unfold cellV at cr
        rw [er, Option.bind_some] at cr
        have := List.getElem?_eq_none_iff.mp cr
        trivial
      have fin : FF = ((Y.set i (r.take j)).filter (fun r => !r.isEmpty), i) := by
        cases sl with
        | stop _ _ => rw [getD_row er]
        | right c1 _ _ => rw [cr] at c1; cases c1
        | down c1 _ _ => rw [cb] at c1; cases c1
      have elast : r[r.length - 1]? = some v := by rw [hlen]; exact ev
      have edrop : r.dropLast = r.take j := by rw [List.dropLast_eq_take, hlen]; rfl
      dsimp only
      rw [rd_seq, rd_drop]
      simp [onS_of hX.top, a2, onL_of hb, rPopF, elast, edrop]
      have hX3 := RowsV.set (ys := r.take j) hX eb fr.nd
      have s3 := s2.upd_in (o := .lst (r.take j)) bH
      generalize upd H2 b (.lst (r.take j)) = H3 at *
      have lls := RowsW.len hX3.row
      rw [List.length_set] at lls
      refine comp_listP (a := l) (xs := ls.map V.ref) (fun R h => by simpa using h) hX3.top (fun v => match v with | .ref c => (match H3 c with | some (.lst ys) => !ys.isEmpty | _ => false) | _ => false) id (by rw [List.length_map]; trivial) (fun v hv H4 s4 R h => ?_) (fun v hv _ H4 s4 R h => by simpa [cst] using h) (fun D hD => ?_)
      · obtain ⟨c, xs, rfl, hc, hx, e⟩ := rowsV_mem hX3.row hv
        simp only [e] at h
        simp [cst, onL_of (s4 _ _ e)]
        exact h
      · obtain ⟨bs, ebs, hbs, sub⟩ := rowsV_filtS hX3.row (fun v => match v with | .ref c => (match H3 c with | some (.lst ys) => !ys.isEmpty | _ => false) | _ => false) (fun r => !r.isEmpty) (fun b xs e => by simp [e])
        rw [List.map_id, ebs]
        refine ⟨line3 (by decide), fun p hp => ?_⟩
        have s4 := Same.upd_new (o := HO.lst (bs.map V.ref)) hD
        have s5 := Same.upd_new (o := HO.tup [V.ref D, V.int (i : Int)]) hp
        have s45 := s4.trans s5
        refine q p D bs _ (s3.trans s45) (s3.free (s4.free hp)) (by rw [upd_same, fin]) ⟨s5 _ _ upd_same, by rw [fin]; exact RowsW.same hbs s45⟩ ?_
        have frs : Fresh H (bs) := (fr.sub (List.sublist_cons_self _ _)).sub sub
        refine Fresh.cons frs (s3.free hD) fun hm => ?_
        have := hX3.notin hD
        exact this (List.mem_cons_of_mem _ (sub.subset hm))
end
end SR
namespace SR
open PySem L2 RS PySem.Spec PyProof.Rows
section
variable {P : Program} {w : World} {K : PySem.W.Frag} {mg : Str → Option Value} {base : Heap}
noncomputable abbrev s_can_slide : Stmt := top 30
theorem sc_can_slide : FnScope ["rows", "at"] ["rows", "at"] (defScope s_can_slide) := ⟨rfl, rfl, rfl, by decide +kernel, rfl, by decide +kernel, by decide +kernel⟩
noncomputable def holesAt (X : List (List V)) (i : Nat) : Nat := holesV (X.getD i [])
noncomputable def canN (X : List (List V)) (i : Nat) : Bool := decide (i < X.length) && decide (0 < holesAt X i) && (decide (i + 1 = X.length) || decide (holesAt X (i + 1) < holesAt X i))
noncomputable def spCan : Sp := fun vs H Q _ => ∃ (a : Addr) (as : List Addr) (X : List (List V)) (k : Int), vs = [.ref a, .int k] ∧ RowsV H a as X ∧ (∀ r ∈ X, r.all isLeaf = true) ∧ Q (.bl (decide (0 ≤ k) && canN X k.toNat)) H
theorem ok_can {f : Addr} {fd : FuncData} (F : Fun K "can_slide" "can_slide" s_can_slide f fd) (T : Bl mg) (C_holes_in : Cal P w K mg base 1 "holes_in" ["line"] spHoles) : FnOk P w K mg base CX0 2 f fd ["rows", "at"] spCan := by
  refine F.ok sc_can_slide (fun vs H Q E h => ?_) (fun cdv A outer s H vs Q E hr h => ?_)
  · obtain ⟨a, as, X, k, rfl, _⟩ := h; rfl
  · obtain ⟨a, as, X, k, rfl, ha, lf, q⟩ := h
    refine ⟨_, (pss_cons (ps_if (PW.pt (pw_or (pt_cmpR f_lt (pv 1) pe_int (nomark _)) (pw_or (pt_cmpR f_ge (pv 1) (pe_callB f_len (by rfl) T.len BI.len (pa_cons (pv 0) pa_nil)) (nomark _)) (pw_or1 (pt_cmpR (f_eqF (hu64 hr)) (pe_cl C_holes_in (hr.mono (by decide)) (by rfl) (pa_cons (pe_ix f_ix (pv 0) (pv 1) (fun _ _ => rfl)) pa_nil)) pe_int (nomark _)))))) (pss_one (ps_ret pe_bl)) pss_nil)
      (pss_one (ps_ret (pe_or (pe_cmpR (f_eqF (hu64 hr)) (pv 1) (pe_op f_sub (pe_callB f_len (by rfl) T.len BI.len (pa_cons (pv 0) pa_nil)) pe_int) (nomark _)) (pe_one (pe_cmpR f_lt (pe_cl C_holes_in (hr.mono (by decide)) (by rfl) (pa_cons (pe_ix f_ix (pv 0) (pe_op f_add (pv 1) pe_int) (fun _ _ => rfl)) pa_nil)) (pe_cl C_holes_in (hr.mono (by decide)) (by rfl) (pa_cons (pe_ix f_ix (pv 0) (pv 1) (fun _ _ => rfl)) pa_nil)) (nomark _))))))), ?_⟩
    have e0 : start ["rows", "at"] [V.ref a, V.int k] = [some (.ref a), some (.int k)] := rfl
    rw [e0]
    have la := RowsW.len ha.row
    by_cases h0 : 0 ≤ k
    · obtain ⟨i, rfl⟩ : ∃ i : Nat, k = (i : Int) := ⟨k.toNat, by trivial⟩
      rw [decide_eq_true h0, Bool.true_and, Int.toNat_natCast] at q
      have n0 : ¬ ((i : Int) < 0) := by trivial
      unfold canN at q
      by_cases hi : i < X.length
      · have ei : X[i]? = some X[i] := List.getElem?_eq_getElem hi
        obtain ⟨b, eb, hb⟩ := RowsW.get ha.row ei
        have lfi := lf _ (List.getElem_mem hi)
        have g1 : holesAt X i = holesV X[i] := by unfold holesAt; rw [getD_row ei]
        have n1 : ¬ ((as.length : Int) ≤ (i : Int)) := by trivial
        rw [decide_eq_true hi, Bool.true_and, g1] at q
        have n2 : ¬ (as.length ≤ i) := by trivial
        simp [n0, onS_of ha.top, n1, n2, atI_ref eb]
        refine ⟨b, _, rfl, hb, lfi, ?_⟩
        by_cases hz : holesV X[i] = 0
        · rw [hz] at q ⊢
          simpa using q
        · have hz' : 0 < holesV X[i] := by trivial
          rw [decide_eq_true hz', Bool.true_and] at q
          have : ¬ ((holesV X[i] : Int) = 0) := by trivial
          simp [this, hz, onS_of ha.top]
          by_cases hl : i + 1 = X.length
          · rw [decide_eq_true hl, Bool.true_or] at q
            rw [if_pos (by trivial)]
            exact q
          · rw [decide_eq_false hl, Bool.false_or] at q
            rw [if_neg (by trivial)]
            have ei1 : X[i + 1]? = some (X[i + 1]'(by trivial)) := List.getElem?_eq_getElem (by trivial)
            obtain ⟨b1, eb1, hb1⟩ := RowsW.get ha.row ei1
            have a1 : atI (as.map V.ref) ((i : Int) + 1) = some (.ref b1) := by have := atI_ref eb1; simpa using this
            have g2 : holesAt X (i + 1) = holesV (X[i + 1]'(by trivial)) := by unfold holesAt; rw [getD_row ei1]
            rw [g2] at q
            simp [onS_of ha.top, a1]
            refine ⟨b1, _, rfl, hb1, lf _ (List.getElem_mem _), ?_⟩
            simp [onS_of ha.top, atI_ref eb]
            refine ⟨b, _, rfl, hb, lfi, ?_⟩
            simpa using q
      · have n1 : (as.length : Int) ≤ (i : Int) := by trivial
        have n2 : as.length ≤ i := by trivial
        rw [decide_eq_false hi] at q
        simp [n0, onS_of ha.top, n1, n2]
        simpa using q
    · have n0 : k < 0 := by trivial
      rw [decide_eq_false h0, Bool.false_and] at q
      simp [n0]
      exact q
noncomputable abbrev s_law_holes : Stmt := top 44
theorem sc_law_holes : FnScope ["row"] ["row"] (defScope s_law_holes) := ⟨rfl, rfl, rfl, by decide +kernel, rfl, by decide +kernel, by decide +kernel⟩
noncomputable def spLHoles : Sp := fun vs H Q _ => ∃ (a : Addr) (l : List V), vs = [.ref a] ∧ H a = some (.lst l) ∧ l.all isLeaf = true ∧ l.length ≤ 5000 ∧ ∀ H', Same H H' → Q (.int (holesV l : Int)) H'
theorem holes_filter {l : List V} (h : l.all isLeaf = true) : (l.filter fun v => decide (v = V.non)).length = holesV l := by
  unfold holesV
  rw [List.countP_eq_length_filter]
  congr 1
  apply List.filter_congr
  intro v hv
  cases v with
  | non => rfl
  | _ => exact decide_eq_false nofun
theorem ok_lholes {f : Addr} {fd : FuncData} (F : Fun K "_law_holes" "_law_holes" s_law_holes f fd) (T : Bl mg) : FnOk P w K mg base CX0 1 f fd ["row"] spLHoles := by
  refine F.ok sc_law_holes (fun vs H Q E h => ?_) (fun cdv A outer s H vs Q E hr h => ?_)
  · obtain ⟨a, l, rfl, _⟩ := h; rfl
  · obtain ⟨a, l, rfl, ha, lf, hz, q⟩ := h
    refine ⟨_, (pss_one (ps_ret (pe_callB f_len (by rfl) T.len BI.len (pa_cons (pe_comp (cp := []) (M := ["number"]) rfl ⟨rfl, rfl, rfl, rfl, rfl, rfl, rfl⟩ (by decide +kernel) (pi_l (pv 0)) (fun _ _ _ _ _ => (pts_one (pt_cmpR f_isN (pv 0) pe_non (nomark _)))) (fun _ _ _ _ _ => (pv 0))) pa_nil)))), ?_⟩
    have e0 : start ["row"] [V.ref a] = [some (.ref a)] := rfl
    rw [e0]
    simp only [rd_ret, rd_cb, rd_cons]
    refine comp_listP (a := a) (xs := l) (fun R h => by simpa using h) ha (fun v => decide (v = V.non)) id (by trivial) (fun v hv H2 s2 R h => by simpa [cst] using h) (fun v hv _ H2 s2 R h => by simpa [cst] using h) (fun D hD => ?_)
    rw [rd_nil, rd_len, rd_on1, onS_of upd_same, List.map_id, holes_filter lf]
    exact q _ (Same.upd_new hD)
noncomputable abbrev s_law_inner : Stmt := top 45
theorem sc_law_inner : FnScope ["rows", "found", "at", "many"] ["rows"] (defScope s_law_inner) := ⟨rfl, rfl, rfl, by decide +kernel, rfl, by decide +kernel, by decide +kernel⟩
noncomputable def innV (X : List (List V)) (n : Nat) : List Nat := (List.range n).filter (canN X)
noncomputable def natW (ps : List Nat) : List V := ps.map fun (p : Nat) => V.int (p : Int)
noncomputable def spInner : Sp := fun vs H Q _ => ∃ (a : Addr) (as : List Addr) (X : List (List V)), vs = [.ref a] ∧ RowsV H a as X ∧ (∀ r ∈ X, r.all isLeaf = true) ∧ X.length < 64 ∧ (∀ r ∈ X, r.length < 64) ∧ ∀ r H', Same H H' → H r = none → H' r = some (.lst (natW (innV X X.length))) → Q (.ref r) H'
theorem ok_inner {f : Addr} {fd : FuncData} (F : Fun K "_law_inner" "_law_inner" s_law_inner f fd) (T : Bl mg) (C_law_holes : Cal P w K mg base 1 "_law_holes" ["row"] spLHoles) : FnOk P w K mg base CX0 2 f fd ["rows"] spInner := by
  refine F.ok sc_law_inner (fun vs H Q E h => ?_) (fun cdv A outer s H vs Q E hr h => ?_)
  · obtain ⟨a, as, X, rfl, _⟩ := h; rfl
  · obtain ⟨a, as, X, rfl, ha, lf, hz, hz2, q⟩ := h
    refine ⟨_, (pss_cons (ps_set (i := 1) sc_law_inner.nd rfl (Or.inl rfl) (pe_lst pa_nil))
      (pss_cons (ps_for PassesOwn.never rfl (pi_range1 (by rfl) T.range (pa_cons (pe_callB f_len (by rfl) T.len BI.len (pa_cons (pv 0) pa_nil)) pa_nil)) (pg_name (i := 2) sc_law_inner.nd rfl (Or.inl rfl)) (pss_cons (ps_set (i := 3) sc_law_inner.nd rfl (Or.inl rfl) (pe_cl C_law_holes (hr.mono (by decide)) (by rfl) (pa_cons (pe_ix f_ix (pv 0) (pv 2) (fun _ _ => rfl)) pa_nil)))
      (pss_one (ps_if (PW.pt (pw_and (pt_cmpR f_gt (pv 3) pe_int (nomark _)) (pw_and1 (PW.pt (pw_or (pt_cmpR (f_eqF (hu64 hr)) (pe_op f_add (pv 2) pe_int) (pe_callB f_len (by rfl) T.len BI.len (pa_cons (pv 0) pa_nil)) (nomark _)) (pw_or1 (pt_cmpR f_lt (pe_cl C_law_holes (hr.mono (by decide)) (by rfl) (pa_cons (pe_ix f_ix (pv 0) (pe_op f_add (pv 2) pe_int) (fun _ _ => rfl)) pa_nil)) (pv 3) (nomark _)))))))) (pss_one (ps_expr (pe_ml PySem.F.slot_list_append PySem.F.type_list_append f_append (pv 1) (pa_cons (pv 2) pa_nil)))) pss_nil))))
      (pss_one (ps_ret (pv 1))))), ?_⟩
    have e0 : start ["rows", "found", "at", "many"] [V.ref a] = [some (.ref a), none, none, none] := rfl
    rw [e0]
    have la := RowsW.len ha.row
    simp
    intro fo hfo
    have s0 := Same.upd_new (o := HO.lst []) hfo
    refine for_rangeF X.length (fun N h => by simp [onS_of (s0 _ _ ha.top)]; rw [la]; exact ⟨by trivial, h⟩) (fun i σ H' => (∃ o2 o3, σ = [some (.ref a), some (.ref fo), o2, o3]) ∧ Same H H' ∧ H' fo = some (.lst (natW (innV X i)))) ⟨⟨_, _, rfl⟩, s0, by rw [upd_same]; rfl⟩ ?_ ?_
    · rintro i σ H1 hi ⟨⟨o2, o3, rfl⟩, s1, h1⟩
      have ei : X[i]? = some X[i] := List.getElem?_eq_getElem hi
      obtain ⟨b, eb, hb⟩ := RowsW.get ha.row ei
      have g1 : holesAt X i = holesV X[i] := by unfold holesAt; rw [getD_row ei]
      have ha1 := ha.same s1
      have lfi := lf _ (List.getElem_mem hi)
      have wi := hz2 _ (List.getElem_mem hi)
      have eI : innV X (i + 1) = innV X i ++ (if canN X i then [i] else []) := by
        unfold innV
        rw [List.range_succ, List.filter_append]
        congr 1
        by_cases hm : canN X i = true
        · simp [hm]
        · simp [hm]
      have lI : (innV X i).length ≤ i := by unfold innV; refine Nat.le_trans (List.length_filter_le _ _) (by simp)
      simp only [rd_name, List.set_cons_succ, List.set_cons_zero]
      refine cut1 (fun σ H2 => σ = [some (.ref a), some (.ref fo), some (.int (i : Int)), some (.int (holesV X[i] : Int))] ∧ Same H1 H2) (fun R' h => ?_) ?_
      · simp [onS_of ha1.top, atI_ref eb]
        exact ⟨b, _, rfl, s1 _ _ hb, lfi, by trivial, fun H2 s2 => h _ _ ⟨rfl, s2⟩⟩
      rintro σ H2 ⟨rfl, s2⟩
      have s12 := s1.trans s2
      have ha2 := ha.same s12
      have h2 := s2 _ _ h1
      refine ifS' (fun H' => Same H2 H') (canN X i) (fun R h => ?_) (fun H3 s3 => ?_)
      · unfold canN at h
        rw [decide_eq_true hi, Bool.true_and, g1] at h
        by_cases hz : 0 < holesV X[i]
        · rw [decide_eq_true hz, Bool.true_and] at h
          have hz' : (0 : Int) < (holesV X[i] : Int) := by trivial
          simp [hz, hz', onS_of ha2.top]
          by_cases hl : i + 1 = X.length
          · rw [decide_eq_true hl, Bool.true_or] at h
            rw [if_pos (by trivial)]
            exact h _ (fun _ _ e => e)
          · rw [decide_eq_false hl, Bool.false_or] at h
            rw [if_neg (by trivial)]
            have ei1 : X[i + 1]? = some (X[i + 1]'(by trivial)) := List.getElem?_eq_getElem (by trivial)
            obtain ⟨b1, eb1, hb1⟩ := RowsW.get ha.row ei1
            have a1 : atI (as.map V.ref) ((i : Int) + 1) = some (.ref b1) := by have := atI_ref eb1; simpa using this
            have g2 : holesAt X (i + 1) = holesV (X[i + 1]'(by trivial)) := by unfold holesAt; rw [getD_row ei1]
            rw [g2] at h
            simp [onS_of ha2.top, a1]
            refine ⟨b1, _, rfl, s12 _ _ hb1, lf _ (List.getElem_mem _), by have := hz2 _ (List.getElem_mem (show i + 1 < X.length by trivial)); trivial, fun H3 s3 => ?_⟩
            simpa using h H3 s3
        · rw [decide_eq_false hz, Bool.false_and] at h
          have hz' : ¬ (0 : Int) < (holesV X[i] : Int) := by trivial
          simp [hz, hz']
          exact h _ (fun _ _ e => e)
      · by_cases hm : canN X i = true
        · rw [if_pos hm]
          have h3 := s3 _ _ h2
          simp [onL_of h3]
          refine ⟨line100 (by simp [natW]; trivial), (s12.trans s3).upd_in hfo, ?_⟩
          rw [upd_same, eI, if_pos hm]
          simp [natW]
        · rw [if_neg hm, rd_next]
          refine ⟨⟨_, _, rfl⟩, s12.trans s3, ?_⟩
          rw [eI, if_neg hm, List.append_nil]
          exact s3 _ _ h2
    · rintro σ H1 ⟨⟨o2, o3, rfl⟩, s1, h1⟩
      simp
      exact q fo H1 s1 hfo h1
end
end SR
namespace SR
open PySem L2 RS PySem.Spec PyProof.Rows
section
variable {P : Program} {w : World} {K : PySem.W.Frag} {mg : Str → Option Value} {base : Heap}
noncomputable def lenN (X : List (List V)) : Nat := (X.map List.length).sum
theorem lensV_sum (X : List (List V)) : (lensV X).sum = ((lenN X : Nat) : Int) := by
  unfold lensV lenN
  induction X with
  | nil => rfl
  | cons r X ih => rw [List.map_cons, List.sum_cons, ih, List.map_cons, List.sum_cons]; trivial
theorem lenN_take (X : List (List V)) (j : Nat) : lenN (X.take j) ≤ lenN X := by
  unfold lenN
  conv => rhs; rw [← List.take_append_drop j X, List.map_append, List.sum_append]
  trivial
theorem lensV_long {X : List (List V)} (h : lenN X ≤ 4000) : ∀ j, j < (lensV X).length → InLong ((lensV X).getD j 0) ∧ InLong ((lensV X).take (j + 1)).sum := fun j hj => by
  have lj : j < X.length := by simpa [lensV] using hj
  have e1 : ((lensV X).take (j + 1)).sum = ((lenN (X.take (j + 1)) : Nat) : Int) := by
    rw [← lensV_sum]; unfold lensV; rw [List.map_take]
  have f1 := lenN_take X (j + 1)
  have e2 : (lensV X).getD j 0 = (X[j].length : Int) := by
    unfold lensV
    rw [List.getD_eq_getElem?_getD, List.getElem?_map, List.getElem?_eq_getElem lj]; rfl
  have f2 : X[j].length ≤ lenN (X.take (j + 1)) := by
    unfold lenN
    rw [List.take_succ_eq_append_getElem lj, List.map_append, List.sum_append]; simp
  rw [e1, e2]
  constructor <;> (unfold InLong; trivial)
theorem readV_le (X : List (List V)) : (readV X).length ≤ lenN X := by
  unfold readV lenN
  rw [List.length_flatten, List.map_map, List.map_reverse, List.sum_reverse]
  induction X with
  | nil => simp
  | cons r X ih => have := intsOf_len r; simp at ih ⊢; trivial
noncomputable def unlikeG (X : List (List V)) : Bool := decide ((readV X).Nodup ∧ (readV X).length = lenN X)
noncomputable abbrev s_all_unlike : Stmt := top 10
theorem sc_all_unlike : FnScope ["rows"] ["rows"] (defScope s_all_unlike) := ⟨rfl, rfl, rfl, by decide +kernel, rfl, by decide +kernel, by decide +kernel⟩
noncomputable def spUnlikeG : Sp := fun vs H Q _ => ∃ (a : Addr) (as : List Addr) (X : List (List V)), vs = [.ref a] ∧ RowsV H a as X ∧ X.length < 64 ∧ (∀ r ∈ X, r.length < 64) ∧ (∀ r ∈ X, r.all isLeaf = true) ∧ lenN X ≤ 4000 ∧ ∀ H', Same H H' → Q (.bl (unlikeG X)) H'
theorem ok_unlikeG {f : Addr} {fd : FuncData} (F : Fun K "all_unlike" "all_unlike" s_all_unlike f fd) (T : Bl mg) (C_reading : Cal P w K mg base 1 "reading" ["rows"] spReadingV) (C_shape : Cal P w K mg base 1 "shape" ["rows"] spShapeV) : FnOk P w K mg base CX0 2 f fd ["rows"] spUnlikeG := by
  refine F.ok sc_all_unlike (fun vs H Q E h => ?_) (fun cdv A outer s H vs Q E hr h => ?_)
  · obtain ⟨a, as, X, rfl, _⟩ := h; rfl
  · obtain ⟨a, as, X, rfl, ha, hz, hz2, lf, hl, q⟩ := h
    refine ⟨_, (pss_one (ps_ret (pe_cmpR (f_eqF (hu64 hr)) (pe_lenSet (by rfl) T.len (by rfl) T.set (pa_cons (pe_cl C_reading (hr.mono (by decide)) (by rfl) (pa_cons (pv 0) pa_nil)) pa_nil) rfl) (pe_callB (f_sum rfl) (by rfl) T.sum BI.sum (pa_cons (pe_cl C_shape (hr.mono (by decide)) (by rfl) (pa_cons (pv 0) pa_nil)) pa_nil)) (nomark _)))), ?_⟩
    have e0 : start ["rows"] [V.ref a] = [some (.ref a)] := rfl
    rw [e0]
    have rl := readV_le X
    simp
    refine ⟨a, as, X, rfl, ha, by trivial, by trivial, fun r hr => by have := hz2 r hr; trivial, lf, fun r H1 s1 hr1 h1 => ?_⟩
    show onL _ _ _
    rw [onL_of h1]
    refine ⟨_, rfl, by trivial, fun c hc1 hc2 => ?_⟩
    refine ⟨a, as, X, rfl, ha.same s1, by trivial, fun r2 H2 s2 hr2 h2 => ?_⟩
    show onL _ _ _
    rw [onL_of h2]
    refine ⟨lensV X, rfl, lensV_long hl, ?_⟩
    rw [lensV_sum]
    have : decide ((c : Int) = ((lenN X : Nat) : Int)) = unlikeG X := by
      unfold unlikeG
      rw [decide_eq_decide, ← hc2]; trivial
    rw [this]
    exact q _ (s1.trans s2)
theorem rowOf_map {α : Type} {g : List Int → α} {H : Hp} {as : List Addr} {xss : List (List Int)} (h : RowsL H as xss) : as.map (fun b => g (rowOf H b)) = xss.map g := by
  induction h with
  | nil => rfl
  | cons h t ih => rw [List.map_cons, List.map_cons, rowOf_of h, ih]
noncomputable abbrev s_all_sorted : Stmt := top 11
theorem sc_all_sorted : FnScope ["rows"] ["rows"] (defScope s_all_sorted) := ⟨rfl, rfl, rfl, by decide +kernel, rfl, by decide +kernel, by decide +kernel⟩
noncomputable def spAllSorted : Sp := fun vs H Q _ => ∃ (a : Addr) (as : List Addr) (xss : List (List Int)), vs = [.ref a] ∧ RowsAt H a as xss ∧ xss.length ≤ 5000 ∧ (∀ r ∈ xss, r.length < 64) ∧ ∀ H', Same H H' → Q (.bl (xss.all fun r => decide (r = sortZ r))) H'
theorem ok_all_sorted {f : Addr} {fd : FuncData} (F : Fun K "all_sorted" "all_sorted" s_all_sorted f fd) (T : Bl mg) : FnOk P w K mg base CX0 1 f fd ["rows"] spAllSorted := by
  refine F.ok sc_all_sorted (fun vs H Q E h => ?_) (fun cdv A outer s H vs Q E hr h => ?_)
  · obtain ⟨a, as, xss, rfl, _⟩ := h; rfl
  · obtain ⟨a, as, xss, rfl, ha, hz, hz2, q⟩ := h
    refine ⟨_, (pss_one (ps_ret (pe_callB (f_all rfl) (by rfl) T.all BI.all (pa_cons (pe_comp (cp := []) (M := ["row"]) rfl ⟨rfl, rfl, rfl, rfl, rfl, rfl, rfl⟩ (by decide +kernel) (pi_l (pv 0)) (fun _ _ _ _ _ => pts_nil) (fun _ _ _ _ _ => (pe_cmpR (f_eqF (hu64 hr)) (pv 0) (pe_callB f_sorted (by rfl) T.sorted BI.sorted (pa_cons (pv 0) pa_nil)) (nomark _)))) pa_nil)))), ?_⟩
    have e0 : start ["rows"] [V.ref a] = [some (.ref a)] := rfl
    rw [e0]
    have lx := RowsL.len ha.row
    simp only [rd_ret, rd_cb, rd_cons]
    refine comp_listG (fun R h => by simpa using h) ha.top (fun _ => true) (fun v => match v with | .ref b => .bl (decide (rowOf H b = sortZ (rowOf H b))) | _ => .non) (by rw [List.length_map]; trivial) (fun v hv H' s R h => by simpa using h H' (fun _ _ e => e)) (fun v hv _ H' s R h => ?_) (fun D H' hD s1 hd => ?_)
    · obtain ⟨b, hb, rfl⟩ := List.mem_map.mp hv
      obtain ⟨i, hi⟩ := List.getElem?_of_mem hb
      obtain ⟨x, ex, e⟩ := RowsL.get' ha.row hi
      simp only [rowOf_of e] at h
      simp [cst, onL_of (s _ _ e)]
      refine ⟨x, rfl, hz2 x (List.mem_of_getElem? ex), fun p hp => ?_⟩
      have s2 := Same.upd_new (o := HO.lst ((sortZ x).map V.int)) hp
      exact eqF_ints (s2 _ _ (s _ _ e)) upd_same (h _ s2)
    · rw [rd_nil, rd_all, rd_on1, onL_of hd]
      refine ⟨xss.map fun r => decide (r = sortZ r), ?_, ?_⟩
      · rw [List.filter_eq_self.mpr (fun _ _ => rfl), List.map_map, List.map_map, ← rowOf_map ha.row]
        rfl
      · rw [List.all_map]
        exact q _ s1
theorem full_row : ∀ {r : List V}, r.all isLeaf = true → (intsOf r).length = r.length → r = (intsOf r).map V.int
  | [], _, _ => rfl
  | v :: r, lf, h => by
    rw [List.all_cons, Bool.and_eq_true] at lf
    have il := intsOf_len r
    cases v with
    | int n =>
      have e : intsOf (V.int n :: r) = n :: intsOf r := rfl
      rw [e] at h ⊢
      simp at h
      rw [List.map_cons, ← full_row lf.2 h]
    | non =>
      have e : intsOf (V.non :: r) = intsOf r := rfl
      rw [e] at h
      simp at h; trivial
    | _ => simp [isLeaf] at lf
theorem full_rows : ∀ {X : List (List V)}, (∀ r ∈ X, r.all isLeaf = true) → (readV X).length = lenN X → X = (X.map intsOf).map fun r => r.map V.int
  | [], _, _ => rfl
  | r :: X, lf, h => by
    have e1 : (readV (r :: X)).length = (readV X).length + (intsOf r).length := by unfold readV; simp
    have e2 : lenN (r :: X) = r.length + lenN X := by simp [lenN]
    have a := readV_le X
    have b := intsOf_len r
    rw [List.map_cons, List.map_cons, ← full_row (lf r List.mem_cons_self) (by trivial), ← full_rows (fun s hs => lf s (List.mem_cons_of_mem _ hs)) (by trivial)]
theorem turnV_int (Z : List (List Int)) : turnV (Z.map fun r => r.map V.int) = (turnedP Z).map fun r => r.map V.int := by
  have ew : widthV (Z.map fun r => r.map V.int) = width Z := by
    unfold widthV width
    cases Z <;> simp
  unfold turnV turnedP
  rw [ew, List.map_map]
  apply List.map_congr_left
  intro p _
  unfold colV RS.column
  rw [List.filter_map, List.map_map]
  show _ = List.map V.int _
  rw [List.map_map]
  have : ((fun r : List V => decide (p < r.length)) ∘ fun r : List Int => r.map V.int) = fun r : List Int => decide (p < r.length) := by funext r; simp
  rw [this]
  apply List.map_congr_left
  intro r hr
  have hp : p < r.length := by simpa using (List.mem_filter.mp hr).2
  simp [List.getD_eq_getElem?_getD, List.getElem?_eq_getElem hp]
noncomputable def srtB (Z : List (List Int)) : Bool := Z.all fun r => decide (r = sortZ r)
noncomputable def stairsG (X : List (List V)) : Bool := shapeB (lensV X) && unlikeG X && srtB (X.map intsOf) && srtB (turnedP (X.map intsOf))
noncomputable abbrev s_is_stairs : Stmt := top 9
theorem sc_is_stairs : FnScope ["rows"] ["rows"] (defScope s_is_stairs) := ⟨rfl, rfl, rfl, by decide +kernel, rfl, by decide +kernel, by decide +kernel⟩
noncomputable def spIsStairsG : Sp := fun vs H Q _ => ∃ (a : Addr) (as : List Addr) (X : List (List V)), vs = [.ref a] ∧ RowsV H a as X ∧ X.length < 64 ∧ (∀ r ∈ X, r.length < 64) ∧ (∀ r ∈ X, r.all isLeaf = true) ∧ lenN X ≤ 4000 ∧ ∀ H', Same H H' → Q (.bl (stairsG X)) H'
theorem ok_is_stairsG {f : Addr} {fd : FuncData} (F : Fun K "is_stairs" "is_stairs" s_is_stairs f fd) (T : Bl mg) (C_shape : Cal P w K mg base 1 "shape" ["rows"] spShapeV) (C_is_shape : Cal P w K mg base 1 "is_shape" ["lengths"] spIsShape) (C_all_unlike : Cal P w K mg base 2 "all_unlike" ["rows"] spUnlikeG) (C_all_sorted : Cal P w K mg base 1 "all_sorted" ["rows"] spAllSorted) (C_turned : Cal P w K mg base 2 "turned" ["rows"] spTurnedV) : FnOk P w K mg base CX0 3 f fd ["rows"] spIsStairsG := by
  refine F.ok sc_is_stairs (fun vs H Q E h => ?_) (fun cdv A outer s H vs Q E hr h => ?_)
  · obtain ⟨a, as, X, rfl, _⟩ := h; rfl
  · obtain ⟨a, as, X, rfl, ha, hz, hz3, lf, hl, q⟩ := h
    refine ⟨_, (pss_one (ps_ret (pe_and (pe_cl C_is_shape (hr.mono (by decide)) (by rfl) (pa_cons (pe_cl C_shape (hr.mono (by decide)) (by rfl) (pa_cons (pv 0) pa_nil)) pa_nil)) (pe_and (pe_cl C_all_unlike (hr.mono (by decide)) (by rfl) (pa_cons (pv 0) pa_nil)) (pe_and (pe_cl C_all_sorted (hr.mono (by decide)) (by rfl) (pa_cons (pv 0) pa_nil)) (pe_one (pe_cl C_all_sorted (hr.mono (by decide)) (by rfl) (pa_cons (pe_cl C_turned (hr.mono (by decide)) (by rfl) (pa_cons (pv 0) pa_nil)) pa_nil)))))))), ?_⟩
    have e0 : start ["rows"] [V.ref a] = [some (.ref a)] := rfl
    rw [e0]
    unfold stairsG at q
    simp
    refine ⟨a, as, X, rfl, ha, by trivial, fun r H1 s1 hr1 h1 => ?_⟩
    refine ⟨r, lensV X, rfl, h1, by simp [lensV]; trivial, fun H2 s2 => ?_⟩
    have s12 := s1.trans s2
    show if _ then _ else _
    by_cases c1 : shapeB (lensV X) = true
    · rw [if_pos c1]
      rw [c1, Bool.true_and] at q
      refine ⟨a, as, X, rfl, ha.same s12, by trivial, hz3, lf, hl, fun H3 s3 => ?_⟩
      have s13 := s12.trans s3
      show if _ then _ else _
      by_cases c2 : unlikeG X = true
      · rw [if_pos c2]
        rw [c2, Bool.true_and] at q
        have c2' := c2
        unfold unlikeG at c2'
        rw [decide_eq_true_eq] at c2'
        have fx := full_rows lf c2'.2
        generalize hZ : X.map intsOf = Z at *
        subst fx
        have hz' : Z.length < 64 := by simpa using hz
        have hz3' : ∀ r ∈ Z, r.length < 64 := fun r hr => by simpa using hz3 (r.map V.int) (List.mem_map.mpr ⟨r, hr, rfl⟩)
        refine ⟨a, as, Z, rfl, (ha.same s13).toZ, by trivial, hz3', fun H4 s4 => ?_⟩
        have s14 := s13.trans s4
        show if _ then _ else _
        by_cases c3 : srtB Z = true
        · rw [if_pos (by exact c3)]
          rw [c3, Bool.true_and] at q
          refine ⟨a, as, _, rfl, ha.same s14, by simpa using (by trivial : Z.length ≤ 5000), fun r hr => by have := hz3 r hr; trivial, fun t ts H5 s5 h5 fr5 => ?_⟩
          rw [turnV_int] at h5
          refine ⟨t, ts, turnedP Z, rfl, h5.toZ, ?_, fun r hr => ?_, fun H6 s6 => q _ ((s14.trans s5).trans s6)⟩
          · simp [turnedP, width]
            cases Z with
            | nil => simp
            | cons r0 R => have := hz3' r0 List.mem_cons_self; simp; trivial
          · obtain ⟨p, _, rfl⟩ := List.mem_map.mp hr
            have : (RS.column Z p).length ≤ Z.length := by
              unfold RS.column; rw [List.length_map]; exact List.length_filter_le _ _
            trivial
        · rw [if_neg (by exact c3)]
          simp only [Bool.not_eq_true] at c3
          have := q _ s14
          rw [c3] at this
          exact this
      · rw [if_neg c2]
        simp only [Bool.not_eq_true] at c2
        have := q _ s13
        rw [c2] at this
        exact this
    · rw [if_neg c1]
      simp only [Bool.not_eq_true] at c1
      have := q _ s12
      rw [c1] at this
      exact this
noncomputable def countG (X : List (List V)) : Bool := decide (sortZ (readV X) = rngZ 1 (readV X).length)
noncomputable abbrev s_does_count : Stmt := top 12
theorem sc_does_count : FnScope ["rows", "numbers"] ["rows"] (defScope s_does_count) := ⟨rfl, rfl, rfl, by decide +kernel, rfl, by decide +kernel, by decide +kernel⟩
noncomputable def spCountG : Sp := fun vs H Q _ => ∃ (a : Addr) (as : List Addr) (X : List (List V)), vs = [.ref a] ∧ RowsV H a as X ∧ X.length < 64 ∧ (∀ r ∈ X, r.length < 64) ∧ (∀ r ∈ X, r.all isLeaf = true) ∧ lenN X < 64 ∧ ∀ H', Same H H' → Q (.bl (countG X)) H'
theorem ok_countG {f : Addr} {fd : FuncData} (F : Fun K "does_count" "does_count" s_does_count f fd) (T : Bl mg) (C_reading : Cal P w K mg base 1 "reading" ["rows"] spReadingV) : FnOk P w K mg base CX0 2 f fd ["rows"] spCountG := by
  refine F.ok sc_does_count (fun vs H Q E h => ?_) (fun cdv A outer s H vs Q E hr h => ?_)
  · obtain ⟨a, as, X, rfl, _⟩ := h; rfl
  · obtain ⟨a, as, X, rfl, ha, hz, hz2, lf, hl, q⟩ := h
    refine ⟨_, (pss_cons (ps_set (i := 1) sc_does_count.nd rfl (Or.inl rfl) (pe_cl C_reading (hr.mono (by decide)) (by rfl) (pa_cons (pv 0) pa_nil)))
      (pss_one (ps_ret (pe_cmpR (f_eqF (hu64 hr)) (pe_callB f_sorted (by rfl) T.sorted BI.sorted (pa_cons (pv 1) pa_nil)) (pe_listRng (by rfl) T.list (by rfl) T.range (pa_cons pe_int (pa_cons (pe_op f_add (pe_callB f_len (by rfl) T.len BI.len (pa_cons (pv 1) pa_nil)) pe_int) pa_nil)) rfl) (nomark _))))), ?_⟩
    have e0 : start ["rows", "numbers"] [V.ref a] = [some (.ref a), none] := rfl
    rw [e0]
    have rl := readV_le X
    simp
    refine ⟨a, as, X, rfl, ha, by trivial, by trivial, fun r hr => by have := hz2 r hr; trivial, lf, fun r H1 s1 hr1 h1 => ?_⟩
    simp [onL_of h1, onS_of h1]
    refine ⟨readV X, rfl, by trivial, fun p hp => ?_⟩
    have s2 := Same.upd_new (o := HO.lst ((sortZ (readV X)).map V.int)) hp
    rw [onS_of (s2 _ _ h1)]
    simp
    refine ⟨by trivial, by trivial, fun p2 hp2 => ?_⟩
    have s3 := Same.upd_new (o := HO.lst ((rngZ 1 (readV X).length).map V.int)) hp2
    refine eqF_ints (s3 _ _ upd_same) upd_same ?_
    exact q _ ((s1.trans s2).trans s3)
end
end SR
namespace SR
open PySem L2 RS PySem.Spec PyProof.Rows
section
variable {P : Program} {w : World} {K : PySem.W.Frag} {mg : Str → Option Value} {base : Heap}
theorem good_no {X : List (List V)} {i : Nat} {r : List V} (e : X[i]? = some r) (h : okRow X i r = false) : goodB X = false := by
  rw [Bool.eq_false_iff]
  intro z
  have := goodB_rows.mp z i r e
  rw [h] at this; cases this
theorem row_no {X : List (List V)} {i j : Nat} {r : List V} {v : V} (e : r[j]? = some v) (h : okCell (seenV X i (r.take j)) (r.take j) (aboveV X i j) v = false) : okRow X i r = false := by
  unfold okRow
  rw [Bool.and_eq_false_iff]
  right
  rw [Bool.eq_false_iff]
  intro z
  have := List.all_eq_true.mp z j (List.mem_range.mpr (List.getElem?_eq_some_iff.mp e).1)
  rw [List.getD_eq_getElem?_getD, e] at this
  simp only [Option.getD_some] at this
  rw [h] at this; cases this
theorem head_len {X : List (List V)} {i : Nat} {r : List V} (e : X[i]? = some r) (h : ∀ k s, k ≤ i → X[k]? = some s → okHead X k s = true) : ∀ k s, k ≤ i → X[k]? = some s → r.length ≤ s.length := by
  intro k s hk es
  obtain ⟨d, hd⟩ : ∃ d, i = k + d := ⟨i - k, by trivial⟩
  subst hd
  induction d generalizing r with
  | zero => rw [Nat.add_zero, es] at e; cases e; exact Nat.le_refl _
  | succ d ih =>
    have hlt : k + d < X.length := by have := (List.getElem?_eq_some_iff.mp e).1; trivial
    have e2 : X[k + d]? = some X[k + d] := List.getElem?_eq_getElem hlt
    have a := ih e2 (fun k' s' hk' es' => h k' s' (by trivial) es') (by trivial)
    have b := h (k + d + 1) r (by trivial) e
    unfold okHead at b
    rw [show k + d + 1 - 1 = k + d by trivial, List.getD_eq_getElem?_getD, e2] at b
    simp at b
    trivial
theorem holes_all {l : List V} (lf : l.all isLeaf = true) : decide (holesV l < l.length) = !(l.all fun u => decide (u = .non)) := by
  induction l with
  | nil => rfl
  | cons v l ih =>
    rw [List.all_cons, Bool.and_eq_true] at lf
    have ih := ih lf.2
    have hl := holesV_le l
    rcases leaf_cases lf.1 with rfl | ⟨n, rfl⟩
    · rw [holesV_consN, List.length_cons, List.all_cons]
      simp only [decide_true, Bool.true_and, Nat.add_lt_add_iff_right]
      exact ih
    · rw [holesV_consI, List.length_cons, List.all_cons]
      simp; trivial
theorem rowsW_take {H : Hp} : ∀ {as : List Addr} {xss : List (List V)} (k : Nat), RowsW H as xss → RowsW H (as.take k) (xss.take k)
  | _, _, 0, _ => by simpa using Paired.nil
  | _, _, _ + 1, .nil => by simpa using Paired.nil
  | _, _, k + 1, .cons h t => by rw [List.take_succ_cons, List.take_succ_cons]; exact .cons h (rowsW_take k t)
theorem seen_next {X : List (List V)} {i : Nat} {r : List V} (e : X[i]? = some r) : seenV X (i + 1) [] = seenV X i r := by
  unfold seenV
  rw [flat_take e]
  have : intsOf [] = [] := rfl
  rw [this, List.append_nil]
theorem seen_snoc {X : List (List V)} {i j : Nat} {r : List V} {v : V} (e : r[j]? = some v) : seenV X i (r.take (j + 1)) = seenV X i (r.take j) ++ intsOf [v] := by
  unfold seenV
  rw [ints_take_snoc e, List.append_assoc]
noncomputable abbrev s_law_good : Stmt := top 48
theorem sc_law_good : FnScope ["rows", "seen", "at", "row", "j", "left", "above", "less"] ["rows"] (defScope s_law_good) := ⟨rfl, rfl, rfl, by decide +kernel, rfl, by decide +kernel, by decide +kernel⟩
noncomputable def spGood : Sp := fun vs H Q _ => ∃ (a : Addr) (as : List Addr) (X : List (List V)), vs = [.ref a] ∧ RowsV H a as X ∧ X.length < 64 ∧ (∀ r ∈ X, r.length < 64) ∧ (∀ r ∈ X, r.all isLeaf = true) ∧ lenN X < 64 ∧ ∀ H', Same H H' → Q (.bl (goodB X)) H'
noncomputable def GoIn (H : Hp) (a sn : Addr) (X : List (List V)) (i : Nat) (σ : L2.St) (H' : Hp) : Prop := ∃ (o2 o3 o4 o5 o6 o7 : Option V), σ = [some (.ref a), some (.ref sn), o2, o3, o4, o5, o6, o7] ∧ Same H H' ∧ H' sn = some (.lst ((seenV X i []).map V.int)) ∧ ∀ k r, k < i → X[k]? = some r → okRow X k r = true
noncomputable def GoIn2 (H : Hp) (a sn b : Addr) (X : List (List V)) (i : Nat) (r : List V) (j : Nat) (σ : L2.St) (H' : Hp) : Prop := ∃ (o4 o5 o6 o7 : Option V), σ = [some (.ref a), some (.ref sn), some (.int (i : Int)), some (.ref b), o4, o5, o6, o7] ∧ Same H H' ∧ H' sn = some (.lst ((seenV X i (r.take j)).map V.int)) ∧
  ∀ k, k < j → okCell (seenV X i (r.take k)) (r.take k) (aboveV X i k) (r.getD k .non) = true
theorem seen_len (X : List (List V)) (i : Nat) (r : List V) (e : X[i]? = some r) (j : Nat) : (seenV X i (r.take j)).length ≤ lenN X := by
  have h1 : (seenV X i (r.take j)).length ≤ (((X.take (i + 1)).map intsOf).flatten).length := by
    rw [flat_take e]
    unfold seenV
    rw [List.length_append, List.length_append]
    have : (intsOf (r.take j)).length ≤ (intsOf r).length := by
      conv => rhs; rw [← List.take_append_drop j r]
      have : intsOf (r.take j ++ r.drop j) = intsOf (r.take j) ++ intsOf (r.drop j) := by unfold intsOf; rw [List.filterMap_append]
      rw [this, List.length_append]; trivial
    trivial
  have h2 : (((X.take (i + 1)).map intsOf).flatten).length ≤ lenN (X.take (i + 1)) := by
    unfold lenN
    rw [List.length_flatten, List.map_map]
    generalize X.take (i + 1) = Y
    induction Y with
    | nil => simp
    | cons r Y ih => have := intsOf_len r; simp at ih ⊢; trivial
  exact Nat.le_trans h1 (Nat.le_trans h2 (lenN_take X (i + 1)))
theorem ok_good {f : Addr} {fd : FuncData} (F : Fun K "_law_good" "_law_good" s_law_good f fd) (T : Bl mg) (C_law_holes : Cal P w K mg base 1 "_law_holes" ["row"] spLHoles) : FnOk P w K mg base CX0 2 f fd ["rows"] spGood := by
  refine F.ok sc_law_good (fun vs H Q E h => ?_) (fun cdv A outer s H vs Q E hr h => ?_)
  · obtain ⟨a, as, X, rfl, _⟩ := h; rfl
  · obtain ⟨a, as, X, rfl, ha, hz, hz2, lf, hl, q⟩ := h
    refine ⟨_, (pss_cons (ps_set (i := 1) sc_law_good.nd rfl (Or.inl rfl) (pe_lst pa_nil))
      (pss_cons (ps_for PassesOwn.never rfl (pi_range1 (by rfl) T.range (pa_cons (pe_callB f_len (by rfl) T.len BI.len (pa_cons (pv 0) pa_nil)) pa_nil)) (pg_name (i := 2) sc_law_good.nd rfl (Or.inl rfl)) (pss_cons (ps_set (i := 3) sc_law_good.nd rfl (Or.inl rfl) (pe_ix f_ix (pv 0) (pv 2) (fun _ _ => rfl)))
      (pss_cons (ps_if (PW.pt (pw_or (pt_cmpR (f_eqF (hu64 hr)) (pe_callB f_len (by rfl) T.len BI.len (pa_cons (pv 3) pa_nil)) pe_int (nomark _)) (pw_or1 (PW.pt (pw_and (pt_cmpR f_gt (pv 2) pe_int (nomark _)) (pw_and1 (pt_cmpR f_gt (pe_callB f_len (by rfl) T.len BI.len (pa_cons (pv 3) pa_nil)) (pe_callB f_len (by rfl) T.len BI.len (pa_cons (pe_ix f_ix (pv 0) (pe_op f_sub (pv 2) pe_int) (fun _ _ => rfl)) pa_nil)) (nomark _)))))))) (pss_one (ps_ret pe_bl)) pss_nil)
      (pss_one (ps_for PassesOwn.never rfl (pi_range1 (by rfl) T.range (pa_cons (pe_callB f_len (by rfl) T.len BI.len (pa_cons (pv 3) pa_nil)) pa_nil)) (pg_name (i := 4) sc_law_good.nd rfl (Or.inr rfl)) (pss_cons (ps_set (i := 5) sc_law_good.nd rfl (Or.inl rfl) (pe_slice f_sl (pv 3) po_none (po_some (pv 4))))
      (pss_cons (ps_comp (i := 6) sc_law_good.nd rfl rfl (cp := [4]) (M := ["other", "j"]) rfl ⟨rfl, rfl, rfl, rfl, rfl, rfl, rfl⟩ (by decide +kernel) (pi_l (pe_slice f_sl (pv 0) po_none (po_some (pv 2)))) (fun _ _ _ _ _ => pts_nil) (fun _ _ _ _ _ => (pe_ix f_ix (pv 0) (pv 1) (fun _ _ => rfl))))
      (pss_one (ps_if (pt_cmpR f_isN (pe_ix f_ix (pv 3) (pv 4) (fun _ _ => rfl)) pe_non (nomark _)) (pss_one (ps_if (PW.pt (pw_or (pt_cmpR f_gt (pe_callB f_len (by rfl) T.len BI.len (pa_cons (pv 5) pa_nil)) (pe_cl C_law_holes (hr.mono (by decide)) (by rfl) (pa_cons (pv 5) pa_nil)) (nomark _)) (pw_or1 (pt_cmpR f_gt (pe_callB f_len (by rfl) T.len BI.len (pa_cons (pv 6) pa_nil)) (pe_cl C_law_holes (hr.mono (by decide)) (by rfl) (pa_cons (pv 6) pa_nil)) (nomark _))))) (pss_one (ps_ret pe_bl)) pss_nil)) (pss_cons (ps_comp (i := 7) sc_law_good.nd rfl rfl (cp := []) (M := ["number"]) rfl ⟨rfl, rfl, rfl, rfl, rfl, rfl, rfl⟩ (by decide +kernel) (pi_l (pe_op f_add (pv 5) (pv 6))) (fun _ _ _ _ _ => (pts_one (pt_cmpR f_notN (pv 0) pe_non (nomark _)))) (fun _ _ _ _ _ => (pv 0)))
      (pss_cons (ps_if (PW.pt (pw_or (pt_cmpR f_in (pe_ix f_ix (pv 3) (pv 4) (fun _ _ => rfl)) (pv 1) (by with_unfolding_all rfl)) (pw_or (pt_cmpR (f_neF (hu64 hr)) (pe_callB (f_max1 rfl) (by rfl) T.max BI.max (pa_cons (pe_op f_add (pv 7) (pe_lst (pa_cons (pe_ix f_ix (pv 3) (pv 4) (fun _ _ => rfl)) pa_nil))) pa_nil)) (pe_ix f_ix (pv 3) (pv 4) (fun _ _ => rfl)) (nomark _)) (pw_or1 (pt_cmpR f_in (pe_ix f_ix (pv 3) (pv 4) (fun _ _ => rfl)) (pv 7) (by with_unfolding_all rfl)))))) (pss_one (ps_ret pe_bl)) pss_nil)
      (pss_one (ps_expr (pe_ml PySem.F.slot_list_append PySem.F.type_list_append f_append (pv 1) (pa_cons (pe_ix f_ix (pv 3) (pv 4) (fun _ _ => rfl)) pa_nil)))))))))))))))
      (pss_one (ps_ret pe_bl)))), ?_⟩
    have e0 : start ["rows", "seen", "at", "row", "j", "left", "above", "less"] [V.ref a] = [some (.ref a), none, none, none, none, none, none, none] := rfl
    rw [e0]
    have la := RowsW.len ha.row
    rw [rd_seq, rd_asg, rd_lst, rd_nil]
    refine ⟨line3 (by simp), fun sn hsn => ?_⟩
    have s0 := Same.upd_new (o := HO.lst []) hsn
    have h0 : upd H sn (HO.lst []) sn = some (HO.lst []) := upd_same
    rw [rd_name]
    dsimp only [List.set_cons_succ, List.set_cons_zero]
    generalize upd H sn (HO.lst []) = H0 at *
    rw [rd_seq]
    refine for_rangeF X.length (fun N h => by simp [onS_of (s0 _ _ ha.top), la]; exact ⟨by trivial, h⟩) (GoIn H a sn X) ⟨_, _, _, _, _, _, rfl, s0, by rw [h0]; simp [seenV, intsOf], fun k r hk => by trivial⟩ ?_ ?_
    · rintro i σ H1 hi ⟨o2, o3, o4, o5, o6, o7, rfl, s1, hs1, ok1⟩
      have ei : X[i]? = some X[i] := List.getElem?_eq_getElem hi
      have lfr := lf _ (List.mem_of_getElem? ei)
      have lr := hz2 _ (List.mem_of_getElem? ei)
      generalize X[i] = r at *
      obtain ⟨b, eb, hb⟩ := RowsW.get ha.row ei
      have hb1 := s1 _ _ hb
      have aT := s1 _ _ ha.top
      simp only [rd_name, List.set_cons_succ, List.set_cons_zero]
      rw [rd_seq, rd_asg]
      simp only [rd_op, rd_ix, rd_var2, rd_var1, rd_var0, rd_onO, rd_onI, onS_of aT, atI_ref eb, rd_name, List.set_cons_succ, List.set_cons_zero]
      rw [rd_seq]
      refine ifS (!okHead X i r) H1 (fun R h => ?_) ?_
      · unfold okHead at h
        simp [onS_of hb1]
        by_cases h0 : r = []
        · simpa [h0] using h
        · rw [if_neg h0]
          simp [h0] at h
          by_cases i0 : i = 0
          · subst i0
            simpa using h
          · have hi1 : X[i - 1]? = some X[i - 1] := List.getElem?_eq_getElem (by trivial)
            obtain ⟨b', eb', hb'⟩ := RowsW.get ha.row hi1
            have a' : atI (as.map V.ref) ((i : Int) - 1) = some (.ref b') := by
              have := atI_ref eb'
              rwa [show ((i - 1 : Nat) : Int) = (i : Int) - 1 by trivial] at this
            simp [i0, onS_of aT, a', onS_of (s1 _ _ hb')]
            rw [if_pos (by trivial)]
            simp [i0, hi1] at h
            have e3 : (!decide (r.length ≤ X[i - 1].length)) = decide (X[i - 1].length < r.length) := by rw [Bool.eq_iff_iff]; simp
            rw [← e3]
            exact h
      rcases (Bool.eq_false_or_eq_true (okHead X i r)).symm with hh | hh
      · rw [if_pos (by simpa using hh)]
        have gb := good_no ei (by unfold okRow; rw [hh]; rfl)
        simp
        have := q H1 s1
        rwa [gb] at this
      rw [if_neg (by simpa using hh), rd_next]
      dsimp only
      have heads : ∀ k s, k ≤ i → X[k]? = some s → okHead X k s = true := fun k s hk es => by
        by_cases e : k = i
        · subst e; rw [ei] at es; cases es; exact hh
        · have := ok1 k s (by trivial) es
          unfold okRow at this
          rw [Bool.and_eq_true] at this
          exact this.1
      have lens := head_len ei heads
      have sl := seen_len X i r ei
      refine for_rangeF r.length (fun N h => by simp [onS_of hb1]; exact ⟨by trivial, h⟩) (GoIn2 H a sn b X i r) ⟨_, _, _, _, rfl, s1, by simpa using hs1, fun k hk => by trivial⟩ ?_ ?_
      · rintro j σ H2 hj ⟨o4, o5, o6, o7, rfl, s2, hs2, ok2⟩
        have ej : r[j]? = some r[j] := List.getElem?_eq_getElem hj
        have lv := List.all_eq_true.mp lfr _ (List.mem_of_getElem? ej)
        generalize r[j] = v at *
        have hb2 := s2 _ _ hb
        have aT2 := s2 _ _ ha.top
        have aj : atI r (j : Int) = some v := atI_nat ej
        simp only [rd_name, List.set_cons_succ, List.set_cons_zero]
        rw [rd_seq, rd_asg]
        simp only [rd_sl, rd_nopart, rd_part, rd_var4, rd_var3, rd_var2, rd_var1, rd_var0, rd_onO, rd_onI, rd_cut, onL_of hb2, cut_to (Nat.le_of_lt hj), rd_new, rd_name, List.set_cons_succ, List.set_cons_zero]
        intro l1 hl1
        have s3 := Same.upd_new (o := HO.lst (r.take j)) hl1
        have h3 : upd H2 l1 (HO.lst (r.take j)) l1 = some (HO.lst (r.take j)) := upd_same
        generalize upd H2 l1 (HO.lst (r.take j)) = H3 at *
        rw [rd_seq, rd_asg]
        have ct : cutV (as.map V.ref) none (some (i : Int)) = (as.map V.ref).take i := cut_to (by rw [List.length_map]; trivial)
        refine comp_new (o := .lst ((as.map V.ref).take i)) (fun R h => by simp [onL_of (s3 _ _ aT2), ct]; exact h) (fun S hS => ?_)
        have s4 := Same.upd_new (o := HO.lst ((as.map V.ref).take i)) hS
        have h4 : upd H3 S (HO.lst ((as.map V.ref).take i)) S = some (HO.lst ((as.map V.ref).take i)) := upd_same
        generalize upd H3 S (HO.lst ((as.map V.ref).take i)) = H4 at *
        have rw4 : RowsW H4 (as.take i) (X.take i) := rowsW_take i (((ha.same s2).same s3).same s4).row
        rw [← List.map_take] at h4
        refine comp_listP (a := S) (xs := (as.take i).map V.ref) (fun R h => by simpa using h) h4 (fun _ => true) (fun u => (lstV H4 u).getD j .non) (by rw [List.length_map, List.length_take]; trivial) (fun u hu H5 s5 R h => by simpa using h) (fun u hu _ H5 s5 R h => ?_) (fun D hD => ?_)
        · obtain ⟨c, xs, rfl, hc, hx, e⟩ := rowsV_mem rw4 hu
          obtain ⟨k, hk, ek⟩ := List.mem_take_iff_getElem.mp hx
          have hlen := lens k xs (by trivial) (by rw [List.getElem?_eq_getElem (by trivial), ek])
          have e1 : xs[j]? = some (xs.getD j .non) := by rw [List.getD_eq_getElem?_getD, List.getElem?_eq_getElem (by trivial)]; rfl
          simp [cst, onS_of (s5 _ _ e), atI_nat e1]
          rw [lstV_of e] at h
          simpa using h
        have eA : (((as.take i).map V.ref).filter fun _ => true).map (fun u => (lstV H4 u).getD j .non) = aboveV X i j := by
          rw [List.filter_eq_self.mpr (fun _ _ => rfl), rowsV_map rw4 _ (fun s => s.getD j .non) (fun b xs _ _ e => by rw [lstV_of e])]
          rfl
        rw [eA]
        have s5 := Same.upd_new (o := HO.lst (aboveV X i j)) hD
        have h5 : upd H4 D (HO.lst (aboveV X i j)) D = some (HO.lst (aboveV X i j)) := upd_same
        generalize upd H4 D (HO.lst (aboveV X i j)) = H5 at *
        rw [rd_name]
        dsimp only [List.set_cons_succ, List.set_cons_zero]
        have s35 := s4.trans s5
        have s25 := s3.trans s35
        have lA : (aboveV X i j).length ≤ 64 := by simp [aboveV]; trivial
        have lL : (r.take j).length ≤ 64 := by rw [List.length_take]; trivial
        have lfA := above_leaf lf i j
        have lfL := take_leaf lfr j
        have hs5 := s25 _ _ hs2
        have snH : H sn = none := hsn
        refine ifS (decide (v = .non)) H5 (fun R h => by simp [onS_of (s25 _ _ hb2), aj]; exact h) ?_
        rcases leaf_cases lv with rfl | ⟨n, rfl⟩
        · -- a hole
          rw [if_pos (by simp)]
          refine ifS' (fun H6 => Same H5 H6) (!okCell (seenV X i (r.take j)) (r.take j) (aboveV X i j) .non) (fun R h => ?_) ?_
          · have e1 := holes_all lfL
            have e2 := holes_all lfA
            unfold okCell at h
            rw [List.all_append, Bool.not_and, ← e1, ← e2] at h
            simp [onS_of (s35 _ _ h3)]
            refine ⟨l1, _, rfl, s35 _ _ h3, lfL, by trivial, fun H6 s6 => ?_⟩
            have l1l : (r.take j).length = min j r.length := by rw [List.length_take]
            show (if ((holesV (r.take j) : Nat) : Int) < ((min j r.length : Nat) : Int) then _ else _)
            by_cases g1 : holesV (r.take j) < (r.take j).length
            · rw [if_pos (by trivial)]
              rw [decide_eq_true g1, Bool.true_or] at h
              exact h H6 s6
            · rw [if_neg (by trivial)]
              rw [decide_eq_false g1, Bool.false_or] at h
              rw [onS_of (s6 _ _ h5)]
              refine ⟨D, _, rfl, s6 _ _ h5, lfA, by trivial, fun H7 s7 => ?_⟩
              show R (decide (((holesV (aboveV X i j) : Nat) : Int) < (((aboveV X i j).length : Nat) : Int))) H7
              have := h H7 (s6.trans s7)
              have e4 : decide (((holesV (aboveV X i j) : Nat) : Int) < (((aboveV X i j).length : Nat) : Int)) = decide (holesV (aboveV X i j) < (aboveV X i j).length) := by rw [decide_eq_decide]; trivial
              rw [e4]
              exact this
          intro H6 s6
          rcases (Bool.eq_false_or_eq_true (okCell (seenV X i (r.take j)) (r.take j) (aboveV X i j) .non)).symm with hc | hc
          · rw [if_pos (by simpa using hc)]
            have gb := good_no ei (row_no ej hc)
            simp
            have := q H6 ((s2.trans s25).trans s6)
            rwa [gb] at this
          rw [if_neg (by simpa using hc), rd_next]
          refine ⟨_, _, _, _, rfl, (s2.trans s25).trans s6, ?_, fun k hk => ?_⟩
          · rw [seen_snoc ej, s6 _ _ hs5]; simp [intsOf]
          · by_cases e : k = j
            · subst e; rw [List.getD_eq_getElem?_getD, ej]; exact hc
            · exact ok2 k (by trivial)
        · -- a number
          rw [if_neg (by simp)]
          rw [rd_seq, rd_asg]
          refine comp_new (o := .lst (r.take j ++ aboveV X i j)) (fun R h => by
            simp only [rd_op, rd_var6, rd_var5, rd_var4, rd_var3, rd_var2, rd_var1, rd_var0, rd_onO, rd_plusL, onL_of (s35 _ _ h3), onL_of h5, rd_new]
            exact ⟨line3 (by trivial), h⟩) (fun S2 hS2 => ?_)
          have s6 := Same.upd_new (o := HO.lst (r.take j ++ aboveV X i j)) hS2
          have h6 : upd H5 S2 (HO.lst (r.take j ++ aboveV X i j)) S2 = some (HO.lst (r.take j ++ aboveV X i j)) := upd_same
          generalize upd H5 S2 (HO.lst (r.take j ++ aboveV X i j)) = H6 at *
          have lfB : (r.take j ++ aboveV X i j).all isLeaf = true := by rw [List.all_append, lfL, lfA]; rfl
          refine comp_listP (a := S2) (xs := r.take j ++ aboveV X i j) (fun R h => by simpa using h) h6 (fun u => !decide (u = V.non)) id (by rw [List.length_append]; trivial) (fun u hu H7 s7 R h => by simpa [cst] using h) (fun u hu _ H7 s7 R h => by simpa [cst] using h) (fun L hL => ?_)
          rw [List.map_id, leaf_filter lfB]
          have s7 := Same.upd_new (o := HO.lst ((intsOf (r.take j ++ aboveV X i j)).map V.int)) hL
          have h7 : upd H6 L (HO.lst ((intsOf (r.take j ++ aboveV X i j)).map V.int)) L = some (HO.lst ((intsOf (r.take j ++ aboveV X i j)).map V.int)) := upd_same
          generalize upd H6 L (HO.lst ((intsOf (r.take j ++ aboveV X i j)).map V.int)) = H7 at *
          have lI := intsOf_len (r.take j ++ aboveV X i j)
          rw [List.length_append] at lI
          rw [rd_name]
          dsimp only [List.set_cons_succ, List.set_cons_zero]
          have s57 := s6.trans s7
          have hs7 := s57 _ _ hs5
          have hb7 := s57 _ _ (s25 _ _ hb2)
          have slj := sl j
          rw [rd_seq]
          refine ifS' (fun H8 => Same H7 H8) (!okCell (seenV X i (r.take j)) (r.take j) (aboveV X i j) (.int n)) (fun R h => ?_) ?_
          · unfold okCell at h
            generalize hI : intsOf (r.take j ++ aboveV X i j) = less at *
            simp only [rd_or, rd_test, rd_op, rd_ix, rd_var7, rd_var6, rd_var5, rd_var4, rd_var3, rd_var2, rd_var1, rd_var0, rd_onO, rd_onI, onS_of hb7, aj, rd_in, onS_of hs7]
            refine ⟨rfl, flat_ints _, ?_⟩
            rw [in_int, rd_onB]
            by_cases g1 : n ∈ seenV X i (r.take j)
            · rw [if_pos (by simpa using g1)]
              have := h H7 (fun _ _ e => e)
              simpa [g1] using this
            · rw [if_neg (by simpa using g1)]
              simp only [rd_cb, rd_cons, rd_nil, rd_op, rd_var7, rd_var6, rd_var5, rd_var4, rd_var3, rd_var2, rd_var1, rd_var0, rd_onO, rd_lst, rd_ix, rd_onI, onS_of hb7, aj]
              refine ⟨line3 (by simp), fun p8 hp8 => ?_⟩
              have s8 := Same.upd_new (o := HO.lst [V.int n]) hp8
              have h8 : upd H7 p8 (HO.lst [V.int n]) p8 = some (HO.lst [V.int n]) := upd_same
              generalize upd H7 p8 (HO.lst [V.int n]) = H8 at *
              rw [rd_plusL, onL_of (s8 _ _ h7), onL_of h8]
              refine ⟨line3 (by simp; trivial), fun p9 hp9 => ?_⟩
              have s9 := Same.upd_new (o := HO.lst (less.map V.int ++ [V.int n])) hp9
              have h9 : upd H8 p9 (HO.lst (less.map V.int ++ [V.int n])) p9 = some (HO.lst (less.map V.int ++ [V.int n])) := upd_same
              generalize upd H8 p9 (HO.lst (less.map V.int ++ [V.int n])) = H9 at *
              have s79 := s8.trans s9
              simp only [rd_max1, rd_on1, onL_of h9]
              refine ⟨less ++ [n], by simp, by simp, fun M hM1 hM2 => ?_⟩
              simp only [rd_onI, onS_of (s79 _ _ hb7), aj, rd_onO, rd_neFI, rd_neI, rd_onB]
              have nM : n ≤ M := hM2 n (by simp)
              by_cases g2 : M = n
              · rw [if_neg (by simpa using g2), onS_of (s79 _ _ h7)]
                refine ⟨rfl, flat_ints _, ?_⟩
                rw [in_int]
                have e5 : decide (n ∈ less) = !(less.all fun m => decide (m < n)) := by
                  rw [Bool.eq_iff_iff, decide_eq_true_eq, Bool.not_eq_true', Bool.eq_false_iff, ne_eq, List.all_eq_true]
                  constructor
                  · intro hm z
                    have := z n hm
                    simp at this
                  · intro z
                    apply Classical.byContradiction
                    intro hn
                    refine z fun m hm => ?_
                    have a1 := hM2 m (List.mem_append_left _ hm)
                    have a2 : m ≠ n := fun e => hn (e ▸ hm)
                    simp; trivial
                rw [e5]
                have := h H9 s79
                simpa [g1] using this
              · rw [if_pos (by simpa using g2)]
                have hm : M ∈ less := by
                  rcases List.mem_append.mp hM1 with h | h
                  · exact h
                  · exact absurd (List.mem_singleton.mp h) g2
                have e6 : (less.all fun m => decide (m < n)) = false := by
                  rw [Bool.eq_false_iff, ne_eq, List.all_eq_true]
                  intro z
                  have := z M hm
                  simp at this; trivial
                have := h H9 s79
                dsimp only at this
                rw [e6] at this
                simpa using this
          intro H8 s8
          have s28 := (s2.trans s25).trans (s57.trans s8)
          rcases (Bool.eq_false_or_eq_true (okCell (seenV X i (r.take j)) (r.take j) (aboveV X i j) (.int n))).symm with hc | hc
          · rw [if_pos (by simpa using hc)]
            have gb := good_no ei (row_no ej hc)
            simp
            have := q H8 s28
            rwa [gb] at this
          rw [if_neg (by simpa using hc), rd_next]
          dsimp only
          have hs8 := s8 _ _ hs7
          simp only [rd_drop, rd_ml, rd_op, rd_ix, rd_var4, rd_var3, rd_var2, rd_var1, rd_var0, rd_onO, rd_onI, onL_of hs8, onS_of (s8 _ _ hb7), aj, rd_cons, rd_nil, rd_app, rd_on1]
          refine ⟨line100 (by rw [List.length_map]; trivial), _, _, _, _, rfl, s28.upd_in snH, ?_, fun k hk => ?_⟩
          · rw [upd_same, seen_snoc ej]
            have : intsOf [V.int n] = [n] := rfl
            rw [this, List.map_append]; rfl
          · by_cases e : k = j
            · subst e; rw [List.getD_eq_getElem?_getD, ej]; exact hc
            · exact ok2 k (by trivial)
      · rintro σ H2 ⟨o4, o5, o6, o7, rfl, s2, hs2, ok2⟩
        rw [List.take_length] at hs2
        refine ⟨_, _, _, _, _, _, rfl, s2, by rw [seen_next ei]; exact hs2, fun k s hk es => ?_⟩
        by_cases e : k = i
        · subst e
          rw [ei] at es
          cases es
          unfold okRow
          rw [hh, Bool.true_and, List.all_eq_true]
          exact fun j hj => ok2 j (List.mem_range.mp hj)
        · exact ok1 k s (by trivial) es
    · rintro σ H1 ⟨o2, o3, o4, o5, o6, o7, rfl, s1, hs1, ok1⟩
      have gb : goodB X = true := goodB_rows.mpr fun i r e => ok1 i r (List.getElem?_eq_some_iff.mp e).1 e
      simp
      have := q H1 s1
      rwa [gb] at this
end
end SR
namespace SR
open PySem L2 RS PySem.Spec PyProof.Rows
section
variable {P : Program} {w : World} {K : PySem.W.Frag} {mg : Str → Option Value} {base : Heap}
theorem rowsW_cons {H : Hp} {p : Addr} {as : List Addr} {r : List V} {xss : List (List V)} (h : H p = some (.lst r)) (t : RowsW H as xss) : RowsW H (p :: as) (r :: xss) := .cons h t
theorem rowsW_erase {H : Hp} : ∀ {as : List Addr} {xss : List (List V)} (i : Nat), RowsW H as xss → RowsW H (as.eraseIdx i) (xss.eraseIdx i)
  | _, _, _, .nil => by simp; exact .nil
  | _, _, 0, .cons _ t => by simpa using t
  | _, _, i + 1, .cons h t => by simpa using rowsW_cons h (rowsW_erase i t)
theorem rowsW_ins {H : Hp} {p : Addr} {s : List V} (hp : H p = some (.lst s)) : ∀ {as : List Addr} {xss : List (List V)} (o : Nat), RowsW H as xss → RowsW H (as.take o ++ p :: as.drop o) (xss.take o ++ s :: xss.drop o)
  | _, _, 0, t => by simpa using rowsW_cons hp t
  | _, _, _ + 1, .nil => by simpa using rowsW_cons hp .nil
  | _, _, o + 1, .cons h t => by simpa using rowsW_cons h (rowsW_ins hp o t)
theorem ins_perm {α : Type} (p : α) (as : List α) (o : Nat) : (as.take o ++ p :: as.drop o).Perm (p :: as) := by
  refine List.perm_middle.trans ?_
  rw [List.take_append_drop]
theorem erase_perm {α : Type} {as : List α} {i : Nat} {p : α} (h : as[i]? = some p) : (p :: as.eraseIdx i).Perm as := by
  obtain ⟨hi, e⟩ := List.getElem?_eq_some_iff.mp h
  rw [List.eraseIdx_eq_take_drop_succ, ← e]
  have := List.drop_eq_getElem_cons hi
  conv => rhs; rw [← List.take_append_drop i as, this]
  exact List.perm_middle.symm
theorem lenN_perm {X Y : List (List V)} (h : X.Perm Y) : lenN X = lenN Y := by
  unfold lenN
  exact (h.map List.length).sum_nat
theorem lenN_set {X : List (List V)} {i : Nat} {s ys : List V} (h : X[i]? = some s) : lenN (X.set i ys) + s.length = lenN X + ys.length := by
  obtain ⟨hi, e⟩ := List.getElem?_eq_some_iff.mp h
  have e1 : X.set i ys = X.take i ++ ys :: X.drop (i + 1) := by rw [List.set_eq_take_append_cons_drop, if_pos hi]
  have e2 : X = X.take i ++ s :: X.drop (i + 1) := by
    have := List.drop_eq_getElem_cons hi
    rw [e] at this
    rw [← this, List.take_append_drop]
  rw [e1]
  conv => rhs; rw [e2]
  simp only [lenN, List.map_append, List.map_cons, List.sum_append, List.sum_cons]
  trivial
theorem row_leN {X : List (List V)} {r : List V} (h : r ∈ X) : r.length ≤ lenN X := by
  unfold lenN
  induction X with
  | nil => simp at h
  | cons s X ih =>
    rw [List.map_cons, List.sum_cons]
    rcases List.mem_cons.mp h with e | e
    · subst e; trivial
    · have := ih e; trivial
theorem fresh_perm {H : Hp} {r : Addr} {as bs : List Addr} (h : Fresh H (r :: as)) (p : bs.Perm as) : Fresh H (r :: bs) :=
  ⟨(List.Perm.cons r p).nodup_iff.mpr h.nd, fun b hb => h.no b ((List.Perm.cons r p).mem_iff.mp hb)⟩
theorem seq_skip {tA : TT} {t R : TS} {D : Ends} {σ : L2.St} {H : Hp} (h : ∀ Q : Bool → Hp → Prop, Q false H → tA σ H Q) (k : R D σ H) : tSeq (tIfS tA t tNext) R D σ H := h _ k
theorem seq_take {tA : TT} {t R : TS} {D : Ends} {σ : L2.St} {H : Hp} (h : ∀ Q : Bool → Hp → Prop, Q true H → tA σ H Q) (k : t { D with nx := R D } σ H) : tSeq (tIfS tA t tNext) R D σ H := h _ k
theorem one_skip {tA : TT} {t : TS} {D : Ends} {σ : L2.St} {H : Hp} (h : ∀ Q : Bool → Hp → Prop, Q false H → tA σ H Q) (k : D.nx σ H) : tIfS tA t tNext D σ H := h _ k
theorem one_take {tA : TT} {t : TS} {D : Ends} {σ : L2.St} {H : Hp} (h : ∀ Q : Bool → Hp → Prop, Q true H → tA σ H Q) (k : t D σ H) : tIfS tA t tNext D σ H := h _ k
noncomputable abbrev s_law_spoilt : Stmt := top 47
theorem sc_law_spoilt : FnScope ["script", "rows", "way", "at", "j", "other"] ["script", "rows"] (defScope s_law_spoilt) := ⟨rfl, rfl, rfl, by decide +kernel, rfl, by decide +kernel, by decide +kernel⟩
noncomputable def LfX (X : List (List V)) : Prop := ∀ r ∈ X, r.all isLeaf = true
theorem LfX.set {X : List (List V)} (h : LfX X) {i : Nat} {ys : List V} (hy : ys.all isLeaf = true) : LfX (X.set i ys) := fun r hr => by
  rcases List.mem_or_eq_of_mem_set hr with e | e
  · exact h r e
  · rw [e]; exact hy
noncomputable def spSpoil (K : PySem.W.Frag) : Sp := fun vs H Q _ => ∃ (a : Addr) (ns : List Int) (r : Addr) (rs : List Addr) (X : List (List V)) (H0 : Hp), vs = [.ref a, .ref r] ∧ SqL K H0 a (ns.map V.int) ∧ ns.length ≤ 63 ∧ RowsV H r rs X ∧ X ≠ [] ∧ (∀ x ∈ X, x ≠ []) ∧ LfX X ∧ X.length ≤ 20 ∧ lenN X ≤ 20 ∧ Same H0 H ∧ Fresh H0 (r :: rs) ∧
  ∀ rs' X' H', Same H0 H' → RowsV H' r rs' X' → Fresh H0 (r :: rs') → LfX X' → X'.length ≤ 21 → lenN X' ≤ 21 → Q .non H'
theorem ok_spoil {f : Addr} {fd : FuncData} (F : Fun K "_law_spoilt" "_law_spoilt" s_law_spoilt f fd) (T : Bl mg) (C_law_drawn : Cal P w K mg base 1 "_law_drawn" ["script", "k", "many"] (spDrawn K)) : FnOk P w K mg base CX0 2 f fd ["script", "rows"] (spSpoil K) := by
  refine F.ok sc_law_spoilt (fun vs H Q E h => ?_) (fun cdv A outer s H vs Q E hr h => ?_)
  · obtain ⟨a, ns, r, rs, X, H0, rfl, _⟩ := h; rfl
  · obtain ⟨a, ns, r, rs, X, H0, rfl, hS0, hl, hR, hne, hpos, lf, l1, l2, s0, fr, q⟩ := h
    refine ⟨_, (pss_cons (ps_set (i := 2) sc_law_spoilt.nd rfl (Or.inl rfl) (pe_cl C_law_drawn (hr.mono (by decide)) (by rfl) (pa_cons (pv 0) (pa_cons pe_int (pa_cons pe_int pa_nil)))))
      (pss_cons (ps_set (i := 3) sc_law_spoilt.nd rfl (Or.inl rfl) (pe_cl C_law_drawn (hr.mono (by decide)) (by rfl) (pa_cons (pv 0) (pa_cons pe_int (pa_cons (pe_callB f_len (by rfl) T.len BI.len (pa_cons (pv 1) pa_nil)) pa_nil)))))
      (pss_cons (ps_set (i := 4) sc_law_spoilt.nd rfl (Or.inl rfl) (pe_cl C_law_drawn (hr.mono (by decide)) (by rfl) (pa_cons (pv 0) (pa_cons pe_int (pa_cons (pe_callB f_len (by rfl) T.len BI.len (pa_cons (pe_ix f_ix (pv 1) (pv 3) (fun _ _ => rfl)) pa_nil)) pa_nil)))))
      (pss_cons (ps_set (i := 5) sc_law_spoilt.nd rfl (Or.inl rfl) (pe_cl C_law_drawn (hr.mono (by decide)) (by rfl) (pa_cons (pv 0) (pa_cons pe_int (pa_cons (pe_callB f_len (by rfl) T.len BI.len (pa_cons (pv 1) pa_nil)) pa_nil)))))
      (pss_cons (ps_if (pt_cmpR (f_eqF (hu64 hr)) (pv 2) pe_int (nomark _)) (pss_one (ps_asg (pe_op f_sub (pe_cl C_law_drawn (hr.mono (by decide)) (by rfl) (pa_cons (pv 0) (pa_cons pe_int (pa_cons pe_int pa_nil)))) pe_int) (pg_sub (pe_ix f_ix (pv 1) (pv 3) (fun _ _ => rfl)) (pv 4) f_set))) pss_nil)
      (pss_cons (ps_if (pt_cmpR (f_eqF (hu64 hr)) (pv 2) pe_int (nomark _)) (pss_one (ps_asg pe_non (pg_sub (pe_ix f_ix (pv 1) (pv 3) (fun _ _ => rfl)) (pv 4) f_set))) pss_nil)
      (pss_cons (ps_if (pt_cmpR (f_eqF (hu64 hr)) (pv 2) pe_int (nomark _)) (pss_one (ps_expr (pe_ml PySem.F.slot_list_insert PySem.F.type_list_insert f_insert (pv 1) (pa_cons (pv 5) (pa_cons (pe_ml PySem.F.slot_list_pop PySem.F.type_list_pop f_popAt (pv 1) (pa_cons (pv 3) pa_nil)) pa_nil))))) pss_nil)
      (pss_cons (ps_if (pt_cmpR (f_eqF (hu64 hr)) (pv 2) pe_int (nomark _)) (pss_one (ps_expr (pe_ml PySem.F.slot_list_insert PySem.F.type_list_insert f_insert (pv 1) (pa_cons (pv 3) (pa_cons (pe_lst pa_nil) pa_nil (star_lst _ _ _ _)))))) pss_nil)
      (pss_cons (ps_if (pt_cmpR (f_eqF (hu64 hr)) (pv 2) pe_int (nomark _)) (pss_one (ps_expr (pe_ml PySem.F.slot_list_insert PySem.F.type_list_insert f_insert (pe_ix f_ix (pv 1) (pv 3) (fun _ _ => rfl)) (pa_cons pe_int (pa_cons pe_non pa_nil))))) pss_nil)
      (pss_one (ps_if (pt_cmpR (f_eqF (hu64 hr)) (pv 2) pe_int (nomark _)) (pss_one (ps_expr (pe_ml PySem.F.slot_list_append PySem.F.type_list_append f_append (pe_ix f_ix (pv 1) (pv 3) (fun _ _ => rfl)) (pa_cons (pe_ix f_ix (pe_ix f_ix (pv 1) (pv 3) (fun _ _ => rfl)) (pv 4) (fun _ _ => rfl)) pa_nil)))) pss_nil))))))))))), ?_⟩
    have e0 : start ["script", "rows", "way", "at", "j", "other"] [V.ref a, V.ref r] = [some (.ref a), some (.ref r), none, none, none, none] := rfl
    rw [e0]
    have hS := s0.seq hS0
    have lrs := RowsW.len hR.row
    have draw : ∀ {H : Hp} {k m : Int} {Q : VK} {E : XK}, SqL K H a (ns.map V.int) → 0 ≤ k → k < 1000 → 0 < m → Q (.int (drawnZ ns k m)) H → spDrawn K [.ref a, .int k, .int m] H Q E := fun hS hk0 hk1 hm q => ⟨a, ns, _, _, rfl, hS, hl, hk0, hk1, hm, q⟩
    have hn : 0 < X.length := List.length_pos_iff.mpr hne
    have a1 := drawn_lo ns 401 (m := (X.length : Int)) (by trivial)
    have a2 := drawn_hi ns 401 (m := (X.length : Int)) (by trivial)
    have b1 := drawn_lo ns 403 (m := (X.length : Int)) (by trivial)
    have b2 := drawn_hi ns 403 (m := (X.length : Int)) (by trivial)
    obtain ⟨i, ei⟩ : ∃ i : Nat, drawnZ ns 401 (X.length : Int) = (i : Int) := ⟨(drawnZ ns 401 (X.length : Int)).toNat, by trivial⟩
    obtain ⟨o, eo⟩ : ∃ o : Nat, drawnZ ns 403 (X.length : Int) = (o : Int) := ⟨(drawnZ ns 403 (X.length : Int)).toNat, by trivial⟩
    rw [ei] at a1 a2
    rw [eo] at b1 b2
    have hi : i < X.length := by trivial
    have ho : o < X.length := by trivial
    have eR : X[i]? = some X[i] := List.getElem?_eq_getElem hi
    have hposi := hpos _ (List.getElem_mem hi)
    have lfs := lf _ (List.getElem_mem hi)
    generalize X[i] = s at eR hposi lfs
    obtain ⟨p, ep, hp⟩ := RowsW.get hR.row eR
    have sl : 0 < s.length := List.length_pos_iff.mpr hposi
    have slN := row_leN (List.mem_of_getElem? eR)
    have c1 := drawn_lo ns 402 (m := (s.length : Int)) (by trivial)
    have c2 := drawn_hi ns 402 (m := (s.length : Int)) (by trivial)
    obtain ⟨j, ej⟩ : ∃ j : Nat, drawnZ ns 402 (s.length : Int) = (j : Int) := ⟨(drawnZ ns 402 (s.length : Int)).toNat, by trivial⟩
    rw [ej] at c1 c2
    have hj : j < s.length := by trivial
    have esj : s[j]? = some s[j] := List.getElem?_eq_getElem hj
    have lfj := List.all_eq_true.mp lfs _ (List.getElem_mem hj)
    generalize s[j] = vj at esj lfj
    have pn : p ∈ rs := List.mem_of_getElem? ep
    have hp0 : H0 p = none := fr.no p (List.mem_cons_of_mem _ pn)
    have hr0 : H0 r = none := fr.no r List.mem_cons_self
    have pr : p ≠ r := fun z => (List.nodup_cons.mp fr.nd).1 (z ▸ pn)
    have same := q rs X H s0 hR fr lf (by trivial) (by trivial)
    have w1 := drawn_lo ns 400 (m := 8) (by decide)
    have w2 := drawn_hi ns 400 (m := 8) (by decide)
    generalize hwy : drawnZ ns 400 8 = way at *
    refine cut4 (fun σ H1 => σ = [some (.ref a), some (.ref r), some (.int way), some (.int (i : Int)), some (.int (j : Int)), some (.int (o : Int))] ∧ H1 = H) (fun R' h => ?_) ?_
    · simp [onS_of hR.top, lrs]
      refine draw hS (by decide) (by decide) (by decide) ?_
      rw [hwy]
      simp [onS_of hR.top, lrs]
      refine draw hS (by decide) (by decide) (by trivial) ?_
      rw [ei]
      simp [onS_of hR.top, atI_ref ep, onS_of hp]
      refine draw hS (by decide) (by decide) (by trivial) ?_
      rw [ej]
      simp [onS_of hR.top, lrs]
      refine draw hS (by decide) (by decide) (by trivial) ?_
      rw [eo]
      exact h _ _ ⟨rfl, rfl⟩
    rintro σ H1 ⟨rfl, rfl⟩
    have setX : ∀ {ys : List V}, ys.all isLeaf = true → ys.length ≤ s.length + 1 → Q .non (upd H1 p (.lst ys)) := fun {ys} hy hl => by
      have sf := lenN_set (ys := ys) eR
      exact q rs _ _ (s0.upd_in hp0) (RowsV.set hR ep fr.nd) fr (lf.set hy) (by rw [List.length_set]; trivial) (by trivial)
    have lfset : ∀ {v : V}, isLeaf v = true → (s.set j v).all isLeaf = true := fun {v} hv => by
      rw [List.all_eq_true]
      intro u hu
      rcases List.mem_or_eq_of_mem_set hu with e | e
      · exact List.all_eq_true.mp lfs u e
      · rw [e]; exact hv
    have tst : ∀ (k : Int) (H : Hp) (R : Bool → Hp → Prop), R (decide (way = k)) H → tTest (tOp rEqF (tVar 2) (tC (V.int k))) [some (.ref a), some (.ref r), some (.int way), some (.int (i : Int)), some (.int (j : Int)), some (.int (o : Int))] H R := fun k H R h => by
      simp only [rd_test, rd_op, rd_var2, rd_var1, rd_var0, rd_onO, rd_c, rd_eqFI, rd_eqI, rd_onB]
      exact h
    have no : ∀ {k : Int}, way ≠ k → ∀ (H : Hp) (R : Bool → Hp → Prop), R false H → tTest (tOp rEqF (tVar 2) (tC (V.int k))) [some (.ref a), some (.ref r), some (.int way), some (.int (i : Int)), some (.int (j : Int)), some (.int (o : Int))] H R := fun h H R hr => tst _ H R (by rw [decide_eq_false h]; exact hr)
    have yes : ∀ {k : Int}, way = k → ∀ (H : Hp) (R : Bool → Hp → Prop), R true H → tTest (tOp rEqF (tVar 2) (tC (V.int k))) [some (.ref a), some (.ref r), some (.int way), some (.int (i : Int)), some (.int (j : Int)), some (.int (o : Int))] H R := fun h H R hr => tst _ H R (by rw [decide_eq_true h]; exact hr)
    clear tst
    by_cases w0 : way = 0
    · have n1 : way ≠ 1 := by rw [w0]; decide
      have n2 : way ≠ 2 := by rw [w0]; decide
      have n3 : way ≠ 3 := by rw [w0]; decide
      have n4 : way ≠ 4 := by rw [w0]; decide
      have n5 : way ≠ 5 := by rw [w0]; decide
      refine seq_take (yes w0 _) ?_
      simp only [rd_asg, rd_op, rd_cl, rd_cons, rd_nil, rd_var0, rd_onO, rd_c]
      refine draw hS (by decide) (by decide) (by decide) ?_
      simp only [rd_II, rd_onI, rd_sub, rd_op, rd_ix, rd_var4, rd_var3, rd_var2, rd_var1, rd_var0, rd_onO, onS_of hR.top, atI_ref ep, rd_setF, onL_of hp]
      refine ⟨⟨by trivial, by trivial⟩, ?_⟩
      refine seq_skip (no n1 _) (seq_skip (no n2 _) (seq_skip (no n3 _) (seq_skip (no n4 _) (one_skip (no n5 _) ?_))))
      rw [Int.toNat_natCast]
      exact setX (lfset rfl) (by rw [List.length_set]; trivial)
    refine seq_skip (no w0 _) ?_
    by_cases w1' : way = 1
    · have n2 : way ≠ 2 := by rw [w1']; decide
      have n3 : way ≠ 3 := by rw [w1']; decide
      have n4 : way ≠ 4 := by rw [w1']; decide
      have n5 : way ≠ 5 := by rw [w1']; decide
      refine seq_take (yes w1' _) ?_
      simp only [rd_asg, rd_onI, rd_sub, rd_op, rd_ix, rd_c, rd_var4, rd_var3, rd_var2, rd_var1, rd_var0, rd_onO, onS_of hR.top, atI_ref ep, rd_setF, onL_of hp]
      refine ⟨⟨by trivial, by trivial⟩, ?_⟩
      refine seq_skip (no n2 _) (seq_skip (no n3 _) (seq_skip (no n4 _) (one_skip (no n5 _) ?_)))
      rw [Int.toNat_natCast]
      exact setX (lfset rfl) (by rw [List.length_set]; trivial)
    refine seq_skip (no w1' _) ?_
    by_cases w2' : way = 2
    · have n3 : way ≠ 3 := by rw [w2']; decide
      have n4 : way ≠ 4 := by rw [w2']; decide
      have n5 : way ≠ 5 := by rw [w2']; decide
      refine seq_take (yes w2' _) ?_
      simp only [rd_drop, rd_ml, rd_var5, rd_var4, rd_var3, rd_var2, rd_var1, rd_var0, rd_onO, onL_of hR.top, rd_cons, rd_nil, rd_popAt, rd_on1, rd_onI, Int.toNat_natCast]
      refine ⟨⟨by trivial, by rw [List.length_map]; trivial⟩, ?_⟩
      rw [List.getElem?_map, ep, Option.map_some, rd_onO]
      simp only [rd_ins, rd_on2, rd_onI, Int.toNat_natCast]
      rw [onL_of upd_same]
      have le : ((rs.map V.ref).eraseIdx i).length = rs.length - 1 := by rw [List.length_eraseIdx, if_pos (by rw [List.length_map]; trivial), List.length_map]
      refine ⟨⟨by trivial, by rw [le]; trivial, by rw [le]; exact line100 (by trivial)⟩, ?_⟩
      refine seq_skip (no n3 _) (seq_skip (no n4 _) (one_skip (no n5 _) ?_))
      have em : (rs.map V.ref).eraseIdx i = (rs.eraseIdx i).map V.ref := by rw [List.eraseIdx_eq_take_drop_succ, List.eraseIdx_eq_take_drop_succ]; simp [List.map_take, List.map_drop]
      rw [em, upd_upd]
      have e4 : List.take o ((rs.eraseIdx i).map V.ref) ++ V.ref p :: List.drop o ((rs.eraseIdx i).map V.ref) = ((rs.eraseIdx i).take o ++ p :: (rs.eraseIdx i).drop o).map V.ref := by simp [List.map_take, List.map_drop]
      rw [e4]
      have pe := ins_perm p (rs.eraseIdx i) o
      have pe2 := pe.trans (erase_perm ep)
      have pR := (ins_perm s (X.eraseIdx i) o).trans (erase_perm eR)
      refine q ((rs.eraseIdx i).take o ++ p :: (rs.eraseIdx i).drop o) ((X.eraseIdx i).take o ++ s :: (X.eraseIdx i).drop o) _ (s0.upd_in hr0) ⟨upd_same, ?_⟩ (fresh_perm fr pe2) (fun y hy => lf y (pR.mem_iff.mp hy)) (by rw [pR.length_eq]; trivial) (by rw [lenN_perm pR]; trivial)
      refine RowsW.mono (rowsW_ins hp o (rowsW_erase i hR.row)) fun b hb u e => ?_
      have bn : b ∈ rs := pe2.mem_iff.mp hb
      have br : b ≠ r := fun z => (List.nodup_cons.mp fr.nd).1 (z ▸ bn)
      rw [upd_ne br]; exact e
    refine seq_skip (no w2' _) ?_
    by_cases w3 : way = 3
    · have n4 : way ≠ 4 := by rw [w3]; decide
      have n5 : way ≠ 5 := by rw [w3]; decide
      refine seq_take (yes w3 _) ?_
      simp only [rd_drop, rd_ml, rd_var3, rd_var2, rd_var1, rd_var0, rd_onO, onL_of hR.top, rd_cons, rd_nil, rd_lst]
      refine ⟨line3 (by simp), fun n hn0 => ?_⟩
      have s1 := Same.upd_new (o := HO.lst []) hn0
      have nrs := hR.notin hn0
      have nr : n ≠ r := fun z => nrs (z ▸ List.mem_cons_self)
      have nrs' : n ∉ rs := fun z => nrs (List.mem_cons_of_mem _ z)
      simp only [rd_ins, rd_on2, rd_onI, Int.toNat_natCast]
      rw [onL_of (s1 _ _ hR.top)]
      refine ⟨⟨by trivial, by rw [List.length_map]; trivial, by rw [List.length_map]; exact line100 (by trivial)⟩, ?_⟩
      refine seq_skip (no n4 _) (one_skip (no n5 _) ?_)
      have e4 : List.take i (rs.map V.ref) ++ V.ref n :: List.drop i (rs.map V.ref) = (rs.take i ++ n :: rs.drop i).map V.ref := by simp [List.map_take, List.map_drop]
      rw [e4]
      have pe := ins_perm n rs i
      have pR := ins_perm ([] : List V) X i
      have frn : Fresh H0 (r :: n :: rs) := ⟨by
        have := List.nodup_cons.mp fr.nd
        simp [nr.symm, this.1, this.2, nrs'], fun b hb => by
        rcases List.mem_cons.mp hb with rfl | hb
        · exact hr0
        · rcases List.mem_cons.mp hb with rfl | hb
          · exact s0.free hn0
          · exact fr.no b (List.mem_cons_of_mem _ hb)⟩
      refine q (rs.take i ++ n :: rs.drop i) (X.take i ++ [] :: X.drop i) _ ((s0.trans s1).upd_in hr0) ⟨upd_same, ?_⟩ (fresh_perm frn pe) (fun y hy => ?_) (by rw [pR.length_eq]; simp; trivial) (by rw [lenN_perm pR]; simp [lenN] at l2 ⊢; trivial)
      · have h0 : upd H1 n (HO.lst []) n = some (HO.lst []) := upd_same
        refine RowsW.mono (rowsW_ins h0 i (RowsW.same hR.row s1)) fun b hb u e => ?_
        have bn : b ∈ n :: rs := pe.mem_iff.mp hb
        have br : b ≠ r := fun z => by
          rcases List.mem_cons.mp bn with y | y
          · exact nr (y ▸ z)
          · exact (List.nodup_cons.mp fr.nd).1 (z ▸ y)
        rw [upd_ne br]; exact e
      · rcases List.mem_cons.mp (pR.mem_iff.mp hy) with e | e
        · rw [e]; rfl
        · exact lf y e
    refine seq_skip (no w3 _) ?_
    by_cases w4 : way = 4
    · have n5 : way ≠ 5 := by rw [w4]; decide
      refine seq_take (yes w4 _) ?_
      simp only [rd_drop, rd_ml, rd_op, rd_ix, rd_var3, rd_var2, rd_var1, rd_var0, rd_onO, rd_onI, rd_c, onS_of hR.top, atI_ref ep, onL_of hp, rd_cons, rd_nil, rd_ins, rd_on2]
      refine ⟨⟨by decide, by trivial, line100 (by trivial)⟩, ?_⟩
      refine one_skip (no n5 _) ?_
      exact setX (by rw [show (0 : Int).toNat = 0 from rfl, List.take_zero, List.nil_append, List.drop_zero, List.all_cons, lfs]; rfl) (by simp)
    refine seq_skip (no w4 _) ?_
    by_cases w5 : way = 5
    · refine one_take (yes w5 _) ?_
      simp only [rd_drop, rd_ml, rd_op, rd_ix, rd_var4, rd_var3, rd_var2, rd_var1, rd_var0, rd_onO, rd_onI, rd_c, onS_of hR.top, atI_ref ep, onL_of hp, onS_of hp, rd_cons, rd_nil, atI_nat esj, rd_app, rd_on1]
      refine ⟨line100 (by trivial), ?_⟩
      exact setX (by rw [List.all_append, lfs, List.all_cons, lfj]; rfl) (by simp)
    exact one_skip (no w5 _) same
end
end SR
namespace SR
open PySem L2 RS PySem.Spec PyProof.Rows
section
variable {P : Program} {w : World} {K : PySem.W.Frag} {mg : Str → Option Value} {base : Heap}
theorem inn_ok {X : List (List V)} {i : Nat} (h : HolF X) (lf : ∀ r ∈ X, r.all isLeaf = true) (hz : X.length < 64) (hw : ∀ r ∈ X, r.length < 64) (hc : canN X i = true) : SlOk X i ∧ ∃ F, SlidR X i (plV X i) F := by
  unfold canN at hc
  rw [Bool.and_eq_true, Bool.and_eq_true, decide_eq_true_eq, decide_eq_true_eq] at hc
  obtain ⟨⟨hi, hp⟩, hor⟩ := hc
  have ei : X[i]? = some X[i] := List.getElem?_eq_getElem hi
  have hlt : hsV X (i + 1) < hsV X i := by
    have e : hsV X i = holesAt X i := rfl
    have e' : hsV X (i + 1) = holesAt X (i + 1) := rfl
    rw [e, e']
    rw [Bool.or_eq_true, decide_eq_true_eq, decide_eq_true_eq] at hor
    rcases hor with h | h
    · have : holesAt X (i + 1) = 0 := by
        unfold holesAt
        rw [List.getD_eq_getElem?_getD, List.getElem?_eq_none (by trivial)]; simp [holesV]
      trivial
    · exact h
  have ok : SlOk X i := ⟨⟨X[i], ei, by unfold holesAt at hp; rw [getD_row ei] at hp; exact hp⟩, ⟨hsV X, h.anti, h.num, hlt, fun r er => by unfold hsV; rw [getD_row er]⟩, lf, hz, hw⟩
  refine ⟨ok, slid_ex (hs := hsV X) h.anti (W := 64) _ X i (plV X i) (fun r hr => by have := hw r hr; trivial) h.num ?_ ?_ (Nat.le_refl _)⟩
  · have : plV X i = hsV X i - 1 := rfl
    trivial
  · have : plV X i = hsV X i - 1 := rfl
    trivial
structure Sz (X : List (List V)) : Prop where
  len : X.length < 64
  row : ∀ r ∈ X, r.length < 64
  leaf : ∀ r ∈ X, r.all isLeaf = true
  all : lenN X < 64
noncomputable abbrev s_slide : Stmt := top 29
theorem sc_slide : FnScope ["rows", "at"] ["rows", "at"] (defScope s_slide) := ⟨rfl, rfl, rfl, by decide +kernel, rfl, by decide +kernel, by decide +kernel⟩
noncomputable def spSlideX (NS NL : Addr) : Sp := fun vs H Q E => ∃ (a : Addr) (as : List Addr) (X : List (List V)) (k : Int), vs = [.ref a, .int k] ∧ RowsV H a as X ∧ Sz X ∧ (holedV X = false → ∀ H', Same H H' → E (.ref NS) none H') ∧
  (holedV X = true → (decide (0 ≤ k) && canN X k.toNat) = false → ∀ H', Same H H' → E (.ref NL) none H') ∧ (holedV X = true → (decide (0 ≤ k) && canN X k.toNat) = true → ∀ r H', Same H H' → Q (.ref r) H')
theorem ok_slideX {f : Addr} {fd : FuncData} {NS NL : Addr} (F : Fun K "slide" "slide" s_slide f fd) (T : Bl mg) (O_NoStairs : Own K mg "NoStairs" NS) (O_NoPlace : Own K mg "NoPlace" NL) (C_is_holed : Cal P w K mg base 4 "is_holed" ["rows"] spHoled) (C_can_slide : Cal P w K mg base 2 "can_slide" ["rows", "at"] spCan) (C_slid : Cal P w K mg base 3 "slid" ["rows", "at"] spSlid) : FnOk P w K mg base (CXx P w) 5 f fd ["rows", "at"] (spSlideX NS NL) := by
  refine F.okX sc_slide (fun vs H Q E h => ?_) (fun cdv A outer s H vs Q E hr h => ?_)
  · obtain ⟨a, as, X, k, rfl, _⟩ := h; rfl
  · obtain ⟨a, as, X, k, rfl, ha, sz, q1, q2, q3⟩ := h
    refine ⟨_, (pss_cons (ps_if (pt_not (pt_val (pe_cl C_is_holed (hr.mono (by decide)) (by rfl) (pa_cons (pv 0) pa_nil)))) (pss_one (ps_raise (by rfl) O_NoStairs.mg O_NoStairs.exc hr.hd)) pss_nil)
      (pss_cons (ps_if (pt_not (pt_val (pe_cl C_can_slide (hr.mono (by decide)) (by rfl) (pa_cons (pv 0) (pa_cons (pv 1) pa_nil))))) (pss_one (ps_raise (by rfl) O_NoPlace.mg O_NoPlace.exc hr.hd)) pss_nil)
      (PSs.nox (pss_one (ps_ret (pe_cl C_slid (hr.mono (by decide)) (by rfl) (pa_cons (pv 0) (pa_cons (pv 1) pa_nil)))))))), ?_⟩
    have e0 : start ["rows", "at"] [V.ref a, V.int k] = [some (.ref a), some (.int k)] := rfl
    rw [e0, rd_seq]
    have rl := readV_le X
    have sa := sz.all
    refine ifS' (fun H' => Same H H') (!holedV X) (fun R h => ?_) (fun H1 s1 => ?_)
    · simp
      exact ⟨a, as, X, rfl, ha, sz.len, by trivial, sz.row, sz.leaf, fun H1 s1 => h H1 s1⟩
    cases ho : holedV X with
    | false =>
      rw [if_pos (by rfl)]
      exact q1 ho H1 s1
    | true =>
      rw [if_neg (by simp), rd_next]
      dsimp only
      rw [rd_seq]
      refine ifS (!(decide (0 ≤ k) && canN X k.toNat)) H1 (fun R h => ?_) ?_
      · simp
        refine ⟨a, as, X, k, rfl, ha.same s1, sz.leaf, ?_⟩
        exact h
      cases hc : (decide (0 ≤ k) && canN X k.toNat) with
      | false =>
        rw [if_pos (by rfl)]
        exact q2 ho hc H1 s1
      | true =>
        rw [if_neg (by simp), rd_next]
        dsimp only
        rw [Bool.and_eq_true, decide_eq_true_eq] at hc
        obtain ⟨i, rfl⟩ : ∃ i : Nat, k = (i : Int) := ⟨k.toNat, by trivial⟩
        rw [Int.toNat_natCast] at hc
        obtain ⟨ok, FF, sl⟩ := inn_ok (holed_facts ho) sz.leaf sz.len sz.row hc.2
        simp
        exact ⟨a, as, X, i, FF, rfl, ha.same s1, ok, sl, fun r b bs H' s2 hr ht hb fr => q3 ho (by simp [hc.2]) r H' (s1.trans s2)⟩
noncomputable abbrev s_emptied : Stmt := top 34
theorem sc_emptied : FnScope ["rows"] ["rows"] (defScope s_emptied) := ⟨rfl, rfl, rfl, by decide +kernel, rfl, by decide +kernel, by decide +kernel⟩
noncomputable def spEmptX (NS : Addr) : Sp := fun vs H Q E => ∃ (a : Addr) (as : List Addr) (X : List (List V)), vs = [.ref a] ∧ RowsV H a as X ∧ Sz X ∧ (holedV X = false → ∀ H', Same H H' → E (.ref NS) none H') ∧ (holedV X = true → ∀ r H', Same H H' → Q (.ref r) H')
theorem ok_emptX {f : Addr} {fd : FuncData} {NS : Addr} (F : Fun K "emptied" "emptied" s_emptied f fd) (T : Bl mg) (O_NoStairs : Own K mg "NoStairs" NS) (C_is_holed : Cal P w K mg base 4 "is_holed" ["rows"] spHoled) (C_reading : Cal P w K mg base 1 "reading" ["rows"] spReadingV) (C_laid : Cal P w K mg base 3 "laid" ["row"] spLaidP) : FnOk P w K mg base (CXx P w) 5 f fd ["rows"] (spEmptX NS) := by
  refine F.okX sc_emptied (fun vs H Q E h => ?_) (fun cdv A outer s H vs Q E hr h => ?_)
  · obtain ⟨a, as, X, rfl, _⟩ := h; rfl
  · obtain ⟨a, as, X, rfl, ha, sz, q1, q2⟩ := h
    refine ⟨_, (pss_cons (ps_if (pt_not (pt_val (pe_cl C_is_holed (hr.mono (by decide)) (by rfl) (pa_cons (pv 0) pa_nil)))) (pss_one (ps_raise (by rfl) O_NoStairs.mg O_NoStairs.exc hr.hd)) pss_nil)
      (PSs.nox (pss_one (ps_ret (pe_ix f_ix (pe_cl C_laid (hr.mono (by decide)) (by rfl) (pa_cons (pe_cl C_reading (hr.mono (by decide)) (by rfl) (pa_cons (pv 0) pa_nil)) pa_nil)) pe_int (fun _ _ => rfl)))))), ?_⟩
    have e0 : start ["rows"] [V.ref a] = [some (.ref a)] := rfl
    rw [e0, rd_seq]
    have rl := readV_le X
    have sa := sz.all
    have s1' := sz.len
    refine ifS' (fun H' => Same H H') (!holedV X) (fun R h => ?_) (fun H1 s1 => ?_)
    · simp
      exact ⟨a, as, X, rfl, ha, sz.len, by trivial, sz.row, sz.leaf, fun H1 s1 => h H1 s1⟩
    cases ho : holedV X with
    | false =>
      rw [if_pos (by rfl)]
      exact q1 ho H1 s1
    | true =>
      rw [if_neg (by simp), rd_next]
      dsimp only
      simp
      refine ⟨a, as, X, rfl, ha.same s1, by trivial, by trivial, fun r hr => by have := sz.row r hr; trivial, sz.leaf, fun r H2 s2 hr2 h2 => ?_⟩
      refine ⟨r, _, rfl, h2, by trivial, fun t f1 fs g1 gs H3 s3 ht ht3 hf hg fr => ?_⟩
      have e1 : atI [V.ref f1, V.ref g1] 0 = some (.ref f1) := atI_nat (j := 0) rfl
      simp [onS_ofT ht3, e1]
      exact q2 ho f1 H3 ((s1.trans s2).trans s3)
noncomputable abbrev s_with_hole_at_beginning : Stmt := top 36
theorem sc_with_hole_at_beginning : FnScope ["rows"] ["rows"] (defScope s_with_hole_at_beginning) := ⟨rfl, rfl, rfl, by decide +kernel, rfl, by decide +kernel, by decide +kernel⟩
noncomputable def spNo : Sp := fun _ _ _ _ => False
theorem ok_no {f : Addr} {fd : FuncData} (F : Fun K "with_hole_at_beginning" "with_hole_at_beginning" s_with_hole_at_beginning f fd) (T : Bl mg) : FnOk P w K mg base CX0 1 f fd ["rows"] spNo :=
  F.ok sc_with_hole_at_beginning (fun vs H Q E h => h.elim) (fun cdv A outer s H vs Q E hr h => h.elim)
noncomputable def evOk (X : List (List V)) : Bool := stairsG X && countG X
noncomputable def spEvacN (NS : Addr) : Sp := fun vs H Q E => ∃ (a : Addr) (as : List Addr) (X : List (List V)), vs = [.ref a] ∧ RowsV H a as X ∧ Sz X ∧ evOk X = false ∧ ∀ H', Same H H' → E (.ref NS) none H'
noncomputable abbrev s_evacuated : Stmt := top 35
theorem sc_evacuated : FnScope ["rows", "left", "evacuation", "number", "out"] ["rows"] (defScope s_evacuated) := ⟨rfl, rfl, rfl, by decide +kernel, rfl, by decide +kernel, by decide +kernel⟩
theorem ok_evacN {f : Addr} {fd : FuncData} {NS : Addr} (F : Fun K "evacuated" "evacuated" s_evacuated f fd) (T : Bl mg) (O_NoStairs : Own K mg "NoStairs" NS) (C_is_stairs : Cal P w K mg base 3 "is_stairs" ["rows"] spIsStairsG) (C_does_count : Cal P w K mg base 2 "does_count" ["rows"] spCountG) (C_shape : Cal P w K mg base 1 "shape" ["rows"] spShapeV) (C_with_hole_at_beginning : Cal P w K mg base 1 "with_hole_at_beginning" ["rows"] spNo) (C_slid : Cal P w K mg base 3 "slid" ["rows", "at"] spSlid) : FnOk P w K mg base (CXx P w) 4 f fd ["rows"] (spEvacN NS) := by
  refine F.okX sc_evacuated (fun vs H Q E h => ?_) (fun cdv A outer s H vs Q E hr h => ?_)
  · obtain ⟨a, as, X, rfl, _⟩ := h; rfl
  · obtain ⟨a, as, X, rfl, ha, sz, hno, qe⟩ := h
    refine ⟨_, (pss_cons (ps_if (PW.pt (pw_or (pt_not (pt_val (pe_cl C_is_stairs (hr.mono (by decide)) (by rfl) (pa_cons (pv 0) pa_nil)))) (pw_or1 (pt_not (pt_val (pe_cl C_does_count (hr.mono (by decide)) (by rfl) (pa_cons (pv 0) pa_nil))))))) (pss_one (ps_raise (by rfl) O_NoStairs.mg O_NoStairs.exc hr.hd)) pss_nil)
      (PSs.nox (pss_cons (ps_set (i := 1) sc_evacuated.nd rfl (Or.inl rfl) (pv 0))
      (pss_cons (ps_comp (i := 2) sc_evacuated.nd rfl rfl (cp := []) (M := ["row"]) rfl ⟨rfl, rfl, rfl, rfl, rfl, rfl, rfl⟩ (by decide +kernel) (pi_l (pv 0)) (fun _ _ _ _ _ => pts_nil) (fun _ _ _ _ _ => (pe_lst pa_nil)))
      (pss_cons (ps_for PassesOwn.never rfl (pi_range3 (by rfl) T.range (pa_cons (pe_callB (f_sum rfl) (by rfl) T.sum BI.sum (pa_cons (pe_cl C_shape (hr.mono (by decide)) (by rfl) (pa_cons (pv 0) pa_nil)) pa_nil)) (pa_cons pe_int (pa_cons (pe_un f_neg pe_int) pa_nil)))) (pg_name (i := 3) sc_evacuated.nd rfl (Or.inl rfl)) (pss_cons (ps_set (i := 4) sc_evacuated.nd rfl (Or.inl rfl) (pe_cl C_slid (hr.mono (by decide)) (by rfl) (pa_cons (pe_cl C_with_hole_at_beginning (hr.mono (by decide)) (by rfl) (pa_cons (pv 1) pa_nil)) (pa_cons pe_int pa_nil))))
      (pss_cons (ps_set (i := 1) sc_evacuated.nd rfl (Or.inl rfl) (pe_ix f_ix (pv 4) pe_int (fun _ _ => rfl)))
      (pss_one (ps_expr (pe_ml PySem.F.slot_list_insert PySem.F.type_list_insert f_insert (pe_ix f_ix (pv 2) (pe_ix f_ix (pv 4) pe_int (fun _ _ => rfl)) (fun _ _ => rfl)) (pa_cons pe_int (pa_cons (pv 3) pa_nil))))))))
      (pss_one (ps_ret (pv 2)))))))), ?_⟩
    have e0 : start ["rows", "left", "evacuation", "number", "out"] [V.ref a] = [some (.ref a), none, none, none, none] := rfl
    rw [e0, rd_seq]
    have sa := sz.all
    refine ifS' (fun H1 => Same H H1) true (fun R h => ?_) ?_
    · simp
      refine ⟨a, as, X, rfl, ha, sz.len, sz.row, sz.leaf, by trivial, fun H1 s1 => ?_⟩
      unfold evOk at hno
      by_cases c1 : stairsG X = true
      · rw [c1, Bool.true_and] at hno
        simp [c1]
        refine ⟨a, as, X, rfl, ha.same s1, sz.len, sz.row, sz.leaf, sa, fun H2 s2 => ?_⟩
        rw [hno]
        simpa using h H2 (s1.trans s2)
      · simp only [Bool.not_eq_true] at c1
        simpa [c1] using h H1 s1
    intro H1 s1
    rw [if_pos (by rfl)]
    exact qe H1 s1
theorem ev_holed {X : List (List V)} (lf : ∀ r ∈ X, r.all isLeaf = true) (h : holedV X = false) : evOk X = false := by
  rw [Bool.eq_false_iff]
  intro z
  rw [Bool.eq_false_iff] at h
  refine h ?_
  unfold evOk stairsG at z
  rw [Bool.and_eq_true, Bool.and_eq_true, Bool.and_eq_true, Bool.and_eq_true] at z
  obtain ⟨⟨⟨⟨h1, h2⟩, h3⟩, h4⟩, h5⟩ := z
  unfold unlikeG at h2
  rw [decide_eq_true_eq] at h2
  have fx := full_rows lf h2.2
  have rs : ∀ {r : List Int}, r = sortZ r → riseV (r.map V.int) = true := fun {r} e => by
    unfold riseV
    have h0 : holesV (r.map V.int) = 0 := by
      unfold holesV
      rw [List.countP_eq_zero]
      intro v hv
      obtain ⟨n, _, rfl⟩ := List.mem_map.mp hv
      simp [eqV]
    rw [h0, intsOf_ints, decide_eq_true_eq, List.replicate_zero, List.nil_append, ← e]
  unfold holedV
  rw [Bool.and_eq_true, Bool.and_eq_true, Bool.and_eq_true, decide_eq_true_eq]
  refine ⟨⟨⟨h1, h2.1⟩, ?_⟩, ?_⟩
  · rw [List.all_eq_true]
    intro r hr
    rw [fx] at hr
    obtain ⟨y, hy, rfl⟩ := List.mem_map.mp hr
    unfold srtB at h3
    exact rs (by simpa using List.all_eq_true.mp h3 y hy)
  · rw [fx, turnV_int, List.all_eq_true]
    intro r hr
    obtain ⟨y, hy, rfl⟩ := List.mem_map.mp hr
    unfold srtB at h4
    exact rs (by simpa using List.all_eq_true.mp h4 y hy)
end
end SR
namespace SR
open PySem L2 RS PySem.Spec PyProof.Rows
section
variable {P : Program} {w : World} {K : PySem.W.Frag} {mg : Str → Option Value} {base : Heap}
theorem isiY_ref {K : PySem.W.Frag} {e C D : Addr} {b : Bool} {H : Hp} {Q : VK} (h : PySem.W.kitOne K (.ref C) (.ref D) = some b) (q : Q (.bl b) H) : rIsiY K e C [.ref e, .ref D] H Q := ⟨rfl, b, h, q⟩
theorem isiY_ty {K : PySem.W.Frag} {e C : Addr} {T : String} {b : Bool} {H : Hp} {Q : VK} (h : PySem.W.kitOne K (.ref C) (.type T) = some b) (q : Q (.bl b) H) : rIsiY K e C [.ref e, .ty T] H Q := ⟨rfl, b, h, q⟩
theorem try_of {K : PySem.W.Frag} {D : Addr} {ie : Nat} {tb : TX} {th : Addr → Addr → TS} {Dn : Ends} {σ : L2.St} {H : Hp}
    (h : ∀ EC : XK, (∀ C H2, PySem.W.excIn K C veTail "ValueError.__new__" = true → hasIn K C (.ref D) = true → ExK K C → (∀ e, H2 e = none → th e C { nx := fun σ' H' => Dn.nx (σ'.set ie none) H', rt := Dn.rt, bk := fun σ' H' => Dn.bk (σ'.set ie none) H', ct := fun σ' H' => Dn.ct (σ'.set ie none) H' } (σ.set ie (some (.ref e))) H2) → EC (.ref C) none H2) → tb Dn.nx EC σ H) : tTry K D ie tb th Dn σ H :=
  h _ fun C H2 a b c d => ⟨C, rfl, a, b, c, d⟩
noncomputable def noS : List Bool := [true, false, true, false, false, false]
noncomputable def noP : List Bool := [false, true, true, false, false, false]
noncomputable def marksB (X : List (List V)) (k wy : Int) : List Bool := if wy = 0 then (if holedV X = true then (if (decide (0 ≤ k) && canN X k.toNat) = true then [] else noP) else noS) else if wy = 1 then (if holedV X = true then [] else noS) else noS
noncomputable abbrev s_law_marks : Stmt := top 49
theorem sc_law_marks : FnScope ["rows", "at", "way", "e", "found"] ["rows", "at", "way"] (defScope s_law_marks) := ⟨rfl, rfl, rfl, by decide +kernel, rfl, by decide +kernel, by decide +kernel⟩
noncomputable def spMarks : Sp := fun vs H Q _ => ∃ (a : Addr) (as : List Addr) (X : List (List V)) (k wy : Int), vs = [.ref a, .int k, .int wy] ∧ RowsV H a as X ∧ Sz X ∧ (wy = 0 ∨ wy = 1 ∨ (wy = 2 ∧ evOk X = false)) ∧
  ∀ m H', Same H H' → H' m = some (.lst ((marksB X k wy).map V.bl)) → Q (.ref m) H'
theorem ok_marks {f : Addr} {fd : FuncData} {NH SE NS NP NL NN : Addr} (F : Fun K "_law_marks" "_law_marks" s_law_marks f fd) (T : Bl mg) (O_NoShape : Own K mg "NoShape" NH) (O_StairError : Own K mg "StairError" SE) (O_NoStairs : Own K mg "NoStairs" NS) (O_NoPair : Own K mg "NoPair" NP) (O_NoPlace : Own K mg "NoPlace" NL) (O_NoNote : Own K mg "NoNote" NN)
    (ekS : ExK K NS) (ekL : ExK K NL) (hS : hasIn K NS (.ref SE) = true) (hL : hasIn K NL (.ref SE) = true) (vS : PySem.W.kitOne K (.ref NS) (.type "ValueError") = some true) (vL : PySem.W.kitOne K (.ref NL) (.type "ValueError") = some true)
    (s1 : PySem.W.kitOne K (.ref NS) (.ref NL) = some false) (s2 : PySem.W.kitOne K (.ref NS) (.ref NP) = some false) (s3 : PySem.W.kitOne K (.ref NS) (.ref NH) = some false) (s4 : PySem.W.kitOne K (.ref NS) (.ref NN) = some false)
    (p1 : PySem.W.kitOne K (.ref NL) (.ref NS) = some false) (p2 : PySem.W.kitOne K (.ref NL) (.ref NP) = some false) (p3 : PySem.W.kitOne K (.ref NL) (.ref NH) = some false) (p4 : PySem.W.kitOne K (.ref NL) (.ref NN) = some false) (VE : BtT mg "ValueError" "ValueError")
    (C_slide : CalX P w K mg base 5 "slide" ["rows", "at"] (spSlideX NS NL)) (C_emptied : CalX P w K mg base 5 "emptied" ["rows"] (spEmptX NS)) (C_evacuated : CalX P w K mg base 4 "evacuated" ["rows"] (spEvacN NS)) : FnOk P w K mg base CX0 6 f fd ["rows", "at", "way"] spMarks := by
  refine F.ok sc_law_marks (fun vs H Q E h => ?_) (fun cdv A outer s H vs Q E hr h => ?_)
  · obtain ⟨a, as, X, k, wy, rfl, _⟩ := h; rfl
  · obtain ⟨a, as, X, k, wy, rfl, ha, sz, hw, q⟩ := h
    refine ⟨_, (pss_cons (ps_try rfl rfl (fun _ _ z => z) sc_law_marks.nd (ie := 3) rfl rfl (px_if (fun _ _ z => z) (pt_cmpR (f_eqF (hu64 hr)) (pv 2) pe_int (nomark _)) (px_expr (fun _ _ z => z) C_slide (hr.mono (by decide)) (by rfl) (pa_cons (pv 0) (pa_cons (pv 1) pa_nil))) (px_if (fun _ _ z => z) (pt_cmpR (f_eqF (hu64 hr)) (pv 2) pe_int (nomark _)) (px_expr (fun _ _ z => z) C_emptied (hr.mono (by decide)) (by rfl) (pa_cons (pv 0) pa_nil)) (px_expr (fun _ _ z => z) C_evacuated (hr.mono (by decide)) (by rfl) (pa_cons (pv 0) pa_nil)))) O_StairError (by rfl) (fun e oe C hc ek => (pss_cons (ps_set (i := 4) sc_law_marks.nd rfl (Or.inl rfl) (pe_lst (pa_cons (pe_callB (f_isiY hc ek) (by rfl) T.isinstance BI.isinstance (pa_cons (pv 3) (pa_cons (pe_glob (v := .ref _) (by rfl) O_NoStairs.mg rfl) pa_nil))) (pa_cons (pe_callB (f_isiY hc ek) (by rfl) T.isinstance BI.isinstance (pa_cons (pv 3) (pa_cons (pe_glob (v := .ref _) (by rfl) O_NoPlace.mg rfl) pa_nil))) (pa_cons (pe_callB (f_isiY hc ek) (by rfl) T.isinstance BI.isinstance (pa_cons (pv 3) (pa_cons (pe_ty (by rfl) VE) pa_nil))) (pa_cons (pe_callB (f_isiY hc ek) (by rfl) T.isinstance BI.isinstance (pa_cons (pv 3) (pa_cons (pe_glob (v := .ref _) (by rfl) O_NoPair.mg rfl) pa_nil))) pa_nil))))))
      (pss_one (ps_ret (pe_op f_add (pv 4) (pe_lst (pa_cons (pe_callB (f_isiY hc ek) (by rfl) T.isinstance BI.isinstance (pa_cons (pv 3) (pa_cons (pe_glob (v := .ref _) (by rfl) O_NoShape.mg rfl) pa_nil))) (pa_cons (pe_callB (f_isiY hc ek) (by rfl) T.isinstance BI.isinstance (pa_cons (pv 3) (pa_cons (pe_glob (v := .ref _) (by rfl) O_NoNote.mg rfl) pa_nil))) pa_nil)))))))))
      (pss_one (ps_ret (pe_lst pa_nil)))), ?_⟩
    have e0 : start ["rows", "at", "way", "e", "found"] [V.ref a, V.int k, V.int wy] = [some (.ref a), some (.int k), some (.int wy), none, none] := rfl
    rw [e0, rd_seq]
    have k1 : PySem.W.kitOne K (.ref NS) (.ref NS) = some true := by unfold PySem.W.kitOne; simp
    have k2 : PySem.W.kitOne K (.ref NL) (.ref NL) = some true := by unfold PySem.W.kitOne; simp
    refine try_of fun EC caught => ?_
    have cS : ∀ H1, Same H H1 → marksB X k wy = noS → EC (.ref NS) none H1 := fun H1 t1 em => caught NS H1 O_NoStairs.exc hS ekS fun e he => by
      dsimp only [List.set_cons_succ, List.set_cons_zero]
      simp
      refine isiY_ref k1 (isiY_ref s1 (isiY_ty vS (isiY_ref s2 ⟨line3 (by decide), fun p hp => ?_⟩)))
      refine isiY_ref s3 (isiY_ref s4 ⟨line3 (by decide), fun p1 hp1 => ?_⟩)
      have t2 := Same.upd_new (o := HO.lst [V.bl true, V.bl false, V.bl true, V.bl false]) hp
      have t3 := Same.upd_new (o := HO.lst [V.bl false, V.bl false]) hp1
      simp [onL_of (t3 _ _ upd_same), onL_of upd_same]
      refine ⟨line3 (by decide), fun p2 hp2 => ?_⟩
      have t4 := Same.upd_new (o := HO.lst ([V.bl true, V.bl false, V.bl true, V.bl false] ++ [V.bl false, V.bl false])) hp2
      exact q p2 _ (((t1.trans t2).trans t3).trans t4) (by rw [em]; exact upd_same)
    have cL : ∀ H1, Same H H1 → marksB X k wy = noP → EC (.ref NL) none H1 := fun H1 t1 em => caught NL H1 O_NoPlace.exc hL ekL fun e he => by
      dsimp only [List.set_cons_succ, List.set_cons_zero]
      simp
      refine isiY_ref p1 (isiY_ref k2 (isiY_ty vL (isiY_ref p2 ⟨line3 (by decide), fun p hp => ?_⟩)))
      refine isiY_ref p3 (isiY_ref p4 ⟨line3 (by decide), fun p1 hp1 => ?_⟩)
      have t2 := Same.upd_new (o := HO.lst [V.bl false, V.bl true, V.bl true, V.bl false]) hp
      have t3 := Same.upd_new (o := HO.lst [V.bl false, V.bl false]) hp1
      simp [onL_of (t3 _ _ upd_same), onL_of upd_same]
      refine ⟨line3 (by decide), fun p2 hp2 => ?_⟩
      have t4 := Same.upd_new (o := HO.lst ([V.bl false, V.bl true, V.bl true, V.bl false] ++ [V.bl false, V.bl false])) hp2
      exact q p2 _ (((t1.trans t2).trans t3).trans t4) (by rw [em]; exact upd_same)
    clear caught
    rcases hw with rfl | rfl | ⟨rfl, hev⟩
    · unfold xIf xDrop
      simp
      refine ⟨a, as, X, k, rfl, ha, sz, fun ho H1 t1 => cS H1 t1 (by simp [marksB, ho]), fun ho hc H1 t1 => cL H1 t1 (by simp only [marksB, ho, hc]; rfl), fun ho hc r H1 t1 => ?_⟩
      simp
      intro p hp
      exact q p _ (t1.trans (Same.upd_new hp)) (by rw [upd_same]; simp only [marksB, ho, hc]; rfl)
    · unfold xIf xDrop
      simp
      refine ⟨a, as, X, rfl, ha, sz, fun ho H1 t1 => cS H1 t1 (by simp [marksB, ho]), fun ho r H1 t1 => ?_⟩
      simp
      intro p hp
      exact q p _ (t1.trans (Same.upd_new hp)) (by rw [upd_same]; simp [marksB, ho])
    · unfold xIf xDrop
      simp
      exact ⟨a, as, X, rfl, ha, sz, hev, fun H1 t1 => cS H1 t1 (by simp [marksB])⟩
end
end SR
namespace SR
open PySem L2 RS PySem.Spec PyProof.Rows
section
variable {P : Program} {w : World} {K : PySem.W.Frag} {mg : Str → Option Value} {base : Heap}
noncomputable def spLaw (K : PySem.W.Frag) : Sp := fun vs H Q _ => ∃ (a : Addr) (ns : List Int), vs = [.ref a] ∧ SqL K H a (ns.map V.int) ∧ ns.length ≤ 63 ∧ ∀ H', Q (.bl true) H'
theorem drw {H : Hp} {a : Addr} {ns : List Int} {k m : Int} {Q : VK} {E : XK} (hS : SqL K H a (ns.map V.int)) (hl : ns.length ≤ 63) (hk0 : 0 ≤ k) (hk1 : k < 1000) (hm : 0 < m) (q : Q (.int (drawnZ ns k m)) H) : spDrawn K [.ref a, .int k, .int m] H Q E := ⟨a, ns, k, m, rfl, hS, hl, hk0, hk1, hm, q⟩
noncomputable def cutH (H : Hp) (l : List Addr) : Hp := fun p => if p ∈ l then none else H p
theorem cutH_at {H : Hp} {l : List Addr} {p : Addr} (h : p ∉ l) : cutH H l p = H p := if_neg h
theorem cutH_same (H : Hp) (l : List Addr) : Same (cutH H l) H := fun p o h => by
  unfold cutH at h
  split at h
  · cases h
  · exact h
theorem cutH_fresh {H : Hp} {l : List Addr} (h : l.Nodup) : Fresh (cutH H l) l := ⟨h, fun b hb => if_pos hb⟩
theorem same_cutH {H H' : Hp} {l : List Addr} (s : Same H H') (fr : Fresh H l) : Same H (cutH H' l) := fun b o e => by
  rw [cutH_at (fun z => by rw [fr.no b z] at e; cases e)]
  exact s b o e
theorem in_nat {k : Int} {ps : List Nat} : inV (.int k) (natW ps) = (decide (0 ≤ k) && decide (k.toNat ∈ ps)) := by
  have e : natW ps = (ps.map fun (p : Nat) => (p : Int)).map V.int := by unfold natW; rw [List.map_map]; rfl
  rw [e, in_int, Bool.eq_iff_iff, decide_eq_true_eq, Bool.and_eq_true, decide_eq_true_eq, decide_eq_true_eq]
  constructor
  · intro h
    obtain ⟨p, hp, rfl⟩ := List.mem_map.mp h
    exact ⟨by trivial, by simpa using hp⟩
  · rintro ⟨h1, h2⟩
    exact List.mem_map.mpr ⟨k.toNat, h2, by trivial⟩
theorem inn_can {X : List (List V)} {k : Nat} : decide (k ∈ innV X X.length) = canN X k := by
  rw [Bool.eq_iff_iff, decide_eq_true_eq]
  unfold innV
  rw [List.mem_filter, List.mem_range]
  constructor
  · exact fun h => h.2
  · intro h
    refine ⟨?_, h⟩
    unfold canN at h
    rw [Bool.and_eq_true, Bool.and_eq_true, decide_eq_true_eq] at h
    exact h.1.1
theorem flat_natW (ps : List Nat) : (natW ps).all flatV = true := by
  unfold natW
  rw [List.all_eq_true]
  intro v hv
  obtain ⟨p, _, rfl⟩ := List.mem_map.mp hv
  rfl
noncomputable abbrev s_law : Stmt := top 50
theorem sc_law : FnScope ["script", "row", "rows", "at", "good", "handed", "found", "none", "due"] ["script"] (defScope s_law) := ⟨rfl, rfl, rfl, by decide +kernel, rfl, by decide +kernel, by decide +kernel⟩
theorem ok_law {f : Addr} {fd : FuncData} (F : Fun K "law" "law" s_law f fd) (T : Bl mg)
    (C_law_drawn : Cal P w K mg base 1 "_law_drawn" ["script", "k", "many"] (spDrawn K)) (C_law_row_by : Cal P w K mg base 2 "_law_row_by" ["script", "bound"] (spRowBy K)) (C_law_laid : Cal P w K mg base 2 "_law_laid" ["row"] spLaid) (C_law_holed_by : Cal P w K mg base 2 "_law_holed_by" ["script", "rows"] (spHoledBy K))
    (C_law_spoilt : Cal P w K mg base 2 "_law_spoilt" ["script", "rows"] (spSpoil K)) (C_law_good : Cal P w K mg base 2 "_law_good" ["rows"] spGood) (C_is_holed : Cal P w K mg base 4 "is_holed" ["rows"] spHoled) (C_law_inner : Cal P w K mg base 2 "_law_inner" ["rows"] spInner) (C_law_marks : Cal P w K mg base 6 "_law_marks" ["rows", "at", "way"] spMarks) : FnOk P w K mg base CX0 8 f fd ["script"] (spLaw K) := by
  refine F.ok sc_law (fun vs H Q E h => ?_) (fun cdv A outer s H vs Q E hr h => ?_)
  · obtain ⟨a, ns, rfl, _⟩ := h; rfl
  · obtain ⟨a, ns, rfl, hS, hl, q⟩ := h
    refine ⟨_, (pss_cons (ps_set (i := 1) sc_law.nd rfl (Or.inl rfl) (pe_cl C_law_row_by (hr.mono (by decide)) (by rfl) (pa_cons (pv 0) (pa_cons pe_int pa_nil))))
      (pss_cons (ps_if (pt_cmpR (f_eqF (hu64 hr)) (pe_callB f_len (by rfl) T.len BI.len (pa_cons (pv 1) pa_nil)) pe_int (nomark _)) (pss_one (ps_set (i := 1) sc_law.nd rfl (Or.inl rfl) (pe_lst (pa_cons (pe_cl C_law_drawn (hr.mono (by decide)) (by rfl) (pa_cons (pv 0) (pa_cons pe_int (pa_cons pe_int pa_nil)))) pa_nil)))) pss_nil)
      (pss_cons (ps_set (i := 2) sc_law.nd rfl (Or.inl rfl) (pe_cl C_law_holed_by (hr.mono (by decide)) (by rfl) (pa_cons (pv 0) (pa_cons (pe_ix f_ix (pe_cl C_law_laid (hr.mono (by decide)) (by rfl) (pa_cons (pv 1) pa_nil)) pe_int (fun _ _ => rfl)) pa_nil))))
      (pss_cons (ps_expr (pe_cl C_law_spoilt (hr.mono (by decide)) (by rfl) (pa_cons (pv 0) (pa_cons (pv 2) pa_nil))))
      (pss_cons (ps_set (i := 3) sc_law.nd rfl (Or.inl rfl) (pe_op f_sub (pe_cl C_law_drawn (hr.mono (by decide)) (by rfl) (pa_cons (pv 0) (pa_cons pe_int (pa_cons (pe_op f_add (pe_callB f_len (by rfl) T.len BI.len (pa_cons (pv 2) pa_nil)) pe_int) pa_nil)))) pe_int))
      (pss_cons (ps_set (i := 4) sc_law.nd rfl (Or.inl rfl) (pe_cl C_law_good (hr.mono (by decide)) (by rfl) (pa_cons (pv 2) pa_nil)))
      (pss_cons (ps_comp (i := 5) sc_law.nd rfl rfl (cp := []) (M := ["part"]) rfl ⟨rfl, rfl, rfl, rfl, rfl, rfl, rfl⟩ (by decide +kernel) (pi_l (pv 2)) (fun _ _ _ _ _ => pts_nil) (fun _ _ _ _ _ => (pe_callTy f_list (by rfl) T.list BI.list (pa_cons (pv 0) pa_nil))))
      (pss_cons (ps_set (i := 6) sc_law.nd rfl (Or.inl rfl) (pe_cl C_is_holed (hr.mono (by decide)) (by rfl) (pa_cons (pv 5) pa_nil)))
      (pss_cons (ps_if (PW.pt (pw_or (pt_not (pt_val (pe_callB f_isi (by rfl) T.isinstance BI.isinstance (pa_cons (pv 6) (pa_cons (pe_ty (by rfl) T.b_bool) pa_nil))))) (pw_or1 (pt_cmpR (f_neF (hu64 hr)) (pv 6) (pv 4) (nomark _))))) (pss_one (ps_ret pe_bl)) pss_nil)
      (pss_cons (ps_set (i := 7) sc_law.nd rfl (Or.inl rfl) (pe_lst (pa_cons pe_bl (pa_cons pe_bl (pa_cons pe_bl (pa_cons pe_bl (pa_cons pe_bl (pa_cons pe_bl pa_nil))))))))
      (pss_cons (ps_set (i := 8) sc_law.nd rfl (Or.inl rfl) (pe_lst pa_nil))
      (pss_cons (ps_if (pt_not (pt_tru (pv 4) (fun _ => rfl))) (pss_one (ps_set (i := 8) sc_law.nd rfl (Or.inl rfl) (pv 7))) (pss_one (ps_if (pt_cmpR f_notin (pv 3) (pe_cl C_law_inner (hr.mono (by decide)) (by rfl) (pa_cons (pv 2) pa_nil)) (by with_unfolding_all rfl)) (pss_one (ps_set (i := 8) sc_law.nd rfl (Or.inl rfl) (pe_lst (pa_cons pe_bl (pa_cons pe_bl (pa_cons pe_bl (pa_cons pe_bl (pa_cons pe_bl (pa_cons pe_bl pa_nil))))))))) pss_nil)))
      (pss_cons (ps_if (PW.pt (pw_or (pt_cmpR (f_neF (hu64 hr)) (pe_cl C_law_marks (hr.mono (by decide)) (by rfl) (pa_cons (pv 5) (pa_cons (pv 3) (pa_cons pe_int pa_nil)))) (pv 8) (nomark _)) (pw_or1 (pt_cmpR (f_neF (hu64 hr)) (pv 5) (pv 2) (nomark _))))) (pss_one (ps_ret pe_bl)) pss_nil)
      (pss_cons (ps_if (pt_tru (pv 4) (fun _ => rfl)) (pss_one (ps_ret (pe_and (pe_cmpR (f_eqF (hu64 hr)) (pe_cl C_law_marks (hr.mono (by decide)) (by rfl) (pa_cons (pv 5) (pa_cons (pv 3) (pa_cons pe_int pa_nil)))) (pe_lst pa_nil) (nomark _)) (pe_one (pe_cmpR (f_eqF (hu64 hr)) (pv 5) (pv 2) (nomark _)))))) pss_nil)
      (pss_one (ps_ret (pe_and (pe_cmpR (f_eqF (hu64 hr)) (pe_cl C_law_marks (hr.mono (by decide)) (by rfl) (pa_cons (pv 5) (pa_cons (pv 3) (pa_cons pe_int pa_nil)))) (pv 7) (nomark _)) (pe_one (pe_cmpR (f_eqF (hu64 hr)) (pe_cl C_law_marks (hr.mono (by decide)) (by rfl) (pa_cons (pv 5) (pa_cons (pv 3) (pa_cons pe_int pa_nil)))) (pv 7) (nomark _)))))))))))))))))))), ?_⟩
    have e0 : start ["script", "row", "rows", "at", "good", "handed", "found", "none", "due"] [V.ref a] = [some (.ref a), none, none, none, none, none, none, none, none] := rfl
    rw [e0]
    have mh := many_hi ns (bound := 9) (by decide)
    have lr := rowZ_len ns (bound := 9) (by decide)
    have nd := rowZ_nodup ns 9
    refine cut2 (fun σ H1 => ∃ (r : Addr) (row : List Int), σ = [some (.ref a), some (.ref r), none, none, none, none, none, none, none] ∧ Same H H1 ∧ H1 r = some (.lst (row.map V.int)) ∧ row.Nodup ∧ row ≠ [] ∧ row.length ≤ 9) (fun R' h => ?_) ?_
    · simp
      refine ⟨a, ns, 9, rfl, hS, hl, by decide, by decide, fun r H1 s1 hr1 h1 => ?_⟩
      have d0 := drawn_lo ns 405 (m := 9) (by decide)
      simp [onS_of h1]
      by_cases h0 : rowZ ns 9 = []
      · rw [if_pos h0]
        refine drw (s1.seq hS) hl (by decide) (by decide) (by decide) ?_
        refine ⟨line3 (by simp), fun p hp => ?_⟩
        exact h _ _ ⟨p, [drawnZ ns 405 9], rfl, s1.trans (Same.upd_new hp), by rw [upd_same]; rfl, by simp, by simp, by simp⟩
      · rw [if_neg h0]
        exact h _ _ ⟨r, rowZ ns 9, rfl, s1, h1, nd, h0, by trivial⟩
    rintro σ H1 ⟨r, row, rfl, s1, hr1, ndr, rne, rl⟩
    have st := laidL_stairs ndr
    obtain ⟨_, z1, z2, _⟩ := laid_size row
    refine cut2 (fun σ H2 => ∃ (b : Addr) (bs : List Addr) (X : List (List V)), σ = [some (.ref a), some (.ref r), some (.ref b), none, none, none, none, none, none] ∧ Same H1 H2 ∧ RowsV H2 b bs X ∧ LfX X ∧ X.length ≤ 21 ∧ lenN X ≤ 21) (fun R' h => ?_) ?_
    · simp
      refine ⟨r, row, rfl, hr1, by trivial, fun t b bs g gs H2 s2 ht2 h2 hb hg fr => ?_⟩
      have a0 : atI [V.ref b, V.ref g] 0 = some (.ref b) := atI_nat (j := 0) rfl
      simp [onS_ofT h2, a0]
      refine ⟨a, ns, b, bs, _, rfl, (s1.trans s2).seq hS, hl, hb, by trivial, by rw [st.2.length_eq]; trivial, fun r hr => by have := z2 r hr; trivial, fun c cs H3 low s3 dn hc frc => ?_⟩
      have S0 := same_cutH s3 frc
      have lh : (holR low (laidL row).1).length = (laidL row).1.length := by simp [holR]
      have ln : lenN (holR low (laidL row).1) = row.length := by
        rw [← st.2.length_eq, List.length_flatten]
        unfold lenN holR
        rw [List.map_map]
        congr 1
        apply List.map_congr_left
        intro x _
        simp
      have ne : holR low (laidL row).1 ≠ [] := fun z => by
        have e := congrArg List.length z
        rw [lh] at e
        have e2 : (laidL row).1 = [] := List.length_eq_zero_iff.mp (by simpa using e)
        have e3 := st.2.length_eq
        rw [e2] at e3
        exact rne (List.length_eq_zero_iff.mp (by simpa using e3.symm))
      simp
      refine ⟨a, ns, c, cs, _, cutH H3 (c :: cs), rfl, ((s1.trans s2).trans S0).seq hS, hl, hc, ne, fun x hx z => ?_, holR_leaf, by trivial, by trivial, cutH_same _ _, cutH_fresh frc.nd, fun cs' X' H4 s4 hc4 fr4 lf4 l1 l2 => ?_⟩
      · obtain ⟨y, hy, rfl⟩ := List.mem_map.mp hx
        exact st.1.pos y hy (List.length_eq_zero_iff.mp (by have := congrArg List.length z; simpa using this))
      · exact h _ _ ⟨c, cs', X', rfl, (s2.trans S0).trans s4, hc4, lf4, l1, l2⟩
    rintro σ H2 ⟨b, bs, X, rfl, s2, hb, lf, lX, lN⟩
    have sz : Sz X := ⟨by trivial, fun r hr => by have := row_leN hr; trivial, lf, by trivial⟩
    have rlV := readV_le X
    have lb := RowsW.len hb.row
    have gh := good_holed lf
    have d0 := drawn_lo ns 406 (m := (X.length : Int) + 4) (by trivial)
    have d1 := drawn_hi ns 406 (m := (X.length : Int) + 4) (by trivial)
    have S2 := s1.trans s2
    generalize hk : drawnZ ns 406 ((X.length : Int) + 4) - 2 = k
    refine cut4 (fun σ H3 => ∃ (c : Addr) (cs : List Addr), σ = [some (.ref a), some (.ref r), some (.ref b), some (.int k), some (.bl (holedV X)), some (.ref c), some (.bl (holedV X)), none, none] ∧ Same H2 H3 ∧ RowsV H3 c cs X) (fun R' h => ?_) ?_
    · simp [onS_of hb.top, lb]
      refine drw (S2.seq hS) hl (by decide) (by decide) (by trivial) ?_
      simp
      rw [hk]
      refine ⟨b, bs, X, rfl, hb, sz.len, sz.row, lf, sz.all, fun H3 s3 => ?_⟩
      rw [gh]
      refine comp_copyV (a := b) (fun R h => by simpa using h) (hb.same s3) (by trivial) (fun c cs H4 hc s4 hcR frc => ?_)
      refine ⟨c, cs, X, rfl, hcR, sz.len, by trivial, sz.row, lf, fun H5 s5 => ?_⟩
      exact h _ _ ⟨c, cs, rfl, (s3.trans s4).trans s5, hcR.same s5⟩
    rintro σ H3 ⟨c, cs, rfl, s3, hc⟩
    have hb3 := hb.same s3
    rw [rd_seq]
    refine ifS false H3 (fun R h => by simp [tyN, isiT]; exact h) ?_
    rw [if_neg (by simp), rd_next]
    dsimp only
    refine cut2 (fun σ H4 => ∃ (n d : Addr), σ = [some (.ref a), some (.ref r), some (.ref b), some (.int k), some (.bl (holedV X)), some (.ref c), some (.bl (holedV X)), some (.ref n), some (.ref d)] ∧ Same H3 H4 ∧ H4 n = some (.lst (noS.map V.bl)) ∧ H4 d = some (.lst [])) (fun R' h => ?_) ?_
    · simp
      refine ⟨line3 (by decide), fun n hn d hd => ?_⟩
      have t1 := Same.upd_new (o := HO.lst [V.bl true, V.bl false, V.bl true, V.bl false, V.bl false, V.bl false]) hn
      have t2 := Same.upd_new (o := HO.lst []) hd
      exact h _ _ ⟨n, d, rfl, t1.trans t2, t2 _ _ upd_same, upd_same⟩
    rintro σ H4 ⟨n, d, rfl, s4, hn, hd⟩
    refine cut1 (fun σ H5 => ∃ (d : Addr), σ = [some (.ref a), some (.ref r), some (.ref b), some (.int k), some (.bl (holedV X)), some (.ref c), some (.bl (holedV X)), some (.ref n), some (.ref d)] ∧ Same H4 H5 ∧ H5 d = some (.lst ((marksB X k 0).map V.bl))) (fun R' h => ?_) ?_
    · cases ho : holedV X with
      | false =>
        rw [ho] at h
        simp
        exact h _ _ ⟨n, rfl, fun _ _ e => e, by rw [hn]; simp [marksB, ho]⟩
      | true =>
        rw [ho] at h
        simp
        refine ⟨b, bs, X, rfl, hb3.same s4, lf, sz.len, sz.row, fun p H5 s5 hp h5 => ?_⟩
        dsimp only
        rw [onS_of h5, in_nat, inn_can]
        refine ⟨rfl, List.all_eq_true.mp (flat_natW _), ?_⟩
        cases hcn : (decide (0 ≤ k) && canN X k.toNat) with
        | true =>
          simp
          exact h _ _ ⟨d, rfl, s5, by rw [s5 _ _ hd]; simp only [marksB, ho, hcn]; rfl⟩
        | false =>
          simp
          refine ⟨line3 (by decide), fun p6 hp6 => ?_⟩
          exact h _ _ ⟨p6, rfl, s5.trans (Same.upd_new hp6), by rw [upd_same]; simp only [marksB, ho, hcn]; rfl⟩
    rintro σ H5 ⟨d, rfl, s5, hd5⟩
    have S35 := s4.trans s5
    have hc5 := hc.same S35
    have hb5 := hb3.same S35
    have hn5 := s5 _ _ hn
    rw [rd_seq]
    refine ifS' (fun H6 => Same H5 H6) false (fun R h => ?_) ?_
    · simp
      refine ⟨c, cs, X, k, 0, rfl, hc5, sz, .inl rfl, fun m H6 s6 hm => ?_⟩
      refine neF_bls hm (s6 _ _ hd5) ?_
      simp
      exact neF_rowsV (hc5.same s6) (hb5.same s6) lf (h H6 s6)
    intro H6 s6
    rw [if_neg (by simp), rd_next]
    dsimp only
    have hc6 := hc5.same s6
    have hb6 := hb5.same s6
    have hn6 := s6 _ _ hn5
    cases ho : holedV X with
    | true =>
      simp
      refine ⟨c, cs, X, k, 1, rfl, hc6, sz, .inr (.inl rfl), fun m H7 s7 hm => ?_⟩
      intro p hp
      have t := Same.upd_new (o := HO.lst []) hp
      have em : marksB X k 1 = [] := by simp [marksB, ho]
      rw [em] at hm
      refine eqF_bls (xs := []) (t _ _ hm) upd_same ?_
      simp
      exact eqF_rowsV ((hc6.same s7).same t) ((hb6.same s7).same t) lf (q _)
    | false =>
      have ev := ev_holed lf ho
      simp
      refine ⟨c, cs, X, k, 1, rfl, hc6, sz, .inr (.inl rfl), fun m H7 s7 hm => ?_⟩
      have em : marksB X k 1 = noS := by simp [marksB, ho]
      rw [em] at hm
      refine eqF_bls hm (s7 _ _ hn6) ?_
      simp
      refine ⟨c, cs, X, k, 2, rfl, hc6.same s7, sz, .inr (.inr ⟨rfl, ev⟩), fun m2 H8 s8 hm2 => ?_⟩
      have em2 : marksB X k 2 = noS := by simp [marksB]
      rw [em2] at hm2
      exact eqF_bls hm2 (s8 _ _ (s7 _ _ hn6)) (q _)
end
end SR
namespace SR
open PySem L2 RS PySem.Spec PyProof.Rows
theorem len_succ {α : Type} {us : List α} {n : Nat} (h : us.length = n + 1) : ∃ a r, us = a :: r ∧ r.length = n := by
  cases us with
  | nil => exact nomatch h
  | cons a r => exact ⟨a, r, rfl, Nat.succ.inj h⟩
theorem bnd1 {p : List Value → Prop} (h : ∀ a, p [a]) : ∀ us : List Value, us.length = 1 → p us := fun us hl => by
  obtain ⟨a, r, rfl, h1⟩ := len_succ hl; obtain rfl := List.length_eq_zero_iff.mp h1; exact h a
theorem bnd2 {p : List Value → Prop} (h : ∀ a b, p [a, b]) : ∀ us : List Value, us.length = 2 → p us := fun us hl => by
  obtain ⟨a, r, rfl, h1⟩ := len_succ hl; exact bnd1 (p := fun r => p (a :: r)) (h a) r h1
theorem bnd3 {p : List Value → Prop} (h : ∀ a b c, p [a, b, c]) : ∀ us : List Value, us.length = 3 → p us := fun us hl => by
  obtain ⟨a, r, rfl, h1⟩ := len_succ hl; exact bnd2 (p := fun r => p (a :: r)) (h a) r h1
theorem all_mk {l : PySem.W.OpenLaw} {w : World} {K : PySem.W.Frag} {h : Heap} {mg : Str → Option Value} {fa f0 f1 f2 f3 f4 f5 f6 f7 f8 f9 f10 f11 f12 f13 f14 f15 f16 f17 f18 f19 f20 f21 f22 f23 f24 f25 f26 f27 f28 f29 f30 f31 f32 f33 f34 f35 f36 f37 f38 : Addr} (X : K.In h) (G : h.Ns mainGlobals mg) (hfa : mg "law" = some (.ref fa))
    {od0 an0 od1 an1 od2 an2 od3 an3 od4 an4 od5 an5 od6 an6 od7 an7 od8 an8 od9 an9 od10 an10 od11 an11 od12 an12 od13 an13 od14 an14 od15 an15 od16 an16 od17 an17 od18 an18 od19 an19 od20 an20 od21 an21 od22 an22 od23 an23 od24 an24 od25 an25 od26 an26 od27 an27 od28 an28 od29 an29 od30 an30 od31 an31 od32 an32 od33 an33 od34 an34 od35 an35 od36 an36 od37 an37 od38 an38 : Option Addr} {sl0 sl1 sl2 sl3 sl4 sl5 sl6 sl7 sl8 sl9 sl10 sl11 sl12 sl13 sl14 sl15 sl16 sl17 sl18 sl19 sl20 sl21 sl22 sl23 sl24 sl25 sl26 sl27 sl28 sl29 sl30 sl31 sl32 sl33 sl34 sl35 sl36 sl37 sl38 : Array (Option Value)} {oc0 kV0 dc0 pm0 cd0 ct0 oc1 kV1 dc1 pm1 cd1 ct1 oc2 kV2 dc2 pm2 cd2 ct2 oc3 kV3 dc3 pm3 cd3 ct3 oc4 kV4 dc4 pm4 cd4 ct4 oc5 kV5 dc5 pm5 cd5 ct5 oc6 kV6 dc6 pm6 cd6 ct6 oc7 kV7 dc7 pm7 cd7 ct7 oc8 kV8 dc8 pm8 cd8 ct8 oc9 kV9 dc9 pm9 cd9 ct9 oc10 kV10 dc10 pm10 cd10 ct10 oc11 kV11 dc11 pm11 cd11 ct11 oc12 kV12 dc12 pm12 cd12 ct12 oc13 kV13 dc13 pm13 cd13 ct13 oc14 kV14 dc14 pm14 cd14 ct14 oc15 kV15 dc15 pm15 cd15 ct15 oc16 kV16 dc16 pm16 cd16 ct16 oc17 kV17 dc17 pm17 cd17 ct17 oc18 kV18 dc18 pm18 cd18 ct18 oc19 kV19 dc19 pm19 cd19 ct19 oc20 kV20 dc20 pm20 cd20 ct20 oc21 kV21 dc21 pm21 cd21 ct21 oc22 kV22 dc22 pm22 cd22 ct22 oc23 kV23 dc23 pm23 cd23 ct23 oc24 kV24 dc24 pm24 cd24 ct24 oc25 kV25 dc25 pm25 cd25 ct25 oc26 kV26 dc26 pm26 cd26 ct26 oc27 kV27 dc27 pm27 cd27 ct27 oc28 kV28 dc28 pm28 cd28 ct28 oc29 kV29 dc29 pm29 cd29 ct29 oc30 kV30 dc30 pm30 cd30 ct30 oc31 kV31 dc31 pm31 cd31 ct31 oc32 kV32 dc32 pm32 cd32 ct32 oc33 kV33 dc33 pm33 cd33 ct33 oc34 kV34 dc34 pm34 cd34 ct34 oc35 kV35 dc35 pm35 cd35 ct35 oc36 kV36 dc36 pm36 cd36 ct36 oc37 kV37 dc37 pm37 cd37 ct37 oc38 kV38 dc38 pm38 cd38 ct38 : Value}
    (a0 : PySem.W.nsIn K mainGlobals "_law_drawn" = some (some (.ref f0))) (l0 : K.lookup f0 = some ⟨oc0, od0, .func (PySem.W.fnOf "_law_drawn" "_law_drawn" (defArgs s_law_drawn) (defBody s_law_drawn) (defScope s_law_drawn) .none kV0 dc0 pm0 an0 cd0 ct0), sl0⟩) (c0 : PySem.W.codeIn K cd0 "_law_drawn" = true) (k0 : PySem.W.keepIn K (.ref f0) = true)
    (a1 : PySem.W.nsIn K mainGlobals "_law_row_by" = some (some (.ref f1))) (l1 : K.lookup f1 = some ⟨oc1, od1, .func (PySem.W.fnOf "_law_row_by" "_law_row_by" (defArgs s_law_row_by) (defBody s_law_row_by) (defScope s_law_row_by) .none kV1 dc1 pm1 an1 cd1 ct1), sl1⟩) (c1 : PySem.W.codeIn K cd1 "_law_row_by" = true) (k1 : PySem.W.keepIn K (.ref f1) = true)
    (a2 : PySem.W.nsIn K mainGlobals "_law_lay" = some (some (.ref f2))) (l2 : K.lookup f2 = some ⟨oc2, od2, .func (PySem.W.fnOf "_law_lay" "_law_lay" (defArgs s_law_lay) (defBody s_law_lay) (defScope s_law_lay) .none kV2 dc2 pm2 an2 cd2 ct2), sl2⟩) (c2 : PySem.W.codeIn K cd2 "_law_lay" = true) (k2 : PySem.W.keepIn K (.ref f2) = true)
    (a3 : PySem.W.nsIn K mainGlobals "_law_laid" = some (some (.ref f3))) (l3 : K.lookup f3 = some ⟨oc3, od3, .func (PySem.W.fnOf "_law_laid" "_law_laid" (defArgs s_law_laid) (defBody s_law_laid) (defScope s_law_laid) .none kV3 dc3 pm3 an3 cd3 ct3), sl3⟩) (c3 : PySem.W.codeIn K cd3 "_law_laid" = true) (k3 : PySem.W.keepIn K (.ref f3) = true)
    (a4 : PySem.W.nsIn K mainGlobals "how_many_less" = some (some (.ref f4))) (l4 : K.lookup f4 = some ⟨oc4, od4, .func (PySem.W.fnOf "how_many_less" "how_many_less" (defArgs s_how_many_less) (defBody s_how_many_less) (defScope s_how_many_less) .none kV4 dc4 pm4 an4 cd4 ct4), sl4⟩) (c4 : PySem.W.codeIn K cd4 "how_many_less" = true) (k4 : PySem.W.keepIn K (.ref f4) = true)
    (a5 : PySem.W.nsIn K mainGlobals "with_number_at" = some (some (.ref f5))) (l5 : K.lookup f5 = some ⟨oc5, od5, .func (PySem.W.fnOf "with_number_at" "with_number_at" (defArgs s_with_number_at) (defBody s_with_number_at) (defScope s_with_number_at) .none kV5 dc5 pm5 an5 cd5 ct5), sl5⟩) (c5 : PySem.W.codeIn K cd5 "with_number_at" = true) (k5 : PySem.W.keepIn K (.ref f5) = true)
    (a6 : PySem.W.nsIn K mainGlobals "lay_in" = some (some (.ref f6))) (l6 : K.lookup f6 = some ⟨oc6, od6, .func (PySem.W.fnOf "lay_in" "lay_in" (defArgs s_lay_in) (defBody s_lay_in) (defScope s_lay_in) .none kV6 dc6 pm6 an6 cd6 ct6), sl6⟩) (c6 : PySem.W.codeIn K cd6 "lay_in" = true) (k6 : PySem.W.keepIn K (.ref f6) = true)
    (a7 : PySem.W.nsIn K mainGlobals "put_at_end" = some (some (.ref f7))) (l7 : K.lookup f7 = some ⟨oc7, od7, .func (PySem.W.fnOf "put_at_end" "put_at_end" (defArgs s_put_at_end) (defBody s_put_at_end) (defScope s_put_at_end) .none kV7 dc7 pm7 an7 cd7 ct7), sl7⟩) (c7 : PySem.W.codeIn K cd7 "put_at_end" = true) (k7 : PySem.W.keepIn K (.ref f7) = true)
    (a8 : PySem.W.nsIn K mainGlobals "laid" = some (some (.ref f8))) (l8 : K.lookup f8 = some ⟨oc8, od8, .func (PySem.W.fnOf "laid" "laid" (defArgs s_laid) (defBody s_laid) (defScope s_laid) .none kV8 dc8 pm8 an8 cd8 ct8), sl8⟩) (c8 : PySem.W.codeIn K cd8 "laid" = true) (k8 : PySem.W.keepIn K (.ref f8) = true)
    (a9 : PySem.W.nsIn K mainGlobals "shape" = some (some (.ref f9))) (l9 : K.lookup f9 = some ⟨oc9, od9, .func (PySem.W.fnOf "shape" "shape" (defArgs s_shape) (defBody s_shape) (defScope s_shape) .none kV9 dc9 pm9 an9 cd9 ct9), sl9⟩) (c9 : PySem.W.codeIn K cd9 "shape" = true) (k9 : PySem.W.keepIn K (.ref f9) = true)
    (a10 : PySem.W.nsIn K mainGlobals "column" = some (some (.ref f10))) (l10 : K.lookup f10 = some ⟨oc10, od10, .func (PySem.W.fnOf "column" "column" (defArgs s_column) (defBody s_column) (defScope s_column) .none kV10 dc10 pm10 an10 cd10 ct10), sl10⟩) (c10 : PySem.W.codeIn K cd10 "column" = true) (k10 : PySem.W.keepIn K (.ref f10) = true)
    (a11 : PySem.W.nsIn K mainGlobals "turned" = some (some (.ref f11))) (l11 : K.lookup f11 = some ⟨oc11, od11, .func (PySem.W.fnOf "turned" "turned" (defArgs s_turned) (defBody s_turned) (defScope s_turned) .none kV11 dc11 pm11 an11 cd11 ct11), sl11⟩) (c11 : PySem.W.codeIn K cd11 "turned" = true) (k11 : PySem.W.keepIn K (.ref f11) = true)
    (a12 : PySem.W.nsIn K mainGlobals "reading" = some (some (.ref f12))) (l12 : K.lookup f12 = some ⟨oc12, od12, .func (PySem.W.fnOf "reading" "reading" (defArgs s_reading) (defBody s_reading) (defScope s_reading) .none kV12 dc12 pm12 an12 cd12 ct12), sl12⟩) (c12 : PySem.W.codeIn K cd12 "reading" = true) (k12 : PySem.W.keepIn K (.ref f12) = true)
    (a13 : PySem.W.nsIn K mainGlobals "is_shape" = some (some (.ref f13))) (l13 : K.lookup f13 = some ⟨oc13, od13, .func (PySem.W.fnOf "is_shape" "is_shape" (defArgs s_is_shape) (defBody s_is_shape) (defScope s_is_shape) .none kV13 dc13 pm13 an13 cd13 ct13), sl13⟩) (c13 : PySem.W.codeIn K cd13 "is_shape" = true) (k13 : PySem.W.keepIn K (.ref f13) = true)
    (a14 : PySem.W.nsIn K mainGlobals "numbers_unlike" = some (some (.ref f14))) (l14 : K.lookup f14 = some ⟨oc14, od14, .func (PySem.W.fnOf "numbers_unlike" "numbers_unlike" (defArgs s_numbers_unlike) (defBody s_numbers_unlike) (defScope s_numbers_unlike) .none kV14 dc14 pm14 an14 cd14 ct14), sl14⟩) (c14 : PySem.W.codeIn K cd14 "numbers_unlike" = true) (k14 : PySem.W.keepIn K (.ref f14) = true)
    (a15 : PySem.W.nsIn K mainGlobals "holes_in" = some (some (.ref f15))) (l15 : K.lookup f15 = some ⟨oc15, od15, .func (PySem.W.fnOf "holes_in" "holes_in" (defArgs s_holes_in) (defBody s_holes_in) (defScope s_holes_in) .none kV15 dc15 pm15 an15 cd15 ct15), sl15⟩) (c15 : PySem.W.codeIn K cd15 "holes_in" = true) (k15 : PySem.W.keepIn K (.ref f15) = true)
    (a16 : PySem.W.nsIn K mainGlobals "rises_behind_holes" = some (some (.ref f16))) (l16 : K.lookup f16 = some ⟨oc16, od16, .func (PySem.W.fnOf "rises_behind_holes" "rises_behind_holes" (defArgs s_rises_behind_holes) (defBody s_rises_behind_holes) (defScope s_rises_behind_holes) .none kV16 dc16 pm16 an16 cd16 ct16), sl16⟩) (c16 : PySem.W.codeIn K cd16 "rises_behind_holes" = true) (k16 : PySem.W.keepIn K (.ref f16) = true)
    (a17 : PySem.W.nsIn K mainGlobals "all_rise" = some (some (.ref f17))) (l17 : K.lookup f17 = some ⟨oc17, od17, .func (PySem.W.fnOf "all_rise" "all_rise" (defArgs s_all_rise) (defBody s_all_rise) (defScope s_all_rise) .none kV17 dc17 pm17 an17 cd17 ct17), sl17⟩) (c17 : PySem.W.codeIn K cd17 "all_rise" = true) (k17 : PySem.W.keepIn K (.ref f17) = true)
    (a18 : PySem.W.nsIn K mainGlobals "is_holed" = some (some (.ref f18))) (l18 : K.lookup f18 = some ⟨oc18, od18, .func (PySem.W.fnOf "is_holed" "is_holed" (defArgs s_is_holed) (defBody s_is_holed) (defScope s_is_holed) .none kV18 dc18 pm18 an18 cd18 ct18), sl18⟩) (c18 : PySem.W.codeIn K cd18 "is_holed" = true) (k18 : PySem.W.keepIn K (.ref f18) = true)
    (a19 : PySem.W.nsIn K mainGlobals "all_unlike" = some (some (.ref f19))) (l19 : K.lookup f19 = some ⟨oc19, od19, .func (PySem.W.fnOf "all_unlike" "all_unlike" (defArgs s_all_unlike) (defBody s_all_unlike) (defScope s_all_unlike) .none kV19 dc19 pm19 an19 cd19 ct19), sl19⟩) (c19 : PySem.W.codeIn K cd19 "all_unlike" = true) (k19 : PySem.W.keepIn K (.ref f19) = true)
    (a20 : PySem.W.nsIn K mainGlobals "all_sorted" = some (some (.ref f20))) (l20 : K.lookup f20 = some ⟨oc20, od20, .func (PySem.W.fnOf "all_sorted" "all_sorted" (defArgs s_all_sorted) (defBody s_all_sorted) (defScope s_all_sorted) .none kV20 dc20 pm20 an20 cd20 ct20), sl20⟩) (c20 : PySem.W.codeIn K cd20 "all_sorted" = true) (k20 : PySem.W.keepIn K (.ref f20) = true)
    (a21 : PySem.W.nsIn K mainGlobals "is_stairs" = some (some (.ref f21))) (l21 : K.lookup f21 = some ⟨oc21, od21, .func (PySem.W.fnOf "is_stairs" "is_stairs" (defArgs s_is_stairs) (defBody s_is_stairs) (defScope s_is_stairs) .none kV21 dc21 pm21 an21 cd21 ct21), sl21⟩) (c21 : PySem.W.codeIn K cd21 "is_stairs" = true) (k21 : PySem.W.keepIn K (.ref f21) = true)
    (a22 : PySem.W.nsIn K mainGlobals "does_count" = some (some (.ref f22))) (l22 : K.lookup f22 = some ⟨oc22, od22, .func (PySem.W.fnOf "does_count" "does_count" (defArgs s_does_count) (defBody s_does_count) (defScope s_does_count) .none kV22 dc22 pm22 an22 cd22 ct22), sl22⟩) (c22 : PySem.W.codeIn K cd22 "does_count" = true) (k22 : PySem.W.keepIn K (.ref f22) = true)
    (a23 : PySem.W.nsIn K mainGlobals "has_place" = some (some (.ref f23))) (l23 : K.lookup f23 = some ⟨oc23, od23, .func (PySem.W.fnOf "has_place" "has_place" (defArgs s_has_place) (defBody s_has_place) (defScope s_has_place) .none kV23 dc23 pm23 an23 cd23 ct23), sl23⟩) (c23 : PySem.W.codeIn K cd23 "has_place" = true) (k23 : PySem.W.keepIn K (.ref f23) = true)
    (a24 : PySem.W.nsIn K mainGlobals "moves_up" = some (some (.ref f24))) (l24 : K.lookup f24 = some ⟨oc24, od24, .func (PySem.W.fnOf "moves_up" "moves_up" (defArgs s_moves_up) (defBody s_moves_up) (defScope s_moves_up) .none kV24 dc24 pm24 an24 cd24 ct24), sl24⟩) (c24 : PySem.W.codeIn K cd24 "moves_up" = true) (k24 : PySem.W.keepIn K (.ref f24) = true)
    (a25 : PySem.W.nsIn K mainGlobals "slid" = some (some (.ref f25))) (l25 : K.lookup f25 = some ⟨oc25, od25, .func (PySem.W.fnOf "slid" "slid" (defArgs s_slid) (defBody s_slid) (defScope s_slid) .none kV25 dc25 pm25 an25 cd25 ct25), sl25⟩) (c25 : PySem.W.codeIn K cd25 "slid" = true) (k25 : PySem.W.keepIn K (.ref f25) = true)
    (a26 : PySem.W.nsIn K mainGlobals "can_slide" = some (some (.ref f26))) (l26 : K.lookup f26 = some ⟨oc26, od26, .func (PySem.W.fnOf "can_slide" "can_slide" (defArgs s_can_slide) (defBody s_can_slide) (defScope s_can_slide) .none kV26 dc26 pm26 an26 cd26 ct26), sl26⟩) (c26 : PySem.W.codeIn K cd26 "can_slide" = true) (k26 : PySem.W.keepIn K (.ref f26) = true)
    (a27 : PySem.W.nsIn K mainGlobals "slide" = some (some (.ref f27))) (l27 : K.lookup f27 = some ⟨oc27, od27, .func (PySem.W.fnOf "slide" "slide" (defArgs s_slide) (defBody s_slide) (defScope s_slide) .none kV27 dc27 pm27 an27 cd27 ct27), sl27⟩) (c27 : PySem.W.codeIn K cd27 "slide" = true) (k27 : PySem.W.keepIn K (.ref f27) = true)
    (a28 : PySem.W.nsIn K mainGlobals "emptied" = some (some (.ref f28))) (l28 : K.lookup f28 = some ⟨oc28, od28, .func (PySem.W.fnOf "emptied" "emptied" (defArgs s_emptied) (defBody s_emptied) (defScope s_emptied) .none kV28 dc28 pm28 an28 cd28 ct28), sl28⟩) (c28 : PySem.W.codeIn K cd28 "emptied" = true) (k28 : PySem.W.keepIn K (.ref f28) = true)
    (a29 : PySem.W.nsIn K mainGlobals "with_hole_at_beginning" = some (some (.ref f29))) (l29 : K.lookup f29 = some ⟨oc29, od29, .func (PySem.W.fnOf "with_hole_at_beginning" "with_hole_at_beginning" (defArgs s_with_hole_at_beginning) (defBody s_with_hole_at_beginning) (defScope s_with_hole_at_beginning) .none kV29 dc29 pm29 an29 cd29 ct29), sl29⟩) (c29 : PySem.W.codeIn K cd29 "with_hole_at_beginning" = true) (k29 : PySem.W.keepIn K (.ref f29) = true)
    (a30 : PySem.W.nsIn K mainGlobals "evacuated" = some (some (.ref f30))) (l30 : K.lookup f30 = some ⟨oc30, od30, .func (PySem.W.fnOf "evacuated" "evacuated" (defArgs s_evacuated) (defBody s_evacuated) (defScope s_evacuated) .none kV30 dc30 pm30 an30 cd30 ct30), sl30⟩) (c30 : PySem.W.codeIn K cd30 "evacuated" = true) (k30 : PySem.W.keepIn K (.ref f30) = true)
    (a31 : PySem.W.nsIn K mainGlobals "_law_number_or" = some (some (.ref f31))) (l31 : K.lookup f31 = some ⟨oc31, od31, .func (PySem.W.fnOf "_law_number_or" "_law_number_or" (defArgs s_law_number_or) (defBody s_law_number_or) (defScope s_law_number_or) .none kV31 dc31 pm31 an31 cd31 ct31), sl31⟩) (c31 : PySem.W.codeIn K cd31 "_law_number_or" = true) (k31 : PySem.W.keepIn K (.ref f31) = true)
    (a32 : PySem.W.nsIn K mainGlobals "_law_holed_by" = some (some (.ref f32))) (l32 : K.lookup f32 = some ⟨oc32, od32, .func (PySem.W.fnOf "_law_holed_by" "_law_holed_by" (defArgs s_law_holed_by) (defBody s_law_holed_by) (defScope s_law_holed_by) .none kV32 dc32 pm32 an32 cd32 ct32), sl32⟩) (c32 : PySem.W.codeIn K cd32 "_law_holed_by" = true) (k32 : PySem.W.keepIn K (.ref f32) = true)
    (a33 : PySem.W.nsIn K mainGlobals "_law_holes" = some (some (.ref f33))) (l33 : K.lookup f33 = some ⟨oc33, od33, .func (PySem.W.fnOf "_law_holes" "_law_holes" (defArgs s_law_holes) (defBody s_law_holes) (defScope s_law_holes) .none kV33 dc33 pm33 an33 cd33 ct33), sl33⟩) (c33 : PySem.W.codeIn K cd33 "_law_holes" = true) (k33 : PySem.W.keepIn K (.ref f33) = true)
    (a34 : PySem.W.nsIn K mainGlobals "_law_inner" = some (some (.ref f34))) (l34 : K.lookup f34 = some ⟨oc34, od34, .func (PySem.W.fnOf "_law_inner" "_law_inner" (defArgs s_law_inner) (defBody s_law_inner) (defScope s_law_inner) .none kV34 dc34 pm34 an34 cd34 ct34), sl34⟩) (c34 : PySem.W.codeIn K cd34 "_law_inner" = true) (k34 : PySem.W.keepIn K (.ref f34) = true)
    (a35 : PySem.W.nsIn K mainGlobals "_law_spoilt" = some (some (.ref f35))) (l35 : K.lookup f35 = some ⟨oc35, od35, .func (PySem.W.fnOf "_law_spoilt" "_law_spoilt" (defArgs s_law_spoilt) (defBody s_law_spoilt) (defScope s_law_spoilt) .none kV35 dc35 pm35 an35 cd35 ct35), sl35⟩) (c35 : PySem.W.codeIn K cd35 "_law_spoilt" = true) (k35 : PySem.W.keepIn K (.ref f35) = true)
    (a36 : PySem.W.nsIn K mainGlobals "_law_good" = some (some (.ref f36))) (l36 : K.lookup f36 = some ⟨oc36, od36, .func (PySem.W.fnOf "_law_good" "_law_good" (defArgs s_law_good) (defBody s_law_good) (defScope s_law_good) .none kV36 dc36 pm36 an36 cd36 ct36), sl36⟩) (c36 : PySem.W.codeIn K cd36 "_law_good" = true) (k36 : PySem.W.keepIn K (.ref f36) = true)
    (a37 : PySem.W.nsIn K mainGlobals "_law_marks" = some (some (.ref f37))) (l37 : K.lookup f37 = some ⟨oc37, od37, .func (PySem.W.fnOf "_law_marks" "_law_marks" (defArgs s_law_marks) (defBody s_law_marks) (defScope s_law_marks) .none kV37 dc37 pm37 an37 cd37 ct37), sl37⟩) (c37 : PySem.W.codeIn K cd37 "_law_marks" = true) (k37 : PySem.W.keepIn K (.ref f37) = true)
    (a38 : PySem.W.nsIn K mainGlobals "law" = some (some (.ref f38))) (l38 : K.lookup f38 = some ⟨oc38, od38, .func (PySem.W.fnOf "law" "law" (defArgs s_law) (defBody s_law) (defScope s_law) .none kV38 dc38 pm38 an38 cd38 ct38), sl38⟩) (c38 : PySem.W.codeIn K cd38 "law" = true) (k38 : PySem.W.keepIn K (.ref f38) = true)
    {cNoStairs : Addr} (x_NoStairs : PySem.W.nsIn K mainGlobals "NoStairs" = some (some (.ref cNoStairs))) (y_NoStairs : PySem.W.excIn K cNoStairs veTail "ValueError.__new__" = true)
    {cNoPair : Addr} (x_NoPair : PySem.W.nsIn K mainGlobals "NoPair" = some (some (.ref cNoPair))) (y_NoPair : PySem.W.excIn K cNoPair veTail "ValueError.__new__" = true)
    {cNoPlace : Addr} (x_NoPlace : PySem.W.nsIn K mainGlobals "NoPlace" = some (some (.ref cNoPlace))) (y_NoPlace : PySem.W.excIn K cNoPlace veTail "ValueError.__new__" = true)
    {cNoShape : Addr} (x_NoShape : PySem.W.nsIn K mainGlobals "NoShape" = some (some (.ref cNoShape))) (y_NoShape : PySem.W.excIn K cNoShape veTail "ValueError.__new__" = true)
    {cNoNote : Addr} (x_NoNote : PySem.W.nsIn K mainGlobals "NoNote" = some (some (.ref cNoNote))) (y_NoNote : PySem.W.excIn K cNoNote veTail "ValueError.__new__" = true)
    {cStairError : Addr} (x_StairError : PySem.W.nsIn K mainGlobals "StairError" = some (some (.ref cStairError))) (y_StairError : PySem.W.excIn K cStairError veTail "ValueError.__new__" = true)
    (h_NoStairs_StairError : PySem.W.mroIn K cNoStairs (.ref cStairError) = some true)
    (h_NoPlace_StairError : PySem.W.mroIn K cNoPlace (.ref cStairError) = some true)
    (q_NoStairs_ValueError : PySem.W.kitOne K (.ref cNoStairs) (.type "ValueError") = some true)
    (q_NoPlace_ValueError : PySem.W.kitOne K (.ref cNoPlace) (.type "ValueError") = some true)
    (n_NoStairs_NoPair : PySem.W.kitOne K (.ref cNoStairs) (.ref cNoPair) = some false)
    (n_NoStairs_NoPlace : PySem.W.kitOne K (.ref cNoStairs) (.ref cNoPlace) = some false)
    (n_NoStairs_NoShape : PySem.W.kitOne K (.ref cNoStairs) (.ref cNoShape) = some false)
    (n_NoStairs_NoNote : PySem.W.kitOne K (.ref cNoStairs) (.ref cNoNote) = some false)
    (n_NoPlace_NoStairs : PySem.W.kitOne K (.ref cNoPlace) (.ref cNoStairs) = some false)
    (n_NoPlace_NoPair : PySem.W.kitOne K (.ref cNoPlace) (.ref cNoPair) = some false)
    (n_NoPlace_NoShape : PySem.W.kitOne K (.ref cNoPlace) (.ref cNoShape) = some false)
    (n_NoPlace_NoNote : PySem.W.kitOne K (.ref cNoPlace) (.ref cNoNote) = some false)
    (e1_NoStairs : PySem.W.findIn K (.ref cNoStairs) "__getattribute__" = some (some (.builtin "BaseException.__getattribute__"))) (e2_NoStairs : PySem.W.findIn K (.ref cNoStairs) "__getattr__" = some none) (e3_NoStairs : PySem.W.findIn K (.ref cNoStairs) "__class__" = some (some (.builtin "object.__class__")))
    (e4_NoStairs : PySem.W.specialIn K (.builtin "object.__class__") "__get__" = some (some (.builtin "getset_descriptor.__get__"))) (e5_NoStairs : PySem.W.takesIn K (.builtin "object.__class__") = some true) (e6_NoStairs : PySem.W.mroIn K cNoStairs (.type "object") = some true) (e7_NoStairs : PySem.W.mroIn K cNoStairs (.type "BaseException") = some true)
    (e1_NoPlace : PySem.W.findIn K (.ref cNoPlace) "__getattribute__" = some (some (.builtin "BaseException.__getattribute__"))) (e2_NoPlace : PySem.W.findIn K (.ref cNoPlace) "__getattr__" = some none) (e3_NoPlace : PySem.W.findIn K (.ref cNoPlace) "__class__" = some (some (.builtin "object.__class__")))
    (e4_NoPlace : PySem.W.specialIn K (.builtin "object.__class__") "__get__" = some (some (.builtin "getset_descriptor.__get__"))) (e5_NoPlace : PySem.W.takesIn K (.builtin "object.__class__") = some true) (e6_NoPlace : PySem.W.mroIn K cNoPlace (.type "object") = some true) (e7_NoPlace : PySem.W.mroIn K cNoPlace (.type "BaseException") = some true)
    (z_ValueError : PySem.W.nsIn K mainGlobals "ValueError" = some none)
    (z_len : PySem.W.nsIn K mainGlobals "len" = some none) (z_range : PySem.W.nsIn K mainGlobals "range" = some none) (z_list : PySem.W.nsIn K mainGlobals "list" = some none) (z_isinstance : PySem.W.nsIn K mainGlobals "isinstance" = some none) (z_min : PySem.W.nsIn K mainGlobals "min" = some none) (z_max : PySem.W.nsIn K mainGlobals "max" = some none) (z_sum : PySem.W.nsIn K mainGlobals "sum" = some none) (z_all : PySem.W.nsIn K mainGlobals "all" = some none) (z_set : PySem.W.nsIn K mainGlobals "set" = some none) (z_sorted : PySem.W.nsIn K mainGlobals "sorted" = some none) (z_enumerate : PySem.W.nsIn K mainGlobals "enumerate" = some none) (z_reversed : PySem.W.nsIn K mainGlobals "reversed" = some none) (z_int : PySem.W.nsIn K mainGlobals "int" = some none) (z_bool : PySem.W.nsIn K mainGlobals "bool" = some none) (z_tuple : PySem.W.nsIn K mainGlobals "tuple" = some none) (z_any : PySem.W.nsIn K mainGlobals "any" = some none) (z_str : PySem.W.nsIn K mainGlobals "str" = some none) :
    ∃ fd : FuncData, (∀ (s : Shared) (v : Value), BindsTo s fd ⟨[v], []⟩ [("script", v)]) ∧ ∀ base : Heap, K.In base → base.Ns mainGlobals mg → FnOk l.prog w K mg base CX0 8 fa fd ["script"] (spLaw K) := by
  have e := hfa.symm.trans (PySem.W.mg_of X G a38)
  cases e
  have T : Bl mg := ⟨PySem.W.mg_none_of X G z_len, PySem.W.mg_none_of X G z_range, PySem.W.mg_none_of X G z_list, PySem.W.mg_none_of X G z_isinstance, PySem.W.mg_none_of X G z_min, PySem.W.mg_none_of X G z_max, PySem.W.mg_none_of X G z_sum, PySem.W.mg_none_of X G z_all, PySem.W.mg_none_of X G z_set, PySem.W.mg_none_of X G z_sorted, PySem.W.mg_none_of X G z_enumerate, PySem.W.mg_none_of X G z_reversed, PySem.W.mg_none_of X G z_int, PySem.W.mg_none_of X G z_bool, PySem.W.mg_none_of X G z_tuple, PySem.W.mg_none_of X G z_any, PySem.W.mg_none_of X G z_str⟩
  have O_NoStairs : Own K mg "NoStairs" cNoStairs := ⟨PySem.W.mg_of X G x_NoStairs, y_NoStairs⟩
  have O_NoPair : Own K mg "NoPair" cNoPair := ⟨PySem.W.mg_of X G x_NoPair, y_NoPair⟩
  have O_NoPlace : Own K mg "NoPlace" cNoPlace := ⟨PySem.W.mg_of X G x_NoPlace, y_NoPlace⟩
  have O_NoShape : Own K mg "NoShape" cNoShape := ⟨PySem.W.mg_of X G x_NoShape, y_NoShape⟩
  have O_NoNote : Own K mg "NoNote" cNoNote := ⟨PySem.W.mg_of X G x_NoNote, y_NoNote⟩
  have O_StairError : Own K mg "StairError" cStairError := ⟨PySem.W.mg_of X G x_StairError, y_StairError⟩
  have EK_NoStairs : ExK K cNoStairs := ⟨e1_NoStairs, e2_NoStairs, e3_NoStairs, e4_NoStairs, e5_NoStairs, e6_NoStairs, e7_NoStairs⟩
  have EK_NoPlace : ExK K cNoPlace := ⟨e1_NoPlace, e2_NoPlace, e3_NoPlace, e4_NoPlace, e5_NoPlace, e6_NoPlace, e7_NoPlace⟩
  have VE : BtT mg "ValueError" "ValueError" := ⟨PySem.W.mg_none_of X G z_ValueError, by decide +kernel, by decide, by decide⟩
  have F0 := fun_mk (st := s_law_drawn) l0 c0 k0
  have b0 := F0.binds (ps := ["script", "k", "many"]) fun _ _ _ _ _ _ us hl => bnd3 (p := fun us => bindArgs _ ⟨us, []⟩ = pure (List.zip _ us)) (by intros; rfl) us hl
  have F1 := fun_mk (st := s_law_row_by) l1 c1 k1
  have b1 := F1.binds (ps := ["script", "bound"]) fun _ _ _ _ _ _ us hl => bnd2 (p := fun us => bindArgs _ ⟨us, []⟩ = pure (List.zip _ us)) (by intros; rfl) us hl
  have F2 := fun_mk (st := s_law_lay) l2 c2 k2
  have b2 := F2.binds (ps := ["rows", "number"]) fun _ _ _ _ _ _ us hl => bnd2 (p := fun us => bindArgs _ ⟨us, []⟩ = pure (List.zip _ us)) (by intros; rfl) us hl
  have F3 := fun_mk (st := s_law_laid) l3 c3 k3
  have b3 := F3.binds (ps := ["row"]) fun _ _ _ _ _ _ us hl => bnd1 (p := fun us => bindArgs _ ⟨us, []⟩ = pure (List.zip _ us)) (by intros; rfl) us hl
  have F4 := fun_mk (st := s_how_many_less) l4 c4 k4
  have b4 := F4.binds (ps := ["row", "number"]) fun _ _ _ _ _ _ us hl => bnd2 (p := fun us => bindArgs _ ⟨us, []⟩ = pure (List.zip _ us)) (by intros; rfl) us hl
  have F5 := fun_mk (st := s_with_number_at) l5 c5 k5
  have b5 := F5.binds (ps := ["row", "place", "number"]) fun _ _ _ _ _ _ us hl => bnd3 (p := fun us => bindArgs _ ⟨us, []⟩ = pure (List.zip _ us)) (by intros; rfl) us hl
  have F6 := fun_mk (st := s_lay_in) l6 c6 k6
  have b6 := F6.binds (ps := ["rows", "number"]) fun _ _ _ _ _ _ us hl => bnd2 (p := fun us => bindArgs _ ⟨us, []⟩ = pure (List.zip _ us)) (by intros; rfl) us hl
  have F7 := fun_mk (st := s_put_at_end) l7 c7 k7
  have b7 := F7.binds (ps := ["rows", "at", "number"]) fun _ _ _ _ _ _ us hl => bnd3 (p := fun us => bindArgs _ ⟨us, []⟩ = pure (List.zip _ us)) (by intros; rfl) us hl
  have F8 := fun_mk (st := s_laid) l8 c8 k8
  have b8 := F8.binds (ps := ["row"]) fun _ _ _ _ _ _ us hl => bnd1 (p := fun us => bindArgs _ ⟨us, []⟩ = pure (List.zip _ us)) (by intros; rfl) us hl
  have F9 := fun_mk (st := s_shape) l9 c9 k9
  have b9 := F9.binds (ps := ["rows"]) fun _ _ _ _ _ _ us hl => bnd1 (p := fun us => bindArgs _ ⟨us, []⟩ = pure (List.zip _ us)) (by intros; rfl) us hl
  have F10 := fun_mk (st := s_column) l10 c10 k10
  have b10 := F10.binds (ps := ["rows", "place"]) fun _ _ _ _ _ _ us hl => bnd2 (p := fun us => bindArgs _ ⟨us, []⟩ = pure (List.zip _ us)) (by intros; rfl) us hl
  have F11 := fun_mk (st := s_turned) l11 c11 k11
  have b11 := F11.binds (ps := ["rows"]) fun _ _ _ _ _ _ us hl => bnd1 (p := fun us => bindArgs _ ⟨us, []⟩ = pure (List.zip _ us)) (by intros; rfl) us hl
  have F12 := fun_mk (st := s_reading) l12 c12 k12
  have b12 := F12.binds (ps := ["rows"]) fun _ _ _ _ _ _ us hl => bnd1 (p := fun us => bindArgs _ ⟨us, []⟩ = pure (List.zip _ us)) (by intros; rfl) us hl
  have F13 := fun_mk (st := s_is_shape) l13 c13 k13
  have b13 := F13.binds (ps := ["lengths"]) fun _ _ _ _ _ _ us hl => bnd1 (p := fun us => bindArgs _ ⟨us, []⟩ = pure (List.zip _ us)) (by intros; rfl) us hl
  have F14 := fun_mk (st := s_numbers_unlike) l14 c14 k14
  have b14 := F14.binds (ps := ["rows"]) fun _ _ _ _ _ _ us hl => bnd1 (p := fun us => bindArgs _ ⟨us, []⟩ = pure (List.zip _ us)) (by intros; rfl) us hl
  have F15 := fun_mk (st := s_holes_in) l15 c15 k15
  have b15 := F15.binds (ps := ["line"]) fun _ _ _ _ _ _ us hl => bnd1 (p := fun us => bindArgs _ ⟨us, []⟩ = pure (List.zip _ us)) (by intros; rfl) us hl
  have F16 := fun_mk (st := s_rises_behind_holes) l16 c16 k16
  have b16 := F16.binds (ps := ["line"]) fun _ _ _ _ _ _ us hl => bnd1 (p := fun us => bindArgs _ ⟨us, []⟩ = pure (List.zip _ us)) (by intros; rfl) us hl
  have F17 := fun_mk (st := s_all_rise) l17 c17 k17
  have b17 := F17.binds (ps := ["lines"]) fun _ _ _ _ _ _ us hl => bnd1 (p := fun us => bindArgs _ ⟨us, []⟩ = pure (List.zip _ us)) (by intros; rfl) us hl
  have F18 := fun_mk (st := s_is_holed) l18 c18 k18
  have b18 := F18.binds (ps := ["rows"]) fun _ _ _ _ _ _ us hl => bnd1 (p := fun us => bindArgs _ ⟨us, []⟩ = pure (List.zip _ us)) (by intros; rfl) us hl
  have F19 := fun_mk (st := s_all_unlike) l19 c19 k19
  have b19 := F19.binds (ps := ["rows"]) fun _ _ _ _ _ _ us hl => bnd1 (p := fun us => bindArgs _ ⟨us, []⟩ = pure (List.zip _ us)) (by intros; rfl) us hl
  have F20 := fun_mk (st := s_all_sorted) l20 c20 k20
  have b20 := F20.binds (ps := ["rows"]) fun _ _ _ _ _ _ us hl => bnd1 (p := fun us => bindArgs _ ⟨us, []⟩ = pure (List.zip _ us)) (by intros; rfl) us hl
  have F21 := fun_mk (st := s_is_stairs) l21 c21 k21
  have b21 := F21.binds (ps := ["rows"]) fun _ _ _ _ _ _ us hl => bnd1 (p := fun us => bindArgs _ ⟨us, []⟩ = pure (List.zip _ us)) (by intros; rfl) us hl
  have F22 := fun_mk (st := s_does_count) l22 c22 k22
  have b22 := F22.binds (ps := ["rows"]) fun _ _ _ _ _ _ us hl => bnd1 (p := fun us => bindArgs _ ⟨us, []⟩ = pure (List.zip _ us)) (by intros; rfl) us hl
  have F23 := fun_mk (st := s_has_place) l23 c23 k23
  have b23 := F23.binds (ps := ["rows", "at", "place"]) fun _ _ _ _ _ _ us hl => bnd3 (p := fun us => bindArgs _ ⟨us, []⟩ = pure (List.zip _ us)) (by intros; rfl) us hl
  have F24 := fun_mk (st := s_moves_up) l24 c24 k24
  have b24 := F24.binds (ps := ["rows", "at", "place"]) fun _ _ _ _ _ _ us hl => bnd3 (p := fun us => bindArgs _ ⟨us, []⟩ = pure (List.zip _ us)) (by intros; rfl) us hl
  have F25 := fun_mk (st := s_slid) l25 c25 k25
  have b25 := F25.binds (ps := ["rows", "at"]) fun _ _ _ _ _ _ us hl => bnd2 (p := fun us => bindArgs _ ⟨us, []⟩ = pure (List.zip _ us)) (by intros; rfl) us hl
  have F26 := fun_mk (st := s_can_slide) l26 c26 k26
  have b26 := F26.binds (ps := ["rows", "at"]) fun _ _ _ _ _ _ us hl => bnd2 (p := fun us => bindArgs _ ⟨us, []⟩ = pure (List.zip _ us)) (by intros; rfl) us hl
  have F27 := fun_mk (st := s_slide) l27 c27 k27
  have b27 := F27.binds (ps := ["rows", "at"]) fun _ _ _ _ _ _ us hl => bnd2 (p := fun us => bindArgs _ ⟨us, []⟩ = pure (List.zip _ us)) (by intros; rfl) us hl
  have F28 := fun_mk (st := s_emptied) l28 c28 k28
  have b28 := F28.binds (ps := ["rows"]) fun _ _ _ _ _ _ us hl => bnd1 (p := fun us => bindArgs _ ⟨us, []⟩ = pure (List.zip _ us)) (by intros; rfl) us hl
  have F29 := fun_mk (st := s_with_hole_at_beginning) l29 c29 k29
  have b29 := F29.binds (ps := ["rows"]) fun _ _ _ _ _ _ us hl => bnd1 (p := fun us => bindArgs _ ⟨us, []⟩ = pure (List.zip _ us)) (by intros; rfl) us hl
  have F30 := fun_mk (st := s_evacuated) l30 c30 k30
  have b30 := F30.binds (ps := ["rows"]) fun _ _ _ _ _ _ us hl => bnd1 (p := fun us => bindArgs _ ⟨us, []⟩ = pure (List.zip _ us)) (by intros; rfl) us hl
  have F31 := fun_mk (st := s_law_number_or) l31 c31 k31
  have b31 := F31.binds (ps := ["number", "low"]) fun _ _ _ _ _ _ us hl => bnd2 (p := fun us => bindArgs _ ⟨us, []⟩ = pure (List.zip _ us)) (by intros; rfl) us hl
  have F32 := fun_mk (st := s_law_holed_by) l32 c32 k32
  have b32 := F32.binds (ps := ["script", "rows"]) fun _ _ _ _ _ _ us hl => bnd2 (p := fun us => bindArgs _ ⟨us, []⟩ = pure (List.zip _ us)) (by intros; rfl) us hl
  have F33 := fun_mk (st := s_law_holes) l33 c33 k33
  have b33 := F33.binds (ps := ["row"]) fun _ _ _ _ _ _ us hl => bnd1 (p := fun us => bindArgs _ ⟨us, []⟩ = pure (List.zip _ us)) (by intros; rfl) us hl
  have F34 := fun_mk (st := s_law_inner) l34 c34 k34
  have b34 := F34.binds (ps := ["rows"]) fun _ _ _ _ _ _ us hl => bnd1 (p := fun us => bindArgs _ ⟨us, []⟩ = pure (List.zip _ us)) (by intros; rfl) us hl
  have F35 := fun_mk (st := s_law_spoilt) l35 c35 k35
  have b35 := F35.binds (ps := ["script", "rows"]) fun _ _ _ _ _ _ us hl => bnd2 (p := fun us => bindArgs _ ⟨us, []⟩ = pure (List.zip _ us)) (by intros; rfl) us hl
  have F36 := fun_mk (st := s_law_good) l36 c36 k36
  have b36 := F36.binds (ps := ["rows"]) fun _ _ _ _ _ _ us hl => bnd1 (p := fun us => bindArgs _ ⟨us, []⟩ = pure (List.zip _ us)) (by intros; rfl) us hl
  have F37 := fun_mk (st := s_law_marks) l37 c37 k37
  have b37 := F37.binds (ps := ["rows", "at", "way"]) fun _ _ _ _ _ _ us hl => bnd3 (p := fun us => bindArgs _ ⟨us, []⟩ = pure (List.zip _ us)) (by intros; rfl) us hl
  have F38 := fun_mk (st := s_law) l38 c38 k38
  have C0 : ∀ base : Heap, Cal l.prog w K mg base 1 "_law_drawn" ["script", "k", "many"] (spDrawn K) := fun base => ⟨_, _, ok_drawn F0 T , PySem.W.mg_of X G a0, k0, b0⟩
  have C1 : ∀ base : Heap, Cal l.prog w K mg base 2 "_law_row_by" ["script", "bound"] (spRowBy K) := fun base => ⟨_, _, ok_row_by F1 T (C0 base), PySem.W.mg_of X G a1, k1, b1⟩
  have C2 : ∀ base : Heap, Cal l.prog w K mg base 1 "_law_lay" ["rows", "number"] (spLay) := fun base => ⟨_, _, ok_lay F2 T , PySem.W.mg_of X G a2, k2, b2⟩
  have C3 : ∀ base : Heap, Cal l.prog w K mg base 2 "_law_laid" ["row"] (spLaid) := fun base => ⟨_, _, ok_laid F3 T (C2 base), PySem.W.mg_of X G a3, k3, b3⟩
  have C4 : ∀ base : Heap, Cal l.prog w K mg base 1 "how_many_less" ["row", "number"] (spLess) := fun base => ⟨_, _, ok_less F4 T , PySem.W.mg_of X G a4, k4, b4⟩
  have C5 : ∀ base : Heap, Cal l.prog w K mg base 1 "with_number_at" ["row", "place", "number"] (spWith) := fun base => ⟨_, _, ok_with F5 T , PySem.W.mg_of X G a5, k5, b5⟩
  have C6 : ∀ base : Heap, Cal l.prog w K mg base 2 "lay_in" ["rows", "number"] (spLayIn) := fun base => ⟨_, _, ok_lay_in F6 T (C4 base) (C5 base), PySem.W.mg_of X G a6, k6, b6⟩
  have C7 : ∀ base : Heap, Cal l.prog w K mg base 1 "put_at_end" ["rows", "at", "number"] (spPut) := fun base => ⟨_, _, ok_put F7 T , PySem.W.mg_of X G a7, k7, b7⟩
  have C8 : ∀ base : Heap, Cal l.prog w K mg base 3 "laid" ["row"] (spLaidP) := fun base => ⟨_, _, ok_laidP F8 T (C6 base) (C7 base), PySem.W.mg_of X G a8, k8, b8⟩
  have C9 : ∀ base : Heap, Cal l.prog w K mg base 1 "shape" ["rows"] (spShapeV) := fun base => ⟨_, _, ok_shapeV F9 T , PySem.W.mg_of X G a9, k9, b9⟩
  have C10 : ∀ base : Heap, Cal l.prog w K mg base 1 "column" ["rows", "place"] (spColumnV) := fun base => ⟨_, _, ok_columnV F10 T , PySem.W.mg_of X G a10, k10, b10⟩
  have C11 : ∀ base : Heap, Cal l.prog w K mg base 2 "turned" ["rows"] (spTurnedV) := fun base => ⟨_, _, ok_turnedV F11 T (C10 base), PySem.W.mg_of X G a11, k11, b11⟩
  have C12 : ∀ base : Heap, Cal l.prog w K mg base 1 "reading" ["rows"] (spReadingV) := fun base => ⟨_, _, ok_readingV F12 T , PySem.W.mg_of X G a12, k12, b12⟩
  have C13 : ∀ base : Heap, Cal l.prog w K mg base 1 "is_shape" ["lengths"] (spIsShape) := fun base => ⟨_, _, ok_is_shape F13 T , PySem.W.mg_of X G a13, k13, b13⟩
  have C14 : ∀ base : Heap, Cal l.prog w K mg base 2 "numbers_unlike" ["rows"] (spUnlike) := fun base => ⟨_, _, ok_unlike F14 T (C12 base), PySem.W.mg_of X G a14, k14, b14⟩
  have C15 : ∀ base : Heap, Cal l.prog w K mg base 1 "holes_in" ["line"] (spHoles) := fun base => ⟨_, _, ok_holes F15 T , PySem.W.mg_of X G a15, k15, b15⟩
  have C16 : ∀ base : Heap, Cal l.prog w K mg base 2 "rises_behind_holes" ["line"] (spRises) := fun base => ⟨_, _, ok_rises F16 T (C15 base), PySem.W.mg_of X G a16, k16, b16⟩
  have C17 : ∀ base : Heap, Cal l.prog w K mg base 3 "all_rise" ["lines"] (spAllRise) := fun base => ⟨_, _, ok_all_rise F17 T (C16 base), PySem.W.mg_of X G a17, k17, b17⟩
  have C18 : ∀ base : Heap, Cal l.prog w K mg base 4 "is_holed" ["rows"] (spHoled) := fun base => ⟨_, _, ok_is_holed F18 T (C9 base) (C13 base) (C14 base) (C17 base) (C11 base), PySem.W.mg_of X G a18, k18, b18⟩
  have C19 : ∀ base : Heap, Cal l.prog w K mg base 2 "all_unlike" ["rows"] (spUnlikeG) := fun base => ⟨_, _, ok_unlikeG F19 T (C12 base) (C9 base), PySem.W.mg_of X G a19, k19, b19⟩
  have C20 : ∀ base : Heap, Cal l.prog w K mg base 1 "all_sorted" ["rows"] (spAllSorted) := fun base => ⟨_, _, ok_all_sorted F20 T , PySem.W.mg_of X G a20, k20, b20⟩
  have C21 : ∀ base : Heap, Cal l.prog w K mg base 3 "is_stairs" ["rows"] (spIsStairsG) := fun base => ⟨_, _, ok_is_stairsG F21 T (C9 base) (C13 base) (C19 base) (C20 base) (C11 base), PySem.W.mg_of X G a21, k21, b21⟩
  have C22 : ∀ base : Heap, Cal l.prog w K mg base 2 "does_count" ["rows"] (spCountG) := fun base => ⟨_, _, ok_countG F22 T (C12 base), PySem.W.mg_of X G a22, k22, b22⟩
  have C23 : ∀ base : Heap, Cal l.prog w K mg base 1 "has_place" ["rows", "at", "place"] (spHas) := fun base => ⟨_, _, ok_has F23 T , PySem.W.mg_of X G a23, k23, b23⟩
  have C24 : ∀ base : Heap, Cal l.prog w K mg base 2 "moves_up" ["rows", "at", "place"] (spUp) := fun base => ⟨_, _, ok_up F24 T (C23 base), PySem.W.mg_of X G a24, k24, b24⟩
  have C25 : ∀ base : Heap, Cal l.prog w K mg base 3 "slid" ["rows", "at"] (spSlid) := fun base => ⟨_, _, ok_slid F25 T (C15 base) (C23 base) (C24 base), PySem.W.mg_of X G a25, k25, b25⟩
  have C26 : ∀ base : Heap, Cal l.prog w K mg base 2 "can_slide" ["rows", "at"] (spCan) := fun base => ⟨_, _, ok_can F26 T (C15 base), PySem.W.mg_of X G a26, k26, b26⟩
  have C27 : ∀ base : Heap, CalX l.prog w K mg base 5 "slide" ["rows", "at"] (spSlideX cNoStairs cNoPlace) := fun base => ⟨⟨_, _, ok_slideX F27 T O_NoStairs O_NoPlace (C18 base) (C26 base) (C25 base), PySem.W.mg_of X G a27, k27, b27⟩⟩
  have C28 : ∀ base : Heap, CalX l.prog w K mg base 5 "emptied" ["rows"] (spEmptX cNoStairs) := fun base => ⟨⟨_, _, ok_emptX F28 T O_NoStairs (C18 base) (C12 base) (C8 base), PySem.W.mg_of X G a28, k28, b28⟩⟩
  have C29 : ∀ base : Heap, Cal l.prog w K mg base 1 "with_hole_at_beginning" ["rows"] (spNo) := fun base => ⟨_, _, ok_no F29 T , PySem.W.mg_of X G a29, k29, b29⟩
  have C30 : ∀ base : Heap, CalX l.prog w K mg base 4 "evacuated" ["rows"] (spEvacN cNoStairs) := fun base => ⟨⟨_, _, ok_evacN F30 T O_NoStairs (C21 base) (C22 base) (C9 base) (C29 base) (C25 base), PySem.W.mg_of X G a30, k30, b30⟩⟩
  have C31 : ∀ base : Heap, Cal l.prog w K mg base 1 "_law_number_or" ["number", "low"] (spNumOr) := fun base => ⟨_, _, ok_numor F31 T , PySem.W.mg_of X G a31, k31, b31⟩
  have C32 : ∀ base : Heap, Cal l.prog w K mg base 2 "_law_holed_by" ["script", "rows"] (spHoledBy K) := fun base => ⟨_, _, ok_holed_by F32 T (C0 base) (C31 base), PySem.W.mg_of X G a32, k32, b32⟩
  have C33 : ∀ base : Heap, Cal l.prog w K mg base 1 "_law_holes" ["row"] (spLHoles) := fun base => ⟨_, _, ok_lholes F33 T , PySem.W.mg_of X G a33, k33, b33⟩
  have C34 : ∀ base : Heap, Cal l.prog w K mg base 2 "_law_inner" ["rows"] (spInner) := fun base => ⟨_, _, ok_inner F34 T (C33 base), PySem.W.mg_of X G a34, k34, b34⟩
  have C35 : ∀ base : Heap, Cal l.prog w K mg base 2 "_law_spoilt" ["script", "rows"] (spSpoil K) := fun base => ⟨_, _, ok_spoil F35 T (C0 base), PySem.W.mg_of X G a35, k35, b35⟩
  have C36 : ∀ base : Heap, Cal l.prog w K mg base 2 "_law_good" ["rows"] (spGood) := fun base => ⟨_, _, ok_good F36 T (C33 base), PySem.W.mg_of X G a36, k36, b36⟩
  have C37 : ∀ base : Heap, Cal l.prog w K mg base 6 "_law_marks" ["rows", "at", "way"] (spMarks) := fun base => ⟨_, _, ok_marks F37 T O_NoShape O_StairError O_NoStairs O_NoPair O_NoPlace O_NoNote EK_NoStairs EK_NoPlace (has_of h_NoStairs_StairError) (has_of h_NoPlace_StairError) q_NoStairs_ValueError q_NoPlace_ValueError n_NoStairs_NoPlace n_NoStairs_NoPair n_NoStairs_NoShape n_NoStairs_NoNote n_NoPlace_NoStairs n_NoPlace_NoPair n_NoPlace_NoShape n_NoPlace_NoNote VE (C27 base) (C28 base) (C30 base), PySem.W.mg_of X G a37, k37, b37⟩
  exact ⟨PySem.W.fnOf "law" "law" (defArgs s_law) (defBody s_law) (defScope s_law) .none kV38 dc38 pm38 an38 cd38 ct38, fun s v => .of_eq rfl, fun base _ _ => ok_law F38 T (C0 base) (C1 base) (C3 base) (C32 base) (C35 base) (C36 base) (C18 base) (C34 base) (C37 base)⟩
theorem walk {l : PySem.W.OpenLaw} {q : Program} {loose : List Str} {XP : (Str → Option Value) → Heap → Prop} {YP : World → Heap → Prop} {d : DefRec} {K : Params → PySem.W.Frag} (hn : l.most = some 63) (hdf : d.params.defaults = [])
    (hY : ∀ (w : World) (h : Heap), YP w h → (K w.params).In h)
    (F : ∀ (w : World) (mg : Str → Option Value) (fa : Addr) (h : Heap), (K w.params).In h → h.Ns mainGlobals mg → mg d.name = some (.ref fa) →
      ∃ fd : FuncData, (∀ (s : Shared) (u : Value), BindsTo s fd ⟨[u], []⟩ [("script", u)]) ∧ ∀ base : Heap, (K w.params).In base → base.Ns mainGlobals mg → FnOk l.prog w (K w.params) mg base CX0 8 fa fd ["script"] (spLaw (K w.params))) :
    PySem.W.WalkO q loose XP YP l.row.toRowW d [] (fun f vs => PySem.call f vs) :=
  L2.walk_of (n := 63) (k := 8) (x := "script") (CX := fun _ => CX0) (sp := fun w => spLaw (K w.params)) hn (by decide) hdf ⟨rfl, by decide, by decide⟩ hY F (fun _ _ a ns hl _ hS => ⟨a, ns, rfl, hS, hl, fun _ => rfl⟩) fun _ _ _ _ _ z => z
end SR
open PySem PySem.W PyProof.Rows
set_option maxRecDepth 100000 in
set_option maxHeartbeats 0 in
theorem PySem.Challenge.cw_stairrows_k17_slides_refused_holds : PySem.Challenge.rw_stairrows_k17_slides_refused.Holds := by
  w_on; o_law; k_head; (case hw => w_witness2)
  k_fill
  refine SR.walk (l := PySem.Challenge.rw_stairrows_k17_slides_refused) rfl rfl (fun w h Y => PySem.W.kIn_of Y) ?F
  case F =>
    intro w mg fa h KX G hmg
    refine' SR.all_mk KX G hmg ?a0 ?l0 ?c0 ?k0 ?a1 ?l1 ?c1 ?k1 ?a2 ?l2 ?c2 ?k2 ?a3 ?l3 ?c3 ?k3 ?a4 ?l4 ?c4 ?k4 ?a5 ?l5 ?c5 ?k5 ?a6 ?l6 ?c6 ?k6 ?a7 ?l7 ?c7 ?k7 ?a8 ?l8 ?c8 ?k8 ?a9 ?l9 ?c9 ?k9 ?a10 ?l10 ?c10 ?k10 ?a11 ?l11 ?c11 ?k11 ?a12 ?l12 ?c12 ?k12 ?a13 ?l13 ?c13 ?k13 ?a14 ?l14 ?c14 ?k14 ?a15 ?l15 ?c15 ?k15 ?a16 ?l16 ?c16 ?k16 ?a17 ?l17 ?c17 ?k17 ?a18 ?l18 ?c18 ?k18 ?a19 ?l19 ?c19 ?k19 ?a20 ?l20 ?c20 ?k20 ?a21 ?l21 ?c21 ?k21 ?a22 ?l22 ?c22 ?k22 ?a23 ?l23 ?c23 ?k23 ?a24 ?l24 ?c24 ?k24 ?a25 ?l25 ?c25 ?k25 ?a26 ?l26 ?c26 ?k26 ?a27 ?l27 ?c27 ?k27 ?a28 ?l28 ?c28 ?k28 ?a29 ?l29 ?c29 ?k29 ?a30 ?l30 ?c30 ?k30 ?a31 ?l31 ?c31 ?k31 ?a32 ?l32 ?c32 ?k32 ?a33 ?l33 ?c33 ?k33 ?a34 ?l34 ?c34 ?k34 ?a35 ?l35 ?c35 ?k35 ?a36 ?l36 ?c36 ?k36 ?a37 ?l37 ?c37 ?k37 ?a38 ?l38 ?c38 ?k38 ?x_NoStairs ?y_NoStairs ?x_NoPair ?y_NoPair ?x_NoPlace ?y_NoPlace ?x_NoShape ?y_NoShape ?x_NoNote ?y_NoNote ?x_StairError ?y_StairError ?h_NoStairs_StairError ?h_NoPlace_StairError ?q_NoStairs_ValueError ?q_NoPlace_ValueError ?n_NoStairs_NoPair ?n_NoStairs_NoPlace ?n_NoStairs_NoShape ?n_NoStairs_NoNote ?n_NoPlace_NoStairs ?n_NoPlace_NoPair ?n_NoPlace_NoShape ?n_NoPlace_NoNote ?e1_NoStairs ?e2_NoStairs ?e3_NoStairs ?e4_NoStairs ?e5_NoStairs ?e6_NoStairs ?e7_NoStairs ?e1_NoPlace ?e2_NoPlace ?e3_NoPlace ?e4_NoPlace ?e5_NoPlace ?e6_NoPlace ?e7_NoPlace ?z_ValueError ?z_len ?z_range ?z_list ?z_isinstance ?z_min ?z_max ?z_sum ?z_all ?z_set ?z_sorted ?z_enumerate ?z_reversed ?z_int ?z_bool ?z_tuple ?z_any ?z_str
    (case a0 => k_is)
    (case l0 => k_is)
    (case c0 => k_is)
    (case k0 => k_is)
    (case a1 => k_is)
    (case l1 => k_is)
    (case c1 => k_is)
    (case k1 => k_is)
    (case a2 => k_is)
    (case l2 => k_is)
    (case c2 => k_is)
    (case k2 => k_is)
    (case a3 => k_is)
    (case l3 => k_is)
    (case c3 => k_is)
    (case k3 => k_is)
    (case a4 => k_is)
    (case l4 => k_is)
    (case c4 => k_is)
    (case k4 => k_is)
    (case a5 => k_is)
    (case l5 => k_is)
    (case c5 => k_is)
    (case k5 => k_is)
    (case a6 => k_is)
    (case l6 => k_is)
    (case c6 => k_is)
    (case k6 => k_is)
    (case a7 => k_is)
    (case l7 => k_is)
    (case c7 => k_is)
    (case k7 => k_is)
    (case a8 => k_is)
    (case l8 => k_is)
    (case c8 => k_is)
    (case k8 => k_is)
    (case a9 => k_is)
    (case l9 => k_is)
    (case c9 => k_is)
    (case k9 => k_is)
    (case a10 => k_is)
    (case l10 => k_is)
    (case c10 => k_is)
    (case k10 => k_is)
    (case a11 => k_is)
    (case l11 => k_is)
    (case c11 => k_is)
    (case k11 => k_is)
    (case a12 => k_is)
    (case l12 => k_is)
    (case c12 => k_is)
    (case k12 => k_is)
    (case a13 => k_is)
    (case l13 => k_is)
    (case c13 => k_is)
    (case k13 => k_is)
    (case a14 => k_is)
    (case l14 => k_is)
    (case c14 => k_is)
    (case k14 => k_is)
    (case a15 => k_is)
    (case l15 => k_is)
    (case c15 => k_is)
    (case k15 => k_is)
    (case a16 => k_is)
    (case l16 => k_is)
    (case c16 => k_is)
    (case k16 => k_is)
    (case a17 => k_is)
    (case l17 => k_is)
    (case c17 => k_is)
    (case k17 => k_is)
    (case a18 => k_is)
    (case l18 => k_is)
    (case c18 => k_is)
    (case k18 => k_is)
    (case a19 => k_is)
    (case l19 => k_is)
    (case c19 => k_is)
    (case k19 => k_is)
    (case a20 => k_is)
    (case l20 => k_is)
    (case c20 => k_is)
    (case k20 => k_is)
    (case a21 => k_is)
    (case l21 => k_is)
    (case c21 => k_is)
    (case k21 => k_is)
    (case a22 => k_is)
    (case l22 => k_is)
    (case c22 => k_is)
    (case k22 => k_is)
    (case a23 => k_is)
    (case l23 => k_is)
    (case c23 => k_is)
    (case k23 => k_is)
    (case a24 => k_is)
    (case l24 => k_is)
    (case c24 => k_is)
    (case k24 => k_is)
    (case a25 => k_is)
    (case l25 => k_is)
    (case c25 => k_is)
    (case k25 => k_is)
    (case a26 => k_is)
    (case l26 => k_is)
    (case c26 => k_is)
    (case k26 => k_is)
    (case a27 => k_is)
    (case l27 => k_is)
    (case c27 => k_is)
    (case k27 => k_is)
    (case a28 => k_is)
    (case l28 => k_is)
    (case c28 => k_is)
    (case k28 => k_is)
    (case a29 => k_is)
    (case l29 => k_is)
    (case c29 => k_is)
    (case k29 => k_is)
    (case a30 => k_is)
    (case l30 => k_is)
    (case c30 => k_is)
    (case k30 => k_is)
    (case a31 => k_is)
    (case l31 => k_is)
    (case c31 => k_is)
    (case k31 => k_is)
    (case a32 => k_is)
    (case l32 => k_is)
    (case c32 => k_is)
    (case k32 => k_is)
    (case a33 => k_is)
    (case l33 => k_is)
    (case c33 => k_is)
    (case k33 => k_is)
    (case a34 => k_is)
    (case l34 => k_is)
    (case c34 => k_is)
    (case k34 => k_is)
    (case a35 => k_is)
    (case l35 => k_is)
    (case c35 => k_is)
    (case k35 => k_is)
    (case a36 => k_is)
    (case l36 => k_is)
    (case c36 => k_is)
    (case k36 => k_is)
    (case a37 => k_is)
    (case l37 => k_is)
    (case c37 => k_is)
    (case k37 => k_is)
    (case a38 => k_is)
    (case l38 => k_is)
    (case c38 => k_is)
    (case k38 => k_is)
    (case x_NoStairs => k_is)
    (case y_NoStairs => k_exc)
    (case x_NoPair => k_is)
    (case y_NoPair => k_exc)
    (case x_NoPlace => k_is)
    (case y_NoPlace => k_exc)
    (case x_NoShape => k_is)
    (case y_NoShape => k_exc)
    (case x_NoNote => k_is)
    (case y_NoNote => k_exc)
    (case x_StairError => k_is)
    (case y_StairError => k_exc)
    (case h_NoStairs_StairError => k_is)
    (case h_NoPlace_StairError => k_is)
    (case q_NoStairs_ValueError => kit_is)
    (case q_NoPlace_ValueError => kit_is)
    (case n_NoStairs_NoPair => kit_is)
    (case n_NoStairs_NoPlace => kit_is)
    (case n_NoStairs_NoShape => kit_is)
    (case n_NoStairs_NoNote => kit_is)
    (case n_NoPlace_NoStairs => kit_is)
    (case n_NoPlace_NoPair => kit_is)
    (case n_NoPlace_NoShape => kit_is)
    (case n_NoPlace_NoNote => kit_is)
    (case e1_NoStairs => k_is)
    (case e2_NoStairs => k_is)
    (case e3_NoStairs => k_is)
    (case e4_NoStairs => k_is)
    (case e5_NoStairs => k_is)
    (case e6_NoStairs => k_is)
    (case e7_NoStairs => k_is)
    (case e1_NoPlace => k_is)
    (case e2_NoPlace => k_is)
    (case e3_NoPlace => k_is)
    (case e4_NoPlace => k_is)
    (case e5_NoPlace => k_is)
    (case e6_NoPlace => k_is)
    (case e7_NoPlace => k_is)
    (case z_ValueError => k_is)
    (case z_len => k_is)
    (case z_range => k_is)
    (case z_list => k_is)
    (case z_isinstance => k_is)
    (case z_min => k_is)
    (case z_max => k_is)
    (case z_sum => k_is)
    (case z_all => k_is)
    (case z_set => k_is)
    (case z_sorted => k_is)
    (case z_enumerate => k_is)
    (case z_reversed => k_is)
    (case z_int => k_is)
    (case z_bool => k_is)
    (case z_tuple => k_is)
    (case z_any => k_is)
    (case z_str => k_is)
