import PyProof.Rows.All
import Wide.All
import OpenK.AllK
import Wide.FinOn
import Lean
import PyProof.EqAt
import PyProof.EqKinds
import PyProof.TupleCall
import PyProof.ExcArgs
import KE.KIntText
import PySem.Challenge.RW_stairrows_k25_written_and_read
namespace L2
theorem om1 {a b c : Nat} (h : a ≤ b) (k : Nat.ble b c = true) : a ≤ c := Nat.le_trans h (Nat.le_of_ble_eq_true k)
theorem om2 {a b c : Nat} (h : a < b) (k : Nat.ble b c = true) : a < c := Nat.lt_of_lt_of_le h (Nat.le_of_ble_eq_true k)
theorem om3 {a b c : Nat} (h : a < b) (k : Nat.ble b c = true) : a ≤ c := Nat.le_of_lt (Nat.lt_of_lt_of_le h (Nat.le_of_ble_eq_true k))
theorem om4 {a b c : Nat} (h : a ≤ b) (k : Nat.blt b c = true) : a < c := Nat.lt_of_le_of_lt h (Nat.le_of_ble_eq_true k)
end L2
local macro_rules | `(tactic| trivial) => `(tactic| first | assumption | exact L2.om1 (by assumption) rfl | exact L2.om2 (by assumption) rfl | exact L2.om3 (by assumption) rfl | exact L2.om4 (by assumption) rfl | lia | omega)
set_option Elab.async false
set_option linter.all false
set_option maxRecDepth 100000
namespace L2
open PySem PySem.Spec PyProof.Rows
noncomputable abbrev Key := Sum Int Str
noncomputable def keyIs : Key → Value → Bool
  | .inl k, v => Value.isInt k v
  | .inr x, v => Value.isStrOf x v
noncomputable def keyH (w : World) : Key → Int
  | .inl k => hashInt k
  | .inr x => hashStr w x
theorem keyIs_shape : ∀ {k : Key} {v : Value}, keyIs k v = true → (∃ i t, k = Sum.inl i ∧ v = Value.int i t) ∨ (∃ x t, k = Sum.inr x ∧ v = Value.str x t)
  | .inl i, v, h => by
    obtain ⟨t, e⟩ := Value.isInt_shape (k := i) (v := v) h
    exact .inl ⟨i, t, rfl, e⟩
  | .inr x, v, h => by
    obtain ⟨t, e⟩ := Value.isStrOf_shape (x := x) (v := v) h
    exact .inr ⟨x, t, rfl, e⟩
theorem key_ll (a b : Int) : decide ((Sum.inl a : Key) = Sum.inl b) = (a == b) := by
  by_cases e : a = b
  · subst e; simp
  · have h : ¬ (Sum.inl a : Key) = Sum.inl b := fun q => e (Sum.inl.inj q)
    rw [decide_eq_false h]
    exact (beq_eq_false_iff_ne.mpr e).symm
theorem key_rr (a b : Str) : decide ((Sum.inr a : Key) = Sum.inr b) = decide (a = b) := by
  by_cases e : a = b
  · subst e; simp
  · have h : ¬ (Sum.inr a : Key) = Sum.inr b := fun q => e (Sum.inr.inj q)
    rw [decide_eq_false h, decide_eq_false e]
theorem key_lr (a : Int) (b : Str) : decide ((Sum.inl a : Key) = Sum.inr b) = false := decide_eq_false (fun q => nomatch q)
theorem key_rl (a : Str) (b : Int) : decide ((Sum.inr a : Key) = Sum.inl b) = false := decide_eq_false (fun q => nomatch q)
noncomputable def mixKind (prog : Program) (w : World) : PySem.KeyKind prog w Key where
  is := keyIs
  hash := keyH w
  inj := fun v a b ha hb => by
    rcases keyIs_shape ha with ⟨i, t, rfl, rfl⟩ | ⟨x, t, rfl, rfl⟩
    · rcases keyIs_shape hb with ⟨j, u, rfl, e⟩ | ⟨y, u, rfl, e⟩
      · injection e with e1 _; rw [e1]
      · exact nomatch e
    · rcases keyIs_shape hb with ⟨j, u, rfl, e⟩ | ⟨y, u, rfl, e⟩
      · exact nomatch e
      · injection e with e1 _; rw [e1]
  byValue := fun k v h => by
    rcases keyIs_shape h with ⟨i, t, rfl, rfl⟩ | ⟨x, t, rfl, rfl⟩ <;> rfl
  pyHash := fun hv h => by
    rcases keyIs_shape hv with ⟨i, t, rfl, rfl⟩ | ⟨x, t, rfl, rfl⟩
    · exact wpAny_pyHash_int h
    · exact wpAny_pyHash_str h
  eqBool := fun hu hv h => by
    rcases keyIs_shape hu with ⟨i, t, rfl, rfl⟩ | ⟨x, t, rfl, rfl⟩
    · rcases keyIs_shape hv with ⟨j, u, rfl, rfl⟩ | ⟨y, u, rfl, rfl⟩
      · rw [key_ll] at h; exact wpAny_eqBool_int h
      · rw [key_lr] at h; exact SeqAt.EqAt.int_str i t y u _ _ _ _ h
    · rcases keyIs_shape hv with ⟨j, u, rfl, rfl⟩ | ⟨y, u, rfl, rfl⟩
      · rw [key_rl] at h; exact SeqAt.EqAt.str_int x t j u _ _ _ _ h
      · rw [key_rr] at h; exact wpAny_eqBool_str h
  «strs» := fun k x t v h => by
    rcases keyIs_shape h with ⟨i, u, rfl, e⟩ | ⟨y, u, rfl, e⟩
    · exact nomatch e
    · injection e with e1 _
      subst e1
      cases v <;> rfl
end L2
namespace L2
open PySem PySem.Spec PyProof.Rows
inductive V where
  | non | bl (b : Bool) | int (i : Int) | str (x : Str) | byt (b : Array UInt8) | flt (b : UInt64) | ref (a : Addr) | ty (n : String)
  deriving DecidableEq
noncomputable def RelV : V → Value → Prop
  | .non, u => u = Value.none
  | .bl b, u => u = Value.bool b
  | .int i, u => ∃ t, u = Value.int i t
  | .str x, u => ∃ t, u = Value.str x t
  | .byt b, u => ∃ t, u = Value.bytes b t
  | .flt b, u => ∃ t, u = Value.float b t
  | .ref a, u => u = Value.ref a
  | .ty n, u => u = Value.type n
noncomputable abbrev Vals : List V → List Value → Prop := Paired RelV
theorem Vals.length {xs : List V} {us : List Value} (r : Vals xs us) : xs.length = us.length := Paired.length r
theorem Vals.get : ∀ {xs : List V} {us : List Value} {i : Nat} {x : V}, Vals xs us → xs[i]? = some x → ∃ u, us[i]? = some u ∧ RelV x u
  | _, _, _, _, .nil, e => by simp at e
  | _, _, 0, _, .cons r _, e => by simp at e; subst e; exact ⟨_, rfl, r⟩
  | _, _, i + 1, x, .cons _ t, e => by
    obtain ⟨u, h1, h2⟩ := Vals.get (i := i) (x := x) t (by simpa using e)
    exact ⟨u, by simpa using h1, h2⟩
theorem Vals.set {x : V} {u : Value} (r : RelV x u) : ∀ {xs : List V} {us : List Value} (i : Nat), Vals xs us → Vals (xs.set i x) (us.set i u)
  | _, _, _, .nil => .nil
  | _, _, 0, .cons _ t => .cons r t
  | _, _, i + 1, .cons q t => .cons q (Vals.set r i t)
theorem Vals.append : ∀ {xs ys : List V} {us ws : List Value}, Vals xs us → Vals ys ws → Vals (xs ++ ys) (us ++ ws)
  | _, _, _, _, .nil, s => s
  | _, _, _, _, .cons r t, s => .cons r (Vals.append t s)
theorem Vals.take : ∀ {xs : List V} {us : List Value} (n : Nat), Vals xs us → Vals (xs.take n) (us.take n)
  | _, _, 0, _ => .nil
  | _, _, _ + 1, .nil => .nil
  | _, _, n + 1, .cons r t => .cons r (Vals.take n t)
theorem Vals.drop : ∀ {xs : List V} {us : List Value} (n : Nat), Vals xs us → Vals (xs.drop n) (us.drop n)
  | _, _, 0, r => r
  | _, _, _ + 1, .nil => .nil
  | _, _, n + 1, .cons _ t => Vals.drop n t
theorem Vals.none_of : ∀ {xs : List V} {us : List Value} {i : Nat}, Vals xs us → xs[i]? = none → us[i]? = none := fun {xs us i} r e => by
  have h1 := r.length
  have h2 : xs.length ≤ i := List.getElem?_eq_none_iff.mp e
  exact List.getElem?_eq_none_iff.mpr (by trivial)
noncomputable def RelO : Option V → Option Value → Prop
  | some v, some u => RelV v u
  | none, none => True
  | _, _ => False
noncomputable def KV {κ : Type} : List (κ × V) → List (κ × Value) → Prop := Paired fun (p : κ × V) (q : κ × Value) => p.1 = q.1 ∧ RelV p.2 q.2
noncomputable def kV : Key → V
  | .inl i => .int i
  | .inr x => .str x
inductive HO where
    | lst (xs : List V)
    | tup (xs : List V)
    | dK (kvs : List (Key × V)) | dT (kvs : List (List Key × V))
    | set (S : Int → Bool) (n : Nat)
    | ins (C dx : Addr) (fs : List (Str × V))
    | own (x : Addr)
    | xd (fs : List (Str × V))
    | met (f x : Addr)
    | rng (lo hi : Int)
    | frz (o : Obj) (u : HO)
    | tbl (ps : Array Value)
    | ext (φ : Heap → Prop)
noncomputable abbrev Hp := Addr → Option HO
noncomputable def upd (H : Hp) (a : Addr) (o : HO) : Hp := fun b => if b = a then some o else H b
theorem upd_same {H : Hp} {a : Addr} {o : HO} : upd H a o a = some o := by unfold upd; rw [if_pos rfl]
theorem upd_ne {H : Hp} {a b : Addr} {o : HO} (h : b ≠ a) : upd H a o b = H b := by unfold upd; rw [if_neg h]
theorem upd_upd {H : Hp} {a : Addr} {o u : HO} : upd (upd H a o) a u = upd H a u := by
  funext b; unfold upd; split <;> rfl
theorem ne_of {H : Hp} {a b : Addr} {o u : HO} (h : H a = some o) (h' : H b = some u) (d : o ≠ u) : a ≠ b := by
  intro e; subst e; rw [h] at h'; exact d (Option.some.inj h')
theorem ne_of_none {H : Hp} {a b : Addr} {o : HO} (h : H a = some o) (h' : H b = none) : a ≠ b := by
  intro e; subst e; rw [h] at h'; cases h'
section
variable (P : Program) (w : World)
noncomputable def ObjOk (H : Hp) (h : Heap) (a : Addr) : HO → Prop
  | .lst xs => xs.length ≤ sizeLine ∧ ∃ (its : List Value) (n : Nat), Vals xs its ∧ h.get? a = some { cls := .type "list", data := .seq its.toArray n }
  | .tup xs => xs.length ≤ sizeLine ∧ ∃ its : List Value, Vals xs its ∧ IsTup h a its.toArray
  | .dK kvs => kvs.length ≤ sizeLine ∧ (a == sysModules) = false ∧ ∃ vs, KV kvs vs ∧ h.DictOf (mixKind P w) a vs
  | .dT kvs => kvs.length ≤ sizeLine ∧ (a == sysModules) = false ∧ ∃ xs : List (List Key × Addr × Value),
      Paired (fun (p : List Key × V) (q : List Key × Addr × Value) => p.1 = q.1 ∧ H q.2.1 = some (.tup (p.1.map kV)) ∧ RelV p.2 q.2.2) kvs xs ∧
      ∃ o es ep, h.get? a = some o ∧ o.ExactDict ∧ o.data = .dict es ep ∧ es.toList = xs.map (entryOfKey (tupleKind (mixKind P w))) ∧ (xs.map (·.1)).Nodup
  | .set S n => h.SetOf (intKind P w) a S n
  | .ins C dx fs => H dx = some (.own a) ∧ fs.length ≤ 1000 ∧ dx ≠ a ∧ h.get? a = some (PySem.W.instObj C dx) ∧
      ∃ mA, h.Ns1 dx mA ∧ (∀ f, RelO (fs.lookup f) (mA f)) ∧ PySem.Within mA (fs.map (·.1))
  | .own _ => ∃ o, h.get? a = some o
  | .xd fs => ∃ mA, h.Ns1 a mA ∧ ∀ f, RelO (fs.lookup f) (mA f)
  | .rng lo hi => ∃ t u v, h.get? a = some { cls := .type "range", data := .fields #[.int lo t, .int hi u, .int 1 v] }
  | .frz o u => h.get? a = some o ∧ ObjOk H h a u
  | .tbl ps => h.get? a = some { cls := .none, data := .fields ps }
  | .met f x => h.get? a = some (PySem.W.methodObj (.ref f) (.ref x))
  | .ext φ => φ h ∧ (∃ o, h.get? a = some o) ∧ ∀ h1 h2 : Heap, φ h1 → (∀ o, h1.get? a = some o → h2.get? a = some o) → φ h2
noncomputable def HOk (H : Hp) (h : Heap) : Prop := ∀ a o, H a = some o → ObjOk P w H h a o
end
section
variable {P : Program} {w : World} {H H' : Hp} {h h' : Heap} {a : Addr} {o : HO}
theorem ObjOk.lt (x : ObjOk P w H h a o) : a < h.objs.size := by
  cases o with
  | lst xs => obtain ⟨_, _, _, _, e⟩ := x; exact Heap.lt_size e
  | tup xs => obtain ⟨_, _, _, p⟩ := x; exact p.lt
  | dK kvs => obtain ⟨_, _, _, _, o, _, _, e, _⟩ := x; exact Heap.lt_size e
  | dT kvs => obtain ⟨_, _, _, _, o, _, _, e, _⟩ := x; exact Heap.lt_size e
  | set S n => obtain ⟨o, _, _, _, e, _⟩ := x; exact Heap.lt_size e
  | ins C dx fs => obtain ⟨_, _, _, e, _⟩ := x; exact Heap.lt_size e
  | own y => obtain ⟨_, e⟩ := x; exact Heap.lt_size e
  | xd fs => obtain ⟨_, ⟨_, _, _, e, _⟩, _⟩ := x; exact Heap.lt_size e
  | rng lo hi => obtain ⟨_, _, _, e⟩ := x; exact Heap.lt_size e
  | frz ob u => obtain ⟨e, _⟩ := x; exact Heap.lt_size e
  | tbl ps => exact Heap.lt_size (show h.get? a = some _ from x)
  | met f y => exact Heap.lt_size (show h.get? a = some _ from x)
  | ext φ => obtain ⟨_, ⟨_, e⟩, _⟩ := x; exact Heap.lt_size e
theorem Paired.mapP {α β : Type} {F G : α → β → Prop} : ∀ {l₁ : List α} {l₂ : List β}, Paired F l₁ l₂ → (∀ a b, F a b → G a b) → Paired G l₁ l₂
  | _, _, .nil, _ => .nil
  | _, _, .cons r t, f => .cons (f _ _ r) (Paired.mapP t f)
theorem ObjOk.stay (x : ObjOk P w H h a o) (k : ∀ b u, (b = a ∨ H b = some (.own a)) → h.get? b = some u → h'.get? b = some u)
    (ho : ∀ b, H b = some (.own a) → H' b = some (.own a)) (ht : ∀ b xs, H b = some (.tup xs) → H' b = some (.tup xs)) : ObjOk P w H' h' a o := by
  induction o with
  | lst xs => obtain ⟨z, its, n, r, e⟩ := x; exact ⟨z, its, n, r, k _ _ (.inl rfl) e⟩
  | tup xs => obtain ⟨z, its, r, ob, e, c⟩ := x; exact ⟨z, its, r, ob, k _ _ (.inl rfl) e, c⟩
  | dK kvs => obtain ⟨z, y, vs, r, ob, es, ep, e, c⟩ := x; exact ⟨z, y, vs, r, ob, es, ep, k _ _ (.inl rfl) e, c⟩
  | dT kvs =>
    obtain ⟨z, y, xs, r, ob, es, ep, e, c⟩ := x
    exact ⟨z, y, xs, Paired.mapP r fun p q z => ⟨z.1, ht _ _ z.2.1, z.2.2⟩, ob, es, ep, k _ _ (.inl rfl) e, c⟩
  | set S n => obtain ⟨ob, es, ep, t, e, c⟩ := x; exact ⟨ob, es, ep, t, k _ _ (.inl rfl) e, c⟩
  | ins C dx fs =>
    obtain ⟨d, z, ne, e, mA, ⟨od, es, ep, e2, c⟩, r⟩ := x
    exact ⟨ho _ d, z, ne, k _ _ (.inl rfl) e, mA, ⟨od, es, ep, k _ _ (.inr d) e2, c⟩, r⟩
  | own y => obtain ⟨ob, e⟩ := x; exact ⟨ob, k _ _ (.inl rfl) e⟩
  | xd fs => obtain ⟨mA, ⟨od, es, ep, e, c⟩, r⟩ := x; exact ⟨mA, ⟨od, es, ep, k _ _ (.inl rfl) e, c⟩, r⟩
  | rng lo hi => obtain ⟨t, u, v, e⟩ := x; exact ⟨t, u, v, k _ _ (.inl rfl) e⟩
  | frz ob u ih => obtain ⟨e, q⟩ := x; exact ⟨k _ _ (.inl rfl) e, ih q⟩
  | tbl ps =>
    have e : h.get? a = some { cls := .none, data := .fields ps } := x
    show h'.get? a = some { cls := .none, data := .fields ps }
    exact k a _ (.inl rfl) e
  | met f y =>
    have e : h.get? a = some (PySem.W.methodObj (.ref f) (.ref y)) := x
    show h'.get? a = some (PySem.W.methodObj (.ref f) (.ref y))
    exact k a _ (.inl rfl) e
  | ext φ => obtain ⟨p, ⟨o, e⟩, st⟩ := x; exact ⟨st _ _ p fun o q => k _ _ (.inl rfl) q, ⟨o, k _ _ (.inl rfl) e⟩, st⟩
theorem HOk.lt (x : HOk P w H h) (e : H a = some o) : a < h.objs.size := (x a o e).lt
theorem HOk.fresh (x : HOk P w H h) (e : h.objs.size ≤ a) : H a = none := by
  cases q : H a with
  | none => rfl
  | some u => exact absurd (Nat.lt_of_lt_of_le (x.lt q) e) (Nat.lt_irrefl _)
theorem HOk.kept (x : HOk P w H h) (k : ∀ b u, h.get? b = some u → h'.get? b = some u) : HOk P w H h' := fun a o e =>
  (x a o e).stay (fun b u _ q => k b u q) (fun _ q => q) fun _ _ q => q
theorem HOk.laid (x : HOk P w H h) (k : ∀ b u, h.get? b = some u → h'.get? b = some u) (hp : h.objs.size ≤ a) (new : ObjOk P w (upd H a o) h' a o) : HOk P w (upd H a o) h' := fun b u e => by
  have hn := x.fresh hp
  by_cases hb : b = a
  · subst hb; rw [upd_same] at e; cases e; exact new
  · rw [upd_ne hb] at e
    exact (x b u e).stay (fun c v _ q => k c v q) (fun c q => by rw [upd_ne (ne_of_none q hn)]; exact q) fun c xs q => by rw [upd_ne (ne_of_none q hn)]; exact q
end
noncomputable def Rd (H : Hp) (a : Addr) (u : HO) : Prop := H a = some u ∨ ∃ o, H a = some (.frz o u)
theorem Rd.of {H : Hp} {a : Addr} {u : HO} (h : H a = some u) : Rd H a u := .inl h
theorem Rd.ok {P : Program} {w : World} {H : Hp} {h : Heap} {a : Addr} {u : HO} (r : Rd H a u) (x : HOk P w H h) : ObjOk P w H h a u := by
  rcases r with r | ⟨o, r⟩
  · exact x a u r
  · obtain ⟨_, q⟩ := x a _ r
    exact q
noncomputable def Mut : Option HO → Prop
  | some (.lst _) => True
  | some (.dK _) => True
  | some (.dT _) => True
  | some (.set _ _) => True
  | some (.ins _ _ _) => True
  | some (.ext _) => True
  | _ => False
section
variable {P : Program} {w : World} {H : Hp} {h h' : Heap} {x e : Addr} {o' : HO}
theorem HOk.write (ok : HOk P w H h) (mu : Mut (H x)) (he : e = x ∨ H e = some (.own x)) (k : ∀ b u, b ≠ e → h.get? b = some u → h'.get? b = some u) (heo : ∃ u, h'.get? e = some u)
    (new : ObjOk P w (upd H x o') h' x o') : HOk P w (upd H x o') h' := fun b u q => by
  have nown : ∀ c y, H c = some (.own y) → c ≠ x := fun c y r z => by subst z; rw [r] at mu; exact mu
  have ntup : ∀ c xs, H c = some (.tup xs) → c ≠ x := fun c xs r z => by subst z; rw [r] at mu; exact mu
  by_cases hb : b = x
  · subst hb; rw [upd_same] at q; cases q; exact new
  · rw [upd_ne hb] at q
    by_cases hbe : b = e
    · have q' : H b = some (.own x) := by
        rcases he with z | z
        · exact absurd (hbe.trans z) hb
        · rw [hbe]; exact z
      rw [q] at q'; cases q'
      obtain ⟨v, hv⟩ := heo
      exact ⟨v, by rw [hbe]; exact hv⟩
    · refine (ok b u q).stay (fun c v hc r => k c v ?_ r) (fun c r => by rw [upd_ne (nown c b r)]; exact r) fun c xs r => by rw [upd_ne (ntup c xs r)]; exact r
      rcases hc with rfl | hc
      · exact hbe
      · rintro rfl
        rcases he with z | z
        · exact nown c b hc z
        · rw [hc] at z; cases z; exact hb rfl
end
structure Un (fs ex : List Addr) (H H' : Hp) (h h' : Heap) : Prop where
  keep : ∀ b o, h.get? b = some o → H b = none → b ∉ fs → b ∉ ex → h'.get? b = some o
  slot : ∀ b o, h.get? b = some o → H b = none → b ∈ fs → b ∉ ex → ∃ sl, h'.get? b = some { o with slots := sl }
  free : ∀ b o, h.get? b = some o → H b = none → b ∉ ex → H' b = none
  there : ∀ b o, h.get? b = some o → b ∉ ex → ∃ o', h'.get? b = some o'
  tups : ∀ b xs, H b = some (.tup xs) → H' b = some (.tup xs)
  frzs : ∀ b o u, H b = some (.frz o u) → H' b = some (.frz o u)
  tbls : ∀ b ps, H b = some (.tbl ps) → ∃ more, H' b = some (.tbl (ps ++ more))
section
variable {fs fs' ex ex' : List Addr} {H H1 H2 : Hp} {h h1 h2 h' : Heap} {a x e : Addr} {o : HO}
theorem Un.any (u : Un fs ex H H1 h h1) {b : Addr} {ob : Obj} (q : h.get? b = some ob) (n : H b = none) (hx : b ∉ ex) : ∃ sl, h1.get? b = some { ob with slots := sl } := by
  by_cases hb : b ∈ fs
  · exact u.slot b ob q n hb hx
  · exact ⟨ob.slots, u.keep b ob q n hb hx⟩
theorem Un.trans (a : Un fs ex H H1 h h1) (b : Un fs ex H1 H2 h1 h2) : Un fs ex H H2 h h2 where
  keep := fun c ob q n hc hx => b.keep c ob (a.keep c ob q n hc hx) (a.free c ob q n hx) hc hx
  slot := fun c ob q n hc hx => by
    obtain ⟨sl, e1⟩ := a.slot c ob q n hc hx
    obtain ⟨sl', e2⟩ := b.slot c _ e1 (a.free c ob q n hx) hc hx
    exact ⟨sl', e2⟩
  free := fun c ob q n hx => by
    obtain ⟨o', e1⟩ := a.there c ob q hx
    exact b.free c o' e1 (a.free c ob q n hx) hx
  there := fun c ob q hx => by
    obtain ⟨o', e1⟩ := a.there c ob q hx
    exact b.there c o' e1 hx
  tups := fun c xs q => b.tups c xs (a.tups c xs q)
  frzs := fun c ob xs q => b.frzs c ob xs (a.frzs c ob xs q)
  tbls := fun c ps q => by
    obtain ⟨m1, e1⟩ := a.tbls c ps q
    obtain ⟨m2, e2⟩ := b.tbls c _ e1
    exact ⟨m1 ++ m2, by rw [e2, Array.append_assoc]⟩
theorem Un.kept (k : ∀ b u, h.get? b = some u → h'.get? b = some u) : Un fs ex H H h h' :=
  ⟨fun b ob q _ _ _ => k b ob q, fun b ob q _ _ _ => ⟨ob.slots, k b ob q⟩, fun _ _ _ n _ => n, fun b ob q _ => ⟨ob, k b ob q⟩, fun _ _ q => q, fun _ _ _ q => q, fun _ ps q => ⟨#[], by rw [q]; simp⟩⟩
theorem Un.refl : Un fs ex H H h h := Un.kept fun _ _ q => q
theorem Un.laid (k : ∀ b u, h.get? b = some u → h'.get? b = some u) (hp : h.objs.size ≤ a) (hn : H a = none) : Un fs ex H (upd H a o) h h' where
  keep := fun b u q _ _ _ => k b u q
  slot := fun b u q _ _ _ => ⟨u.slots, k b u q⟩
  free := fun b u q n _ => by rw [upd_ne (Nat.ne_of_lt (Nat.lt_of_lt_of_le (Heap.lt_size q) hp))]; exact n
  there := fun b u q _ => ⟨u, k b u q⟩
  tups := fun b xs q => by rw [upd_ne (ne_of_none q hn)]; exact q
  frzs := fun b u xs q => by rw [upd_ne (ne_of_none q hn)]; exact q
  tbls := fun b ps q => ⟨#[], by rw [upd_ne (ne_of_none q hn), q]; simp⟩
theorem Un.write (mu : Mut (H x)) (he : e = x ∨ H e = some (.own x)) (k : ∀ b u, b ≠ e → h.get? b = some u → h'.get? b = some u) (heo : ∃ u, h'.get? e = some u) : Un fs ex H (upd H x o) h h' := by
  have hx : ∀ b, H b = none → b ≠ x := fun b n z => by subst z; rw [n] at mu; exact mu
  have hb : ∀ b, H b = none → b ≠ e := fun b n z => by
    subst z
    rcases he with r | r
    · exact hx b n r
    · rw [n] at r; cases r
  have hm : ∀ b u, H b = some u → ¬ Mut (some u) → b ≠ x := fun b u q nm z => by subst z; rw [q] at mu; exact nm mu
  refine ⟨fun b u q n _ _ => k b u (hb b n) q, fun b u q n _ _ => ⟨u.slots, k b u (hb b n) q⟩, fun b u q n _ => by rw [upd_ne (hx b n)]; exact n, fun b u q _ => ?_,
    fun b xs q => by rw [upd_ne (hm b _ q fun z => z)]; exact q, fun b u xs q => by rw [upd_ne (hm b _ q fun z => z)]; exact q, fun b ps q => ⟨#[], by rw [upd_ne (hm b _ q fun z => z), q]; simp⟩⟩
  by_cases hbe : b = e
  · subst hbe; exact heo
  · exact ⟨u, k b u hbe q⟩
theorem Un.mono (u : Un fs ex H H1 h h1) (hs : ∀ b ∈ fs, b ∈ fs') (hx : ∀ b ∈ ex, b ∈ ex') : Un fs' ex' H H1 h h1 :=
  ⟨fun b ob q n hb he => u.keep b ob q n (fun z => hb (hs b z)) fun z => he (hx b z), fun _ _ q n _ he => u.any q n fun z => he (hx _ z), fun b ob q n he => u.free b ob q n fun z => he (hx b z), fun b ob q he => u.there b ob q fun z => he (hx b z), u.tups, u.frzs, u.tbls⟩
end
noncomputable def trk (h : Heap) (H : Hp) : List Addr := (List.range h.objs.size).filter fun a => (H a).isSome
noncomputable def hidT (h : Heap) (H : Hp) : Heap := PySem.W.hideAll h (trk h H)
theorem hidT_size (h : Heap) (H : Hp) : (hidT h H).objs.size = h.objs.size := PySem.W.hideAll_size _ _
theorem hidT_get {h : Heap} {H : Hp} {b : Addr} {o : Obj} (e : h.get? b = some o) (n : H b = none) : (hidT h H).get? b = some o :=
  PySem.W.hideAll_get _ e fun hm => by
    have q : (H b).isSome = true := (List.mem_filter.mp hm).2
    rw [n] at q; simp at q
theorem of_hidT {h : Heap} {H : Hp} {b : Addr} {o : Obj} (e : (hidT h H).get? b = some o) : h.get? b = some o ∧ H b = none := by
  have e' : h.get? b = some o := PySem.W.of_hideAll (trk h H) e
  refine ⟨e', ?_⟩
  cases q : H b with
  | none => rfl
  | some x =>
    have hm : b ∈ trk h H := List.mem_filter.mpr ⟨List.mem_range.mpr (Heap.lt_size e'), by simp [q]⟩
    have z : (hidT h H).get? b = none := PySem.W.hideAll_none (trk h H) hm
    rw [z] at e; cases e
noncomputable def allNews (g h : Heap) (L : Addr) : List (Addr × Obj) := (List.range h.objs.size).filterMap fun a => if a = L ∨ (g.get? a).isSome = true then none else (h.get? a).map fun o => (a, o)
noncomputable def rest (g h : Heap) (L d : Addr) : List (Addr × Obj) := (allNews g h L).filter fun p => decide (p.1 ≠ d)
end L2
namespace L2
open PySem PySem.Spec PyProof.Rows
structure Mod (K : PySem.W.Frag) (mg : Str → Option Value) (base : Heap) : Prop where
  kin : K.In base
  glob : base.Ns mainGlobals mg
  blt : ∃ mb, base.Ns builtinsNs mb ∧ ∀ x : Str, x ≠ "__name__" → mb x = bootBuiltins x
  nolimit : base.NoLimit
structure Cx where
  prog : Program
  w : World
  K : PySem.W.Frag
  mg : Str → Option Value
  base : Heap
  A : Around
  N : List Str
  s₀ : Shared
  H₀ : Hp
  env : Env
  outer : List Env
  stack : List Env
  ex : List Addr
  fn : Str → Bool
  calm : Bool
  pn : List (Addr × Obj)
  xe : Value → Shared → Prop
noncomputable def frs (l : List Env) : List Addr := l.filterMap (·.frame)
noncomputable abbrev Cx.fs (X : Cx) : List Addr := frs X.outer
noncomputable def Vis (sc : Scope) (x : Str) : Prop := sc.names.lookup x = some .local ∨ sc.names.lookup x = some .cell ∨ sc.names.lookup x = some .free
noncomputable def Loc (sc : Scope) (x : Str) : Prop := sc.names.lookup x = some .local ∨ sc.names.lookup x = some .cell
noncomputable def Look (env : Env) (h : Heap) (m : Str → Option Value) (x : Str) (u : Value) : Prop :=
  (env.kindOf x = some .local ∧ m x = some u) ∨ ((env.kindOf x = some .cell ∨ env.kindOf x = some .free) ∧ ∃ c, env.cells.lookup x = some c ∧ h.IsCell c (some u))
structure Cx.Ok (X : Cx) : Prop where
  mod : Mod X.K X.mg X.base
  kind : X.env.scope.kind = .function
  glob : X.env.globals = mainGlobals
  blt : X.env.builtins = builtinsNs
  above : X.s₀.heap.objs.size ≤ X.env.locals
  inj : ∀ x y c, X.env.cells.lookup x = some c → X.env.cells.lookup y = some c → x = y
  has : ∀ x, (X.env.kindOf x = some .cell ∨ X.env.kindOf x = some .free) → ∃ c, X.env.cells.lookup x = some c
  cab : ∀ x c, X.fn x = true → X.env.cells.lookup x = some c → X.s₀.heap.objs.size ≤ c
  hd : X.calm = true → X.A.handled = none
  frames : X.A.frames = some X.stack
  stk : X.stack = X.outer ∨ (X.stack = X.env :: X.outer ∧ X.env.frame = some X.env.locals)
  exf : ∀ b ∈ X.ex, b ≠ X.env.locals ∧ ∀ x c, X.env.cells.lookup x = some c → c ≠ b
  bs : ∀ b o, X.base.get? b = some o → X.s₀.heap.get? b = some o ∧ X.H₀ b = none
  bsz : X.base.objs.size ≤ X.s₀.heap.objs.size
  noex : ∀ b o, X.base.get? b = some o → b ∉ X.ex
  exfs : ∀ b ∈ X.ex, b ∉ X.fs
  funs : X.s₀.heap.FunFrames X.base X.outer
  frf : ∀ b ∈ X.fs, X.H₀ b = none
structure Inv (X : Cx) (pins : List (Addr × Obj)) (σ : List (Option V)) (H : Hp) (s : Shared) : Prop where
  ok : X.Ok
  os : s.os = X.s₀.os
  bare : AllBare s.gens
  base : Un X.fs X.ex X.H₀ H X.s₀.heap s.heap
  loc : ∃ m, s.heap.Ns X.env.locals m ∧ ∀ (i : Nat) (x : Str) (v : V), X.N[i]? = some x → σ[i]? = some (some v) → Vis X.env.scope x → ∃ u, RelV v u ∧ Look X.env s.heap m x u
  cell : ∀ x c, X.env.cells.lookup x = some c → ∃ v, s.heap.IsCell c v
  free : H X.env.locals = none
  freeC : ∀ x c, X.env.cells.lookup x = some c → H c = none
  pin : ∀ p ∈ X.pn ++ pins, s.heap.get? p.1 = some p.2 ∧ H p.1 = none ∧ p.1 ≠ X.env.locals ∧ p.1 ∉ X.fs ∧ ∀ v, p.2.data ≠ .cell v
  hok : HOk X.prog X.w H s.heap
  len : σ.length = X.N.length
section
variable {X : Cx} {pins : List (Addr × Obj)} {σ : List (Option V)} {H H' : Hp} {s : Shared} {h' : Heap}
theorem Cx.Ok.nofr (ok : X.Ok) {b : Addr} {o : Obj} (e : X.base.get? b = some o) : b ∉ X.fs := fun hb => by
  have := (ok.funs.mem hb).1
  rw [e] at this; cases this
theorem Inv.bs (I : Inv X pins σ H s) : ∀ b o, X.base.get? b = some o → s.heap.get? b = some o ∧ H b = none := fun b o e =>
  ⟨I.base.keep b o (I.ok.bs b o e).1 (I.ok.bs b o e).2 (I.ok.nofr e) (I.ok.noex b o e), I.base.free b o (I.ok.bs b o e).1 (I.ok.bs b o e).2 (I.ok.noex b o e)⟩
theorem Inv.bk (I : Inv X pins σ H s) : ∀ b o, X.base.get? b = some o → s.heap.get? b = some o := fun b o e => (I.bs b o e).1
theorem Inv.mod (I : Inv X pins σ H s) : Mod X.K X.mg X.base := I.ok.mod
theorem Inv.kIn (I : Inv X pins σ H s) : X.K.In s.heap := I.ok.mod.kin.keeps I.bk
theorem Inv.nolimit (I : Inv X pins σ H s) : s.heap.NoLimit := I.ok.mod.nolimit.keeps I.bk
theorem Inv.fr (I : Inv X pins σ H s) : ∃ m, Fr X.base X.env.locals s.heap m :=
  let ⟨m, hn, _⟩ := I.loc
  ⟨m, hn, I.bk, Nat.le_trans I.ok.bsz I.ok.above⟩
theorem Inv.lt (I : Inv X pins σ H s) : X.env.locals < s.heap.objs.size := let ⟨_, hn, _⟩ := I.loc; hn.lt
theorem Inv.sz (I : Inv X pins σ H s) : X.s₀.heap.objs.size ≤ s.heap.objs.size := Nat.le_trans I.ok.above (Nat.le_of_lt I.lt)
theorem Inv.nofs (I : Inv X pins σ H s) {a : Addr} (h : s.heap.objs.size ≤ a) : a ∉ X.fs := fun hb => by
  obtain ⟨_, o, ho, _⟩ := I.ok.funs.mem hb
  exact absurd (Nat.lt_of_lt_of_le (Heap.lt_size ho) (Nat.le_trans I.sz h)) (Nat.lt_irrefl _)
theorem Inv.cne (I : Inv X pins σ H s) : ∀ x c, X.env.cells.lookup x = some c → c ≠ X.env.locals := fun x c e z => by
  obtain ⟨v, o, ho, hd⟩ := I.cell x c e
  obtain ⟨m, ⟨o', es, ep, ho', hd', _⟩, _⟩ := I.loc
  rw [z, ho'] at ho; cases ho; rw [hd'] at hd; cases hd
theorem Inv.funs (I : Inv X pins σ H s) : s.heap.FunFrames X.base X.outer := by
  have all : ∀ (l : List Env), (∀ b ∈ frs l, b ∈ X.fs) → X.s₀.heap.FunFrames X.base l → s.heap.FunFrames X.base l := by
    intro l
    induction l with
    | nil => intro _ _; trivial
    | cons env r ih =>
      intro hs hl
      obtain ⟨hk, ⟨L, o, hf, hn, ho, hd⟩, hr⟩ := hl
      have hL : L ∈ X.fs := hs L (by unfold frs; rw [List.filterMap_cons, hf]; exact List.mem_cons_self)
      obtain ⟨sl, e⟩ := I.base.slot L o ho (I.ok.frf L hL) hL fun z => I.ok.exfs L z hL
      exact ⟨hk, ⟨L, _, hf, hn, e, hd⟩, ih (fun b hb => hs b (by unfold frs; rw [List.filterMap_cons, hf]; exact List.mem_cons_of_mem _ hb)) hr⟩
  exact all X.outer (fun _ hb => hb) I.ok.funs
theorem Inv.stack (I : Inv X pins σ H s) : s.heap.FunFrames X.base X.stack := by
  rcases I.ok.stk with e | ⟨e, hf⟩
  · rw [e]; exact I.funs
  · rw [e]
    obtain ⟨m, hn, _⟩ := I.loc
    refine .cons (by rw [I.ok.kind]; decide) hf hn ?_ I.funs
    exact Heap.get?_none_of_le (Nat.le_trans I.ok.bsz I.ok.above)
theorem Inv.stkSub (I : Inv X pins σ H s) : ∀ b ∈ frs X.stack, b ∈ X.env.locals :: X.fs := fun b hb => by
  rcases I.ok.stk with e | ⟨e, hf⟩
  · rw [e] at hb; exact List.mem_cons_of_mem _ hb
  · rw [e] at hb
    unfold frs at hb
    rw [List.filterMap_cons, hf] at hb
    exact hb
theorem Inv.stkFree (I : Inv X pins σ H s) : ∀ b ∈ frs X.stack, H b = none := fun b hb => by
  rcases List.mem_cons.mp (I.stkSub b hb) with e | hb
  · rw [e]; exact I.free
  · obtain ⟨_, o, ho, _⟩ := I.ok.funs.mem hb
    exact I.base.free b o ho (I.ok.frf b hb) fun z => I.ok.exfs b z hb
theorem Inv.step {g' : Array GenState} {t' : Nat} {d' : Drawn} {ch : List Addr} (I : Inv X pins σ H s)
    (hch : ∀ b ∈ ch, (b ∈ X.ex ∨ X.s₀.heap.objs.size ≤ b) ∧ b ≠ X.env.locals ∧ (∀ x c, X.env.cells.lookup x = some c → c ≠ b) ∧ ∀ p ∈ X.pn ++ pins, p.1 ≠ b)
    (keep : ∀ b o, b ≠ X.env.locals → b ∉ X.fs → b ∉ ch → s.heap.get? b = some o → H b = none → h'.get? b = some o)
    (slot : ∀ b o, b ≠ X.env.locals → b ∈ X.fs → b ∉ ch → s.heap.get? b = some o → H b = none → ∃ sl, h'.get? b = some { o with slots := sl }) (free : ∀ b o, b ∉ ch → s.heap.get? b = some o → H b = none → H' b = none)
    (there : ∀ b o, b ∉ ch → s.heap.get? b = some o → ∃ o', h'.get? b = some o')
    (tups : ∀ b xs, H b = some (.tup xs) → H' b = some (.tup xs)) (frzs : ∀ b o u, H b = some (.frz o u) → H' b = some (.frz o u)) (tbls : ∀ b ps, H b = some (.tbl ps) → ∃ more, H' b = some (.tbl (ps ++ more)))
    (ns : ∀ m, s.heap.Ns X.env.locals m → h'.Ns X.env.locals m) (hok : HOk X.prog X.w H' h') (hg : AllBare g') :
    Inv X pins σ H' { s with heap := h', gens := g', drawn := d', toks := t' } := by
  have neL : ∀ b o, X.s₀.heap.get? b = some o → b ≠ X.env.locals := fun b o e => Nat.ne_of_lt (Nat.lt_of_lt_of_le (Heap.lt_size e) I.ok.above)
  have neC : ∀ b o, X.s₀.heap.get? b = some o → b ∉ X.ex → b ∉ ch := fun b o e hx hb => by
    rcases (hch b hb).1 with z | z
    · exact hx z
    · exact absurd (Nat.lt_of_lt_of_le (Heap.lt_size e) z) (Nat.lt_irrefl _)
  have cellK : ∀ x c, X.env.cells.lookup x = some c → ∀ v, s.heap.IsCell c v → h'.IsCell c v := fun x c e v ⟨o, ho, hd⟩ => by
    have nch : c ∉ ch := fun z => (hch c z).2.2.1 x c e rfl
    by_cases hc : c ∈ X.fs
    · obtain ⟨sl, q⟩ := slot c o (I.cne x c e) hc nch ho (I.freeC x c e)
      exact ⟨_, q, hd⟩
    · exact ⟨o, keep c o (I.cne x c e) hc nch ho (I.freeC x c e), hd⟩
  refine ⟨I.ok, I.os, hg, ⟨fun b o e n hb hx => ?_, fun b o e n hb hx => ?_, fun b o e n hx => ?_, fun b o e hx => ?_, fun b xs e => tups b xs (I.base.tups b xs e), fun b o xs e => frzs b o xs (I.base.frzs b o xs e), fun b ps e => ?_⟩, ?_, fun x c e => ?_, ?_, fun x c e => ?_, fun p hp => ?_, hok, I.len⟩
  · exact keep b o (neL b o e) hb (neC b o e hx) (I.base.keep b o e n hb hx) (I.base.free b o e n hx)
  · obtain ⟨sl, e1⟩ := I.base.slot b o e n hb hx
    obtain ⟨sl', e2⟩ := slot b _ (neL b o e) hb (neC b o e hx) e1 (I.base.free b o e n hx)
    exact ⟨sl', e2⟩
  · obtain ⟨o', e1⟩ := I.base.there b o e hx
    exact free b o' (neC b o e hx) e1 (I.base.free b o e n hx)
  · obtain ⟨o', e1⟩ := I.base.there b o e hx
    exact there b o' (neC b o e hx) e1
  · obtain ⟨m1, e1⟩ := I.base.tbls b ps e
    obtain ⟨m2, e2⟩ := tbls b _ e1
    exact ⟨m1 ++ m2, by rw [e2, Array.append_assoc]⟩
  · obtain ⟨m, hn, hl⟩ := I.loc
    refine ⟨m, ns m hn, fun i x v e1 e2 e3 => ?_⟩
    obtain ⟨u, r, l⟩ := hl i x v e1 e2 e3
    refine ⟨u, r, ?_⟩
    rcases l with l | ⟨k, c, e, z⟩
    · exact .inl l
    · exact .inr ⟨k, c, e, cellK x c e _ z⟩
  · obtain ⟨v, z⟩ := I.cell x c e
    exact ⟨v, cellK x c e v z⟩
  · obtain ⟨m, ⟨o, _, _, ho, _⟩, _⟩ := I.loc
    exact free _ o (fun z => (hch _ z).2.1 rfl) ho I.free
  · obtain ⟨v, o, ho, hd⟩ := I.cell x c e
    exact free c o (fun z => (hch c z).2.2.1 x c e rfl) ho (I.freeC x c e)
  · obtain ⟨e, n, ne, nf, d⟩ := I.pin p hp
    have nch : p.1 ∉ ch := fun z => (hch p.1 z).2.2.2 p hp rfl
    exact ⟨keep p.1 p.2 ne nf nch e n, free p.1 p.2 nch e n, ne, nf, d⟩
theorem Inv.un {t' : Nat} (I : Inv X pins σ H s) (u : Un X.fs [] H H' s.heap h') (hok : HOk X.prog X.w H' h') : Inv X pins σ H' { s with heap := h', toks := t' } := by
  obtain ⟨m, ⟨o, es, ep, ho, r⟩, _⟩ := id I.loc
  obtain ⟨sl, hL⟩ := u.any ho I.free (by simp)
  exact I.step (g' := s.gens) (d' := s.drawn) (ch := []) (fun _ z => nomatch z) (fun b o _ hb _ e n => u.keep b o e n hb (by simp)) (fun b o _ hb _ e n => u.slot b o e n hb (by simp)) (fun b o _ e n => u.free b o e n (by simp)) (fun b o _ e => u.there b o e (by simp)) u.tups u.frzs u.tbls (fun m' hm => by
    obtain ⟨o', es', ep', ho', r'⟩ := hm
    rw [ho] at ho'; cases ho'
    exact ⟨_, es', ep', hL, r'⟩) hok I.bare
theorem Inv.call {g' : Array GenState} {t' : Nat} {d' : Drawn} {ch : List Addr} (I : Inv X pins σ H s) (u : Un (frs X.stack) ch H H' s.heap h') (hok : HOk X.prog X.w H' h') (hg : AllBare g')
    (hch : ∀ b ∈ ch, (b ∈ X.ex ∨ X.s₀.heap.objs.size ≤ b) ∧ b ≠ X.env.locals ∧ (∀ x c, X.env.cells.lookup x = some c → c ≠ b) ∧ ∀ p ∈ X.pn ++ pins, p.1 ≠ b) :
    Inv X pins σ H' { s with heap := h', gens := g', drawn := d', toks := t' } := by
  obtain ⟨m, ⟨o, es, ep, ho, r⟩, _⟩ := id I.loc
  obtain ⟨sl, hL⟩ := u.any ho I.free fun z => (hch _ z).2.1 rfl
  exact I.step (ch := ch) hch (fun b o hL hb hc e n => u.keep b o e n (fun z => (List.mem_cons.mp (I.stkSub b z)).elim hL hb) hc) (fun b o _ _ hc e n => u.any e n hc) (fun b o hc e n => u.free b o e n hc) (fun b o hc e => u.there b o e hc) u.tups u.frzs u.tbls (fun m' hm => by
    obtain ⟨o', es', ep', ho', r'⟩ := hm
    rw [ho] at ho'; cases ho'
    exact ⟨_, es', ep', hL, r'⟩) hok hg
theorem Inv.turned {t' : Nat} {it : Addr} (I : Inv X pins σ H s) (k : ∀ b o, b ≠ it → s.heap.get? b = some o → h'.get? b = some o) (hn : H it = none) (hL : it ≠ X.env.locals)
    (h1 : it ∈ X.ex ∨ X.s₀.heap.objs.size ≤ it) (h2 : ∀ x c, X.env.cells.lookup x = some c → c ≠ it) (h3 : ∀ p ∈ X.pn ++ pins, p.1 ≠ it) : Inv X pins σ H { s with heap := h', toks := t' } := by
  have nit : ∀ b u, H b = some u → b ≠ it := fun b u e z => by rw [z, hn] at e; cases e
  refine I.step (g' := s.gens) (d' := s.drawn) (ch := [it]) (fun b hb => ?_) (fun b o _ _ hc e _ => k b o (fun z => hc (by simp [z])) e) (fun b o _ _ hc e _ => ⟨o.slots, k b o (fun z => hc (by simp [z])) e⟩) (fun _ _ _ _ n => n)
    (fun b o hc e => ⟨o, k b o (fun z => hc (by simp [z])) e⟩) (fun _ _ e => e) (fun _ _ _ e => e) (fun b ps e => ⟨#[], by rw [e]; simp⟩) (fun m hm => ?_) (fun b u e => ?_) I.bare
  · have e : b = it := by simpa using hb
    subst e
    exact ⟨h1, hL, h2, h3⟩
  · obtain ⟨o, es, ep, ho, r⟩ := hm
    exact ⟨o, es, ep, k _ o (Ne.symm hL) ho, r⟩
  · refine (I.hok b u e).stay (fun c v hc q => k c v ?_ q) (fun _ q => q) fun _ _ q => q
    rcases hc with z | z
    · rw [z]; exact nit b u e
    · exact nit c _ z
theorem Inv.tok (I : Inv X pins σ H s) (t : Nat) : Inv X pins σ H { s with toks := t } := I.un (h' := s.heap) (t' := t) Un.refl I.hok
theorem Inv.kept {t' : Nat} (I : Inv X pins σ H s) (k : ∀ b u, s.heap.get? b = some u → h'.get? b = some u) : Inv X pins σ H { s with heap := h', toks := t' } := I.un (Un.kept k) (I.hok.kept k)
theorem Inv.laid {a : Addr} {o : HO} {t' : Nat} (I : Inv X pins σ H s) (k : ∀ b u, s.heap.get? b = some u → h'.get? b = some u) (hp : s.heap.objs.size ≤ a) (new : ObjOk X.prog X.w (upd H a o) h' a o) :
    Inv X pins σ (upd H a o) { s with heap := h', toks := t' } := I.un (Un.laid k hp (I.hok.fresh hp)) (I.hok.laid k hp new)
theorem Inv.write {x e : Addr} {o : HO} {t' : Nat} (I : Inv X pins σ H s) (mu : Mut (H x)) (he : e = x ∨ H e = some (.own x)) (k : ∀ b u, b ≠ e → s.heap.get? b = some u → h'.get? b = some u) (heo : ∃ u, h'.get? e = some u)
    (new : ObjOk X.prog X.w (upd H x o) h' x o) : Inv X pins σ (upd H x o) { s with heap := h', toks := t' } := I.un (Un.write mu he k heo) (I.hok.write mu he k heo new)
theorem Inv.pins_of {pins' : List (Addr × Obj)} (I : Inv X pins σ H s) (h : ∀ p ∈ pins', s.heap.get? p.1 = some p.2 ∧ H p.1 = none ∧ p.1 ≠ X.env.locals ∧ p.1 ∉ X.fs ∧ ∀ v, p.2.data ≠ .cell v) : Inv X pins' σ H s :=
  ⟨I.ok, I.os, I.bare, I.base, I.loc, I.cell, I.free, I.freeC, fun p hp => (List.mem_append.mp hp).elim (fun z => I.pin p (List.mem_append_left _ z)) (h p), I.hok, I.len⟩
theorem nodup_ix {N : List Str} (hN : N.Nodup) {i j : Nat} {x : Str} (a : N[i]? = some x) (b : N[j]? = some x) : i = j := by
  obtain ⟨h1, e1⟩ := List.getElem?_eq_some_iff.mp a
  obtain ⟨h2, e2⟩ := List.getElem?_eq_some_iff.mp b
  exact (List.getElem_inj hN).mp (e1.trans e2.symm)
theorem store_ok2 {M : Model} {A : Around} {E : Value → Shared → Prop} {i : Nat} {x : Str} {v : V} {u : Value} {Q : Unit → Shared → Prop} (I : Inv X pins σ H s) (hN : X.N.Nodup) (hi : X.N[i]? = some x) (hx : Loc X.env.scope x) (r : RelV v u)
    (h : ∀ s', Inv X pins (σ.set i (some v)) H s' → (∃ a, Heap.SameBut a s.heap s'.heap ∧ (a = X.env.locals ∨ X.env.cells.lookup x = some a)) → Q () s') (hf : X.fn x = true ∨ X.env.scope.names.lookup x = some .local := by first | exact .inl rfl | exact .inr rfl | assumption) : wpAny M A (storeName X.env x u) Q E s := by
  obtain ⟨m, hn, hl⟩ := id I.loc
  have hcls : (X.env.scope.kind == .class || (X.env.scope.kind == .module && X.env.locals != X.env.globals)) = false := by rw [I.ok.kind]; rfl
  have hiσ : i < σ.length := by rw [I.len]; exact (List.getElem?_eq_some_iff.mp hi).1
  have cne := I.cne
  have tracked : ∀ {a : Addr} {h' : Heap}, (∃ o, s.heap.get? a = some o ∧ H a = none) → Heap.SameBut a s.heap h' → HOk X.prog X.w H h' := fun {a h'} ha hs b ob e => by
    obtain ⟨_, _, hfree⟩ := ha
    refine (I.hok b ob e).stay (fun c w' hc q => (hs.2 c ?_).trans q) (fun _ q => q) fun _ _ q => q
    rintro rfl
    rcases hc with rfl | hc
    · rw [hfree] at e; cases e
    · rw [hfree] at hc; cases hc
  rcases hx with hk | hk
  · refine wpAny_storeName_local hk hn (fun h' hn' hs => ?_) hcls
    obtain ⟨oL, _, _, hoL, _⟩ := id hn
    refine h _ ⟨I.ok, I.os, I.bare, ⟨fun b o e n hb hx => ?_, fun b o e n hb hx => ?_, I.base.free, fun b o e hx => ?_, I.base.tups, I.base.frzs, I.base.tbls⟩, ⟨_, hn', fun j y v' e1 e2 e3 => ?_⟩, fun y c e => ?_, I.free, I.freeC, fun p hp => ?_, tracked ⟨oL, hoL, I.free⟩ hs, by simpa using I.len⟩ ⟨_, hs, .inl rfl⟩
    · exact (hs.2 b (Nat.ne_of_lt (Nat.lt_of_lt_of_le (Heap.lt_size e) I.ok.above))).trans (I.base.keep b o e n hb hx)
    · obtain ⟨sl, e1⟩ := I.base.slot b o e n hb hx
      exact ⟨sl, (hs.2 b (Nat.ne_of_lt (Nat.lt_of_lt_of_le (Heap.lt_size e) I.ok.above))).trans e1⟩
    · obtain ⟨o', e1⟩ := I.base.there b o e hx
      exact ⟨o', (hs.2 b (Nat.ne_of_lt (Nat.lt_of_lt_of_le (Heap.lt_size e) I.ok.above))).trans e1⟩
    · by_cases hj : j = i
      · subst hj
        rw [hi] at e1; cases e1
        rw [List.getElem?_set_self hiσ] at e2
        cases e2
        exact ⟨u, r, .inl ⟨hk, by simp⟩⟩
      · rw [List.getElem?_set_ne (Ne.symm hj)] at e2
        obtain ⟨u', r', q⟩ := hl j y v' e1 e2 e3
        refine ⟨u', r', ?_⟩
        rcases q with ⟨k, e⟩ | ⟨k, c, e, z⟩
        · refine .inl ⟨k, ?_⟩
          have : y ≠ x := fun e => hj (nodup_ix hN e1 (e ▸ hi))
          simp [this, e]
        · exact .inr ⟨k, c, e, z.sameBut hs (cne y c e)⟩
    · obtain ⟨w', z⟩ := I.cell y c e
      exact ⟨w', z.sameBut hs (cne y c e)⟩
    · obtain ⟨e, n, ne, nf, d⟩ := I.pin p hp
      exact ⟨(hs.2 p.1 ne).trans e, n, ne, nf, d⟩
  · have hfn : X.fn x = true := by
      rcases hf with z | z
      · exact z
      · rw [z] at hk; cases hk
    obtain ⟨c, hc⟩ := I.ok.has x (.inl hk)
    obtain ⟨w', z⟩ := I.cell x c hc
    refine wpAny_storeName_cell I.ok.kind hk hc z (fun h' hc' hs => ?_)
    obtain ⟨oc, hoc, hocd⟩ := id z
    refine h { s with heap := h' } ⟨I.ok, I.os, I.bare, ⟨fun b o e n hb hx => ?_, fun b o e n hb hx => ?_, I.base.free, fun b o e hx => ?_, I.base.tups, I.base.frzs, I.base.tbls⟩, ⟨m, hn.sameBut hs (Ne.symm (cne x c hc)), fun j y v' e1 e2 e3 => ?_⟩, fun y c' e => ?_, I.free, I.freeC, fun p hp => ?_, tracked ⟨oc, hoc, I.freeC x c hc⟩ hs, by simpa using I.len⟩ ⟨c, hs, .inr hc⟩
    · exact (hs.2 b (Nat.ne_of_lt (Nat.lt_of_lt_of_le (Heap.lt_size e) (I.ok.cab x c hfn hc)))).trans (I.base.keep b o e n hb hx)
    · obtain ⟨sl, e1⟩ := I.base.slot b o e n hb hx
      exact ⟨sl, (hs.2 b (Nat.ne_of_lt (Nat.lt_of_lt_of_le (Heap.lt_size e) (I.ok.cab x c hfn hc)))).trans e1⟩
    · obtain ⟨o', e1⟩ := I.base.there b o e hx
      exact ⟨o', (hs.2 b (Nat.ne_of_lt (Nat.lt_of_lt_of_le (Heap.lt_size e) (I.ok.cab x c hfn hc)))).trans e1⟩
    · by_cases hj : j = i
      · subst hj
        rw [hi] at e1; cases e1
        rw [List.getElem?_set_self hiσ] at e2
        cases e2
        exact ⟨u, r, .inr ⟨.inl hk, c, hc, hc'⟩⟩
      · rw [List.getElem?_set_ne (Ne.symm hj)] at e2
        obtain ⟨u', r', q⟩ := hl j y v' e1 e2 e3
        refine ⟨u', r', ?_⟩
        rcases q with q | ⟨k, c', e, z'⟩
        · exact .inl q
        · refine .inr ⟨k, c', e, z'.sameBut hs ?_⟩
          rintro rfl
          exact hj (nodup_ix hN e1 (I.ok.inj _ _ _ e hc ▸ hi))
    · by_cases hcc : c' = c
      · subst hcc; exact ⟨_, hc'⟩
      · obtain ⟨w2, z2⟩ := I.cell y c' e
        exact ⟨w2, z2.sameBut hs hcc⟩
    · obtain ⟨e, n, ne, nf, d⟩ := I.pin p hp
      refine ⟨(hs.2 p.1 ?_).trans e, n, ne, nf, d⟩
      intro q
      rw [q, hoc] at e
      have q' : oc = p.2 := Option.some.inj e
      exact d w' (by rw [← q']; exact hocd)
theorem store_ok {M : Model} {A : Around} {E : Value → Shared → Prop} {i : Nat} {x : Str} {v : V} {u : Value} {Q : Unit → Shared → Prop} (I : Inv X pins σ H s) (hN : X.N.Nodup) (hi : X.N[i]? = some x) (hx : Loc X.env.scope x) (r : RelV v u)
    (h : ∀ s', Inv X pins (σ.set i (some v)) H s' → Q () s') (hf : X.fn x = true ∨ X.env.scope.names.lookup x = some .local := by first | exact .inl rfl | exact .inr rfl | assumption) : wpAny M A (storeName X.env x u) Q E s :=
  store_ok2 I hN hi hx r (fun s' I' _ => h s' I') hf
theorem Inv.call' {s' : Shared} {ch : List Addr} (I : Inv X pins σ H s) (ho : s'.os = s.os) (u : Un (frs X.stack) ch H H' s.heap s'.heap) (hok : HOk X.prog X.w H' s'.heap) (hg : AllBare s'.gens)
    (hch : ∀ b ∈ ch, (b ∈ X.ex ∨ X.s₀.heap.objs.size ≤ b) ∧ b ≠ X.env.locals ∧ (∀ x c, X.env.cells.lookup x = some c → c ≠ b) ∧ ∀ p ∈ X.pn ++ pins, p.1 ≠ b) : Inv X pins σ H' s' := by
  obtain ⟨h', g', d', t', o'⟩ := s'
  have e : o' = s.os := ho
  subst e
  exact I.call (g' := g') (t' := t') (d' := d') u hok hg hch
end
noncomputable abbrev XK := Value → Option Addr → Hp → Prop
noncomputable abbrev St := List (Option V)
noncomputable abbrev VK := V → Hp → Prop
noncomputable abbrev TE := St → Hp → VK → Prop
noncomputable abbrev TT := St → Hp → (Bool → Hp → Prop) → Prop
noncomputable abbrev TA := St → Hp → (List V → Hp → Prop) → Prop
structure Ends where
  nx : St → Hp → Prop
  rt : VK
  bk : St → Hp → Prop := fun _ _ => False
  ct : St → Hp → Prop := fun _ _ => False
noncomputable abbrev TS := Ends → St → Hp → Prop
noncomputable def EP (X : Cx) (pins : List (Addr × Obj)) (σ : St) (Q : VK) (u : Value) (s' : Shared) : Prop := ∃ v H', Inv X pins σ H' s' ∧ RelV v u ∧ Q v H'
noncomputable def TP (X : Cx) (pins : List (Addr × Obj)) (σ : St) (Q : Bool → Hp → Prop) (b : Bool) (s' : Shared) : Prop := ∃ H', Inv X pins σ H' s' ∧ Q b H'
noncomputable def AP (X : Cx) (pins : List (Addr × Obj)) (σ : St) (Q : List V → Hp → Prop) (us : List Value) (s' : Shared) : Prop := ∃ vs H', Inv X pins σ H' s' ∧ Vals vs us ∧ Q vs H'
noncomputable def SP (X : Cx) (pins : List (Addr × Obj)) (D : Ends) (f : Flow) (s' : Shared) : Prop :=
  match f with
  | .next => ∃ σ' H', Inv X pins σ' H' s' ∧ D.nx σ' H'
  | .brk => ∃ σ' H', Inv X pins σ' H' s' ∧ D.bk σ' H'
  | .cont => ∃ σ' H', Inv X pins σ' H' s' ∧ D.ct σ' H'
  | .ret u => ∃ v σ' H', Inv X pins σ' H' s' ∧ RelV v u ∧ D.rt v H'
noncomputable def PE (X : Cx) (e : Expr) (t : TE) : Prop :=
  ∀ (pins : List (Addr × Obj)) (s : Shared) (σ : St) (H : Hp) (Q : VK), Inv X pins σ H s → t σ H Q → wpAny (model X.prog X.w) X.A (eval e X.env) (EP X pins σ Q) X.xe s
noncomputable def PT (X : Cx) (e : Expr) (t : TT) : Prop :=
  ∀ (pins : List (Addr × Obj)) (s : Shared) (σ : St) (H : Hp) (Q : Bool → Hp → Prop), Inv X pins σ H s → t σ H Q → wpAny (model X.prog X.w) X.A (isTrue e X.env (eval e X.env)) (TP X pins σ Q) X.xe s
noncomputable def PW (X : Cx) (e : Expr) (t : TT) : Prop :=
  ∀ (whole : Sem Value) (pins : List (Addr × Obj)) (s : Shared) (σ : St) (H : Hp) (Q : Bool → Hp → Prop), Inv X pins σ H s → t σ H Q → wpAny (model X.prog X.w) X.A (isTrue e X.env whole) (TP X pins σ Q) X.xe s
theorem PW.pt {X : Cx} {e : Expr} {t : TT} (h : PW X e t) : PT X e t := h _
noncomputable def PA (X : Cx) (es : List Expr) (t : TA) : Prop :=
  ∀ (pos : Pos) (pins : List (Addr × Obj)) (s : Shared) (σ : St) (H : Hp) (Q : List V → Hp → Prop), Inv X pins σ H s → t σ H Q → wpAny (model X.prog X.w) X.A (spliced (backTo pos (starEach es X.env))) (AP X pins σ Q) X.xe s
noncomputable def PS (X : Cx) (st : Stmt) (t : TS) : Prop :=
  ∀ (pins : List (Addr × Obj)) (s : Shared) (σ : St) (H : Hp) (D : Ends), Inv X pins σ H s → t D σ H → wpAny (model X.prog X.w) X.A (exec st X.env) (SP X pins D) X.xe s
noncomputable def PSs (X : Cx) (st : List Stmt) (t : TS) : Prop :=
  ∀ (pins : List (Addr × Obj)) (s : Shared) (σ : St) (H : Hp) (D : Ends), Inv X pins σ H s → t D σ H → wpAny (model X.prog X.w) X.A (execs st X.env) (SP X pins D) X.xe s
theorem thn {α : Type} {t : Sem α} {Q Q' : α → Shared → Prop} {M : Model} {A : Around} {E : Value → Shared → Prop} {s : Shared} (h : wpAny M A t Q E s) (hQ : ∀ a s, Q a s → Q' a s) : wpAny M A t Q' E s := wpAny_mono h hQ fun _ _ x => x
end L2
namespace L2
open PySem PySem.Spec PyProof.Rows
section
variable {X : Cx}
noncomputable def tVar (i : Nat) : TE := fun σ H Q => ∃ v, σ[i]? = some (some v) ∧ Q v H
noncomputable def tC (v : V) : TE := fun _ H Q => Q v H
theorem pe_var {i : Nat} {x : Str} {pos : Pos} (hN : X.N[i]? = some x) (hv : Vis X.env.scope x) (hd : (x == ("__debug__" : Str)) = false := by decide) (hcd : (x == ("__classdict__" : Str)) = false := by decide) : PE X (.Name x pos) (tVar i) := by
  intro pins s σ H Q I h
  obtain ⟨v, e, h⟩ := h
  obtain ⟨m, hn, hl⟩ := I.loc
  obtain ⟨u, r, l⟩ := hl i x v hN e hv
  have fin : EP X pins σ Q u s := ⟨v, H, I, r, h⟩
  rcases l with ⟨hk, hm⟩ | ⟨hk, c, hc, hcell⟩
  · exact wpAny_Name (wpAny_loadName_local I.ok.kind hk hn hm fin) hd
  · rcases hk with hk | hk
    · exact wpAny_Name (wpAny_loadName_cell I.ok.kind hk hc hcell fin) hd
    · exact wpAny_Name (wpAny_loadName_free I.ok.kind hk hc hcell fin hcd) hd
theorem pe_int {i j pos} : PE X (.Constant (.int i) j pos) (tC (.int i)) := fun _ _ _ H _ I h => wpAny_Constant_int ⟨.int i, H, I.tok _, ⟨_, rfl⟩, h⟩
theorem pe_bl {b j pos} : PE X (.Constant (.bool b) j pos) (tC (.bl b)) := fun _ _ _ H _ I h => Constant_bool ⟨.bl b, H, I, rfl, h⟩
theorem pe_non {j pos} : PE X (.Constant .none j pos) (tC .non) := fun _ _ _ H _ I h => Constant_none ⟨.non, H, I, rfl, h⟩
theorem pe_str {x j pos} : PE X (.Constant (.str x) j pos) (tC (.str x)) := fun _ _ _ H _ I h => Calls.Constant_str ⟨.str x, H, I.tok _, ⟨_, rfl⟩, h⟩
noncomputable def Gl (X : Cx) (x : Str) : Prop := X.env.kindOf x = some .globalImplicit
theorem ld_glob {E : Value → Shared → Prop} {pins : List (Addr × Obj)} {s : Shared} {σ : St} {H : Hp} {x : Str} {u : Value} {pos : Pos} {Q : Value → Shared → Prop} (I : Inv X pins σ H s) (hg : Gl X x) (hm : X.mg x = some u) (h : Q u s)
    (hd : (x == ("__debug__" : Str)) = false := by decide) : wpAny (model X.prog X.w) X.A (eval (.Name x pos) X.env) Q E s :=
  Calls.Name_function_global I.ok.kind hg (Calls.loadGlobal_global (by rw [I.ok.glob]; exact I.mod.glob.keeps I.bk) hm h) hd
theorem ld_blt {E : Value → Shared → Prop} {pins : List (Addr × Obj)} {s : Shared} {σ : St} {H : Hp} {x : Str} {u : Value} {pos : Pos} {Q : Value → Shared → Prop} (I : Inv X pins σ H s) (hg : Gl X x) (hm : X.mg x = none) (hv : bootBuiltins x = some u) (h : Q u s)
    (hn : x ≠ "__name__" := by decide) (hd : (x == ("__debug__" : Str)) = false := by decide) : wpAny (model X.prog X.w) X.A (eval (.Name x pos) X.env) Q E s := by
  obtain ⟨mb, h1, h2⟩ := I.mod.blt
  exact Calls.Name_function_global I.ok.kind hg (Calls.loadGlobal_builtin (by rw [I.ok.glob]; exact I.mod.glob.keeps I.bk) hm (by rw [I.ok.blt]; exact h1.keeps I.bk) ((h2 x hn).trans hv) h) hd
theorem pe_glob {x : Str} {v : V} {u : Value} {pos : Pos} (hg : Gl X x) (hm : X.mg x = some u) (r : RelV v u) (hd : (x == ("__debug__" : Str)) = false := by decide) : PE X (.Name x pos) (tC v) :=
  fun _ _ _ H _ I h => ld_glob I hg hm ⟨v, H, I, r, h⟩ hd
theorem pe_bltn {x : Str} {v : V} {u : Value} {pos : Pos} (hg : Gl X x) (hm : X.mg x = none) (hv : bootBuiltins x = some u) (r : RelV v u) (hn : x ≠ "__name__" := by decide) (hd : (x == ("__debug__" : Str)) = false := by decide) : PE X (.Name x pos) (tC v) :=
  fun _ _ _ H _ I h => ld_blt I hg hm hv ⟨v, H, I, r, h⟩ hn hd
noncomputable def t2I (ta tb : TE) (k : Int → Int → Hp → Prop) : St → Hp → Prop := fun σ H => ta σ H fun x H1 => tb σ H1 fun y H2 => ∃ i j, x = .int i ∧ y = .int j ∧ k i j H2
noncomputable def tAdd (ta tb : TE) : TE := fun σ H Q => t2I ta tb (fun i j H2 => Q (.int (i + j)) H2) σ H
noncomputable def tSub (ta tb : TE) : TE := fun σ H Q => t2I ta tb (fun i j H2 => Q (.int (i - j)) H2) σ H
noncomputable def tMul (ta tb : TE) : TE := fun σ H Q => t2I ta tb (fun i j H2 => (-(2 ^ 64) < i ∧ i < 2 ^ 64) ∧ Q (.int (i * j)) H2) σ H
variable {a b : Expr} {ta tb : TE} {pos : Pos}
noncomputable def PC (X : Cx) (op : CmpOp) (a b : Expr) (t : TE) : Prop :=
  ∀ (pins : List (Addr × Obj)) (s : Shared) (σ : St) (H : Hp) (Q : VK), Inv X pins σ H s → t σ H Q →
    wpAny (model X.prog X.w) X.A (eval a X.env) (fun v s₁ => wpAny (model X.prog X.w) X.A (eval b X.env) (fun u s₂ => wpAny (model X.prog X.w) X.A (compareOp op v u) (EP X pins σ Q) X.xe s₂) X.xe s₁) X.xe s
noncomputable def tCmp (p : Int → Int → Bool) (ta tb : TE) : TE := fun σ H Q => t2I ta tb (fun i j H2 => Q (.bl (p i j)) H2) σ H
noncomputable abbrev tLt : TE → TE → TE := tCmp fun i j => decide (i < j)
noncomputable abbrev tLe : TE → TE → TE := tCmp fun i j => decide (i ≤ j)
noncomputable abbrev tGt : TE → TE → TE := tCmp fun i j => decide (j < i)
noncomputable abbrev tGe : TE → TE → TE := tCmp fun i j => decide (j ≤ i)
noncomputable abbrev tEqI : TE → TE → TE := tCmp fun i j => decide (i = j)
noncomputable abbrev tNeI : TE → TE → TE := tCmp fun i j => !decide (i = j)
noncomputable def tIsN (ta : TE) : TE := fun σ H Q => ta σ H fun x H1 => Q (.bl (decide (x = .non))) H1
noncomputable def tNotN (ta : TE) : TE := fun σ H Q => ta σ H fun x H1 => Q (.bl (!decide (x = .non))) H1
noncomputable def tB (t : TE) : TT := fun σ H Q => t σ H fun x H1 => ∃ c, x = .bl c ∧ Q c H1
theorem pt_val {e : Expr} {t : TE} (h : PE X e t) (he : ∀ whole, isTrue e X.env whole = (do let v ← whole; standAt e.pos; holding [v] (truthy v)) := by intro _; rfl) : PT X e (tB t) := by
  intro pins s σ H Q I hw
  refine isTrue_plain (thn (h pins s σ H _ I hw) fun v s1 ⟨x, H1, I1, r1, q1⟩ => ?_) (he _)
  obtain ⟨d, rfl, q⟩ := q1
  cases r1
  exact wpAny_truthy_bool ⟨H1, I1, q⟩
variable {tA tB' : TT} {rest : List Expr}
noncomputable def tAnd (t u : TT) : TT := fun σ H Q => t σ H fun c H1 => if c = true then u σ H1 Q else Q false H1
noncomputable def tOr (t u : TT) : TT := fun σ H Q => t σ H fun c H1 => if c = true then Q true H1 else u σ H1 Q
noncomputable def tNot (t : TT) : TT := fun σ H Q => t σ H fun c H1 => Q (!c) H1
theorem pw_or1 (ha : PT X a tA) : PW X (.BoolOp .Or [a] pos) tA := by
  intro wh pins s σ H Q I h
  refine isTrue_or (thn (ha pins s σ H Q I h) fun c s1 e => ?_)
  cases c with
  | false => exact isTrue_or_nil e
  | true => exact e
theorem pw_or (ha : PT X a tA) (hb : PW X (.BoolOp .Or (b :: rest) pos) tB') : PW X (.BoolOp .Or (a :: b :: rest) pos) (tOr tA tB') := by
  intro wh pins s σ H Q I h
  refine isTrue_or (thn (ha pins s σ H _ I h) fun c s1 ⟨H1, I1, q1⟩ => ?_)
  cases c with
  | true => exact ⟨H1, I1, q1⟩
  | false => exact hb wh pins s1 σ H1 Q I1 q1
theorem pt_not (ha : PT X a tA) : PT X (.UnaryOp .Not a pos) (tNot tA) := by
  intro pins s σ H Q I h
  exact isTrue_not (ha pins s σ H (fun c H1 => Q (!c) H1) I h)
noncomputable def tAndV (ta tb : TE) : TE := fun σ H Q => ta σ H fun x H1 => ∃ c, x = .bl c ∧ if c = true then tb σ H1 Q else Q (.bl false) H1
noncomputable def tOrV (ta tb : TE) : TE := fun σ H Q => ta σ H fun x H1 => ∃ c, x = .bl c ∧ if c = true then Q (.bl true) H1 else tb σ H1 Q
noncomputable def tNotV (ta : TE) : TE := fun σ H Q => ta σ H fun x H1 => ∃ c, x = .bl c ∧ Q (.bl (!c)) H1
theorem pe_one {op} {t : TE} (h : PE X a t) : PE X (.BoolOp op [a] pos) t := fun pins s σ H Q I hw => BoolOp_one (h pins s σ H Q I hw)
theorem pe_and (ha : PE X a ta) (hb : PE X (.BoolOp .And (b :: rest) pos) tb) : PE X (.BoolOp .And (a :: b :: rest) pos) (tAndV ta tb) := by
  intro pins s σ H Q I h
  refine BoolOp_and (thn (ha pins s σ H _ I h) fun v s1 ⟨x, H1, I1, r1, q1⟩ => ?_)
  obtain ⟨c, rfl, q1⟩ := q1
  cases r1
  refine wpAny_truthy_bool ?_
  cases c with
  | true => exact hb pins s1 σ H1 Q I1 q1
  | false => exact ⟨.bl false, H1, I1, rfl, q1⟩
theorem pe_not (ha : PE X a ta) : PE X (.UnaryOp .Not a pos) (tNotV ta) := by
  intro pins s σ H Q I h
  refine UnaryOp_ (thn (ha pins s σ H _ I h) fun v s1 ⟨x, H1, I1, r1, q1⟩ => ?_)
  obtain ⟨c, rfl, q1⟩ := q1
  cases r1
  exact not_of (wpAny_truthy_bool ⟨.bl (!c), H1, I1, rfl, q1⟩)
noncomputable def tIf (t : TT) (ta tb : TE) : TE := fun σ H Q => t σ H fun c H1 => if c = true then ta σ H1 Q else tb σ H1 Q
theorem pe_ifExp {c : Expr} (hc : PT X c tA) (ha : PE X a ta) (hb : PE X b tb) : PE X (.IfExp c a b pos) (tIf tA ta tb) := by
  intro pins s σ H Q I h
  refine wpAny_IfExp (thn (hc pins s σ H _ I h) fun d s1 ⟨H1, I1, q1⟩ => ?_)
  cases d with
  | true => exact ha pins s1 σ H1 Q I1 q1
  | false => exact hb pins s1 σ H1 Q I1 q1
end
end L2
namespace L2
open PySem PySem.Spec PyProof.Rows
noncomputable def SqL (K : PySem.W.Frag) (H : Hp) (a : Addr) (xs : List V) : Prop :=
  Rd H a (.lst xs) ∨
    ∃ (o : Obj) (its : Array Value) (n : Nat), K.lookup a = some o ∧ o.cls = .type "list" ∧ o.dict = none ∧ o.data = .seq its n ∧ its.size ≤ sizeLine ∧ Vals xs its.toList
noncomputable def SqT (K : PySem.W.Frag) (H : Hp) (a : Addr) (xs : List V) : Prop :=
  Rd H a (.tup xs) ∨
    ∃ (o : Obj) (its : Array Value) (n : Nat), K.lookup a = some o ∧ o.cls = .type "tuple" ∧ o.data = .seq its n ∧ its.size ≤ sizeLine ∧ Vals xs its.toList
noncomputable def absV : Value → Option V
  | .none => some .non
  | .bool b => some (.bl b)
  | .int i _ => some (.int i)
  | .str x _ => some (.str x)
  | .bytes b _ => some (.byt b)
  | .float b _ => some (.flt b)
  | .ref a => some (.ref a)
  | .type n => some (.ty n)
  | _ => none
theorem RelV.abs {x : V} {u : Value} (r : RelV x u) : absV u = some x := by
  cases x with
  | non => cases r; rfl
  | bl _ => cases r; rfl
  | int _ => obtain ⟨t, rfl⟩ := r; rfl
  | str _ => obtain ⟨t, rfl⟩ := r; rfl
  | byt _ => obtain ⟨t, rfl⟩ := r; rfl
  | flt _ => obtain ⟨t, rfl⟩ := r; rfl
  | ref _ => cases r; rfl
  | ty _ => cases r; rfl
theorem RelV.inj {x y : V} {u : Value} (r : RelV x u) (q : RelV y u) : x = y := Option.some.inj (r.abs.symm.trans q.abs)
theorem Vals.inj : ∀ {xs ys : List V} {us : List Value}, Vals xs us → Vals ys us → xs = ys
  | _, _, _, .nil, .nil => rfl
  | _, _, _, .cons r t, .cons r' t' => by rw [r.inj r', Vals.inj t t']
section
variable {X : Cx} {pins : List (Addr × Obj)} {σ : St} {H : Hp} {s : Shared} {a : Addr} {xs ys : List V}
theorem SqL.of {K : PySem.W.Frag} (h : H a = some (.lst xs)) : SqL K H a xs := .inl (.inl h)
theorem SqT.of {K : PySem.W.Frag} (h : H a = some (.tup xs)) : SqT K H a xs := .inl (.inl h)
theorem Inv.list (I : Inv X pins σ H s) (h : SqL X.K H a xs) : ∃ its : List Value, Vals xs its ∧ PlainL s.heap a its.toArray ∧ xs.length ≤ sizeLine := by
  rcases h with h | ⟨o, its, n, hk, hc, hd, hs, hz, r⟩
  · obtain ⟨z, its, n, r, e⟩ := h.ok I.hok
    exact ⟨its, r, ⟨_, n, e, rfl, rfl, rfl⟩, z⟩
  · refine ⟨its.toList, r, ⟨o, n, I.kIn a o hk, hc, hd, by simpa using hs⟩, ?_⟩
    have e := r.length
    simp only [Array.length_toList] at e
    trivial
theorem Inv.tuple (I : Inv X pins σ H s) (h : SqT X.K H a xs) : ∃ its : List Value, Vals xs its ∧ IsTup s.heap a its.toArray ∧ xs.length ≤ sizeLine := by
  rcases h with h | ⟨o, its, n, hk, hc, hs, hz, r⟩
  · obtain ⟨z, its, r, p⟩ := h.ok I.hok
    exact ⟨its, r, p, z⟩
  · refine ⟨its.toList, r, ⟨o, I.kIn a o hk, hc, n, by simpa using hs⟩, ?_⟩
    have e := r.length
    simp only [Array.length_toList] at e
    trivial
theorem Inv.list_inj (I : Inv X pins σ H s) (h : SqL X.K H a xs) (h' : SqL X.K H a ys) : xs = ys := by
  obtain ⟨its, r, ⟨o, n, e, _, _, d⟩, _⟩ := I.list h
  obtain ⟨its', r', ⟨o', n', e', _, _, d'⟩, _⟩ := I.list h'
  rw [e] at e'; cases e'
  rw [d] at d'
  injection d' with d1 _
  have : its = its' := by simpa using congrArg Array.toList d1
  subst this
  exact r.inj r'
end
noncomputable abbrev Cx.wish (X : Cx) (E : Value → Shared → Prop) : Cx := { X with xe := E }
noncomputable abbrev Cx.nox (X : Cx) : Cx := X.wish fun _ _ => False
theorem Cx.Ok.wish {X : Cx} (ok : X.Ok) (E : Value → Shared → Prop) : (X.wish E).Ok :=
  ⟨ok.mod, ok.kind, ok.glob, ok.blt, ok.above, ok.inj, ok.has, ok.cab, ok.hd, ok.frames, ok.stk, ok.exf, ok.bs, ok.bsz, ok.noex, ok.exfs, ok.funs, ok.frf⟩
theorem Cx.Ok.unwish {X : Cx} {E : Value → Shared → Prop} (ok : (X.wish E).Ok) : X.Ok :=
  ⟨ok.mod, ok.kind, ok.glob, ok.blt, ok.above, ok.inj, ok.has, ok.cab, ok.hd, ok.frames, ok.stk, ok.exf, ok.bs, ok.bsz, ok.noex, ok.exfs, ok.funs, ok.frf⟩
section
variable {X : Cx} {pins : List (Addr × Obj)} {σ : St} {H : Hp} {s : Shared} {E : Value → Shared → Prop}
theorem Inv.wish (I : Inv X pins σ H s) (E : Value → Shared → Prop) : Inv (X.wish E) pins σ H s := ⟨I.ok.wish E, I.os, I.bare, I.base, I.loc, I.cell, I.free, I.freeC, I.pin, I.hok, I.len⟩
theorem Inv.unwish (I : Inv (X.wish E) pins σ H s) : Inv X pins σ H s := ⟨I.ok.unwish, I.os, I.bare, I.base, I.loc, I.cell, I.free, I.freeC, I.pin, I.hok, I.len⟩
theorem SP.unwish {D : Ends} {f : Flow} {s' : Shared} (h : SP (X.wish E) pins D f s') : SP X pins D f s' := by
  cases f with
  | next => obtain ⟨σ', H', I, q⟩ := h; exact ⟨σ', H', I.unwish, q⟩
  | brk => obtain ⟨σ', H', I, q⟩ := h; exact ⟨σ', H', I.unwish, q⟩
  | cont => obtain ⟨σ', H', I, q⟩ := h; exact ⟨σ', H', I.unwish, q⟩
  | ret u => obtain ⟨v, σ', H', I, r, q⟩ := h; exact ⟨v, σ', H', I.unwish, r, q⟩
theorem PE.nox {e : Expr} {t : TE} (h : PE X.nox e t) : PE X e t := fun pins s σ H Q I hw =>
  wpAny_mono (h pins s σ H Q (I.wish _) hw) (fun _ _ ⟨v, H', I', r, q⟩ => ⟨v, H', I'.unwish, r, q⟩) fun _ _ z => False.elim z
theorem PT.nox {e : Expr} {t : TT} (h : PT X.nox e t) : PT X e t := fun pins s σ H Q I hw =>
  wpAny_mono (h pins s σ H Q (I.wish _) hw) (fun _ _ ⟨H', I', q⟩ => ⟨H', I'.unwish, q⟩) fun _ _ z => False.elim z
theorem PSs.nox {st : List Stmt} {t : TS} (h : PSs X.nox st t) : PSs X st t := fun pins s σ H D I hw =>
  wpAny_mono (h pins s σ H D (I.wish _) hw) (fun _ _ q => q.unwish) fun _ _ z => False.elim z
end
section
variable {X : Cx} {st : Stmt} {rest : List Stmt} {t u : TS} {e : Expr} {te : TE} {pos : Pos}
noncomputable def tNext : TS := fun D σ H => D.nx σ H
noncomputable def tSeq (t u : TS) : TS := fun D σ H => t { D with nx := u D } σ H
theorem pss_nil : PSs X [] tNext := fun _ _ σ H _ I h => wpAny_execs_nil ⟨σ, H, I, h⟩
theorem pss_cons (h1 : PS X st t) (h2 : PSs X rest u) : PSs X (st :: rest) (tSeq t u) := by
  intro pins s σ H D I h
  refine wpAny_execs_cons (thn (h1 pins s σ H { D with nx := u D } I h) fun f s1 q => ?_)
  cases f with
  | next =>
    obtain ⟨σ', H', I', q⟩ := q
    exact h2 pins s1 σ' H' D I' q
  | ret v => exact q
  | brk => exact q
  | cont => exact q
theorem pss_one (h1 : PS X st t) : PSs X [st] t := by
  intro pins s σ H D I h
  refine wpAny_execs_cons (thn (h1 pins s σ H D I h) fun f s1 q => ?_)
  cases f with
  | next => exact wpAny_execs_nil q
  | ret v => exact q
  | brk => exact q
  | cont => exact q
noncomputable def tBreak : TS := fun D σ H => D.bk σ H
noncomputable def tCont : TS := fun D σ H => D.ct σ H
theorem Inv.quiet {pins : List (Addr × Obj)} {σ : St} {H : Hp} {s : Shared} (I : Inv X pins σ H s) : interactive X.env = false := by simp [interactive, I.ok.kind]
noncomputable def tDrop (te : TE) : TS := fun D σ H => te σ H fun _ H1 => D.nx σ H1
theorem ps_expr (he : PE X e te) (hs : swapsWith e none pos.line X.env = pure false := by rfl) : PS X (.Expr e pos) (tDrop te) := by
  intro pins s σ H D I h
  exact wpAny_Expr_any (thn (he pins s σ H _ I h) fun v s1 ⟨x, H1, I1, r1, q1⟩ => ⟨σ, H1, I1, q1⟩) I.quiet hs
noncomputable def tRet (te : TE) : TS := fun D σ H => te σ H D.rt
theorem ps_ret (he : PE X e te) : PS X (.Return (some e) pos) (tRet te) := by
  intro pins s σ H D I h
  exact wpAny_Return_some (thn (he pins s σ H _ I h) fun v s1 ⟨x, H1, I1, r1, q1⟩ => ⟨x, σ, H1, I1, r1, q1⟩)
noncomputable def tRetN : TS := fun D _ H => D.rt .non H
noncomputable def tIfS (c : TT) (t u : TS) : TS := fun D σ H => c σ H fun b H1 => if b = true then t D σ H1 else u D σ H1
theorem ps_if {c : Expr} {a b : List Stmt} {tc : TT} (hc : PT X c tc) (ha : PSs X a t) (hb : PSs X b u) : PS X (.If c a b pos) (tIfS tc t u) := by
  intro pins s σ H D I h
  refine wpAny_If (thn (hc pins s σ H _ I h) fun d s1 ⟨H1, I1, q1⟩ => ?_)
  cases d with
  | true => exact ha pins s1 σ H1 D I1 q1
  | false => exact hb pins s1 σ H1 D I1 q1
noncomputable def tNever : TS := fun _ _ _ => False
theorem ps_never : PS X st tNever := fun _ _ _ _ _ _ h => h.elim
end
noncomputable abbrev TG := V → St → Hp → (St → Hp → Prop) → Prop
noncomputable abbrev TGs := List V → St → Hp → (St → Hp → Prop) → Prop
noncomputable def PG (X : Cx) (target : Expr) (t : TG) : Prop :=
  ∀ (pins : List (Addr × Obj)) (s : Shared) (σ : St) (H : Hp) (v : V) (u : Value) (Q : St → Hp → Prop), Inv X pins σ H s → RelV v u → t v σ H Q →
    wpAny (model X.prog X.w) X.A (assign target X.env u) (fun _ s' => ∃ σ' H', Inv X pins σ' H' s' ∧ Q σ' H') X.xe s
noncomputable def PGs (X : Cx) (ts : List Expr) (t : TGs) : Prop :=
  ∀ (pins : List (Addr × Obj)) (s : Shared) (σ : St) (H : Hp) (vs : List V) (us : List Value) (Q : St → Hp → Prop), Inv X pins σ H s → Vals vs us → t vs σ H Q →
    wpAny (model X.prog X.w) X.A (assignInOrder ((assignEach ts X.env).map (·.2)) us) (fun _ s' => ∃ σ' H', Inv X pins σ' H' s' ∧ Q σ' H') X.xe s
noncomputable abbrev TSet := V → V → V → Hp → (Hp → Prop) → Prop
noncomputable def PSet (X : Cx) (t : TSet) : Prop :=
  ∀ (pins : List (Addr × Obj)) (s : Shared) (σ : St) (H : Hp) (o i v : V) (ov iv u : Value) (Q : Hp → Prop), Inv X pins σ H s → RelV o ov → RelV i iv → RelV v u → t o i v H Q →
    wpAny (model X.prog X.w) X.A (setItem ov iv u) (fun _ s' => ∃ H', Inv X pins σ H' s' ∧ Q H') X.xe s
noncomputable abbrev TIp := V → V → Hp → VK → Prop
noncomputable def PIp (X : Cx) (op : Operator) (t : TIp) : Prop :=
  ∀ (pins : List (Addr × Obj)) (s : Shared) (σ : St) (H : Hp) (x y : V) (v u : Value) (Q : VK), Inv X pins σ H s → RelV x v → RelV y u → t x y H Q →
    wpAny (model X.prog X.w) X.A (inplaceOp op v u) (EP X pins σ Q) X.xe s
section
variable {X : Cx} {pos : Pos}
noncomputable def gName (i : Nat) : TG := fun v σ H Q => Q (σ.set i (some v)) H
theorem pg_name {i : Nat} {x : Str} (hN : X.N.Nodup) (hi : X.N[i]? = some x) (hx : Loc X.env.scope x) (hf : X.fn x = true ∨ X.env.scope.names.lookup x = some .local := by first | exact .inl rfl | exact .inr rfl | assumption) : PG X (.Name x pos) (gName i) := by
  intro pins s σ H v u Q I r h
  exact wpAny_assign_Name (store_ok I hN hi hx r (fun s' I' => ⟨_, H, I', h⟩) hf)
noncomputable def gNil : TGs := fun vs σ H Q => vs = [] ∧ Q σ H
noncomputable def gCons (t : TG) (u : TGs) : TGs := fun vs σ H Q => ∃ v r, vs = v :: r ∧ t v σ H fun σ' H' => u r σ' H' Q
noncomputable def gTup (K : PySem.W.Frag) (n : Nat) (t : TGs) : TG := fun v σ H Q => ∃ a xs, v = .ref a ∧ SqT K H a xs ∧ xs.length = n ∧ t xs σ H Q
noncomputable def gSub (to ti : TE) (t : TSet) : TG := fun v σ H Q => to σ H fun o H1 => ti σ H1 fun i H2 => t o i v H2 fun H3 => Q σ H3
theorem pg_sub {o i : Expr} {to ti : TE} {t : TSet} (ho : PE X o to) (hi : PE X i ti) (hs : PSet X t)
    (ha : ∀ v, assign (.Subscript o i pos) X.env v = (do
      let ov ← holding [v] (eval o X.env)
      let iv ← holding [v, ov] (eval i X.env)
      standAt pos
      holding [v, ov, iv] (setItem ov iv v)
      release [v, ov, iv] []) := by intro _; rfl) : PG X (.Subscript o i pos) (gSub to ti t) := by
  intro pins s σ H v u Q I r h
  rw [ha]
  refine wpAny_bind (wpAny_holding (thn (ho pins s σ H _ I h) fun ov s1 ⟨x, H1, I1, r1, q1⟩ => ?_))
  refine wpAny_bind (wpAny_holding (thn (hi pins s1 σ H1 _ I1 q1) fun iv s2 ⟨y, H2, I2, r2, q2⟩ => ?_))
  refine wpAny_bind (wpAny_standAt (wpAny_bind (wpAny_holding (thn (hs pins s2 σ H2 x y v ov iv u _ I2 r1 r2 r q2) fun _ s3 ⟨H3, I3, q3⟩ => ?_))))
  exact wpAny_release ⟨σ, H3, I3, q3⟩
noncomputable def tAsg (te : TE) (g : TG) : TS := fun D σ H => te σ H fun x H1 => g x σ H1 D.nx
theorem ps_asg {tg e : Expr} {te : TE} {g : TG} (he : PE X e te) (hg : PG X tg g) (hs : swapsWithSole [tg] e pos.line X.env = pure false := by rfl) (hw : swappedStores [tg] e X.env = pure none := by rfl)
    (h1 : (assignEach [tg] X.env).map (·.2) = [assign tg X.env] := by rfl) : PS X (.Assign [tg] e pos) (tAsg te g) := by
  intro pins s σ H D I h
  refine wpAny_Assign_stores (thn (he pins s σ H _ I h) fun v s1 ⟨x, H1, I1, r1, q1⟩ => ?_) hs hw
  rw [h1]
  exact thn (hg pins s1 σ H1 x v _ I1 r1 q1) fun _ s2 q => q
theorem ps_set {i : Nat} {x : Str} {e : Expr} {te : TE} {pos' : Pos} (hN : X.N.Nodup) (hi : X.N[i]? = some x) (hx : Loc X.env.scope x) (he : PE X e te) (hs : swapsWith e (some (.Name x pos')) pos.line X.env = pure false := by rfl) (hf : X.fn x = true ∨ X.env.scope.names.lookup x = some .local := by first | exact .inl rfl | exact .inr rfl | assumption) :
    PS X (.Assign [.Name x pos'] e pos) (tAsg te (gName i)) := by
  intro pins s σ H D I h
  refine wpAny_Assign_Name (thn (he pins s σ H _ I h) fun v s1 ⟨y, H1, I1, r1, q1⟩ => ?_) hs
  exact store_ok I1 hN hi hx r1 (fun s2 I2 => ⟨_, H1, I2, q1⟩) hf
noncomputable def tPar (i j : Nat) (ta : TA) : TS := fun D σ H => ta σ H fun vs H1 => ∃ v w, vs = [v, w] ∧ D.nx ((σ.set i (some v)).set j (some w)) H1
noncomputable def tAug (i : Nat) (te : TE) (ti : TIp) : TS := fun D σ H => ∃ x, σ[i]? = some (some x) ∧ te σ H fun y H1 => ti x y H1 fun z H2 => D.nx (σ.set i (some z)) H2
noncomputable def tAugS (to ti te : TE) (tget : V → V → Hp → VK → Prop) (tip : TIp) (tset : TSet) : TS := fun D σ H => to σ H fun o H1 => ti σ H1 fun i H2 => tget o i H2 fun x H3 => te σ H3 fun y H4 => tip x y H4 fun z H5 => tset o i z H5 fun H6 => D.nx σ H6
noncomputable def PGet (X : Cx) (t : V → V → Hp → VK → Prop) : Prop :=
  ∀ (pins : List (Addr × Obj)) (s : Shared) (σ : St) (H : Hp) (o i : V) (ov iv : Value) (Q : VK), Inv X pins σ H s → RelV o ov → RelV i iv → t o i H Q →
    wpAny (model X.prog X.w) X.A (getItem ov iv) (EP X pins σ Q) X.xe s
noncomputable def ipI (f : Int → Int → Int) : TIp := fun x y H Q => ∃ i j, x = .int i ∧ y = .int j ∧ Q (.int (f i j)) H
end
section
variable {X : Cx} {pos : Pos}
noncomputable def tWhile (c : TT) (tb : TS) : TS := fun D σ H => ∃ W : Nat → St → Hp → Prop, (∃ m, W m σ H) ∧ ∀ m σ H, W m σ H →
  c σ H fun b H1 => if b = true then ∃ N : St → Hp → Prop, (∀ σ' H', N σ' H' → ∃ m', m' < m ∧ W m' σ' H') ∧ tb { D with nx := N, ct := N, bk := D.nx } σ H1 else D.nx σ H1
theorem ps_while {c : Expr} {body : List Stmt} {tc : TT} {tb : TS} (hp : PassesOwn (model X.prog X.w) X.A X.env X.xe) (hc : PT X c tc) (hb : PSs X body tb) : PS X (.While c body [] pos) (tWhile tc tb) := by
  intro pins s σ H D I h
  obtain ⟨W, ⟨m0, w0⟩, turn⟩ := h
  refine wpAny_While (codeAny_whileLoop (fun n s' => ∃ σ' H', Inv X pins σ' H' s' ∧ W n σ' H') ?_ m0 ⟨σ, H, I, w0⟩)
  rintro n s1 ⟨σ1, H1, I1, w1⟩
  refine wpAny_passesOwn hp (thn (hc pins s1 σ1 H1 _ I1 (turn n σ1 H1 w1)) fun b s2 ⟨H2, I2, q2⟩ => ?_)
  cases b with
  | true =>
    obtain ⟨N, hN, q2⟩ := q2
    rw [if_pos rfl]
    refine wpAny_passesOwn hp (thn (hb pins s2 σ1 H2 _ I2 q2) fun f s3 q3 => ?_)
    cases f with
    | next =>
      obtain ⟨σ3, H3, I3, n3⟩ := q3
      obtain ⟨m', hm, w3⟩ := hN σ3 H3 n3
      exact ⟨m', hm, σ3, H3, I3, w3⟩
    | cont =>
      obtain ⟨σ3, H3, I3, n3⟩ := q3
      obtain ⟨m', hm, w3⟩ := hN σ3 H3 n3
      exact ⟨m', hm, σ3, H3, I3, w3⟩
    | brk => exact q3
    | ret v => exact q3
  | false =>
    rw [if_neg Bool.false_ne_true]
    exact wpAny_execs_nil ⟨σ1, H2, I2, q2⟩
end
structure It where
  go : Nat → Hp → Prop
  yld : Nat → Hp → V → Hp → Prop
  stop : Nat → Hp → Prop
noncomputable def FpOk (X : Cx) (pins : List (Addr × Obj)) (H : Hp) (b : Addr) : Prop :=
  H b = none ∧ b ≠ X.env.locals ∧ b ∉ X.fs ∧ (b ∈ X.ex ∨ X.s₀.heap.objs.size ≤ b) ∧ (∀ x c, X.env.cells.lookup x = some c → c ≠ b) ∧ ∀ p ∈ X.pn ++ pins, p.1 ≠ b
theorem Inv.fpOk {X : Cx} {pins : List (Addr × Obj)} {σ : St} {H H' : Hp} {s : Shared} {b : Addr} (I : Inv X pins σ H s) (hb : s.heap.objs.size ≤ b) (hn : H' b = none) : FpOk X pins H' b := by
  refine ⟨hn, Nat.ne_of_gt (Nat.lt_of_lt_of_le I.lt hb), I.nofs hb, .inr (Nat.le_trans I.sz hb), fun x c e z => ?_, fun p hp z => ?_⟩
  · obtain ⟨v, q⟩ := I.cell x c e
    exact absurd (Nat.lt_of_lt_of_le q.lt (by rw [z]; exact hb)) (Nat.lt_irrefl _)
  · exact absurd (Nat.lt_of_lt_of_le (Heap.lt_size (I.pin p hp).1) (by rw [z]; exact hb)) (Nat.lt_irrefl _)
structure Turn (P : Program) (w : World) (K : PySem.W.Frag) (tg : Expr) (J : It) (fp : List Addr) (it : Addr) (tn : Nat → Heap → Prop) : Prop where
  mem : it ∈ fp
  obj : ∀ i h, tn i h → ∀ b ∈ fp, ∃ o, h.get? b = some o ∧ ∀ v, o.data ≠ .cell v
  keep : ∀ i h h', tn i h → (∀ b ∈ fp, ∀ o, h.get? b = some o → h'.get? b = some o) → tn i h'
  item : ∀ (X : Cx), X.prog = P → X.w = w → X.K = K → X.calm = true → ∀ (i : Nat) (pins : List (Addr × Obj)) (s : Shared) (σ : St) (H : Hp) (E : Value → Shared → Prop), Inv X pins σ H s → (∀ b ∈ fp, FpOk X pins H b) → tn i s.heap → J.go i H →
    wpAny (model P w) X.A (pyNext (.ref it)) (fun r s1 => ∃ u, r = some u ∧
      wpAny (model P w) X.A (letOwnedTupleGo tg (.ref it) u) (fun _ s2 => ∃ x H', Inv X pins σ H' s2 ∧ RelV x u ∧ J.yld i H x H' ∧ tn (i + 1) s2.heap ∧ ∀ b ∈ fp, H' b = none) E s1) E s
  done : ∀ (X : Cx), X.prog = P → X.w = w → X.K = K → X.calm = true → ∀ (i : Nat) (pins : List (Addr × Obj)) (s : Shared) (σ : St) (H : Hp) (E : Value → Shared → Prop), Inv X pins σ H s → (∀ b ∈ fp, FpOk X pins H b) → tn i s.heap → J.stop i H →
    wpAny (model P w) X.A (pyNext (.ref it)) (fun r s1 => r = none ∧ Inv X pins σ H s1) E s
  self : ∀ (A : Around) (i : Nat) (s : Shared) (Q : Value → Shared → Prop) (E : Value → Shared → Prop), tn i s.heap → Q (.ref it) s → wpAny (model P w) A (pyIter (.ref it)) Q E s
noncomputable abbrev TI := St → Hp → (It → Hp → Prop) → Prop
noncomputable def PIE (X : Cx) (pins : List (Addr × Obj)) (σ : St) (tg : Expr) (R : It → Hp → Prop) (itv : Value) (s2 : Shared) : Prop :=
  ∃ (it : Addr) (fp : List Addr) (tn : Nat → Heap → Prop) (J : It) (H' : Hp), itv = .ref it ∧ Inv X pins σ H' s2 ∧ Turn X.prog X.w X.K tg J fp it tn ∧ tn 0 s2.heap ∧ (∀ b ∈ fp, FpOk X pins H' b) ∧ R J H'
noncomputable def PI (X : Cx) (tg iter : Expr) (wi : TI) : Prop :=
  ∀ (pins : List (Addr × Obj)) (s : Shared) (σ : St) (H : Hp) (R : It → Hp → Prop), Inv X pins σ H s → wi σ H R →
    wpAny (model X.prog X.w) X.A (eval iter X.env) (fun v s1 => wpAny (model X.prog X.w) X.A (pyIter v) (PIE X pins σ tg R) X.xe s1) X.xe s
theorem go_of {M : Model} {A : Around} {E : Value → Shared → Prop} {s : Shared} {tg : Expr} {it : Addr} {u : Value} {o : Obj} {n : String} {vs : Array Value} {Q : Unit → Shared → Prop} (ho : s.heap.get? it = some o) (hc : o.cls = .type n) (hd : o.data = .fields vs)
    (hn : ["enumerate", "zip", "dict_itemiterator", "dict_reverseitemiterator", "odict_iterator", "itertools.zip_longest", "itertools.pairwise"].contains n = false) (hQ : Q () s) : wpAny M A (letOwnedTupleGo tg (.ref it) u) Q E s := by
  unfold letOwnedTupleGo
  cases tg <;> first
    | exact wpAny_pure hQ
    | (cases u <;> first
        | exact wpAny_pure hQ
        | (refine wpAny_bind (wpAny_load ho ?_)
           rw [hc, hd]
           show wpAny M A (if (["enumerate", "zip", "dict_itemiterator", "dict_reverseitemiterator", "odict_iterator", "itertools.zip_longest", "itertools.pairwise"].contains n && vs[0]? == some (rawInt _)) = true then _ else _) Q E s
           rw [if_neg (by intro h; rw [hn, Bool.false_and] at h; cases h)]
           exact wpAny_pure hQ))
noncomputable def Itl (K : PySem.W.Frag) (a : Addr) : It :=
  ⟨fun i H => ∃ xs x, SqL K H a xs ∧ xs[i]? = some x, fun i H x H' => H' = H ∧ ∀ xs, SqL K H a xs → xs[i]? = some x, fun i H => ∃ xs, SqL K H a xs ∧ xs.length ≤ i⟩
noncomputable def Itt (K : PySem.W.Frag) (a : Addr) : It :=
  ⟨fun i H => ∃ xs x, SqT K H a xs ∧ xs[i]? = some x, fun i H x H' => H' = H ∧ ∀ xs, SqT K H a xs → xs[i]? = some x, fun i H => ∃ xs, SqT K H a xs ∧ xs.length ≤ i⟩
noncomputable def Itr (lo : Int) (n : Nat) : It := ⟨fun i _ => i < n, fun i H x H' => H' = H ∧ x = .int (lo + i), fun i _ => n ≤ i⟩
theorem turn_list {P : Program} {w : World} {K : PySem.W.Frag} {tg : Expr} (a it : Addr) : Turn P w K tg (Itl K a) [it] it (fun i h => h.IsListIter it a i) where
  mem := by simp
  obj := fun i h st b hb => by
    have e : b = it := by simpa using hb
    subst e
    obtain ⟨o, e, c, d⟩ := st
    exact ⟨o, e, fun v z => by rw [d] at z; cases z⟩
  keep := fun i h h' st k => st.at fun o e => k it (by simp) o e
  item := by
    intro X hP hw hK hc i pins s σ H E I hf st hg
    subst hP hw hK
    obtain ⟨xs, x, hq, hx⟩ := hg
    obtain ⟨its, rv, p, hz⟩ := I.list hq
    obtain ⟨u, hu, ru⟩ := rv.get hx
    obtain ⟨f0, f1, f2, f3, f4, f5⟩ := hf it (by simp)
    refine wpAny_pyNext_list_item st p.isList (x := u) (by simpa using hu) fun h' st' sb => ?_
    have I1 : Inv X pins σ H { s with heap := h' } := I.turned (t' := s.toks) (fun b o hb e => (sb.2 b hb).trans e) f0 f1 f3 f4 f5
    obtain ⟨o, e, c, d⟩ := id st'
    exact ⟨u, rfl, go_of (s := { s with heap := h' }) e c d (by decide) ⟨x, H, I1, ru, ⟨rfl, fun ys hy => by rw [I.list_inj hy hq]; exact hx⟩, st', fun b hb => (hf b hb).1⟩⟩
  done := by
    intro X hP hw hK hc i pins s σ H E I hf st hg
    subst hP hw hK
    obtain ⟨xs, hq, hx⟩ := hg
    obtain ⟨its, rv, p, hz⟩ := I.list hq
    obtain ⟨f0, f1, f2, f3, f4, f5⟩ := hf it (by simp)
    have hl := rv.length
    exact wpAny_pyNext_list_end (I.ok.hd hc) st p.isList (by simp; trivial) fun h' eb => ⟨rfl, I.turned (t' := s.toks) (fun b o hb e => eb b o hb e) f0 f1 f3 f4 f5⟩
  self := fun _ _ _ _ _ st h => wpAny_pyIter_listiter st h
theorem turn_range {P : Program} {w : World} {K : PySem.W.Frag} {tg : Expr} (it : Addr) (lo : Int) (n : Nat) : Turn P w K tg (Itr lo n) [it] it (fun i h => IsRangeIter h it (lo + (i : Nat) * 1) ((n : Int) - (i : Nat)) 1) where
  mem := by simp
  obj := fun i h st b hb => by
    have e : b = it := by simpa using hb
    subst e
    exact ⟨_, st, fun v z => by
      have z' : Data.fields _ = Data.cell v := z
      cases z'⟩
  keep := fun i h h' st k => k it (by simp) _ st
  item := by
    intro X hP hw hK hc i pins s σ H E I hf st hg
    subst hP hw hK
    obtain ⟨f0, f1, f2, f3, f4, f5⟩ := hf it (by simp)
    have W := Walks.range (prog := X.prog) (w := X.w) (I.ok.hd hc) it lo 1 n
    refine W.item i s _ _ hg st fun v h' tk hv st' kk => ?_
    obtain ⟨t, rfl⟩ := hv
    have I1 : Inv X pins σ H { s with heap := h', toks := tk } := I.turned (fun b o hb e => kk b o (by simpa using hb) e) f0 f1 f3 f4 f5
    refine ⟨_, rfl, go_of (s := { s with heap := h', toks := tk }) (n := "range_iterator") st' rfl rfl (by decide) ⟨.int (lo + i), H, I1, ⟨t, ?_⟩, ⟨rfl, rfl⟩, st', fun b hb => (hf b hb).1⟩⟩
    rw [Int.mul_one]
  done := by
    intro X hP hw hK hc i pins s σ H E I hf st hg
    subst hP hw hK
    obtain ⟨f0, f1, f2, f3, f4, f5⟩ := hf it (by simp)
    exact wpAny_pyNext_range_end (I.ok.hd hc) st (by have : n ≤ i := hg; trivial) fun h' eb => ⟨rfl, I.turned (t' := s.toks) (fun b o hb e => eb b o hb e) f0 f1 f3 f4 f5⟩
  self := fun _ _ _ _ _ st h => wpAny_pyIter_rangeiter st h
end L2
namespace L2
open PySem PySem.Spec PyProof.Rows
section
variable {X : Cx} {tg : Expr}
noncomputable def iList (K : PySem.W.Frag) (tl : TE) : TI := fun σ H R => tl σ H fun x H1 => ∃ a, x = .ref a ∧ (∃ xs, SqL K H1 a xs) ∧ R (Itl K a) H1
noncomputable def iTup (K : PySem.W.Frag) (tl : TE) : TI := fun σ H R => tl σ H fun x H1 => ∃ a, x = .ref a ∧ (∃ xs, SqT K H1 a xs) ∧ R (Itt K a) H1
theorem range_it {pins : List (Addr × Obj)} {σ : St} {H : Hp} {s : Shared} {R : It → Hp → Prop} {E : Value → Shared → Prop} {lo hi : Int} {t u v : Tok} {tk : Nat} (I : Inv X pins σ H s) (h1 : -(2 ^ 62) ≤ lo) (h2 : lo < 2 ^ 62) (h3 : -(2 ^ 62) ≤ hi) (h4 : hi < 2 ^ 62)
    (q : R (Itr lo (hi - lo).toNat) H) : wpAny (model X.prog X.w) X.A (pyIter (.ref s.heap.objs.size)) (PIE X pins σ tg R) E { s with heap := s.heap.push { cls := .type "range", data := .fields #[.int lo t, .int hi u, .int 1 v] }, toks := tk } := by
  refine wpAny_pyIter_range (IsRange.new ..) (small_one h1 h2 h3 h4) ?_
  have I1 : Inv X pins σ H { s with heap := s.heap.push { cls := .type "range", data := .fields #[.int lo t, .int hi u, .int 1 v] }, toks := tk } := I.kept fun b o e => Heap.get?_push_of_some _ e
  refine ⟨(s.heap.push { cls := .type "range", data := .fields #[.int lo t, .int hi u, .int 1 v] }).objs.size, [(s.heap.push { cls := .type "range", data := .fields #[.int lo t, .int hi u, .int 1 v] }).objs.size], _, _, H, rfl,
    I1.kept (t' := tk) fun b o e => Heap.get?_push_of_some _ e, turn_range _ lo (hi - lo).toNat, ?_, fun b hb => ?_, q⟩
  · have e1 : lo + ((0 : Nat) : Int) * 1 = lo := by simp
    have e2 : (((hi - lo).toNat : Nat) : Int) - ((0 : Nat) : Int) = Builtin.Range.rangeSize lo hi 1 := by rw [rangeSize_one]; split <;> trivial
    show IsRangeIter _ _ (lo + ((0 : Nat) : Int) * 1) ((((hi - lo).toNat : Nat) : Int) - ((0 : Nat) : Int)) 1
    rw [e1, e2]
    exact Heap.get?_push_size _ rfl
  · have e : b = (s.heap.push { cls := .type "range", data := .fields #[.int lo t, .int hi u, .int 1 v] }).objs.size := by simpa using hb
    subst e
    exact I1.fpOk (Nat.le_refl _) (I1.hok.fresh (Nat.le_refl _))
noncomputable def iRng1 (ta : TA) : TI := fun σ H R => ta σ H fun vs H1 => ∃ j : Int, vs = [.int j] ∧ -(2 ^ 62) ≤ j ∧ j < 2 ^ 62 ∧ R (Itr 0 j.toNat) H1
noncomputable def iRng2 (ta : TA) : TI := fun σ H R => ta σ H fun vs H1 => ∃ i j : Int, vs = [.int i, .int j] ∧ (-(2 ^ 62) ≤ i ∧ i < 2 ^ 62 ∧ -(2 ^ 62) ≤ j ∧ j < 2 ^ 62) ∧ R (Itr i (j - i).toNat) H1
theorem pi_range1 {a : Expr} {ta : TA} {p pos : Pos} (hg : Gl X "range") (hm : X.mg "range" = none) (ha : PA X [a] ta) (hs : starEach [a] X.env = [(false, eval a X.env)] := by rfl) : PI X tg (.Call (.Name "range" p) [a] [] pos) (iRng1 ta) := by
  intro pins s σ H R I h
  refine Call_ (ld_blt I hg hm boot_range (PyProof.Rows.callWith_type1 (thn (ha pos pins s σ H _ I h) fun us s1 ⟨vs, H1, I1, r1, q1⟩ => ?_) hs rfl))
  obtain ⟨j, e, q1, q2, q⟩ := q1
  subst e
  cases r1 with
  | cons r rr =>
    cases rr
    obtain ⟨t, rfl⟩ := r
    exact call_range_1 (range_it I1 (by trivial) (by trivial) q1 q2 (by simpa using q))
noncomputable def tFor (wi : TI) (g : TG) (tb : TS) : TS := fun D σ H => wi σ H fun J H1 => ∃ W : Nat → Nat → St → Hp → Prop, (∃ m, W 0 m σ H1) ∧ ∀ i m σ H, W i m σ H →
  (J.stop i H ∧ D.nx σ H) ∨ (J.go i H ∧ ∃ N : St → Hp → Prop, (∀ σ' H', N σ' H' → ∃ m', m' < m ∧ W (i + 1) m' σ' H') ∧ ∀ x H', J.yld i H x H' → g x σ H' fun σ2 H2 => tb { D with nx := N, ct := N, bk := D.nx } σ2 H2)
noncomputable def pinsAt (fp : List Addr) (h : Heap) : List (Addr × Obj) := fp.filterMap fun b => (h.get? b).map fun o => (b, o)
theorem mem_pinsAt {fp : List Addr} {h : Heap} {b : Addr} {o : Obj} (hb : b ∈ fp) (e : h.get? b = some o) : (b, o) ∈ pinsAt fp h := List.mem_filterMap.mpr ⟨b, hb, by rw [e]; rfl⟩
theorem of_pinsAt {fp : List Addr} {h : Heap} {p : Addr × Obj} (hp : p ∈ pinsAt fp h) : p.1 ∈ fp ∧ h.get? p.1 = some p.2 := by
  obtain ⟨b, hb, e⟩ := List.mem_filterMap.mp hp
  cases q : h.get? b with
  | none => rw [q] at e; cases e
  | some o =>
    rw [q] at e
    have e' : (b, o) = p := Option.some.inj e
    subst e'
    exact ⟨hb, q⟩
theorem Inv.pinned {pins : List (Addr × Obj)} {σ : St} {H : Hp} {s : Shared} {fp : List Addr} (I : Inv X pins σ H s) (hf : ∀ b ∈ fp, FpOk X pins H b) (ho : ∀ b ∈ fp, ∃ o, s.heap.get? b = some o ∧ ∀ v, o.data ≠ .cell v) : Inv X (pins ++ pinsAt fp s.heap) σ H s :=
  I.pins_of fun p hp => (List.mem_append.mp hp).elim (fun z => I.pin p (List.mem_append_right _ z)) fun z => by
    obtain ⟨hb, e⟩ := of_pinsAt z
    obtain ⟨f0, f1, f2, _⟩ := hf p.1 hb
    obtain ⟨o, e', d⟩ := ho p.1 hb
    rw [e] at e'; cases e'
    exact ⟨e, f0, f1, f2, d⟩
theorem Inv.unpinned {pins pl : List (Addr × Obj)} {σ : St} {H : Hp} {s : Shared} (I : Inv X (pins ++ pl) σ H s) : Inv X pins σ H s := I.pins_of fun p hp => I.pin p (List.mem_append_right _ (List.mem_append_left _ hp))
theorem ps_for {iter : Expr} {body : List Stmt} {wi : TI} {g : TG} {tb : TS} {pos : Pos} (hp : PassesOwn (model X.prog X.w) X.A X.env X.xe) (hc : X.calm = true) (hi : PI X tg iter wi) (hg : PG X tg g) (hb : PSs X body tb)
    (hs : ∀ x, foldedSetIterable iter X.env x = pure x := by intro _; rfl) : PS X (.For tg iter body [] pos) (tFor wi g tb) := by
  intro pins s σ H D I h
  refine wpAny_For (thn (hi pins s σ H _ I h) fun v s1 h1 => thn h1 fun itv s2 h2 => ?_) hs
  obtain ⟨it, fp, tn, J, H2, e, I2, T, st2, f2, W, ⟨m0, w0⟩, turn⟩ := h2
  subst e
  have stat : ∀ {H' : Hp}, (∀ b ∈ fp, H' b = none) → ∀ b ∈ fp, FpOk X pins H' b := fun hn b hb => ⟨hn b hb, (f2 b hb).2⟩
  refine codeAny_forLoop_any (fun n s' => ∃ i σ' H', Inv X pins σ' H' s' ∧ tn i s'.heap ∧ (∀ b ∈ fp, H' b = none) ∧ W i n σ' H') ?_ m0 ⟨0, σ, H2, I2, st2, fun b hb => (f2 b hb).1, w0⟩
  rintro n s3 ⟨i, σ3, H3, I3, st3, fr3, w3⟩
  rcases turn i n σ3 H3 w3 with ⟨stop, qn⟩ | ⟨go, N, hN, step⟩
  · refine wpAny_passesOwn hp (thn (T.done X rfl rfl rfl hc i pins s3 σ3 H3 X.xe I3 (stat fr3) st3 stop) fun r s4 ⟨hr, I4⟩ => ?_)
    subst hr
    exact wpAny_execs_nil ⟨σ3, H3, I4, qn⟩
  · refine wpAny_passesOwn hp (thn (T.item X rfl rfl rfl hc i pins s3 σ3 H3 X.xe I3 (stat fr3) st3 go) fun r s4 ⟨u, hr, h4⟩ => ?_)
    subst hr
    refine wpAny_passesOwn hp (thn h4 fun _ s5 ⟨x, H5, I5, r5, y5, st5, fr5⟩ => ?_)
    have I5' := I5.pinned (stat fr5) (T.obj _ _ st5)
    refine wpAny_passesOwn hp (thn (hg _ s5 σ3 H5 x u _ I5' r5 (step x H5 y5)) fun _ s6 ⟨σ6, H6, I6, q6⟩ => ?_)
    refine wpAny_passesOwn hp (thn (hb _ s6 σ6 H6 _ I6 q6) fun f s7 q7 => ?_)
    have again : ∀ {σ7 : St} {H7 : Hp}, Inv X (pins ++ pinsAt fp s5.heap) σ7 H7 s7 → N σ7 H7 → ∃ m, m < n ∧ ∃ i σ' H', Inv X pins σ' H' s7 ∧ tn i s7.heap ∧ (∀ b ∈ fp, H' b = none) ∧ W i m σ' H' := fun {σ7 H7} I7 n7 => by
      obtain ⟨m', hm, w7⟩ := hN σ7 H7 n7
      refine ⟨m', hm, i + 1, σ7, H7, I7.unpinned, T.keep _ _ _ st5 fun b hb o e => (I7.pin (b, o) (List.mem_append_right _ (List.mem_append_right _ (mem_pinsAt hb e)))).1, fun b hb => ?_, w7⟩
      obtain ⟨o, e, d⟩ := T.obj _ _ st5 b hb
      exact (I7.pin (b, o) (List.mem_append_right _ (List.mem_append_right _ (mem_pinsAt hb e)))).2.1
    cases f with
    | next => obtain ⟨σ7, H7, I7, n7⟩ := q7; exact again I7 n7
    | cont => obtain ⟨σ7, H7, I7, n7⟩ := q7; exact again I7 n7
    | brk => obtain ⟨σ7, H7, I7, q7⟩ := q7; exact ⟨σ7, H7, I7.unpinned, q7⟩
    | ret v => obtain ⟨x7, σ7, H7, I7, r7, q7⟩ := q7; exact ⟨x7, σ7, H7, I7.unpinned, r7, q7⟩
end
theorem for_list {K : PySem.W.Frag} {a : Addr} {xs : List V} {g : TG} {tb : TS} {D : Ends} {σ : St} {H : Hp} (Pv : Nat → St → Hp → Prop) (h0 : Pv 0 σ H) (hl : ∀ i σ H, i ≤ xs.length → Pv i σ H → SqL K H a xs)
    (hs : ∀ i x σ H, xs[i]? = some x → Pv i σ H → g x σ H fun σ2 H2 => tb { D with nx := Pv (i + 1), ct := Pv (i + 1), bk := D.nx } σ2 H2) (hd : ∀ σ H, Pv xs.length σ H → D.nx σ H) :
    ∃ W : Nat → Nat → St → Hp → Prop, (∃ m, W 0 m σ H) ∧ ∀ i m σ H, W i m σ H →
      ((Itl K a).stop i H ∧ D.nx σ H) ∨ ((Itl K a).go i H ∧ ∃ N : St → Hp → Prop, (∀ σ' H', N σ' H' → ∃ m', m' < m ∧ W (i + 1) m' σ' H') ∧ ∀ x H', (Itl K a).yld i H x H' → g x σ H' fun σ2 H2 => tb { D with nx := N, ct := N, bk := D.nx } σ2 H2) := by
  refine ⟨fun i m σ H => m = xs.length - i ∧ i ≤ xs.length ∧ Pv i σ H, ⟨xs.length, by simp, Nat.zero_le _, h0⟩, ?_⟩
  rintro i m σ H ⟨rfl, hi, p⟩
  have q := hl i σ H hi p
  by_cases hlt : i < xs.length
  · refine .inr ⟨⟨xs, xs[i], q, by simp [hlt]⟩, Pv (i + 1), fun σ' H' p' => ⟨xs.length - (i + 1), by trivial, rfl, hlt, p'⟩, fun x H' y => ?_⟩
    obtain ⟨e, y⟩ := y
    subst e
    exact hs i x σ _ (y xs q) p
  · have e : i = xs.length := by trivial
    subst e
    exact .inl ⟨⟨xs, q, Nat.le_refl _⟩, hd σ H p⟩
theorem for_range {lo : Int} {n : Nat} {g : TG} {tb : TS} {D : Ends} {σ : St} {H : Hp} (Pv : Nat → St → Hp → Prop) (h0 : Pv 0 σ H)
    (hs : ∀ i σ H, i < n → Pv i σ H → g (.int (lo + i)) σ H fun σ2 H2 => tb { D with nx := Pv (i + 1), ct := Pv (i + 1), bk := D.nx } σ2 H2) (hd : ∀ σ H, Pv n σ H → D.nx σ H) :
    ∃ W : Nat → Nat → St → Hp → Prop, (∃ m, W 0 m σ H) ∧ ∀ i m σ H, W i m σ H →
      ((Itr lo n).stop i H ∧ D.nx σ H) ∨ ((Itr lo n).go i H ∧ ∃ N : St → Hp → Prop, (∀ σ' H', N σ' H' → ∃ m', m' < m ∧ W (i + 1) m' σ' H') ∧ ∀ x H', (Itr lo n).yld i H x H' → g x σ H' fun σ2 H2 => tb { D with nx := N, ct := N, bk := D.nx } σ2 H2) := by
  refine ⟨fun i m σ H => m = n - i ∧ i ≤ n ∧ Pv i σ H, ⟨n, by simp, Nat.zero_le _, h0⟩, ?_⟩
  rintro i m σ H ⟨rfl, hi, p⟩
  by_cases hlt : i < n
  · refine .inr ⟨hlt, Pv (i + 1), fun σ' H' p' => ⟨n - (i + 1), by trivial, rfl, hlt, p'⟩, fun x H' y => ?_⟩
    obtain ⟨e, y⟩ := y
    subst e y
    exact hs i σ _ hlt p
  · have e : i = n := by trivial
    subst e
    exact .inl ⟨Nat.le_refl _, hd σ H p⟩
end L2
namespace L2
open PySem PySem.Spec PyProof.Rows
noncomputable abbrev R2 := V → V → Hp → VK → Prop
noncomputable def OpR (X : Cx) (f : Value → Value → Sem Value) (r : R2) : Prop :=
  ∀ (pins : List (Addr × Obj)) (s : Shared) (σ : St) (H : Hp) (x y : V) (v u : Value) (Q : VK), Inv X pins σ H s → RelV x v → RelV y u → r x y H Q →
    wpAny (model X.prog X.w) X.A (f v u) (EP X pins σ Q) X.xe s
noncomputable def UnR (X : Cx) (f : Value → Sem Value) (r : V → Hp → VK → Prop) : Prop :=
  ∀ (pins : List (Addr × Obj)) (s : Shared) (σ : St) (H : Hp) (x : V) (v : Value) (Q : VK), Inv X pins σ H s → RelV x v → r x H Q →
    wpAny (model X.prog X.w) X.A (f v) (EP X pins σ Q) X.xe s
noncomputable def CallR (X : Cx) (f : Value) (r : List V → Hp → VK → Prop) : Prop :=
  ∀ (pins : List (Addr × Obj)) (s : Shared) (σ : St) (H : Hp) (xs : List V) (us : List Value) (Q : VK), Inv X pins σ H s → Vals xs us → r xs H Q →
    wpAny (model X.prog X.w) X.A (call f us) (EP X pins σ Q) X.xe s
noncomputable def TruR (X : Cx) (r : V → Hp → (Bool → Hp → Prop) → Prop) : Prop :=
  ∀ (pins : List (Addr × Obj)) (s : Shared) (σ : St) (H : Hp) (x : V) (v : Value) (Q : Bool → Hp → Prop), Inv X pins σ H s → RelV x v → r x H Q →
    wpAny (model X.prog X.w) X.A (truthy v) (TP X pins σ Q) X.xe s
noncomputable def tOp (r : R2) (ta tb : TE) : TE := fun σ H Q => ta σ H fun x H1 => tb σ H1 fun y H2 => r x y H2 Q
noncomputable def tUn (r : V → Hp → VK → Prop) (ta : TE) : TE := fun σ H Q => ta σ H fun x H1 => r x H1 Q
noncomputable def rI (C : Int → Int → Prop) (g : Int → Int → V) : R2 := fun x y H Q => ∃ i j, x = .int i ∧ y = .int j ∧ C i j ∧ Q (g i j) H
noncomputable def rI0 (g : Int → Int → V) : R2 := fun x y H Q => ∃ i j, x = .int i ∧ y = .int j ∧ Q (g i j) H
noncomputable def rU (g : Int → V) : V → Hp → VK → Prop := fun x H Q => ∃ i, x = .int i ∧ Q (g i) H
section
variable {X : Cx} {a b c : Expr} {ta tb tc : TE} {pos : Pos}
theorem binT (ha : PE X a ta) (hb : PE X b tb) {pins : List (Addr × Obj)} {s : Shared} {σ : St} {H : Hp} {R : V → V → Hp → Prop} (I : Inv X pins σ H s)
    (h : ta σ H fun x H1 => tb σ H1 fun y H2 => R x y H2) {Q : Value → Shared → Prop} {f : Value → Value → Sem Value}
    (hf : ∀ v u s2 x y H2, Inv X pins σ H2 s2 → RelV x v → RelV y u → R x y H2 → wpAny (model X.prog X.w) X.A (f v u) Q X.xe s2) :
    wpAny (model X.prog X.w) X.A (eval a X.env) (fun v s₁ => wpAny (model X.prog X.w) X.A (eval b X.env) (fun u s₂ => wpAny (model X.prog X.w) X.A (f v u) Q X.xe s₂) X.xe s₁) X.xe s := by
  refine thn (ha pins s σ H _ I h) fun v s1 ⟨x, H1, I1, r1, q1⟩ => ?_
  refine thn (hb pins s1 σ H1 _ I1 q1) fun u s2 ⟨y, H2, I2, r2, q2⟩ => ?_
  exact hf v u s2 x y H2 I2 r1 r2 q2
theorem pe_op {op : Operator} {r : R2} (ho : OpR X (binaryOp op) r) (ha : PE X a ta) (hb : PE X b tb) : PE X (.BinOp a op b pos) (tOp r ta tb) := by
  intro pins s σ H Q I h
  exact wpAny_BinOp (binT ha hb I h fun v u s2 x y H2 I2 rx ry q => ho pins s2 σ H2 x y v u Q I2 rx ry q)
theorem opI {f : Value → Value → Sem Value} {C : Int → Int → Prop} {g : Int → Int → Int}
    (rule : ∀ (i j : Int) (t u : Tok) (s : Shared) (Q : Value → Shared → Prop) (E : Value → Shared → Prop), C i j → Q (.int (g i j) s.toks) { s with toks := s.toks + 1 } → wpAny (model X.prog X.w) X.A (f (.int i t) (.int j u)) Q E s) :
    OpR X f (rI C fun i j => .int (g i j)) := by
  intro pins s σ H x y v u Q I rx ry h
  obtain ⟨i, j, rfl, rfl, hc, q⟩ := h
  obtain ⟨t, rfl⟩ := rx
  obtain ⟨t', rfl⟩ := ry
  exact rule i j t t' s _ _ hc ⟨.int (g i j), H, I.tok _, ⟨_, rfl⟩, q⟩
theorem opI0 {f : Value → Value → Sem Value} {g : Int → Int → Int}
    (rule : ∀ (i j : Int) (t u : Tok) (s : Shared) (Q : Value → Shared → Prop) (E : Value → Shared → Prop), Q (.int (g i j) s.toks) { s with toks := s.toks + 1 } → wpAny (model X.prog X.w) X.A (f (.int i t) (.int j u)) Q E s) :
    OpR X f (rI0 fun i j => .int (g i j)) := by
  intro pins s σ H x y v u Q I rx ry h
  obtain ⟨i, j, rfl, rfl, q⟩ := h
  obtain ⟨t, rfl⟩ := rx
  obtain ⟨t', rfl⟩ := ry
  exact rule i j t t' s _ _ ⟨.int (g i j), H, I.tok _, ⟨_, rfl⟩, q⟩
theorem opB0 {f : Value → Value → Sem Value} {g : Int → Int → Bool}
    (rule : ∀ (i j : Int) (t u : Tok) (s : Shared) (Q : Value → Shared → Prop) (E : Value → Shared → Prop), Q (.bool (g i j)) s → wpAny (model X.prog X.w) X.A (f (.int i t) (.int j u)) Q E s) :
    OpR X f (rI0 fun i j => .bl (g i j)) := by
  intro pins s σ H x y v u Q I rx ry h
  obtain ⟨i, j, rfl, rfl, q⟩ := h
  obtain ⟨t, rfl⟩ := rx
  obtain ⟨t', rfl⟩ := ry
  exact rule i j t t' s _ _ ⟨.bl (g i j), H, I, rfl, q⟩
noncomputable def CDiv (i j : Int) : Prop := 0 < j ∧ j < 1073741824
noncomputable def CDivN (i j : Int) : Prop := j ≠ 0 ∧ j.natAbs < 1073741824
noncomputable def CPow (i j : Int) : Prop := 0 ≤ j ∧ j ≤ 1000000 ∧ i.natAbs < 2 ^ 64
noncomputable def CMul (i j : Int) : Prop := (-(2 ^ 64) < i ∧ i < 2 ^ 64) ∨ (-(2 ^ 64) < j ∧ j < 2 ^ 64)
theorem CMul.ok {i j : Int} (h : CMul i j) : IntMulOk i j := by
  rcases h with ⟨h1, h2⟩ | ⟨h1, h2⟩
  · exact .of_left (intBits_le_64 h1 h2)
  · exact .of_right (intBits_le_64 h1 h2)
theorem op_add : OpR X (binaryOp .Add) (rI0 fun i j => .int (i + j)) := opI0 fun _ _ _ _ _ _ _ q => add_int q
theorem op_sub : OpR X (binaryOp .Sub) (rI0 fun i j => .int (i - j)) := opI0 fun _ _ _ _ _ _ _ q => sub_int q
theorem op_mul : OpR X (binaryOp .Mult) (rI CMul fun i j => .int (i * j)) := opI fun _ _ _ _ _ _ _ hc q => mul_int q hc.ok
theorem op_fdiv : OpR X (binaryOp .FloorDiv) (rI CDiv fun i j => .int (i / j)) := opI fun i j _ _ _ _ _ hc q => by
  have h1 : (0 : Int) < j := hc.1
  have h2 : j < 1073741824 := hc.2
  exact floordiv_int (by trivial) (by rw [Int.fdiv_eq_ediv_of_nonneg i (by trivial)]; exact q) (.inl (PyProof.noPylong_small (by trivial)))
theorem op_mod : OpR X (binaryOp .Mod) (rI (fun _ j => 0 < j) fun i j => .int (i % j)) := opI fun i j _ _ _ _ _ hc q => by
  have h1 : (0 : Int) < j := hc
  exact mod_int' (by trivial) (by rw [Int.fmod_eq_emod_of_nonneg i (by trivial)]; exact q)
theorem op_pow : OpR X (binaryOp .Pow) (rI CPow fun i j => .int (i ^ j.toNat)) := opI fun _ _ _ _ _ _ _ hc q => pow_int_small hc.1 hc.2.1 hc.2.2 q
end
noncomputable def scal : V → V → Bool
  | .non, .non => true | .non, .int _ => true | .int _, .non => true | .non, .bl _ => true | .bl _, .non => true | .non, .str _ => true | .str _, .non => true
  | .int _, .int _ => true | .bl _, .bl _ => true | .str _, .str _ => true | .byt _, .byt _ => true
  | .int _, .str _ => true | .str _, .int _ => true | .bl _, .str _ => true | .str _, .bl _ => true
  | _, _ => false
noncomputable def rEq : R2 := fun x y H Q => scal x y = true ∧ Q (.bl (decide (x = y))) H
noncomputable def rNe : R2 := fun x y H Q => scal x y = true ∧ Q (.bl (!decide (x = y))) H
theorem dec_int {i j : Int} : decide (V.int i = V.int j) = (i == j) := by
  rw [Bool.eq_iff_iff]
  simp
theorem dec_bl {i j : Bool} : decide (V.bl i = V.bl j) = (i == j) := by
  rw [Bool.eq_iff_iff]
  simp
theorem dec_str {i j : Str} : decide (V.str i = V.str j) = (i == j) := by
  rw [Bool.eq_iff_iff]
  simp
theorem dec_byt {i j : Array UInt8} : decide (V.byt i = V.byt j) = (i.toList == j.toList) := by
  rw [Bool.eq_iff_iff]
  cases i
  cases j
  simp
section
variable {X : Cx} {a b c : Expr} {ta tb tc : TE} {pos : Pos}
theorem fin_bl {pins : List (Addr × Obj)} {σ : St} {H : Hp} {s : Shared} {Q : VK} {k k' : Bool} (I : Inv X pins σ H s) (q : Q (.bl k) H) (e : k = k') : EP X pins σ Q (.bool k') s := by
  subst e
  exact ⟨.bl k, H, I, rfl, q⟩
theorem op_eq : OpR X (compareOp .Eq) rEq := by
  intro pins s σ H x y v u Q I rx ry h
  obtain ⟨hs, q⟩ := h
  cases x with
  | non =>
    cases rx
    cases y with
    | non => cases ry; exact PySem.EqNone.eq_none_none (fin_bl I q (by simp))
    | bl j => cases ry; exact PySem.EqNone.eq_none_bool (fin_bl I q (by simp))
    | int j => obtain ⟨t', rfl⟩ := ry; exact PySem.EqNone.eq_none_int (fin_bl I q (by simp))
    | str j => obtain ⟨t', rfl⟩ := ry; exact PySem.EqNone.eq_none_str (fin_bl I q (by simp))
    | _ => exact absurd (show false = true from hs) Bool.false_ne_true
  | bl i =>
    cases rx
    cases y with
    | non => cases ry; exact PySem.EqNone.eq_bool_none (fin_bl I q (by simp))
    | bl j => cases ry; exact eq_bool (fin_bl I q dec_bl)
    | str j => obtain ⟨t', rfl⟩ := ry; exact PySem.EqMixed.eq_bool_str (fin_bl I q (by simp))
    | _ => exact absurd (show false = true from hs) Bool.false_ne_true
  | int i =>
    obtain ⟨t, rfl⟩ := rx
    cases y with
    | non => cases ry; exact PySem.EqNone.eq_int_none (fin_bl I q (by simp))
    | int j => obtain ⟨t', rfl⟩ := ry; exact eq_int (fin_bl I q dec_int)
    | str j => obtain ⟨t', rfl⟩ := ry; exact PySem.EqMixed.eq_int_str (fin_bl I q (by simp))
    | _ => exact absurd (show false = true from hs) Bool.false_ne_true
  | str i =>
    obtain ⟨t, rfl⟩ := rx
    cases y with
    | non => cases ry; exact PySem.EqNone.eq_str_none (fin_bl I q (by simp))
    | bl j => cases ry; exact PySem.EqMixed.eq_str_bool (fin_bl I q (by simp))
    | int j => obtain ⟨t', rfl⟩ := ry; exact PySem.EqMixed.eq_str_int (fin_bl I q (by simp))
    | str j => obtain ⟨t', rfl⟩ := ry; exact eq_str (fin_bl I q dec_str)
    | _ => exact absurd (show false = true from hs) Bool.false_ne_true
  | byt i =>
    obtain ⟨t, rfl⟩ := rx
    cases y with
    | byt j => obtain ⟨t', rfl⟩ := ry; exact PySem.W.eq_bytes (fin_bl I q dec_byt)
    | _ => exact absurd (show false = true from hs) Bool.false_ne_true
  | _ => cases y <;> exact absurd (show false = true from hs) Bool.false_ne_true
theorem op_ne : OpR X (compareOp .NotEq) rNe := by
  intro pins s σ H x y v u Q I rx ry h
  obtain ⟨hs, q⟩ := h
  cases x with
  | non =>
    cases rx
    cases y with
    | non => cases ry; exact PySem.EqNone.ne_none_none (fin_bl I q (by simp))
    | bl j => cases ry; exact PySem.EqNone.ne_none_bool (fin_bl I q (by simp))
    | int j => obtain ⟨t', rfl⟩ := ry; exact PySem.EqNone.ne_none_int (fin_bl I q (by simp))
    | str j => obtain ⟨t', rfl⟩ := ry; exact PySem.EqNone.ne_none_str (fin_bl I q (by simp))
    | _ => exact absurd (show false = true from hs) Bool.false_ne_true
  | bl i =>
    cases rx
    cases y with
    | non => cases ry; exact PySem.EqNone.ne_bool_none (fin_bl I q (by simp))
    | bl j => cases ry; exact ne_bool (fin_bl I q (congrArg not dec_bl))
    | str j => obtain ⟨t', rfl⟩ := ry; exact PySem.EqMixed.ne_bool_str (fin_bl I q (by simp))
    | _ => exact absurd (show false = true from hs) Bool.false_ne_true
  | int i =>
    obtain ⟨t, rfl⟩ := rx
    cases y with
    | non => cases ry; exact PySem.EqNone.ne_int_none (fin_bl I q (by simp))
    | int j => obtain ⟨t', rfl⟩ := ry; exact ne_int (fin_bl I q (congrArg not dec_int))
    | str j => obtain ⟨t', rfl⟩ := ry; exact PySem.EqMixed.ne_int_str (fin_bl I q (by simp))
    | _ => exact absurd (show false = true from hs) Bool.false_ne_true
  | str i =>
    obtain ⟨t, rfl⟩ := rx
    cases y with
    | non => cases ry; exact PySem.EqNone.ne_str_none (fin_bl I q (by simp))
    | bl j => cases ry; exact PySem.EqMixed.ne_str_bool (fin_bl I q (by simp))
    | int j => obtain ⟨t', rfl⟩ := ry; exact PySem.EqMixed.ne_str_int (fin_bl I q (by simp))
    | str j => obtain ⟨t', rfl⟩ := ry; exact ne_str (fin_bl I q (congrArg not dec_str))
    | _ => exact absurd (show false = true from hs) Bool.false_ne_true
  | byt i =>
    obtain ⟨t, rfl⟩ := rx
    cases y with
    | byt j => obtain ⟨t', rfl⟩ := ry; exact PySem.W.ne_bytes (fin_bl I q (congrArg not dec_byt))
    | _ => exact absurd (show false = true from hs) Bool.false_ne_true
  | _ => cases y <;> exact absurd (show false = true from hs) Bool.false_ne_true
theorem op_lt : OpR X (compareOp .Lt) (rI0 fun i j => .bl (decide (i < j))) := opB0 fun _ _ _ _ _ _ _ q => lt_int q
theorem op_gt : OpR X (compareOp .Gt) (rI0 fun i j => .bl (decide (j < i))) := opB0 fun _ _ _ _ _ _ _ q => gt_int q
theorem op_ge : OpR X (compareOp .GtE) (rI0 fun i j => .bl (decide (j ≤ i))) := opB0 fun _ _ _ _ _ _ _ q => ge_int q
theorem op_isN : OpR X (compareOp .Is) (fun x y H Q => y = .non ∧ Q (.bl (decide (x = .non))) H) := by
  intro pins s σ H x y v u Q I rx ry h
  obtain ⟨rfl, q⟩ := h
  cases ry
  refine is_none_gen (fin_bl I q ?_)
  cases x <;> first
    | (cases rx; rfl)
    | (obtain ⟨t, rfl⟩ := rx; rfl)
theorem op_notN : OpR X (compareOp .IsNot) (fun x y H Q => y = .non ∧ Q (.bl (!decide (x = .non))) H) := by
  intro pins s σ H x y v u Q I rx ry h
  obtain ⟨rfl, q⟩ := h
  cases ry
  refine isnot_none_gen (fin_bl I q ?_)
  cases x <;> first
    | (cases rx; rfl)
    | (obtain ⟨t, rfl⟩ := rx; rfl)
noncomputable def isObj : HO → Bool
  | .lst _ => true
  | .ins _ _ _ => true
  | _ => false
theorem OpR.or {f : Value → Value → Sem Value} {r r' : R2} (h : OpR X f r) (h' : OpR X f r') : OpR X f (fun x y H Q => r x y H Q ∨ r' x y H Q) := by
  intro pins s σ H x y v u Q I rx ry q
  rcases q with q | q
  · exact h pins s σ H x y v u Q I rx ry q
  · exact h' pins s σ H x y v u Q I rx ry q
theorem nomark (b : Expr) {op : CmpOp} (h : op ≠ .In := by decide) (h2 : op ≠ .NotIn := by decide) : behindInMarks op b = false := by
  have e1 : (op == CmpOp.In) = false := by cases op <;> first | rfl | exact absurd rfl h
  have e2 : (op == CmpOp.NotIn) = false := by cases op <;> first | rfl | exact absurd rfl h2
  cases b <;> simp [behindInMarks, e1, e2]
theorem pe_cmpR {op : CmpOp} {r : R2} (ho : OpR X (compareOp op) r) (ha : PE X a ta) (hb : PE X b tb) (hm : behindInMarks op b = false) : PE X (.Compare a [op] [b] pos) (tOp r ta tb) := by
  intro pins s σ H Q I h
  exact wpAny_Compare1 (binT ha hb I h fun v u s2 x y H2 I2 rx ry q => ho pins s2 σ H2 x y v u Q I2 rx ry q) hm
noncomputable def tTest (t : TE) : TT := fun σ H Q => t σ H fun x H' => ∃ k, x = .bl k ∧ Q k H'
theorem pt_cmpR {op : CmpOp} {r : R2} (ho : OpR X (compareOp op) r) (ha : PE X a ta) (hb : PE X b tb) (hm : behindInMarks op b = false) : PT X (.Compare a [op] [b] pos) (tTest (tOp r ta tb)) := by
  intro pins s σ H Q I h
  refine wpAny_isTrue_Compare1 (thn (ha pins s σ H _ I h) fun v s1 ⟨x, H1, I1, r1, q1⟩ => thn (hb pins s1 σ H1 _ I1 q1) fun u s2 ⟨y, H2, I2, r2, q2⟩ =>
    thn (ho pins s2 σ H2 x y v u _ I2 r1 r2 q2) fun c s3 ⟨z, H3, I3, r3, k, e, q3⟩ => ?_) hm
  subst e
  cases r3
  exact wpAny_truthy_bool ⟨H3, I3, q3⟩
noncomputable def tChain (r r' : R2) (ta tb tc : TE) : TE := fun σ H Q => ta σ H fun x H1 => tb σ H1 fun y H2 => r x y H2 fun z H3 => ∃ k, z = .bl k ∧
  (if k = true then tc σ H3 fun w' H4 => r' y w' H4 Q else Q (.bl false) H3)
noncomputable def TruV (K : PySem.W.Frag) (x : V) (H : Hp) (k : Bool) : Prop :=
  match x with
  | .non => k = false
  | .bl b => k = b
  | .int i => k = (i != 0)
  | .str y => y.length ≤ sizeLine ∧ k = ((y.length : Int) != 0)
  | .byt y => y.size ≤ sizeLine ∧ k = ((y.size : Int) != 0)
  | .ref p => (∃ xs, SqL K H p xs ∧ k = !xs.isEmpty) ∨ (∃ xs, SqT K H p xs ∧ k = !xs.isEmpty) ∨ ∃ kvs, H p = some (.dK kvs) ∧ k = !kvs.isEmpty
  | _ => False
theorem isEmpty_kv {κ : Type} {kvs : List (κ × V)} {vs : List (κ × Value)} (r : KV kvs vs) : (!vs.isEmpty) = !kvs.isEmpty := by
  cases r <;> rfl
theorem isEmpty_of {xs : List V} {its : List Value} (r : Vals xs its) : (!its.toArray.isEmpty) = !xs.isEmpty := by
  cases r <;> simp
theorem line63 : (sizeLine : Nat) < 2 ^ 63 := by rw [sizeLine_eq]; decide
theorem tru_ok : TruR X (fun x H Q => ∃ k, TruV X.K x H k ∧ Q k H) := by
  intro pins s σ H x v Q I rx h
  obtain ⟨k, e, q⟩ := h
  have hl := line63
  have hs : sizeLine = 16777216 := sizeLine_eq
  cases x with
  | non =>
    cases rx
    have e' : k = false := e
    subst e'
    exact truthy_none ⟨H, I, q⟩
  | bl b =>
    cases rx
    have e' : k = b := e
    subst e'
    exact wpAny_truthy_bool ⟨H, I, q⟩
  | int i =>
    obtain ⟨t, rfl⟩ := rx
    have e' : k = (i != 0) := e
    subst e'
    exact PySem.P.truthy_int ⟨H, I, q⟩
  | str y =>
    obtain ⟨t, rfl⟩ := rx
    obtain ⟨hy, e'⟩ : y.length ≤ sizeLine ∧ k = ((y.length : Int) != 0) := e
    subst e'
    exact PySem.P.truthy_str (by trivial) ⟨H, I.tok _, q⟩
  | byt y =>
    obtain ⟨t, rfl⟩ := rx
    obtain ⟨hy, e'⟩ : y.size ≤ sizeLine ∧ k = ((y.size : Int) != 0) := e
    subst e'
    exact PySem.W.truthy_bytes (by trivial) ⟨H, I.tok _, q⟩
  | ref p =>
    cases rx
    have e' : (∃ xs, SqL X.K H p xs ∧ k = !xs.isEmpty) ∨ (∃ xs, SqT X.K H p xs ∧ k = !xs.isEmpty) ∨ ∃ kvs, H p = some (.dK kvs) ∧ k = !kvs.isEmpty := e
    rcases e' with ⟨xs, hx, e'⟩ | ⟨xs, hx, e'⟩ | ⟨kvs, hx, e'⟩
    · subst e'
      obtain ⟨its, r, pl, hz⟩ := I.list hx
      have hlen := r.length
      exact wpAny_truthy_list pl.isList (by simp only [List.size_toArray]; trivial) ⟨H, I.tok _, by rw [isEmpty_of r]; exact q⟩
    · subst e'
      obtain ⟨its, r, pl, hz⟩ := I.tuple hx
      have hlen := r.length
      exact truthy_tuple pl (by simp only [List.size_toArray]; trivial) ⟨H, I.tok _, by rw [isEmpty_of r]; exact q⟩
    · subst e'
      obtain ⟨hz, hS, vs, r, m⟩ : kvs.length ≤ sizeLine ∧ (p == sysModules) = false ∧ ∃ vs, KV kvs vs ∧ s.heap.DictOf (mixKind X.prog X.w) p vs := I.hok p _ hx
      have hlen : kvs.length = vs.length := Paired.length r
      exact wpAny_truthy_dict hS m (by trivial) ⟨H, I.tok _, by rw [isEmpty_kv r]; exact q⟩
  | _ => exact (show False from e).elim
theorem op_add_str : OpR X (binaryOp .Add) (fun x y H Q => ∃ i j, x = .str i ∧ y = .str j ∧ i.length + j.length ≤ sizeLine ∧ Q (.str (i ++ j)) H) := by
  intro pins s σ H x y v u Q I rx ry h
  obtain ⟨i, j, rfl, rfl, hz, q⟩ := h
  obtain ⟨t, rfl⟩ := rx
  obtain ⟨t', rfl⟩ := ry
  exact add_str (fun t' tk => ⟨.str (i ++ j), H, I.tok _, ⟨_, rfl⟩, q⟩) hz
noncomputable def PlainIxT (b : Expr) : Prop := ∀ o i, subscripted b false o i = operate [o, i] (getItem o i)
theorem vals1 {x : V} {us : List Value} (r : Vals [x] us) : ∃ u, us = [u] ∧ RelV x u := by
  cases r with
  | cons r1 r2 => cases r2; exact ⟨_, rfl, r1⟩
theorem vals2 {x y : V} {us : List Value} (r : Vals [x, y] us) : ∃ u w', us = [u, w'] ∧ RelV x u ∧ RelV y w' := by
  cases r with
  | cons r1 r2 =>
    cases r2 with
    | cons r3 r4 => cases r4; exact ⟨_, _, rfl, r1, r3⟩
theorem call_min2 (hc : X.calm = true) : CallR X (.builtin "min") (fun xs H Q => ∃ i j, xs = [.int i, .int j] ∧ Q (.int (if j < i then j else i)) H) := by
  intro pins s σ H xs us Q I r h
  obtain ⟨i, j, rfl, q⟩ := h
  obtain ⟨u, w', rfl, ⟨t, rfl⟩, ⟨t', rfl⟩⟩ := vals2 r
  refine min_two_ints (I.ok.hd hc) fun h' tk k => ⟨_, H, I.kept k, ?_, q⟩
  by_cases hj : j < i
  · rw [if_pos hj, if_pos hj]; exact ⟨_, rfl⟩
  · rw [if_neg hj, if_neg hj]; exact ⟨_, rfl⟩
theorem call_str_int : CallR X (.type "str") (fun xs H Q => ∃ i, xs = [.int i] ∧ i.natAbs.log2 < 1920 ∧ Q (.str (toString i)) H) := by
  intro pins s σ H xs us Q I r h
  obtain ⟨i, rfl, hz, q⟩ := h
  obtain ⟨u, rfl, t, rfl⟩ := vals1 r
  exact PySem.P.str_of_int hz ⟨.str _, H, I.tok _, ⟨_, rfl⟩, q⟩
noncomputable def LenV (K : PySem.W.Frag) (x : V) (H : Hp) (n : Nat) : Prop :=
  match x with
  | .str y => y.length ≤ sizeLine ∧ n = y.length
  | .byt y => y.size ≤ sizeLine ∧ n = y.size
  | .ref p => (∃ xs, SqL K H p xs ∧ n = xs.length) ∨ ∃ xs, SqT K H p xs ∧ n = xs.length
  | _ => False
end
end L2
namespace L2
open PySem PySem.Spec PyProof.Rows
structure ObjM (h : Heap) (x dx C : Addr) (mA : Str → Option Value) : Prop where
  obj : h.get? x = some (PySem.W.instObj C dx)
  ns : h.Ns1 dx mA
  ne : dx ≠ x
theorem lookIn_ns {h : Heap} {dx : Addr} {mA : Str → Option Value} (n : h.Ns1 dx mA) : ∃ od, h.get? dx = some od ∧ ∀ name, PySem.W.lookIn name od = some (mA name) := by
  obtain ⟨o, es, ep, ho, hd, hk, _, hm⟩ := n
  refine ⟨o, ho, fun name => ?_⟩
  have e := hm name
  unfold nsFind findBy at e
  rw [← Array.find?_toList] at e
  unfold PySem.W.lookIn
  rw [hd]
  dsimp only
  split
  · rename_i y q
    rw [q] at e
    exact congrArg some e
  · rename_i q
    rw [q] at e
    have a : es.toList.any (·.refKey) = false := by
      rw [List.any_eq_false]
      intro y hy
      obtain ⟨z, t, hkey⟩ := hk y (Array.mem_toList_iff.mp hy)
      simp [DictEntry.refKey, hkey]
    have a' : ¬ es.toList.any (·.refKey) = true := by rw [a]; exact Bool.false_ne_true
    rw [if_neg a']
    exact congrArg some e
theorem ObjM.look {h : Heap} {x dx C : Addr} {mA : Str → Option Value} (I : ObjM h x dx C mA) : ∃ od, PySem.W.InstAt h x (PySem.W.instObj C dx) C (some od) ∧ ∀ name, PySem.W.lookIn name od = some (mA name) :=
  let ⟨od, ho, hl⟩ := lookIn_ns I.ns
  ⟨od, ⟨I.obj, rfl, rfl, ho⟩, hl⟩
section
variable {prog : Program} {w : World} {A : Around} {E : Value → Shared → Prop} {s : Shared} {K : PySem.W.Frag} {x dx C f : Addr} {mA : Str → Option Value} {name : Str} {v : Value}
end
noncomputable def putF (f : Str) (v : V) : List (Str × V) → List (Str × V)
  | [] => [(f, v)]
  | (g, x) :: r => if g = f then (g, v) :: r else (g, x) :: putF f v r
theorem RelO.none_of {o : Option Value} (r : RelO none o) : o = none := by
  cases o with
  | none => rfl
  | some u => exact (show False from r).elim
section
variable {P : Program} {w : World} {H H' : Hp} {h h' : Heap} {a C dx : Addr} {fs fs' : List (Str × V)}
theorem ins_get (hok : HOk P w H h) (e : H a = some (.ins C dx fs)) : ∃ mA, ObjM h a dx C mA ∧ (∀ f, RelO (fs.lookup f) (mA f)) ∧ PySem.Within mA (fs.map (·.1)) ∧ fs.length ≤ 1000 ∧ H dx = some (.own a) := by
  obtain ⟨d, z, ne, ob, mA, n, r, q⟩ := (show ObjOk P w H h a (.ins C dx fs) from hok a _ e)
  exact ⟨mA, ⟨ob, n, ne⟩, r, q, z, d⟩
end
structure Cls (K : PySem.W.Frag) (C : Addr) : Prop where
  pg : PySem.W.plainGet K C Str.empty = true
  hd : PySem.W.hasDictIn K C = true
  po : PySem.W.plainOver K C = true
  sa : PySem.W.findIn K (.ref C) "__setattr__" = some (some (.builtin "object.__setattr__"))
theorem Cls.get {K : PySem.W.Frag} {C : Addr} (c : Cls K C) (f : Str) : PySem.W.plainGet K C f = true := c.pg
noncomputable def NoAttr (K : PySem.W.Frag) (C : Addr) (f : Str) : Prop := PySem.W.findIn K (.ref C) f = some none
structure Con (K : PySem.W.Frag) (C : Addr) (f : Str) (v : V) (u : Value) : Prop where
  at_ : PySem.W.findIn K (.ref C) f = some (some u)
  rel : RelV v u
  get : PySem.W.specialIn K u "__get__" = some none
  cp : PySem.W.copiedNames.contains f = false
structure Meth (K : PySem.W.Frag) (C : Addr) (m : Str) (f : Addr) : Prop where
  at_ : PySem.W.findIn K (.ref C) m = some (some (.ref f))
  fn : PySem.W.isFn K (.ref f) = true
  kp : PySem.W.keepIn K (.ref f) = true
section
variable {X : Cx} {pins : List (Addr × Obj)} {σ : St} {H : Hp} {s : Shared} {a C dx : Addr} {fs : List (Str × V)} {f : Str} {v : V} {A : Around} {E : Value → Shared → Prop}
theorem Inv.made (I : Inv X pins σ H s) : Inv X pins σ (upd (upd H s.heap.objs.size (.own (s.heap.objs.size + 1))) (s.heap.objs.size + 1) (.ins C s.heap.objs.size []))
    { s with heap := (s.heap.push PySem.W.emptyDict).push (PySem.W.instObj C s.heap.objs.size) } := by
  have e1 : (s.heap.push PySem.W.emptyDict).get? s.heap.objs.size = some PySem.W.emptyDict := Heap.get?_push_size s.heap rfl
  have e2 : ((s.heap.push PySem.W.emptyDict).push (PySem.W.instObj C s.heap.objs.size)).get? (s.heap.objs.size + 1) = some (PySem.W.instObj C s.heap.objs.size) := by
    have := Heap.get?_push_size (s.heap.push PySem.W.emptyDict) (o := PySem.W.instObj C s.heap.objs.size) rfl
    rwa [Heap.size_push] at this
  have e3 : (s.heap.push PySem.W.emptyDict).Ns s.heap.objs.size (fun _ => none) := ⟨PySem.W.emptyDict, #[], _, e1, rfl, (fun e he => absurd he (by simp)), fun _ => rfl⟩
  have I1 := I.laid (a := s.heap.objs.size) (o := .own (s.heap.objs.size + 1)) (h' := s.heap.push PySem.W.emptyDict) (t' := s.toks) (fun b u q => Heap.get?_push_of_some _ q) (Nat.le_refl _) ⟨_, e1⟩
  refine I1.laid (a := s.heap.objs.size + 1) (o := .ins C s.heap.objs.size []) (t' := s.toks) (fun b u q => Heap.get?_push_of_some _ q) (Nat.le_of_eq (Heap.size_push _ _)) ?_
  have ne : s.heap.objs.size ≠ s.heap.objs.size + 1 := Nat.ne_of_lt (Nat.lt_succ_self _)
  refine ⟨by rw [upd_ne ne, upd_same], Nat.zero_le _, ne, e2, fun _ => none, (Heap.Ns1.of_empty e3).at fun o q => Heap.get?_push_of_some _ q, fun _ => True.intro, fun y hy => absurd rfl hy⟩
end
noncomputable def tFld (K : PySem.W.Frag) (ta : TE) (f : Str) : TE := fun σ H Q => ta σ H fun x H1 => ∃ a C dx fs v, x = .ref a ∧ H1 a = some (.ins C dx fs) ∧ Cls K C ∧ NoAttr K C f ∧ fs.lookup f = some v ∧ Q v H1
noncomputable def tCon (K : PySem.W.Frag) (ta : TE) (f : Str) : TE := fun σ H Q => ta σ H fun x H1 => ∃ a C dx fs v u, x = .ref a ∧ H1 a = some (.ins C dx fs) ∧ Cls K C ∧ Con K C f v u ∧ fs.lookup f = none ∧ Q v H1
noncomputable def sFld (K : PySem.W.Frag) (ta tv : TE) (f : Str) : TS := fun D σ H => tv σ H fun y H1 => ta σ H1 fun x H2 => ∃ a C dx fs, x = .ref a ∧ H2 a = some (.ins C dx fs) ∧ Cls K C ∧ NoAttr K C f ∧ fs.length < 1000 ∧
  D.nx σ (upd H2 a (.ins C dx (putF f y fs)))
noncomputable def InOp (X : Cx) (op : Operator) (rd : V → V → Hp → VK → Prop) : Prop :=
  ∀ (pins : List (Addr × Obj)) (s : Shared) (σ : St) (H : Hp) (x y : V) (u v : Value) (Q : VK), Inv X pins σ H s → RelV x u → RelV y v → rd x y H Q → wpAny (model X.prog X.w) X.A (inplaceOp op u v) (EP X pins σ Q) X.xe s
noncomputable def sFldAug (K : PySem.W.Frag) (ta tv : TE) (rd : V → V → Hp → VK → Prop) (f : Str) : TS := fun D σ H => ta σ H fun x H1 => ∃ a C dx fs v, x = .ref a ∧ H1 a = some (.ins C dx fs) ∧ Cls K C ∧ NoAttr K C f ∧ fs.lookup f = some v ∧
  tv σ H1 fun y H2 => rd v y H2 fun z H3 => ∃ dx' fs', H3 a = some (.ins C dx' fs') ∧ fs'.length < 1000 ∧ D.nx σ (upd H3 a (.ins C dx' (putF f z fs')))
section
variable {X : Cx} {o e value : Expr} {f : Str} {pos pos' tpos : Pos} {ta tv : TE}
noncomputable def rAdd : V → V → Hp → VK → Prop := fun x y H Q => ∃ i j, x = .int i ∧ y = .int j ∧ Q (.int (i + j)) H
noncomputable def rSub : V → V → Hp → VK → Prop := fun x y H Q => ∃ i j, x = .int i ∧ y = .int j ∧ Q (.int (i - j)) H
end
section
variable {X : Cx} {pins : List (Addr × Obj)} {σ : St} {H : Hp} {s : Shared} {A : Around} {E : Value → Shared → Prop} {Q : Value → Shared → Prop} {c : Value} {b : Bool}
inductive TyOf (K : PySem.W.Frag) (H : Hp) : V → Value → Prop where
  | non : TyOf K H .non (.type "NoneType")
  | bl (x : Bool) : TyOf K H (.bl x) (.type "bool")
  | int (i : Int) : TyOf K H (.int i) (.type "int")
  | str (x : Str) : TyOf K H (.str x) (.type "str")
  | flt (x : UInt64) : TyOf K H (.flt x) (.type "float")
  | lst {a : Addr} {xs : List V} (e : H a = some (.lst xs)) : TyOf K H (.ref a) (.type "list")
  | frz {a : Addr} {o : Obj} {xs : List V} (e : H a = some (.frz o (.lst xs))) : TyOf K H (.ref a) (.type "list")
  | tup {a : Addr} {xs : List V} (e : H a = some (.tup xs)) : TyOf K H (.ref a) (.type "tuple")
  | dK {a : Addr} {kvs : List (Key × V)} (e : H a = some (.dK kvs)) : TyOf K H (.ref a) (.type "dict")
  | dT {a : Addr} {kvs : List (List Key × V)} (e : H a = some (.dT kvs)) : TyOf K H (.ref a) (.type "dict")
  | ins {a C dx : Addr} {fs : List (Str × V)} (e : H a = some (.ins C dx fs)) (cl : Cls K C) (ha : PySem.W.findIn K (.ref C) "__class__" = some (some (.builtin "object.__class__")))
      (hn : PySem.W.specialIn K (.builtin "object.__class__") "__get__" = some (some (.builtin "getset_descriptor.__get__"))) (htk : PySem.W.takesIn K (.builtin "object.__class__") = some true)
      (hm : PySem.W.mroIn K C (.type "object") = some true) : TyOf K H (.ref a) (.ref C)
theorem isinst_ok {x : V} {u t : Value} (I : Inv X pins σ H s) (rx : RelV x u) (ty : TyOf X.K H x t) (e : PySem.W.kitOne X.K t c = some b) (h : ∀ tk, Q (.bool b) { s with toks := tk }) :
    wpAny (model X.prog X.w) A (call (.builtin "isinstance") [u, c]) Q E s := by
  cases ty with
  | non => cases (show u = Value.none from rx); exact PySem.W.kia_one PySem.W.kitx_none I.kIn True.intro e (fun z => nomatch z) h
  | bl y => cases (show u = Value.bool y from rx); exact PySem.W.kia_one PySem.W.kitx_bool I.kIn True.intro e (fun z => nomatch z) h
  | int i => obtain ⟨t, q⟩ := (show ∃ t, u = Value.int i t from rx); cases q; exact PySem.W.kia_one PySem.W.kitx_int I.kIn True.intro e (fun z => nomatch z) h
  | str y => obtain ⟨t, q⟩ := (show ∃ t, u = Value.str y t from rx); cases q; exact PySem.W.kia_one PySem.W.kitx_str I.kIn True.intro e (fun z => nomatch z) h
  | flt y => obtain ⟨t, q⟩ := (show ∃ t, u = Value.float y t from rx); cases q; exact PySem.W.kia_one PySem.W.kitx_float I.kIn True.intro e (fun z => nomatch z) h
  | @lst a xs ea =>
    cases (show u = Value.ref a from rx)
    obtain ⟨_, _, n, _, h1⟩ := (show ObjOk X.prog X.w H s.heap a (.lst xs) from I.hok a _ ea)
    exact PySem.W.kia_one PySem.W.kitx_list I.kIn ⟨_, h1, rfl⟩ e (fun z => nomatch z) h
  | @frz a ob xs ea =>
    cases (show u = Value.ref a from rx)
    obtain ⟨_, _, _, n, _, h1⟩ := (show ObjOk X.prog X.w H s.heap a (.frz ob (.lst xs)) from I.hok a _ ea)
    exact PySem.W.kia_one PySem.W.kitx_list I.kIn ⟨_, h1, rfl⟩ e (fun z => nomatch z) h
  | @tup a xs ea =>
    cases (show u = Value.ref a from rx)
    obtain ⟨_, _, _, p⟩ := (show ObjOk X.prog X.w H s.heap a (.tup xs) from I.hok a _ ea)
    obtain ⟨o, h1, h2, _⟩ := p
    exact PySem.W.kia_one PySem.W.kitx_tuple I.kIn ⟨o, h1, h2⟩ e (fun z => nomatch z) h
  | @dK a kvs ea =>
    cases (show u = Value.ref a from rx)
    obtain ⟨_, _, vs, _, p⟩ := (show ObjOk X.prog X.w H s.heap a (.dK kvs) from I.hok a _ ea)
    obtain ⟨o, es, ep, h1, h2, _⟩ := p
    exact PySem.W.kia_one PySem.W.kitx_dict I.kIn ⟨o, h1, h2.1⟩ e (fun z => nomatch z) h
  | @dT a kvs ea =>
    cases (show u = Value.ref a from rx)
    obtain ⟨_, _, xs, _, o, es, ep, h1, h2, _⟩ := (show ObjOk X.prog X.w H s.heap a (.dT kvs) from I.hok a _ ea)
    exact PySem.W.kia_one PySem.W.kitx_dict I.kIn ⟨o, h1, h2.1⟩ e (fun z => nomatch z) h
  | @ins a C dx fs ea cl ha hn htk hm =>
    cases (show u = Value.ref a from rx)
    obtain ⟨mA, O, _⟩ := ins_get I.hok ea
    obtain ⟨od, J, _⟩ := O.look
    exact PySem.W.kia_one (PySem.W.kitx_own (cl.get _) cl.hd ha hn htk hm) I.kIn J e (fun z => nomatch z) h
end
end L2
namespace L2
open PySem PySem.Spec PyProof.Rows
structure Room (k : Nat) (A : Around) : Prop where
  hd : A.handled = none
  dp : A.depth + 3 * k + 5 < recursionLimit
  un : A.units + 16 * k + 200 < cLine
theorem Room.mono {j k : Nat} {A : Around} (r : Room k A) (h : j ≤ k) : Room j A := ⟨r.hd, by have := r.dp; trivial, by have := r.un; trivial⟩
theorem Room.deeper {k : Nat} {A : Around} (r : Room (k + 1) A) (env : Env) : Room k (A.deeper env) :=
  ⟨r.hd, by have := r.dp; show A.depth + 1 + 3 * k + 5 < _; trivial, by have := r.un; show A.units + 3 + 16 * k + 200 < _; trivial⟩
theorem Room.in1 {k : Nat} {A : Around} (r : Room (k + 1) A) : Room k A.in1 :=
  ⟨r.hd, by have := r.dp; show A.depth + 3 * k + 5 < _; trivial, by have := r.un; show A.units + 1 + 16 * k + 200 < _; trivial⟩
theorem make_depth {A : Around} {C : Addr} {us : List Value} {kw : List (Str × Value)} : (A.under (.builtin "type.__call__" ⟨.ref C :: us, kw⟩)).depth = A.depth + 1 := by
  first | rfl | simp [Around.under, Code.weight, Code.isCreation, Code.isGuard, Code.isCaller, Code.frames, Code.isFrame, guardIds]
theorem make_units {A : Around} {C : Addr} {us : List Value} {kw : List (Str × Value)} : (A.under (.builtin "type.__call__" ⟨.ref C :: us, kw⟩)).units = A.units + 1 := by
  first | rfl | simp [Around.under, Code.cUnits, Code.frames, Code.isFrame]
theorem Room.make {k : Nat} {A : Around} (r : Room (k + 1) A) (C : Addr) (us : List Value) (kw : List (Str × Value)) : Room k (A.under (.builtin "type.__call__" ⟨.ref C :: us, kw⟩)) :=
  ⟨r.hd, by have := r.dp; rw [make_depth]; trivial, by have := r.un; rw [make_units]; trivial⟩
theorem Room.depth {k : Nat} {A : Around} (r : Room k A) : A.depth < recursionLimit := by have := r.dp; trivial
theorem Room.units {k : Nat} {A : Around} (r : Room k A) : A.units + 64 < cLine := by have := r.un; trivial
noncomputable def tNil : TA := fun _ H Q => Q [] H
noncomputable def tCons (ta : TE) (tr : TA) : TA := fun σ H Q => ta σ H fun x H1 => tr σ H1 fun xs H2 => Q (x :: xs) H2
section
variable {X : Cx} {e : Expr} {es : List Expr} {te : TE} {t : TA} {pos : Pos}
theorem pa_nil : PA X [] tNil := fun _ _ _ _ H Q I h => Calls.spliced_nil ⟨[], H, I, .nil, h⟩
theorem pa_cons (ha : PE X e te) (hr : PA X es t) (hs : starEach (e :: es) X.env = (false, eval e X.env) :: starEach es X.env := by rfl) : PA X (e :: es) (tCons te t) := by
  intro pos pins s σ H Q I h
  rw [hs]
  show wpAny _ _ (spliced ((false, eval e X.env) :: backTo pos (starEach es X.env))) _ _ s
  refine Calls.spliced_cons (thn (ha pins s σ H _ I h) fun u s1 ⟨x, H1, I1, r1, q1⟩ => ?_)
  exact thn (hr pos pins s1 σ H1 _ I1 q1) fun us s2 ⟨xs, H2, I2, r2, q2⟩ => ⟨x :: xs, H2, I2, .cons r1 r2, q2⟩
noncomputable def tTup (t : TA) : TE := fun σ H Q => t σ H fun xs H1 => xs.length ≤ sizeLine ∧ ∀ p, H1 p = none → Q (.ref p) (upd H1 p (.tup xs))
noncomputable def tLst (t : TA) : TE := fun σ H Q => t σ H fun xs H1 => xs.length ≤ sizeLine ∧ ∀ p, H1 p = none → Q (.ref p) (upd H1 p (.lst xs))
theorem pe_tup {x1} (h : PA X es t) : PE X (.Tuple es x1 pos) (tTup t) := by
  intro pins s σ H Q I hq
  refine wpAny_Tuple_spliced (thn (h pos pins s σ H _ I hq) fun us s1 ⟨xs, H1, I1, r, z, q⟩ => ⟨by rw [← r.length]; exact z, ?_⟩)
  have hf : H1 s1.heap.objs.size = none := I1.hok.fresh (Nat.le_refl _)
  refine ⟨.ref s1.heap.objs.size, upd H1 s1.heap.objs.size (.tup xs), I1.laid (t' := s1.toks) (fun b u e => Heap.get?_push_of_some _ e) (Nat.le_refl _) ?_, rfl, q _ hf⟩
  exact ⟨z, us, r, ⟨_, Heap.get?_push_size _ rfl, rfl, _, rfl⟩⟩
theorem pe_lst (h : PA X es t) : PE X (.List es pos) (tLst t) := by
  intro pins s σ H Q I hq
  refine wpAny_List_spliced (thn (h pos pins s σ H _ I hq) fun us s1 ⟨xs, H1, I1, r, z, q⟩ => ⟨by rw [← r.length]; exact z, ?_⟩)
  have hf : H1 s1.heap.objs.size = none := I1.hok.fresh (Nat.le_refl _)
  refine ⟨.ref s1.heap.objs.size, upd H1 s1.heap.objs.size (.lst xs), I1.laid (t' := s1.toks) (fun b u e => Heap.get?_push_of_some _ e) (Nat.le_refl _) ?_, rfl, q _ hf⟩
  exact ⟨z, us, 0, r, Heap.get?_push_size _ rfl⟩
end
noncomputable abbrev Sp := List V → Hp → VK → XK → Prop
noncomputable abbrev CXT := List Env → Hp → Shared → XK → Value → Shared → Prop
structure Env0 (P : Program) (w : World) (K : PySem.W.Frag) (mg : Str → Option Value) (base : Heap) (A : Around) (outer : List Env) (s : Shared) (H : Hp) : Prop where
  frames : A.frames = some outer
  mod : Mod K mg base
  bs : ∀ b o, base.get? b = some o → s.heap.get? b = some o ∧ H b = none
  bsz : base.objs.size ≤ s.heap.objs.size
  funs : s.heap.FunFrames base outer
  frf : ∀ b ∈ frs outer, H b = none
  hok : HOk P w H s.heap
  bare : AllBare s.gens
noncomputable def CE (outer : List Env) (P : Program) (w : World) (H : Hp) (s : Shared) (Q : VK) (u : Value) (s' : Shared) : Prop :=
  ∃ v H', s'.os = s.os ∧ AllBare s'.gens ∧ Un (frs outer) [] H H' s.heap s'.heap ∧ HOk P w H' s'.heap ∧ RelV v u ∧ Q v H'
noncomputable def CR (CX : CXT) (outer : List Env) (P : Program) (w : World) (H : Hp) (s : Shared) (Q : VK) (E : XK) (r : Result) (s' : Shared) : Prop :=
  match r with
  | .ok (.ret u) => CE outer P w H s Q u s'
  | .ok _ => False
  | .error e => CX outer H s E e s'
structure FnOk (P : Program) (w : World) (K : PySem.W.Frag) (mg : Str → Option Value) (base : Heap) (CX : CXT) (k : Nat) (f : Addr) (fd : FuncData) (ps : List Str) (sp : Sp) : Prop where
  len : ∀ vs H Q E, sp vs H Q E → vs.length = ps.length
  run : ∀ (A : Around) (outer : List Env) (s : Shared) (H : Hp) (args : Args) (us : List Value) (vs : List V) (Q : VK) (E : XK), Room k A → Env0 P w K mg base A outer s H → BindsTo s fd args (ps.zip us) → Vals vs us → sp vs H Q E →
    codeAny (model P w) A (.call (.ref f) args) (CR CX outer P w H s Q E) s
theorem FnOk.mono {P : Program} {w : World} {K : PySem.W.Frag} {mg : Str → Option Value} {base : Heap} {CX : CXT} {j k : Nat} {f : Addr} {fd : FuncData} {ps : List Str} {sp : Sp} (F : FnOk P w K mg base CX j f fd ps sp) (h : j ≤ k) :
    FnOk P w K mg base CX k f fd ps sp := ⟨F.len, fun A outer s H args us vs Q E hr => F.run A outer s H args us vs Q E (hr.mono h)⟩
theorem FnOk.imp {P : Program} {w : World} {K : PySem.W.Frag} {mg : Str → Option Value} {base : Heap} {CX : CXT} {k : Nat} {f : Addr} {fd : FuncData} {ps : List Str} {sp sp' : Sp} (F : FnOk P w K mg base CX k f fd ps sp)
    (h : ∀ vs H Q E, sp' vs H Q E → sp vs H Q E) : FnOk P w K mg base CX k f fd ps sp' :=
  ⟨fun vs H Q E q => F.len vs H Q E (h _ _ _ _ q), fun A outer s H args us vs Q E hr he hb hv hs => F.run A outer s H args us vs Q E hr he hb hv (h _ _ _ _ hs)⟩
theorem Env0.make {P : Program} {w : World} {K : PySem.W.Frag} {mg : Str → Option Value} {base : Heap} {A : Around} {outer : List Env} {s : Shared} {H : Hp} (e : Env0 P w K mg base A outer s H) (C : Addr) (us : List Value) (kw : List (Str × Value)) :
    Env0 P w K mg base (A.under (.builtin "type.__call__" ⟨.ref C :: us, kw⟩)) outer s H := ⟨by first | exact e.frames | (simpa [Around.under, Code.envs, Code.isFrame, pushEnvs] using e.frames), e.mod, e.bs, e.bsz, e.funs, e.frf, e.hok, e.bare⟩
theorem Env0.in1 {P : Program} {w : World} {K : PySem.W.Frag} {mg : Str → Option Value} {base : Heap} {A : Around} {outer : List Env} {s : Shared} {H : Hp} (e : Env0 P w K mg base A outer s H) :
    Env0 P w K mg base A.in1 outer s H := ⟨e.frames, e.mod, e.bs, e.bsz, e.funs, e.frf, e.hok, e.bare⟩
section
variable {X : Cx} {pins : List (Addr × Obj)} {σ : St} {H : Hp} {s s' : Shared}
theorem Inv.env0 (I : Inv X pins σ H s) : Env0 X.prog X.w X.K X.mg X.base X.A X.stack s H :=
  ⟨I.ok.frames, I.ok.mod, I.bs, Nat.le_trans I.ok.bsz I.sz, I.stack, I.stkFree, I.hok, I.bare⟩
theorem Inv.after {Q : VK} {u : Value} (I : Inv X pins σ H s) (h : CE X.stack X.prog X.w H s Q u s') : EP X pins σ Q u s' := by
  obtain ⟨v, H', os, bare, un, hok, r, q⟩ := h
  obtain ⟨hh, g, d, t, os'⟩ := s'
  obtain rfl : os' = s.os := os
  exact ⟨v, H', I.call (h' := hh) (g' := g) (d' := d) (t' := t) (ch := []) un hok bare (fun b z => absurd z (by simp)), r, q⟩
end
noncomputable def tCall (sp : Sp) (dvs : List V) (E : XK) (t : TA) : TE := fun σ H Q => t σ H fun vs H1 => sp (vs ++ dvs) H1 Q E
noncomputable def tMeth (C : Addr) (m : Str) (sp : Sp) (dvs : List V) (E : XK) (ta : TE) (t : TA) : TE := fun σ H Q => ta σ H fun x H1 => ∃ a dx fs, x = .ref a ∧ H1 a = some (.ins C dx fs) ∧ fs.lookup m = none ∧
  t σ H1 fun vs H2 => sp (x :: (vs ++ dvs)) H2 Q E
noncomputable def tMake (C : Addr) (sp : Sp) (dvs : List V) (E : XK) (t : TA) : TE := fun σ H Q => t σ H fun vs H1 => ∀ x dx, H1 x = none → H1 dx = none → dx ≠ x →
  sp (.ref x :: (vs ++ dvs)) (upd (upd H1 dx (.own x)) x (.ins C dx [])) (fun v H2 => v = .non ∧ Q (.ref x) H2) E
noncomputable def Binds (K : PySem.W.Frag) (fd : FuncData) (ps : List Str) (ds : List Value) : Prop :=
  ∀ (s : Shared) (us : List Value), K.In s.heap → (us ++ ds).length = ps.length → BindsTo s fd ⟨us, []⟩ (ps.zip (us ++ ds))
theorem Binds.all {K : PySem.W.Frag} {fd : FuncData} {ps : List Str} (h : ∀ us : List Value, us.length = ps.length → bindArgs fd ⟨us, []⟩ = pure (ps.zip us)) : Binds K fd ps [] := fun s us _ hl => by
  rw [List.append_nil] at hl ⊢
  exact .of_eq (h us hl)
noncomputable def Passes (CX : CXT) (X : Cx) (E : XK) : Prop := ∀ (pins : List (Addr × Obj)) (σ : St) (H : Hp) (s : Shared) (e : Value) (s' : Shared), Inv X pins σ H s → CX X.stack H s E e s' → X.xe e s'
section
variable {X : Cx} {CX : CXT} {k : Nat} {f C : Addr} {fd : FuncData} {ps : List Str} {sp : Sp} {dvs : List V} {ds : List Value} {E : XK} {x m : Str} {p pos apos : Pos} {e o : Expr} {es : List Expr} {ta : TE} {t : TA}
theorem run_fn {pins : List (Addr × Obj)} {σ : St} {H : Hp} {s : Shared} {Q : VK} {us : List Value} {vs : List V} (F : FnOk X.prog X.w X.K X.mg X.base CX k f fd ps sp) (hr : Room k X.A) (hb : Binds X.K fd ps ds) (hd : Vals dvs ds) (hx : Passes CX X E)
    (I : Inv X pins σ H s) (r : Vals vs us) (h : sp (vs ++ dvs) H Q E) : wpAny (model X.prog X.w) X.A (call (.ref f) us) (EP X pins σ Q) X.xe s := by
  have r2 : Vals (vs ++ dvs) (us ++ ds) := r.append hd
  have hl : (us ++ ds).length = ps.length := by rw [← r2.length]; exact F.len _ _ _ _ h
  refine wpAny_call (codeAny_mono (F.run X.A X.stack s H ⟨us, []⟩ (us ++ ds) (vs ++ dvs) Q E hr I.env0 (hb s us I.kIn hl) r2 h) fun r s' hq => ?_)
  cases r with
  | error e => exact hx pins σ H s e s' I hq
  | ok fl =>
    cases fl with
    | ret u => exact I.after hq
    | next => exact False.elim hq
    | brk => exact False.elim hq
    | cont => exact False.elim hq
theorem pe_call (F : FnOk X.prog X.w X.K X.mg X.base CX k f fd ps sp) (hr : Room k X.A) (hg : Gl X x) (hm : X.mg x = some (.ref f)) (hk : PySem.W.keepIn X.K (.ref f) = true) (hb : Binds X.K fd ps ds) (hd : Vals dvs ds) (hx : Passes CX X E)
    (ha : PA X (e :: es) t) (hdb : (x == ("__debug__" : Str)) = false := by decide) (he : starEach (e :: es) X.env = (false, eval e X.env) :: starEach es X.env := by rfl) (hpl : (backTo pos (starEach es X.env)).any (·.1) = false := by rfl) :
    PE X (.Call (.Name x p) (e :: es) [] pos) (tCall sp dvs E t) := by
  intro pins s σ H Q I h
  refine wpAny_Call_Name_kw (ld_glob I hg hm ?_ hdb)
  refine PySem.W.callWith_K (h₀ := X.base) I.ok.mod.kin hk (thn (ha pos pins s σ H _ I h) fun us s1 ⟨vs, H1, I1, r, q⟩ => ⟨I1.kIn, ?_⟩) he hpl
  exact run_fn F hr hb hd hx I1 r q
structure Mk (K : PySem.W.Frag) (C f : Addr) : Prop where
  makes : PySem.W.makesIn K C = true
  init : PySem.W.findIn K (.ref C) "__init__" = some (some (.ref f))
  fn : PySem.W.isFn K (.ref f) = true
  kp : PySem.W.keepIn K (.ref C) = true
end
noncomputable def PK (X : Cx) (kws : List Keyword) (t : TA) : Prop :=
  ∀ (pos : Pos) (pins : List (Addr × Obj)) (s : Shared) (σ : St) (H : Hp) (Q : List V → Hp → Prop), Inv X pins σ H s → t σ H Q → wpAny (model X.prog X.w) X.A (evalAll ((backToKw pos (keywordEach kws X.env)).map (·.2))) (AP X pins σ Q) X.xe s
section
variable {X : Cx} {CX : CXT} {k : Nat} {f C : Addr} {fd : FuncData} {ps ks : List Str} {sp : Sp} {E : XK} {x m : Str} {p pos apos kpos : Pos} {e o : Expr} {es : List Expr} {kws : List Keyword} {te ta : TE} {t tk : TA} {nm : Option Str}
structure KBinds (K : PySem.W.Frag) (fd : FuncData) (ps ks : List Str) (g : List Value → List Value → List Value) (gV : List V → List V → List V) : Prop where
  to : ∀ (s : Shared) (us ws : List Value), K.In s.heap → (g us ws).length = ps.length → BindsTo s fd ⟨us, ks.zip ws⟩ (ps.zip (g us ws))
  rel : ∀ {vs : List V} {us : List Value} {zs : List V} {ws : List Value}, Vals vs us → Vals zs ws → Vals (gV vs zs) (g us ws)
noncomputable def tCallK (sp : Sp) (gV : List V → List V → List V) (E : XK) (t tk : TA) : TE := fun σ H Q => t σ H fun vs H1 => tk σ H1 fun zs H2 => sp (gV vs zs) H2 Q E
variable {g : List Value → List Value → List Value} {gV : List V → List V → List V}
end
structure FnScope (N P : List Str) (sc : Scope) : Prop where
  kind : sc.kind = .function
  co : sc.isCoroutine = false
  gen : sc.isGenerator = false
  nd : N.Nodup
  pre : N.take P.length = P
  par : ∀ x ∈ P, sc.names.lookup x = some .local ∨ sc.names.lookup x = some .cell
  nofree : ∀ y ∈ sc.names, y.2 ≠ .free
theorem bindL_out {kindOf : Str → Option NameKind} {x : Str} : ∀ {binds : List (Str × Value)} {m : Str → Option Value}, (∀ v, (x, v) ∉ binds) → bindL kindOf binds m x = m x
  | [], _, _ => rfl
  | (n, v) :: r, m, h => by
    unfold bindL
    rw [bindL_out fun w hw => h w (List.mem_cons_of_mem _ hw)]
    split
    · have : x ≠ n := by rintro rfl; exact h v List.mem_cons_self
      simp [this]
    · rfl
theorem bindC_out {kindOf : Str → Option NameKind} {x : Str} : ∀ {binds : List (Str × Value)} {m : Str → Option Value}, (∀ v, (x, v) ∉ binds) → bindC kindOf binds m x = m x
  | [], _, _ => rfl
  | (n, v) :: r, m, h => by
    unfold bindC
    rw [bindC_out fun w hw => h w (List.mem_cons_of_mem _ hw)]
    split
    · rfl
    · have : x ≠ n := by rintro rfl; exact h v List.mem_cons_self
      simp [this]
theorem bindL_get {kindOf : Str → Option NameKind} {x : Str} {v : Value} : ∀ {P : List Str} {vs : List Value} {i : Nat} {m : Str → Option Value}, P.Nodup → P[i]? = some x → vs[i]? = some v → kindOf x = some .local →
    bindL kindOf (P.zip vs) m x = some v
  | [], _, _, _, _, h, _, _ => by simp at h
  | _ :: _, [], _, _, _, _, h, _ => by simp at h
  | p :: P, w :: vs, 0, m, nd, h1, h2, hk => by
    simp at h1 h2; subst h1; subst h2
    show bindL kindOf ((p, w) :: P.zip vs) m p = _
    unfold bindL
    rw [bindL_out fun v hv => (List.nodup_cons.mp nd).1 (List.of_mem_zip hv).1, if_pos hk]
    simp
  | p :: P, w :: vs, i + 1, m, nd, h1, h2, hk => by
    show bindL kindOf ((p, w) :: P.zip vs) m x = _
    unfold bindL
    exact bindL_get (i := i) (List.nodup_cons.mp nd).2 (by simpa using h1) (by simpa using h2) hk
theorem bindC_get {kindOf : Str → Option NameKind} {x : Str} {v : Value} : ∀ {P : List Str} {vs : List Value} {i : Nat} {m : Str → Option Value}, P.Nodup → P[i]? = some x → vs[i]? = some v → kindOf x ≠ some .local →
    bindC kindOf (P.zip vs) m x = some v
  | [], _, _, _, _, h, _, _ => by simp at h
  | _ :: _, [], _, _, _, _, h, _ => by simp at h
  | p :: P, w :: vs, 0, m, nd, h1, h2, hk => by
    simp at h1 h2; subst h1; subst h2
    show bindC kindOf ((p, w) :: P.zip vs) m p = _
    unfold bindC
    rw [bindC_out fun v hv => (List.nodup_cons.mp nd).1 (List.of_mem_zip hv).1, if_neg hk]
    simp
  | p :: P, w :: vs, i + 1, m, nd, h1, h2, hk => by
    show bindC kindOf ((p, w) :: P.zip vs) m x = _
    unfold bindC
    exact bindC_get (i := i) (List.nodup_cons.mp nd).2 (by simpa using h1) (by simpa using h2) hk
noncomputable def start (N : List Str) (vs : List V) : St := vs.map some ++ List.replicate (N.length - vs.length) none
noncomputable def cxOf (CX : CXT) (P : Program) (w : World) (K : PySem.W.Frag) (mg : Str → Option Value) (base : Heap) (N : List Str) (qual : Str) (scope : Scope) (f : Addr) (cd : Value) (A : Around) (outer : List Env) (s : Shared) (H : Hp) (E : XK) : Cx where
  prog := P
  w := w
  K := K
  mg := mg
  base := base
  A := A.deeper (envOfC qual scope s.heap.objs.size f cd)
  N := N
  s₀ := s
  H₀ := H
  env := envOfC qual scope s.heap.objs.size f cd
  outer := outer
  stack := envOfC qual scope s.heap.objs.size f cd :: outer
  ex := []
  calm := true
  fn := fun _ => true
  pn := []
  xe := fun e s' => wpAny (model P w) (A.deeper (envOfC qual scope s.heap.objs.size f cd)) (leaving (envOfC qual scope s.heap.objs.size f cd) e) (fun _ s'' => CX outer H s E e s'') (fun e' s'' => CX outer H s E e' s'') s'
theorem cell_has {sc : Scope} {n : Nat} {x : Str} (h : sc.names.lookup x = some .cell) : ∃ c, (cellsFrom n sc.names []).lookup x = some c := by
  have q := PySem.W.cellsFrom_some sc.names n [] (.inl h)
  exact Option.isSome_iff_exists.mp q
theorem inv_start {CX : CXT} {P : Program} {w : World} {K : PySem.W.Frag} {mg : Str → Option Value} {base : Heap} {N ps : List Str} {qual : Str} {scope : Scope} {f : Addr} {cd : Value} {A : Around} {outer : List Env} {s s1 : Shared} {H : Hp} {E : XK} {us : List Value} {vs : List V}
    (S : FnScope N ps scope) (hd : A.handled = none) (e0 : Env0 P w K mg base A outer s H) (hl : vs.length = ps.length) (r : Vals vs us)
    (x : InCallC s s.heap.objs.size (bindL (envOfC qual scope s.heap.objs.size f cd).kindOf (ps.zip us) fun _ => none) (cellsFrom (s.heap.objs.size + 1) scope.names []) (bindC (envOfC qual scope s.heap.objs.size f cd).kindOf (ps.zip us) fun _ => none) s1) :
    Inv (cxOf CX P w K mg base N qual scope f cd A outer s H E) [] (start N vs) H s1 := by
  have hpl : ps.length ≤ N.length := by have := congrArg List.length S.pre; rw [List.length_take] at this; trivial
  obtain ⟨h1, tk, rfl, hk⟩ := x.done
  have noA : ∀ b : Addr, b ∉ (cxOf CX P w K mg base N qual scope f cd A outer s H E).ex := fun b z => absurd (show b ∈ ([] : List Addr) from z) (by simp)
  refine ⟨⟨e0.mod, S.kind, rfl, rfl, Nat.le_refl _, fun y z c h1 h2 => ?_, fun y hy => ?_, fun y c _ h => ?_, fun _ => hd, Around.frames_deeper e0.frames, .inr ⟨rfl, rfl⟩, fun b z => absurd z (noA b), e0.bs, e0.bsz, fun b _ _ => noA b, fun b z => absurd z (noA b), e0.funs, e0.frf⟩,
    rfl, e0.bare, Un.kept hk, ⟨_, x.toInCall.ns, fun i y v h1 h2 h3 => ?_⟩, fun y c h => ⟨_, x.cell y c h⟩, e0.hok.fresh (Nat.le_refl _), fun y c h => ?_, fun p hp => absurd (show p ∈ ([] : List (Addr × Obj)) from hp) (by simp), e0.hok.kept hk, ?_⟩
  · exact name_of_addr x.apart (PySem.mem_of_lookup h1) (PySem.mem_of_lookup h2)
  · have hy : scope.names.lookup y = some .cell ∨ scope.names.lookup y = some .free := hy
    rcases hy with hy | hy
    · exact cell_has hy
    · exact absurd rfl (S.nofree _ (PySem.mem_of_lookup hy))
  · exact Nat.le_of_lt (x.above y c (PySem.mem_of_lookup h))
  · have hi : i < vs.length := by
      unfold start at h2
      by_cases hi : i < vs.length
      · exact hi
      · rw [List.getElem?_append_right (by simpa using hi)] at h2
        rw [List.getElem?_replicate] at h2
        split at h2 <;> cases h2
    have ha : vs[i]? = some v := by
      unfold start at h2
      rw [List.getElem?_append_left (by simpa using hi), List.getElem?_map] at h2
      cases e : vs[i]? with
      | none => rw [e] at h2; cases h2
      | some a => rw [e] at h2; cases h2; rfl
    obtain ⟨u, hu, rv⟩ := r.get ha
    have hp : ps[i]? = some y := by
      rw [← S.pre, List.getElem?_take_of_lt (by trivial)]; exact h1
    have ndP : ps.Nodup := by rw [← S.pre]; exact S.nd.sublist (List.take_sublist _ _)
    refine ⟨u, rv, ?_⟩
    rcases S.par y (List.mem_of_getElem? hp) with k | k
    · exact .inl ⟨k, bindL_get ndP hp hu k⟩
    · obtain ⟨c, e⟩ := cell_has (n := s.heap.objs.size + 1) k
      refine .inr ⟨.inl k, c, e, ?_⟩
      have q := x.cell y c e
      rw [bindC_get ndP hp hu (by show scope.names.lookup y ≠ _; rw [k]; decide)] at q
      exact q
  · exact e0.hok.fresh (Nat.le_of_lt (x.above y c (PySem.mem_of_lookup h)))
  · unfold start
    show _ = N.length
    rw [List.length_append, List.length_map, List.length_replicate]
    trivial
theorem fn_of {CX : CXT} {P : Program} {w : World} {K : PySem.W.Frag} {mg : Str → Option Value} {base : Heap} {k : Nat} {f : Addr} {name qual : Str} {params : Arguments} {body : List Stmt} {scope : Scope} {dV kV doc pm cdv ct oc : Value} {an od : Option Addr}
    {osl : Array (Option Value)} {N ps : List Str} {sp : Sp} (lk : K.lookup f = some ⟨oc, od, .func (PySem.W.fnOf name qual params body scope dV kV doc pm an cdv ct), osl⟩) (hcd : PySem.W.codeIn K cdv qual = true) (S : FnScope N ps scope)
    (len : ∀ vs H Q E, sp vs H Q E → vs.length = ps.length)
    (hbody : ∀ (A : Around) (outer : List Env) (s : Shared) (H : Hp) (vs : List V) (Q : VK) (E : XK), Room k (A.deeper (envOfC qual scope s.heap.objs.size f cdv)) → sp vs H Q E →
      ∃ t, PSs (cxOf CX P w K mg base N qual scope f cdv A outer s H E) body t ∧ t { nx := fun _ H' => Q .non H', rt := Q } (start N vs) H) :
    FnOk P w K mg base CX (k + 1) f (PySem.W.fnOf name qual params body scope dV kV doc pm an cdv ct) ps sp := by
  refine ⟨len, fun A outer s H args us vs Q E hr e0 hb r hsp => ?_⟩
  have hl := len _ _ _ _ hsp
  have KX : K.In s.heap := e0.mod.kin.keeps fun b o e => (e0.bs b o e).1
  have lim : s.heap.NoLimit := e0.mod.nolimit.keeps fun b o e => (e0.bs b o e).1
  have hkind : ∀ y ∈ ps.zip us, scope.names.lookup y.1 = some .local ∨ (scope.names.lookup y.1 = some .cell ∧ ((cellsFrom (s.heap.objs.size + 1) scope.names []).lookup y.1).isSome = true) := fun ⟨n, v⟩ hy => by
    rcases S.par n (List.of_mem_zip hy).1 with q | q
    · exact .inl q
    · exact .inr ⟨q, PySem.W.cellsFrom_some _ _ _ (.inl q)⟩
  refine codeAny_call_function hr.depth (KX _ _ lk) rfl S.co S.gen rfl (PySem.W.codeRec_of KX hcd) (hb _ _ _ _ ?_)
  refine wpAny_newFunctionEnv_cells S.kind hkind fun env he s1 x => ?_
  subst he
  refine ⟨lim.keeps x.toInCall.keep, codeAny_func ?_⟩
  obtain ⟨t, ht, hq⟩ := hbody A outer s H vs Q E (hr.deeper _) hsp
  have I : Inv (cxOf CX P w K mg base N qual scope f cdv A outer s H E) [] (start N vs) H s1 := inv_start S hr.hd e0 hl r x
  refine wpAny_mono (ht [] s1 (start N vs) H _ I hq) (fun fl s' hs => ?_) fun e s' hs => hs
  have fin : ∀ {σ' : St} {H' : Hp} {v : V} {u : Value}, Inv (cxOf CX P w K mg base N qual scope f cdv A outer s H E) [] σ' H' s' → RelV v u → Q v H' → CE outer P w H s Q u s' :=
    fun {σ' H' v u} J rv q => ⟨v, H', J.os, J.bare, J.base, J.hok, rv, q⟩
  cases fl with
  | ret u =>
    obtain ⟨v, σ', H', J, rv, q⟩ := hs
    exact fin J rv q
  | next =>
    obtain ⟨σ', H', J, q⟩ := hs
    exact fin (v := V.non) (u := Value.none) J rfl q
  | brk =>
    obtain ⟨_, _, _, q⟩ := hs
    exact False.elim q
  | cont =>
    obtain ⟨_, _, _, q⟩ := hs
    exact False.elim q
end L2
namespace L2
open PySem PySem.Spec PyProof.Rows
section
variable {X : Cx} {x : Str} {p pos : Pos} {e : Expr} {es : List Expr} {t : TA} {id T : String} {r : List V → Hp → VK → Prop}
noncomputable def tCB (r : List V → Hp → VK → Prop) (t : TA) : TE := fun σ H Q => t σ H fun vs H1 => r vs H1 Q
theorem pe_callB (hc : CallR X (.builtin id) r) (hg : Gl X x) (hm : X.mg x = none) (hv : bootBuiltins x = some (.builtin id)) (ha : PA X (e :: es) t) (hn : x ≠ "__name__" := by decide) (hdb : (x == ("__debug__" : Str)) = false := by decide)
    (he : starEach (e :: es) X.env = (false, eval e X.env) :: starEach es X.env := by rfl) (hpl : (backTo pos (starEach es X.env)).any (·.1) = false := by rfl) : PE X (.Call (.Name x p) (e :: es) [] pos) (tCB r t) := by
  intro pins s σ H Q I h
  refine wpAny_Call_Name_kw (ld_blt I hg hm hv ?_ hn hdb)
  exact PyProof.Rows.callWith_builtin1 (thn (ha pos pins s σ H _ I h) fun us s1 ⟨vs, H1, I1, r1, q1⟩ => hc pins s1 σ H1 vs us Q I1 r1 q1) he hpl
theorem pe_callTy (hc : CallR X (.type T) r) (hg : Gl X x) (hm : X.mg x = none) (hv : bootBuiltins x = some (.type T)) (ha : PA X (e :: es) t) (hn : x ≠ "__name__" := by decide) (hdb : (x == ("__debug__" : Str)) = false := by decide)
    (he : starEach (e :: es) X.env = (false, eval e X.env) :: starEach es X.env := by rfl) (hpl : (backTo pos (starEach es X.env)).any (·.1) = false := by rfl) : PE X (.Call (.Name x p) (e :: es) [] pos) (tCB r t) := by
  intro pins s σ H Q I h
  refine wpAny_Call_Name_kw (ld_blt I hg hm hv ?_ hn hdb)
  exact PyProof.Rows.callWith_type1 (thn (ha pos pins s σ H _ I h) fun us s1 ⟨vs, H1, I1, r1, q1⟩ => hc pins s1 σ H1 vs us Q I1 r1 q1) he hpl
end
end L2
namespace HT
open PySem PyProof.Rows
noncomputable def lexLt : List Int → List Int → Bool
  | [], [] => false
  | [], _ :: _ => true
  | _ :: _, [] => false
  | x :: xs, y :: ys => if x = y then lexLt xs ys else decide (x < y)
section
open PySem.SeqAt
open PySem.AutoSeq1 (wpAny_loadPart')
open PySem.MeetsSeq PySem.MeetsSeq2 PySem.MeetsSeq3
end
section
variable {prog : Program} {w : World} {A : Around} {E : Value → Shared → Prop} {s : Shared}
noncomputable def sIx (n d : Nat) : Option Int → Nat
  | none => d
  | some v => if v < 0 then (v + (n : Int)).toNat else min v.toNat n
theorem sIx_nat (n d k : Nat) : sIx n d (some (k : Int)) = min k n := by
  show (if (k : Int) < 0 then ((k : Int) + (n : Int)).toNat else min (k : Int).toNat n) = min k n
  rw [if_neg (by trivial), Int.toNat_natCast]
end
end HT
namespace L2
open PySem PySem.Spec PyProof.Rows
noncomputable abbrev TO := St → Hp → (Option Int → Hp → Prop) → Prop
noncomputable def PO (X : Cx) (e : Option Expr) (t : TO) : Prop :=
  ∀ (pins : List (Addr × Obj)) (s : Shared) (σ : St) (H : Hp) (Q : Option Int → Hp → Prop), Inv X pins σ H s → t σ H Q →
    wpAny (model X.prog X.w) X.A (evalPart e X.env) (fun u s' => ∃ o H', Inv X pins σ H' s' ∧ IsPart u o ∧ Q o H') X.xe s
noncomputable def tNoPart : TO := fun _ H Q => Q none H
noncomputable def tPart (t : TE) : TO := fun σ H Q => t σ H fun x H1 => ∃ i, x = .int i ∧ Q (some i) H1
section
variable {X : Cx} {e : Expr} {te : TE} {lo hi : Option Expr} {tl th : TO} {pos p2 : Pos}
theorem po_none : PO X none tNoPart := by
  intro pins s σ H Q I h
  rw [evalPart_none]
  exact wpAny_pure ⟨none, H, I, .none, h⟩
theorem po_some (h : PE X e te) : PO X (some e) (tPart te) := by
  intro pins s σ H Q I hw
  rw [evalPart_some]
  refine thn (h pins s σ H _ I hw) fun u s1 ⟨x, H1, I1, r1, q1⟩ => ?_
  obtain ⟨i, rfl, q⟩ := q1
  obtain ⟨t, rfl⟩ := r1
  exact ⟨some i, H1, I1, .int i t, q⟩
noncomputable def SlR (X : Cx) (r : V → Option Int → Option Int → Hp → VK → Prop) : Prop :=
  ∀ (pins : List (Addr × Obj)) (s : Shared) (σ : St) (H : Hp) (x : V) (v vl vu : Value) (lo hi : Option Int) (sl : Addr) (Q : VK), Inv X pins σ H s → RelV x v → s.heap.IsSliceOf sl vl vu .none → IsPart vl lo → IsPart vu hi → r x lo hi H Q →
    ∃ T id, typeLookup (.type T) "__getitem__" = pure (some (.builtin id)) ∧ s.TypeIs v T ∧ wpAny (model X.prog X.w) X.A (getItem v (.ref sl)) (EP X pins σ Q) X.xe s
theorem SlR.or {r r' : V → Option Int → Option Int → Hp → VK → Prop} (h : SlR X r) (h' : SlR X r') : SlR X (fun x lo hi H Q => r x lo hi H Q ∨ r' x lo hi H Q) := by
  intro pins s σ H x v vl vu lo hi sl Q I rx hs pl pu q
  rcases q with q | q
  · exact h pins s σ H x v vl vu lo hi sl Q I rx hs pl pu q
  · exact h' pins s σ H x v vl vu lo hi sl Q I rx hs pl pu q
noncomputable def tSl (r : V → Option Int → Option Int → Hp → VK → Prop) (te : TE) (tl th : TO) : TE := fun σ H Q => te σ H fun x H1 => tl σ H1 fun l H2 => th σ H2 fun u H3 => r x l u H3 Q
theorem pe_slice {r : V → Option Int → Option Int → Hp → VK → Prop} (hr : SlR X r) (he : PE X e te) (hl : PO X lo tl) (hu : PO X hi th) : PE X (.Subscript e (.Slice lo hi none p2) pos) (tSl r te tl th) := by
  intro pins s σ H Q I h
  refine Subscript_ (thn (he pins s σ H _ I h) fun v s1 ⟨x, H1, I1, r1, q1⟩ => ?_)
  refine wpAny_Slice (thn (hl pins s1 σ H1 _ I1 q1) fun vl s2 ⟨l, H2, I2, pl, q2⟩ => thn (hu pins s2 σ H2 _ I2 q2) fun vu s3 ⟨u, H3, I3, pu, q3⟩ => ?_)
  rw [evalPart_none]
  refine wpAny_pure ?_
  have I4 : Inv X pins σ H3 { s3 with heap := s3.heap.push { cls := .type "slice", data := .fields #[vl, vu, .none] } } := I3.kept (t' := s3.toks) fun b ob q => Heap.get?_push_of_some _ q
  obtain ⟨T, id, hT, ht, hg⟩ := hr pins { s3 with heap := s3.heap.push { cls := .type "slice", data := .fields #[vl, vu, .none] } } σ H3 x v vl vu l u s3.heap.objs.size Q I4 r1 (Heap.IsSliceOf.new ..) pl pu q3
  show wpAny (model X.prog X.w) X.A (subscriptTail e (.Slice lo hi none p2) v (.ref s3.heap.objs.size)) (EP X pins σ Q) X.xe { s3 with heap := s3.heap.push { cls := .type "slice", data := .fields #[vl, vu, .none] } }
  exact tail_any (ops := [.ref s3.heap.objs.size, v]) ht hT hg (by with_unfolding_all rfl)
noncomputable def cutV (xs : List V) (lo hi : Option Int) : List V := (xs.drop (HT.sIx xs.length 0 lo)).take (HT.sIx xs.length xs.length hi - HT.sIx xs.length 0 lo)
theorem cutV_length (xs : List V) (lo hi : Option Int) : (cutV xs lo hi).length ≤ xs.length := by
  unfold cutV
  rw [List.length_take, List.length_drop]
  trivial
noncomputable def rSlT (K : PySem.W.Frag) : V → Option Int → Option Int → Hp → VK → Prop := fun x lo hi H Q => ∃ a xs, x = .ref a ∧ SqT K H a xs ∧
  ¬ (HT.sIx xs.length 0 lo = 0 ∧ HT.sIx xs.length xs.length hi = xs.length) ∧ ∀ p, H p = none → Q (.ref p) (upd H p (.tup (cutV xs lo hi)))
noncomputable def rLtT (K : PySem.W.Frag) : R2 := fun x y H Q => ∃ a b ns ms, x = .ref a ∧ y = .ref b ∧ SqT K H a (ns.map V.int) ∧ SqT K H b (ms.map V.int) ∧ Q (.bl (HT.lexLt ns ms)) H
noncomputable def rCatT (K : PySem.W.Frag) : R2 := fun x y H Q => ∃ a b xs ys, x = .ref a ∧ y = .ref b ∧ SqT K H a xs ∧ SqT K H b ys ∧ xs ≠ [] ∧ xs.length + ys.length ≤ sizeLine ∧
  (ys = [] → Q (.ref a) H) ∧ (ys ≠ [] → ∀ p, H p = none → Q (.ref p) (upd H p (.tup (xs ++ ys))))
end
end L2
namespace L2
open PySem PySem.Spec PyProof.Rows
noncomputable def ixN (n : Nat) (i : Int) : Option Nat := if 0 ≤ i then (if i < n then some i.toNat else none) else if -(n : Int) ≤ i then some (i + n).toNat else none
noncomputable def atI {α : Type} (xs : List α) (i : Int) : Option α := (ixN xs.length i).bind fun j => xs[j]?
theorem ixN_seq {n : Nat} {i : Int} {j : Nat} (h : ixN n i = some j) : seqIndex? i n = some j ∧ j < n ∧ -(n : Int) ≤ i ∧ i < n := by
  unfold ixN at h
  by_cases h0 : 0 ≤ i
  · rw [if_pos h0] at h
    by_cases h1 : i < n
    · rw [if_pos h1] at h
      have e : i.toNat = j := Option.some.inj h
      exact ⟨by rw [seqIndex_of h0 h1, e], by trivial, by trivial, h1⟩
    · rw [if_neg h1] at h; cases h
  · rw [if_neg h0] at h
    by_cases h1 : -(n : Int) ≤ i
    · rw [if_pos h1] at h
      have e : (i + n).toNat = j := Option.some.inj h
      exact ⟨by rw [seqIndex_neg (by trivial) h1, e], by trivial, h1, by trivial⟩
    · rw [if_neg h1] at h; cases h
theorem atI_get {α : Type} {xs : List α} {i : Int} {v : α} (h : atI xs i = some v) : ∃ j, seqIndex? i xs.length = some j ∧ xs[j]? = some v ∧ j < xs.length ∧ -(xs.length : Int) ≤ i ∧ i < xs.length := by
  unfold atI at h
  cases e : ixN xs.length i with
  | none => rw [e] at h; cases h
  | some j =>
    rw [e] at h
    obtain ⟨h1, h2, h3, h4⟩ := ixN_seq e
    exact ⟨j, h1, h, h2, h3, h4⟩
theorem atI_nat {α : Type} {xs : List α} {j : Nat} {v : α} (h : xs[j]? = some v) : atI xs (j : Int) = some v := by
  have hj : j < xs.length := (List.getElem?_eq_some_iff.mp h).1
  have e : ixN xs.length (j : Int) = some j := by
    unfold ixN
    rw [if_pos (by trivial), if_pos (by trivial)]; simp
  unfold atI; rw [e]; exact h
noncomputable def PlainIx (b : Expr) : Prop := ∀ o i, subscripted b false o i = operate [o, i] (getItem o i)
noncomputable def IxR (X : Cx) (r : R2) : Prop :=
  ∀ (value slice : Expr) (pins : List (Addr × Obj)) (s : Shared) (σ : St) (H : Hp) (x y : V) (v u : Value) (Q : VK), Inv X pins σ H s → RelV x v → RelV y u → r x y H Q →
    subscripted slice false v u = operate [v, u] (getItem v u) → wpAny (model X.prog X.w) X.A (subscriptTail value slice v u) (EP X pins σ Q) X.xe s
noncomputable def MtR (X : Cx) (id : String) (r : V → List V → Hp → VK → Prop) : Prop :=
  ∀ (pins : List (Addr × Obj)) (s : Shared) (σ : St) (H : Hp) (x : V) (xs : List V) (v : Value) (us : List Value) (Q : VK), Inv X pins σ H s → RelV x v → Vals xs us → r x xs H Q →
    wpAny (model X.prog X.w) X.A (call (.builtin id) (v :: us)) (EP X pins σ Q) X.xe s
section
variable {X : Cx} {a b : Expr} {ta tb : TE} {pos : Pos}
theorem IxR.or {r r' : R2} (h : IxR X r) (h' : IxR X r') : IxR X (fun x y H Q => r x y H Q ∨ r' x y H Q) := by
  intro value slice pins s σ H x y v u Q I rx ry q hs
  rcases q with q | q
  · exact h value slice pins s σ H x y v u Q I rx ry q hs
  · exact h' value slice pins s σ H x y v u Q I rx ry q hs
theorem MtR.or {id : String} {r r' : V → List V → Hp → VK → Prop} (h : MtR X id r) (h' : MtR X id r') : MtR X id (fun x xs H Q => r x xs H Q ∨ r' x xs H Q) := by
  intro pins s σ H x xs v us Q I rx rs q
  rcases q with q | q
  · exact h pins s σ H x xs v us Q I rx rs q
  · exact h' pins s σ H x xs v us Q I rx rs q
theorem pe_ix {r : R2} (hr : IxR X r) (ha : PE X a ta) (hb : PE X b tb) (hs : PlainIx b) : PE X (.Subscript a b pos) (tOp r ta tb) := by
  intro pins s σ H Q I h
  exact Subscript_ (binT ha hb I h fun v u s2 x y H2 I2 rx ry q => hr a b pins s2 σ H2 x y v u Q I2 rx ry q (hs _ _))
noncomputable def rIxL (K : PySem.W.Frag) : R2 := fun x y H Q => ∃ p xs i v, x = .ref p ∧ y = .int i ∧ SqL K H p xs ∧ atI xs i = some v ∧ Q v H
noncomputable def rIxT (K : PySem.W.Frag) : R2 := fun x y H Q => ∃ p xs i v, x = .ref p ∧ y = .int i ∧ SqT K H p xs ∧ atI xs i = some v ∧ Q v H
noncomputable def rIxS : R2 := fun x y H Q => ∃ z i c, x = .str z ∧ y = .int i ∧ z.length ≤ sizeLine ∧ atI z.cps.toList i = some c ∧ Q (.str ⟨#[c]⟩) H
theorem ix_list : IxR X (rIxL X.K) := by
  intro value slice pins s σ H x y v u Q I rx ry h hs
  obtain ⟨p, xs, i, z, rfl, rfl, hq, he, q⟩ := h
  cases rx
  obtain ⟨t, rfl⟩ := ry
  obtain ⟨its, r, pl, hz⟩ := I.list hq
  obtain ⟨j, h1, h2, h3, h4, h5⟩ := atI_get he
  obtain ⟨w, ew, rw'⟩ := r.get h2
  have hl := r.length
  have hn := line63
  have fin : EP X pins σ Q w s := ⟨z, H, I, rw', q⟩
  by_cases h0 : 0 ≤ i
  · have hj : i.toNat = j := by
      rw [seqIndex_of h0 h5] at h1
      exact Option.some.inj h1
    exact item_listR pl.isList h0 (by trivial) (by rw [hj]; simpa using ew) fin hs
  · have hj : (i + (its.toArray.size : Int)).toNat = j := by
      rw [seqIndex_neg (by trivial) h4] at h1
      rw [List.size_toArray, ← hl]
      exact Option.some.inj h1
    exact subscriptTail_builtinR (x := w) pl.isList.typeIs slot_list_getitem.lookup
      (wpAny_getItem_list_neg (Q := fun r s' => r = w ∧ EP X pins σ Q r s') pl.isList (by trivial) (by rw [List.size_toArray] <;> trivial) (by trivial) (by rw [hj]; simpa using ew) ⟨rfl, fin⟩) hs
theorem ix_tup : IxR X (rIxT X.K) := by
  intro value slice pins s σ H x y v u Q I rx ry h hs
  obtain ⟨p, xs, i, z, rfl, rfl, hq, he, q⟩ := h
  cases rx
  obtain ⟨t, rfl⟩ := ry
  obtain ⟨its, r, pl, hz⟩ := I.tuple hq
  obtain ⟨j, h1, h2, h3, h4, h5⟩ := atI_get he
  obtain ⟨w, ew, rw'⟩ := r.get h2
  have hl := r.length
  have hn := line63
  have fin : EP X pins σ Q w s := ⟨z, H, I, rw', q⟩
  exact subscriptTail_builtinR (x := w) pl.typeIs slot_tuple_getitem.lookup
    (getItem_tuple (j := j) (Q := fun r s' => r = w ∧ EP X pins σ Q r s') pl (by trivial) (by trivial) (by rw [List.size_toArray, ← hl]; exact h1) (by simpa using ew) ⟨rfl, fin⟩) hs
noncomputable def rIx (K : PySem.W.Frag) : R2 := fun x y H Q => rIxL K x y H Q ∨ rIxT K x y H Q ∨ rIxS x y H Q
theorem mapSeq_set (its : List Value) (n j : Nat) (u : Value) : Obj.mapSeq (·.setIfInBounds j u) { cls := .type "list", data := .seq its.toArray n } = { cls := .type "list", data := .seq (its.set j u).toArray n } := by
  simp [Obj.mapSeq]
theorem Inv.lst {pins : List (Addr × Obj)} {σ : St} {H : Hp} {s : Shared} {p : Addr} {xs : List V} (I : Inv X pins σ H s) (h : H p = some (.lst xs)) :
    ∃ (its : List Value) (n : Nat), Vals xs its ∧ s.heap.get? p = some { cls := .type "list", data := .seq its.toArray n } ∧ xs.length ≤ sizeLine := by
  obtain ⟨z, its, n, r, e⟩ := I.hok p _ h
  exact ⟨its, n, r, e, z⟩
theorem Inv.lstUpd {pins : List (Addr × Obj)} {σ : St} {H : Hp} {s : Shared} {p : Addr} {xs ys : List V} {its its' : List Value} {n n' : Nat} {f : Obj → Obj} (I : Inv X pins σ H s) (h : H p = some (.lst xs))
    (ho : s.heap.get? p = some { cls := .type "list", data := .seq its.toArray n }) (hf : f { cls := .type "list", data := .seq its.toArray n } = { cls := .type "list", data := .seq its'.toArray n' }) (r : Vals ys its') (hz : ys.length ≤ sizeLine) (t : Nat) :
    Inv X pins σ (upd H p (.lst ys)) { s with heap := s.heap.update p f, toks := t } := by
  have e : (s.heap.update p f).get? p = some { cls := .type "list", data := .seq its'.toArray n' } := by
    rw [Heap.get?_update_self f ho (by rw [hf] <;> rfl), hf]
  refine I.write (x := p) (e := p) (by rw [h]; trivial) (.inl rfl) (fun b u hb q => (Heap.get?_update_other _ _ (Ne.symm hb)).trans q) ⟨_, e⟩ ?_
  exact ⟨hz, its', n', r, e⟩
noncomputable def rSetL : V → V → V → Hp → (Hp → Prop) → Prop := fun o i v H Q => ∃ p xs k j, o = .ref p ∧ i = .int k ∧ H p = some (.lst xs) ∧ ixN xs.length k = some j ∧ Q (upd H p (.lst (xs.set j v)))
theorem set_list : PSet X rSetL := by
  intro pins s σ H o i v ov iv u Q I ro ri rv h
  obtain ⟨p, xs, k, j, rfl, rfl, hp, hj, q⟩ := h
  cases ro
  obtain ⟨t, rfl⟩ := ri
  obtain ⟨its, n, r, ho, hz⟩ := I.lst hp
  obtain ⟨h1, h2, h3, h4⟩ := ixN_seq hj
  have hl := r.length
  have hn := line63
  have I' : Inv X pins σ (upd H p (.lst (xs.set j v))) { s with heap := s.heap.update p (Obj.mapSeq (·.setIfInBounds j u)) } :=
    I.lstUpd hp ho (mapSeq_set its n j u) (r.set rv j) (by rw [List.length_set]; exact hz) s.toks
  by_cases h0 : 0 ≤ k
  · have hk : k.toNat = j := by
      rw [seqIndex_of h0 h4] at h1
      exact Option.some.inj h1
    exact PySem.W.ki_setAt ho h0 (by trivial) (by rw [List.size_toArray, ← hl]; exact h4) (by rw [hk]; exact ⟨_, I', q⟩)
  · have hk : (k + (its.toArray.size : Int)).toNat = j := by
      rw [seqIndex_neg (by trivial) h3] at h1
      rw [List.size_toArray, ← hl]
      exact Option.some.inj h1
    exact PySem.W.ki_setBack ho (by trivial) (by rw [List.size_toArray, ← hl]; exact h3) (by trivial) (by rw [hk]; exact ⟨_, I', q⟩)
theorem slice_bounds (lo hi : Option Int) (n : Nat) : (sliceBounds lo hi none n).1 = ((HT.sIx n 0 lo : Nat) : Int) ∧ (sliceBounds lo hi none n).2.1 = ((HT.sIx n n hi : Nat) : Int) ∧ (sliceBounds lo hi none n).2.2 = 1 := by
  refine ⟨?_, ?_, rfl⟩
  · cases lo with
    | none => simp [sliceBounds, HT.sIx]
    | some i =>
      simp only [sliceBounds, HT.sIx, Option.getD_none, show (1 : Int) > 0 by decide, if_true]
      by_cases h : i < 0
      · simp only [h, if_true] <;> trivial
      · simp only [h, if_false] <;> trivial
  · cases hi with
    | none => simp [sliceBounds, HT.sIx]
    | some i =>
      simp only [sliceBounds, HT.sIx, Option.getD_none, show (1 : Int) > 0 by decide, if_true]
      by_cases h : i < 0
      · simp only [h, if_true] <;> trivial
      · simp only [h, if_false] <;> trivial
theorem slicePick_cut (its : List Value) (lo hi : Option Int) : slicePick its.toArray lo hi none = ((its.drop (HT.sIx its.length 0 lo)).take (HT.sIx its.length its.length hi - HT.sIx its.length 0 lo)).toArray := by
  obtain ⟨h1, h2, h3⟩ := slice_bounds lo hi its.toArray.size
  unfold slicePick
  rw [h1, h2, h3]
  simp only [sliceRange_one, pick_run, List.size_toArray] <;> rfl
noncomputable def rSlL (K : PySem.W.Frag) : V → Option Int → Option Int → Hp → VK → Prop := fun x lo hi H Q => ∃ a xs, x = .ref a ∧ SqL K H a xs ∧ ∀ p, H p = none → Q (.ref p) (upd H p (.lst (cutV xs lo hi)))
theorem sl_list : SlR X (rSlL X.K) := by
  intro pins s σ H x v vl vu lo hi sl Q I rx hs pl pu h
  obtain ⟨a, xs, rfl, hx, q⟩ := h
  cases rx
  obtain ⟨its, r, ht, hz⟩ := I.list hx
  have hlen := r.length
  refine ⟨"list", _, slot_list_getitem.lookup, ht.isList.typeIs, ?_⟩
  refine wpAny_getItem_list_slice ht.isList hs pl pu .none (by simp) ?_ (by rw [List.size_toArray] <;> trivial)
  rw [slicePick_cut, ← hlen]
  refine ⟨.ref s.heap.objs.size, _, I.laid (t' := s.toks) (o := .lst (cutV xs lo hi)) (fun b ob q => Heap.get?_push_of_some _ q) (Nat.le_refl _) ?_, rfl, q _ (I.hok.fresh (Nat.le_refl _))⟩
  exact ⟨Nat.le_trans (cutV_length xs lo hi) hz, _, 0, (r.drop (HT.sIx xs.length 0 lo)).take (HT.sIx xs.length xs.length hi - HT.sIx xs.length 0 lo), Heap.get?_push_size _ rfl⟩
noncomputable def flatV : V → Bool
  | .non => true
  | .bl _ => true
  | .int _ => true
  | .str _ => true
  | _ => false
noncomputable def eqV : V → V → Bool
  | .non, .non => true
  | .bl a, .bl b => a == b
  | .bl a, .int b => (if a then 1 else 0) == b
  | .int a, .bl b => a == (if b then 1 else 0)
  | .int a, .int b => a == b
  | .str a, .str b => a == b
  | _, _ => false
theorem eqAt_V {A : Around} {s : Shared} {y x : V} {u v : Value} (ry : RelV y u) (rx : RelV x v) (fy : flatV y = true) (fx : flatV x = true) : SeqAt.EqAt A s u v (eqV y x) := by
  cases y with
  | non =>
    cases ry
    cases x with
    | non => cases rx; exact SeqAt.EqAt.same _
    | bl b => cases rx; exact SeqAt.EqAt.none_bool b
    | int b => obtain ⟨t, rfl⟩ := rx; exact SeqAt.EqAt.none_int b t
    | str b => obtain ⟨t, rfl⟩ := rx; exact SeqAt.EqAt.none_str b t
    | _ => exact absurd (show false = true from fx) Bool.false_ne_true
  | bl a =>
    cases ry
    cases x with
    | non => cases rx; exact SeqAt.EqAt.bool_none a
    | bl b => cases rx; exact SeqAt.EqAt.bool_bool a b
    | int b => obtain ⟨t, rfl⟩ := rx; exact SeqAt.EqAt.bool_int a b t
    | str b => obtain ⟨t, rfl⟩ := rx; exact SeqAt.EqAt.bool_str a b t
    | _ => exact absurd (show false = true from fx) Bool.false_ne_true
  | int a =>
    obtain ⟨t', rfl⟩ := ry
    cases x with
    | non => cases rx; exact SeqAt.EqAt.int_none a t'
    | bl b => cases rx; exact SeqAt.EqAt.int_bool a t' b
    | int b => obtain ⟨t, rfl⟩ := rx; exact SeqAt.EqAt.int_int a t' b t
    | str b => obtain ⟨t, rfl⟩ := rx; exact SeqAt.EqAt.int_str a t' b t
    | _ => exact absurd (show false = true from fx) Bool.false_ne_true
  | str a =>
    obtain ⟨t', rfl⟩ := ry
    cases x with
    | non => cases rx; exact SeqAt.EqAt.str_none a t'
    | bl b => cases rx; exact SeqAt.EqAt.str_bool a t' b
    | int b => obtain ⟨t, rfl⟩ := rx; exact SeqAt.EqAt.str_int a t' b t
    | str b => obtain ⟨t, rfl⟩ := rx; exact SeqAt.EqAt.str_str a t' b t
    | _ => exact absurd (show false = true from fx) Bool.false_ne_true
  | _ => exact absurd (show false = true from fy) Bool.false_ne_true
noncomputable def eqU (x : V) (u : Value) : Bool := match u with
  | .none => eqV .non x
  | .bool b => eqV (.bl b) x
  | .int i _ => eqV (.int i) x
  | .str z _ => eqV (.str z) x
  | _ => false
theorem eqU_of {x y : V} {u : Value} (r : RelV y u) (f : flatV y = true) : eqU x u = eqV y x := by
  cases y with
  | non => cases r; rfl
  | bl b => cases r; rfl
  | int i => obtain ⟨t, rfl⟩ := r; rfl
  | str z => obtain ⟨t, rfl⟩ := r; rfl
  | _ => exact absurd (show false = true from f) Bool.false_ne_true
theorem any_eqU {x : V} : ∀ {xs : List V} {us : List Value}, Vals xs us → xs.all flatV = true → us.any (eqU x) = xs.any fun y => eqV y x
  | _, _, .nil, _ => rfl
  | y :: xs, u :: us, .cons r t, f => by
    rw [List.all_cons, Bool.and_eq_true] at f
    rw [List.any_cons, List.any_cons, eqU_of r f.1, any_eqU t f.2]
theorem mem_eqAt {A : Around} {s : Shared} {x : V} {v : Value} (rx : RelV x v) (fx : flatV x = true) : ∀ {xs : List V} {us : List Value}, Vals xs us → xs.all flatV = true → ∀ u ∈ us, SeqAt.EqAt A s u v (eqU x u)
  | _, _, .nil, _ => fun u hu => by cases hu
  | y :: xs, u :: us, .cons r t, f => fun u' hu => by
    rw [List.all_cons, Bool.and_eq_true] at f
    rcases List.mem_cons.mp hu with rfl | hu
    · rw [eqU_of r f.1]; exact eqAt_V r rx f.1 fx
    · exact mem_eqAt rx fx t f.2 u' hu
noncomputable def inV (x : V) (xs : List V) : Bool := xs.any fun y => eqV y x
noncomputable def rIn (K : PySem.W.Frag) (neg : Bool) : R2 := fun x y H Q => ∃ p xs, y = .ref p ∧ (SqL K H p xs ∨ SqT K H p xs) ∧ flatV x = true ∧ xs.all flatV = true ∧ Q (.bl (if neg then !inV x xs else inV x xs)) H
theorem op_in_seq : OpR X (compareOp .In) (rIn X.K false) := by
  intro pins s σ H x y v u Q I rx ry h
  obtain ⟨p, xs, rfl, hq, fx, fs, q⟩ := h
  cases ry
  rcases hq with hq | hq
  · obtain ⟨its, r, pl, hz⟩ := I.list hq
    refine SeqAt.in_listAt (eqU x) pl.isList (fun w hw => mem_eqAt rx fx r fs w (by simpa using hw)) ⟨.bl _, H, I, rfl, ?_⟩
    rw [show its.toArray.any (eqU x) = its.any (eqU x) by simp, any_eqU r fs]
    exact q
  · obtain ⟨its, r, pl, hz⟩ := I.tuple hq
    refine SeqAt.in_tupleAt (eqU x) pl (fun w hw => mem_eqAt rx fx r fs w (by simpa using hw)) ⟨.bl _, H, I, rfl, ?_⟩
    rw [show its.toArray.any (eqU x) = its.any (eqU x) by simp, any_eqU r fs]
    exact q
theorem call_len_seq : CallR X (.builtin "len") (fun xs H Q => ∃ p ys, xs = [.ref p] ∧ (SqL X.K H p ys ∨ SqT X.K H p ys) ∧ Q (.int ys.length) H) := by
  intro pins s σ H xs us Q I r h
  obtain ⟨p, ys, rfl, hq, q⟩ := h
  obtain ⟨u, rfl, rx⟩ := vals1 r
  cases rx
  have hn := line63
  rcases hq with hq | hq
  · obtain ⟨its, r', pl, hz⟩ := I.list hq
    have hlen := r'.length
    exact Calls.call_len_list pl.isList (by simp only [List.size_toArray] <;> trivial) ⟨.int ys.length, H, I.tok _, ⟨s.toks + 1, by rw [List.size_toArray, hlen]⟩, q⟩
  · obtain ⟨its, r', pl, hz⟩ := I.tuple hq
    have hlen := r'.length
    exact len_tuple pl (by simp only [List.size_toArray] <;> trivial) ⟨.int ys.length, H, I.tok _, ⟨s.toks + 1, by rw [List.size_toArray, hlen]⟩, q⟩
theorem CallR.or {f : Value} {r r' : List V → Hp → VK → Prop} (h : CallR X f r) (h' : CallR X f r') : CallR X f (fun xs H Q => r xs H Q ∨ r' xs H Q) := by
  intro pins s σ H xs us Q I rs q
  rcases q with q | q
  · exact h pins s σ H xs us Q I rs q
  · exact h' pins s σ H xs us Q I rs q
theorem call_list_of : CallR X (.type "list") (fun xs H Q => ∃ p ys, xs = [.ref p] ∧ (SqL X.K H p ys ∨ SqT X.K H p ys) ∧ ∀ l, H l = none → Q (.ref l) (upd H l (.lst ys))) := by
  intro pins s σ H xs us Q I r h
  obtain ⟨p, ys, rfl, hq, q⟩ := h
  obtain ⟨u, rfl, rx⟩ := vals1 r
  cases rx
  have fin : ∀ (its : List Value), Vals ys its → ys.length ≤ sizeLine → ∀ (h' : Heap) (c' : Nat), (∀ b o', s.heap.get? b = some o' → h'.get? b = some o') →
      h'.get? s.heap.objs.size = some { cls := .type "list", dict := none, data := .seq its.toArray c', slots := #[] } → EP X pins σ Q (.ref s.heap.objs.size) { s with heap := h' } := fun its r' hz h' c' kp e =>
    ⟨.ref s.heap.objs.size, _, I.laid (t' := s.toks) kp (Nat.le_refl _) (show ObjOk X.prog X.w _ h' _ (.lst ys) from ⟨hz, its, c', r', e⟩), rfl, q _ (I.hok.fresh (Nat.le_refl _))⟩
  rcases hq with hq | hq
  · obtain ⟨its, r', pl, hz⟩ := I.list hq
    have hlen := r'.length
    obtain ⟨o, ho, hc, n, hd⟩ := pl.isList
    exact call_list_seq p (.inl rfl) ho hc hd (fun h' c' kp e => fin its r' hz h' c' kp e) (by simp only [List.size_toArray] <;> trivial)
  · obtain ⟨its, r', pl, hz⟩ := I.tuple hq
    have hlen := r'.length
    obtain ⟨o, ho, hc, n, hd⟩ := pl
    exact call_list_seq p (.inr rfl) ho hc hd (fun h' c' kp e => fin its r' hz h' c' kp e) (by simp only [List.size_toArray] <;> trivial)
noncomputable def tyV (K : PySem.W.Frag) (T : String) (x : V) (H : Hp) : Prop := match x with
  | .str _ => T = "str"
  | .int _ => T = "int"
  | .ref p => (T = "list" ∧ ∃ xs, SqL K H p xs) ∨ (T = "tuple" ∧ ∃ o, K.lookup p = some o ∧ o.cls = .type "tuple" ∧ o.dict = none) ∨
      (T = "dict" ∧ ((∃ kvs, H p = some (.dK kvs)) ∨ ∃ kvs, H p = some (.dT kvs))) ∨ (T = "set" ∧ ∃ S n, H p = some (.set S n))
  | _ => False
theorem tyV_is {pins : List (Addr × Obj)} {σ : St} {H : Hp} {s : Shared} {T : String} {x : V} {v : Value} (I : Inv X pins σ H s) (r : RelV x v) (ty : tyV X.K T x H) :
    s.TypeIs v T ∧ ∀ a, v = .ref a → ∃ ob, s.heap.get? a = some ob ∧ ob.dict = none := by
  cases x with
  | str z =>
    obtain ⟨t, rfl⟩ := r
    cases (show T = "str" from ty)
    exact ⟨typeIs_str s z t, fun _ e => nomatch e⟩
  | int i =>
    obtain ⟨t, rfl⟩ := r
    cases (show T = "int" from ty)
    exact ⟨typeIs_int s i t, fun _ e => nomatch e⟩
  | ref p =>
    cases r
    rcases ty with ⟨rfl, xs, hq⟩ | ⟨rfl, o, hk, hc, hd⟩ | ⟨rfl, hk⟩ | ⟨rfl, S, n, hk⟩
    · obtain ⟨its, _, pl, _⟩ := I.list hq
      refine ⟨pl.isList.typeIs, fun a e => ?_⟩
      cases e
      obtain ⟨o, n, e, c, hd, _⟩ := pl
      exact ⟨o, e, hd⟩
    · refine ⟨⟨o, I.kIn p o hk, hc⟩, fun a e => ?_⟩
      cases e
      exact ⟨o, I.kIn _ o hk, hd⟩
    · have z : ∃ o, s.heap.get? p = some o ∧ o.ExactDict := by
        rcases hk with ⟨kvs, hk⟩ | ⟨kvs, hk⟩
        · obtain ⟨_, _, _, _, o, _, _, e, ex, _⟩ := I.hok p _ hk
          exact ⟨o, e, ex⟩
        · obtain ⟨_, _, _, _, o, _, _, e, ex, _⟩ := I.hok p _ hk
          exact ⟨o, e, ex⟩
      obtain ⟨o, e, ex⟩ := z
      refine ⟨⟨o, e, ex.1⟩, fun a e2 => ?_⟩
      cases e2
      exact ⟨o, e, ex.2.1⟩
    · obtain ⟨o, _, _, _, e, ex, _⟩ := I.hok p _ hk
      refine ⟨⟨o, e, ex.1⟩, fun a e2 => ?_⟩
      cases e2
      exact ⟨o, e, ex.2.1⟩
  | _ => exact False.elim ty
noncomputable def tBM0 (K : PySem.W.Frag) (T : String) (r : V → List V → Hp → VK → Prop) (to : TE) : TE := fun σ H Q => to σ H fun x H1 => tyV K T x H1 ∧ r x [] H1 Q
noncomputable def tBM (K : PySem.W.Frag) (T : String) (r : V → List V → Hp → VK → Prop) (to : TE) (t : TA) : TE := fun σ H Q => to σ H fun x H1 => tyV K T x H1 ∧ t σ H1 fun xs H2 => r x xs H2 Q
variable {o e : Expr} {es : List Expr} {to : TE} {t : TA} {name : Str} {apos cpos : Pos} {T id : String} {r : V → List V → Hp → VK → Prop}
end
end L2
namespace L2
open PySem PySem.Spec PyProof.Rows
noncomputable def MtM (X : Cx) (id : String) (r : V → List V → Hp → VK → Prop) : Prop :=
  ∀ (pins : List (Addr × Obj)) (s : Shared) (σ : St) (H : Hp) (x : V) (xs : List V) (v : Value) (us : List Value) (Q : VK), Inv X pins σ H s → RelV x v → Vals xs us → r x xs H Q →
    wpAny (model X.prog X.w) X.A (call (.builtin id) (v :: us)) (EP X pins σ Q) X.xe s
theorem Vals.one : ∀ {x : V} {us : List Value}, Vals [x] us → ∃ u, us = [u] ∧ RelV x u
  | _, _, .cons r .nil => ⟨_, rfl, r⟩
theorem Vals.two : ∀ {x y : V} {us : List Value}, Vals [x, y] us → ∃ u v, us = [u, v] ∧ RelV x u ∧ RelV y v
  | _, _, _, .cons r (.cons q .nil) => ⟨_, _, rfl, r, q⟩
theorem Vals.zero : ∀ {us : List Value}, Vals [] us → us = []
  | _, .nil => rfl
theorem Vals.dropLast {xs : List V} {us : List Value} (h : Vals xs us) : Vals xs.dropLast us.dropLast := by
  induction h with
  | nil => exact .nil
  | cons r t ih =>
    cases t with
    | nil => exact .nil
    | cons q t' => exact .cons r ih
theorem Vals.eraseIdx : ∀ {xs : List V} {us : List Value} (i : Nat), Vals xs us → Vals (xs.eraseIdx i) (us.eraseIdx i)
  | _, _, _, .nil => .nil
  | _, _, 0, .cons _ t => t
  | _, _, i + 1, .cons r t => .cons r (Vals.eraseIdx i t)
theorem Vals.reverse {xs : List V} {us : List Value} (h : Vals xs us) : Vals xs.reverse us.reverse := by
  induction h with
  | nil => exact .nil
  | cons r t ih => rw [List.reverse_cons, List.reverse_cons]; exact Vals.append ih (.cons r .nil)
theorem Vals.rep {xs : List V} {us : List Value} (h : Vals xs us) : ∀ k : Nat, Vals (List.replicate k xs).flatten (List.replicate k us).flatten
  | 0 => .nil
  | k + 1 => by
    rw [List.replicate_succ, List.replicate_succ, List.flatten_cons, List.flatten_cons]
    exact Vals.append h (Vals.rep h k)
theorem foldl_rep (its : List Value) : ∀ (k : Nat) (acc : List Value),
    List.foldl (fun x1 x2 => x1 ++ x2) acc.toArray (List.replicate k its.toArray) = (acc ++ (List.replicate k its).flatten).toArray
  | 0, acc => by simp
  | k + 1, acc => by
    have e : acc.toArray ++ its.toArray = (acc ++ its).toArray := by simp
    have e2 : (acc ++ its) ++ (List.replicate k its).flatten = acc ++ (List.replicate (k + 1) its).flatten := by
      rw [List.replicate_succ, List.flatten_cons, List.append_assoc]
    rw [← e2, ← foldl_rep its k (acc ++ its), ← e, List.replicate_succ, List.foldl_cons]
section
variable {X : Cx} {pins : List (Addr × Obj)} {σ : St} {H : Hp} {s : Shared} {l b : Addr} {xs ys zs : List V}
theorem Inv.lset {its its' : List Value} {n : Nat} {f : Array Value → Array Value} {t' : Nat} (I : Inv X pins σ H s) (hH : H l = some (.lst xs))
    (e : s.heap.get? l = some { cls := .type "list", data := .seq its.toArray n }) (hf : f its.toArray = its'.toArray) (hv : Vals ys its') (hz : ys.length ≤ sizeLine) :
    Inv X pins σ (upd H l (.lst ys)) { s with heap := s.heap.update l (Obj.mapSeq f), toks := t' } := by
  have q := PySem.IsL.update e f
  rw [hf] at q
  refine I.write (x := l) (e := l) (by rw [hH]; exact trivial) (.inl rfl) (fun b' u hb hu => (Heap.get?_update_other s.heap (Obj.mapSeq f) (Ne.symm hb)).trans hu) ⟨_, q⟩ ?_
  exact ⟨hz, its', _, hv, q⟩
theorem Inv.lnew {its : List Value} {t' : Nat} (I : Inv X pins σ H s) (hv : Vals ys its) (hz : ys.length ≤ sizeLine) :
    Inv X pins σ (upd H s.heap.objs.size (.lst ys)) { s with heap := s.heap.push { cls := .type "list", data := .seq its.toArray }, toks := t' } :=
  I.laid (fun _ _ q => Heap.get?_push_of_some _ q) (Nat.le_refl _) ⟨hz, its, 0, hv, Heap.get?_push_size _ rfl⟩
theorem Inv.fresh (I : Inv X pins σ H s) : H s.heap.objs.size = none := I.hok.fresh (Nat.le_refl _)
theorem Inv.lstM (I : Inv X pins σ H s) (hH : H l = some (.lst xs)) : xs.length ≤ sizeLine ∧ ∃ (its : List Value) (n : Nat), Vals xs its ∧ xs.length = its.length ∧ s.heap.get? l = some { cls := .type "list", data := .seq its.toArray n } := by
  obtain ⟨z, its, n, r, e⟩ := I.hok l _ hH
  exact ⟨z, its, n, r, r.length, e⟩
theorem notLongL {n : Nat} (h : n ≤ sizeLine) : Builtin.List.listTooLong n = false := by
  unfold Builtin.List.listTooLong
  exact decide_eq_false (by trivial)
end
section
variable {X : Cx}
noncomputable def rAppend : V → List V → Hp → VK → Prop := fun x vs H Q => ∃ l xs y, x = .ref l ∧ vs = [y] ∧ H l = some (.lst xs) ∧ xs.length < sizeLine ∧ Q .non (upd H l (.lst (xs ++ [y])))
theorem mt_append : MtM X "list.append" rAppend := by
  intro pins s σ H x vs v us Q I rx rv h
  obtain ⟨l, xs, y, rfl, rfl, hH, hz, q⟩ := h
  cases rx
  obtain ⟨u, rfl, ru⟩ := rv.one
  obtain ⟨z, its, n, r, hl, e⟩ := I.lstM hH
  refine call_meets F.slot_list_append ⟨_, e, rfl⟩ F.entry_list_append (F.args_list_append_2 _ _) (PySem.list_append l its.toArray n u (by rw [List.size_toArray]; trivial)) ⟨e, ?_⟩
  refine ⟨.non, _, I.lset (its' := its ++ [u]) hH e (by simp) (r.append (.cons ru .nil)) ?_, rfl, q⟩
  rw [List.length_append, List.length_singleton]
  trivial
noncomputable def rExtend : V → List V → Hp → VK → Prop := fun x vs H Q => ∃ l b xs zs, x = .ref l ∧ vs = [.ref b] ∧ H l = some (.lst xs) ∧ H b = some (.lst zs) ∧ xs.length + zs.length ≤ sizeLine ∧ Q .non (upd H l (.lst (xs ++ zs)))
theorem mt_extend : MtM X "list.extend" rExtend := by
  intro pins s σ H x vs v us Q I rx rv h
  obtain ⟨l, b, xs, zs, rfl, rfl, hH, hB, hz, q⟩ := h
  cases rx
  obtain ⟨u, rfl, ru⟩ := rv.one
  cases ru
  obtain ⟨z, its, n, r, hl, e⟩ := I.lstM hH
  obtain ⟨z2, its2, n2, r2, hl2, e2⟩ := I.lstM hB
  have hsz : its.toArray.size + its2.toArray.size ≤ sizeLine := by rw [List.size_toArray, List.size_toArray]; trivial
  have hlong : ¬ (!its.toArray.isEmpty && Builtin.List.listTooLong (its.toArray.size + its2.toArray.size)) = true := by
    rw [notLongL hsz, Bool.and_false]
    exact Bool.false_ne_true
  refine call_meets F.slot_list_extend ⟨_, e, rfl⟩ F.entry_list_extend (F.args_list_extend_2 _ _)
    (AutoSeq1.list_extend_list_list_0 l its.toArray n b its2.toArray n2 hlong (by rw [List.size_toArray]; trivial) (by trivial)) ⟨e, e2, ?_⟩
  refine ⟨.non, _, I.lset (its' := its ++ its2) hH e (by simp) (r.append r2) ?_, rfl, q⟩
  rw [List.length_append]
  trivial
noncomputable def rPop : V → List V → Hp → VK → Prop := fun x vs H Q => ∃ l xs y, x = .ref l ∧ vs = [] ∧ H l = some (.lst xs) ∧ xs[xs.length - 1]? = some y ∧ Q y (upd H l (.lst xs.dropLast))
noncomputable def rPopAt : V → List V → Hp → VK → Prop := fun x vs H Q => ∃ l xs i k y, x = .ref l ∧ vs = [.int i] ∧ H l = some (.lst xs) ∧ -(2 ^ 63) ≤ i ∧ i < 2 ^ 63 ∧ seqIndex? i xs.length = some k ∧ xs[k]? = some y ∧ Q y (upd H l (.lst (xs.eraseIdx k)))
noncomputable def rReverse : V → List V → Hp → VK → Prop := fun x vs H Q => ∃ l xs, x = .ref l ∧ vs = [] ∧ H l = some (.lst xs) ∧ Q .non (upd H l (.lst xs.reverse))
noncomputable def rClear : V → List V → Hp → VK → Prop := fun x vs H Q => ∃ l xs, x = .ref l ∧ vs = [] ∧ H l = some (.lst xs) ∧ Q .non (upd H l (.lst []))
noncomputable def rCat : R2 := fun x y H Q => ∃ l b xs zs, x = .ref l ∧ y = .ref b ∧ H l = some (.lst xs) ∧ H b = some (.lst zs) ∧ xs.length + zs.length ≤ sizeLine ∧ ∀ p, H p = none → Q (.ref p) (upd H p (.lst (xs ++ zs)))
theorem op_cat : OpR X (binaryOp .Add) rCat := by
  intro pins s σ H x y v u Q I rx ry h
  obtain ⟨l, b, xs, zs, rfl, rfl, hH, hB, hz, q⟩ := h
  cases rx
  cases ry
  obtain ⟨z, its, n, r, hl, e⟩ := I.lstM hH
  obtain ⟨z2, its2, n2, r2, hl2, e2⟩ := I.lstM hB
  refine PySem.P.add_list e e2 ?_ (by rw [List.size_toArray, List.size_toArray]; trivial)
  have ea : its.toArray ++ its2.toArray = (its ++ its2).toArray := by simp
  rw [ea]
  exact ⟨.ref _, _, I.lnew (t' := s.toks) (r.append r2) (by rw [List.length_append]; trivial), rfl, q _ I.fresh⟩
noncomputable def rRep : R2 := fun x y H Q => ∃ l k xs, x = .ref l ∧ y = .int k ∧ H l = some (.lst xs) ∧ -(2 ^ 63) ≤ k ∧ k < 2 ^ 63 ∧ xs.length * k.toNat ≤ sizeLine ∧
  ∀ p, H p = none → Q (.ref p) (upd H p (.lst (List.replicate k.toNat xs).flatten))
theorem len_rep {α : Type} (xs : List α) (k : Nat) : (List.replicate k xs).flatten.length = k * xs.length := by
  induction k with
  | zero => simp
  | succ k ih => rw [List.replicate_succ, List.flatten_cons, List.length_append, ih, Nat.succ_mul, Nat.add_comm]
theorem op_rep : OpR X (binaryOp .Mult) rRep := by
  intro pins s σ H x y v u Q I rx ry h
  obtain ⟨l, k, xs, rfl, rfl, hH, h1, h2, hz, q⟩ := h
  cases rx
  obtain ⟨t, rfl⟩ := ry
  obtain ⟨z, its, n, r, hl, e⟩ := I.lstM hH
  have hlen : its.toArray.size * k.toNat ≤ sizeLine := by rw [List.size_toArray, ← hl]; exact hz
  have hcap : ¬ its.toArray.size * k.toNat > (2 ^ 63 - 1) / 8 := by
    have : (sizeLine : Nat) ≤ (2 ^ 63 - 1) / 8 := by decide
    trivial
  have hfit : ¬ (!Builtin.List.listFitsIndex k) = true := by
    rw [fitsIndex_both h1 h2]
    exact Bool.false_ne_true
  have hlong : ¬ Builtin.List.listTooLong (its.toArray.size * k.toNat) = true := by
    rw [notLongL hlen]
    exact Bool.false_ne_true
  have hnew : List.foldl (fun x1 x2 => x1 ++ x2) #[] (List.replicate (if its.toArray.isEmpty = true then 0 else k.toNat) its.toArray) = (List.replicate k.toNat its).flatten.toArray := by
    have f0 : ∀ m : Nat, List.foldl (fun x1 x2 => x1 ++ x2) #[] (List.replicate m its.toArray) = (List.replicate m its).flatten.toArray := fun m => by
      have := foldl_rep its m []
      rw [List.nil_append] at this
      exact this
    rw [f0]
    cases its with
    | nil => simp
    | cons a r' => rw [if_neg (by simp)]
  refine wpAny_binaryOp_repeat_ref (T := "list") (U := "int") (by decide) ⟨_, e, rfl⟩ (fun s' => typeIs_int s' k t) noFill_list_mul F.fills_int_mul F.slot_int_rmul repeat_list F.slot_int_index.lookup
    (call_meets F.slot_int_rmul (typeIs_int s k t) F.entry_int_rmul (F.args_int_rmul_2 _ _) (int___rmul___int_list k t l its.toArray n)
      ⟨e, rfl, ⟨_, e, rfl⟩, call_meets F.slot_list_mul ⟨_, e, rfl⟩ F.entry_list_mul (F.args_list_mul_2 _ _) (AutoListH.list___mul___list_int_3 l its.toArray n k t hfit hcap hlong) ⟨e, ?_⟩⟩)
  rw [hnew]
  exact ⟨.ref _, _, I.lnew (t' := s.toks) (r.rep k.toNat) (by rw [len_rep, Nat.mul_comm]; exact hz), rfl, q _ I.fresh⟩
end
section
variable {prog : Program} {w : World} {A : Around} {E : Value → Shared → Prop} {s : Shared}
set_option maxRecDepth 100000 in
end
section
variable {X : Cx}
end
end L2
namespace Att
open PySem PySem.W PySem.Calls PyProof.Rows
theorem ints_of_wellAll {P : Params} {h : Heap} : ∀ (ns : List Int) (vs : List Value), WellAll P h vs (ns.map WData.int) → IntsAre vs ns := by
  intro ns
  induction ns with
  | nil =>
    intro vs w
    rw [List.map_nil] at w
    cases w
    exact .nil
  | cons n ns ih =>
    intro vs w
    rw [List.map_cons] at w
    cases w with
    | cons a b =>
      cases a
      exact .cons _ _ (ih _ b)
theorem script_of {l : OpenLaw} {n : Nat} (hn : l.most = some n) {P : Params} {h : Heap} {args : List WData} {vals : List Value}
    (hpre : l.row.toRowW.claim.pre args = true) (hwl : WellAll P h vals args) :
    ∃ a vs ns, vals = [Value.ref a] ∧ args = [WData.list (ns.map WData.int)] ∧ h.get? a = some { cls := .type "list", data := .seq vs.toArray } ∧ IntsAre vs ns ∧ ns.length ≤ n := by
  have hsh : WShape.hasAll [] args [.list .int] = true := (pre_splitW hpre).1
  have hc : l.pre.holds [] { args := args } = true := (pre_splitW hpre).2
  obtain ⟨d, r, rfl, h1, h2⟩ := hasAllW_cons hsh
  obtain rfl := hasAllW_nil h2
  obtain ⟨xs, rfl, h3⟩ := hasW_list h1
  obtain ⟨ns, rfl⟩ := items_int h3
  have hlen : ns.length ≤ n := by
    unfold OpenLaw.pre at hc
    have h4 : (WTm.not (.lt (.lit (.int (n : Int))) (.len (.arg 0)))).holds [] { args := [.list (ns.map .int)] } = true := by
      have h4 := (holds_andW hc).1
      rw [hn] at h4
      exact h4
    have h5 := condW_of h4 (w_not (w_lt w_lit (w_len_list (w_arg rfl))))
    rw [List.length_map] at h5
    refine Nat.le_of_not_lt fun q => ?_
    have q' : (n : Int) < ((ns.length : Nat) : Int) := by trivial
    first
      | (rw [decide_eq_true q'] at h5; exact absurd h5 (by decide))
      | (simp at h5; trivial)
  cases hwl with
  | cons w1 w2 =>
    cases w2
    cases w1 with
    | list ho hall => exact ⟨_, _, ns, rfl, rfl, ho, ints_of_wellAll ns _ hall, hlen⟩
theorem post_true (l : OpenLaw) (args : List WData) : l.row.toRowW.claim.post args (.bool true) args = true :=
  postW_of (r := l.row.toRowW) (X := (true == true))
    (show WShape.has [] (.bool true) .bool = true by first | rfl | decide | simp [WShape.has, WShape.arms, WShape.armsAll])
    (show (WTm.eq .res (.lit (.bool true))).value [] { args := args, res := some (.bool true), after := args } = some (.bool (true == true)) from w_eq_bool (w_res rfl) w_lit) rfl
theorem attach_call {l : OpenLaw} {n : Nat} {q : Program} {loose : List Str} {XP : (Str → Option Value) → Heap → Prop} {YP : World → Heap → Prop} {d : DefRec}
    (hn : l.most = some n) (hdf : d.params.defaults = [])
    (call : ∀ (w : World) (s₀ s₁ : Shared) (mg mb : Str → Option Value) (fa : Addr) (o : Obj) (pm cd doc : Value) (a : Addr) (vs : List Value) (ns : List Int),
      Ground q loose [] XP w s₀ mg mb s₁.heap → YP w s₁.heap →
      s₁.heap.get? fa = some o → o.data = .func (docDef d.name d.params d.body d.scope pm cd doc) → s₁.heap.CodeRec cd d.name → mg d.name = some (.ref fa) →
      s₁.heap.get? a = some { cls := .type "list", data := .seq vs.toArray } → IntsAre vs ns → ns.length ≤ n → s₁.gens = #[] →
      codeAny (model l.prog w) callerA (.call (.ref fa) ⟨[.ref a], []⟩) (fun r s' => r = .ok (.ret (.bool true)) ∧ OldK s₁.heap s'.heap ∧ s'.os = s₁.os ∧ AllBare s'.gens) s₁) :
    WalkO q loose XP YP l.row.toRowW d [] (fun f vs => PySem.call f vs) := by
  intro w s₀ s₁ mg mb G Y fa o pm cd doc dV kV ho hd hcd hD hmg hg args vals as hpre hlay hrd hwl hlo
  obtain rfl : dV = .none := Dflts.none hD hdf
  obtain rfl : kV = .none := Dflts.noKw hD
  obtain ⟨a, vs, ns, rfl, rfl, hobj, hints, hlen⟩ := script_of hn hpre hwl
  refine enter_call (codeAny_mono (call w s₀ s₁ mg mb fa o pm cd doc a vs ns G Y ho (fd_plain hd) hcd hmg hobj hints hlen hg) fun r s' hq => ?_)
  obtain ⟨rfl, h2, h3, h4⟩ := hq
  exact ⟨.inl ⟨.bool true, .bool true, [], rfl, fun _ => rfl, .bool true, post_true l _, fun _ => ⟨List.Pairwise.nil, fun _ hm => (nomatch hm)⟩⟩, h2, h3, h4⟩
section
variable {prog : Program} {w : World} {A : Around} {E : Value → Shared → Prop} {s : Shared} {K : Frag}
noncomputable def noObjs (h : Heap) : Heap := { h with objs := #[] }
noncomputable def ledger (h : Heap) (L d : Addr) : List (Addr × Obj) := (List.range h.objs.size).filterMap fun a => if a = L ∨ a = d then none else (h.get? a).map fun o => (a, o)
end
end Att
namespace L2
open PySem PySem.Spec PyProof.Rows
theorem vals_ints : ∀ {vs : List Value} {ns : List Int}, IntsAre vs ns → Vals (ns.map V.int) vs
  | _, _, .nil => .nil
  | _, _, .cons n t h => .cons ⟨t, rfl⟩ (vals_ints h)
noncomputable def Only (H : Hp) : Prop := ∀ b, H b = none ∨ ∃ o xs, H b = some (.frz o (.lst xs))
theorem law_call {P : Program} {w : World} {K : PySem.W.Frag} {mg mb : Str → Option Value} {CX : CXT} {k : Nat} {fa a : Addr} {fd : FuncData} {x : Str} {sp : Sp} {s₁ : Shared} {vs : List Value} {ns : List Int}
    (KX : K.In s₁.heap) (hns : s₁.heap.Ns mainGlobals mg) (hb : s₁.heap.Ns builtinsNs mb) (hbb : ∀ x : Str, x ≠ "__name__" → mb x = bootBuiltins x) (hlim : s₁.heap.NoLimit) (hg : s₁.gens = #[])
    (ha : s₁.heap.get? a = some { cls := .type "list", data := .seq vs.toArray }) (hi : IntsAre vs ns) (hl : ns.length ≤ sizeLine) (hr : Room k callerA)
    (F : ∀ base : Heap, K.In base → base.Ns mainGlobals mg → FnOk P w K mg base CX k fa fd [x] sp) (hbind : ∀ (s : Shared) (u : Value), BindsTo s fd ⟨[u], []⟩ [(x, u)])
    (hsp : ∀ H : Hp, Only H → SqL K H a (ns.map V.int) → sp [.ref a] H (fun v _ => v = .bl true) fun _ _ _ => False)
    (hCX : ∀ H e s', CX [] H s₁ (fun _ _ _ => False) e s' → False) :
    codeAny (model P w) callerA (.call (.ref fa) ⟨[.ref a], []⟩) (fun r s' => r = .ok (.ret (.bool true)) ∧ OldK s₁.heap s'.heap ∧ s'.os = s₁.os ∧ AllBare s'.gens) s₁ := by
  have rv := vals_ints hi
  have lenV := hi.length
  have core : ∀ H : Hp, Only H → SqL K H a (ns.map V.int) → HOk P w H s₁.heap → (∀ b, H b ≠ none → b = a) → (H a ≠ none → K.lookup a = none) →
      codeAny (model P w) callerA (.call (.ref fa) ⟨[.ref a], []⟩) (fun r s' => r = .ok (.ret (.bool true)) ∧ OldK s₁.heap s'.heap ∧ s'.os = s₁.os ∧ AllBare s'.gens) s₁ := by
    intro H hO hS hok hA hK
    have base_of : ∀ {b : Addr} {o : Obj}, s₁.heap.get? b = some o → H b = none → (hidT s₁.heap H).get? b = some o := fun e n => hidT_get e n
    have noA : ∀ {b : Addr} {o : Obj} {es : Array DictEntry} {ep : Nat}, s₁.heap.get? b = some o → o.data = .dict es ep → H b = none := fun {b o es ep} e d => by
      cases q : H b with
      | none => rfl
      | some u =>
        have e' : b = a := hA b (by rw [q]; simp)
        subst e'
        rw [ha] at e; cases e
        have d' : Data.seq vs.toArray _ = Data.dict es ep := d
        cases d'
    have nsK : ∀ {b : Addr} {m : Str → Option Value}, s₁.heap.Ns b m → (hidT s₁.heap H).Ns b m := fun {b m} ⟨o, es, ep, e, d, r⟩ => ⟨o, es, ep, base_of e (noA e d), d, r⟩
    have hKb : K.In (hidT s₁.heap H) := fun b o e => base_of (KX b o e) (by
      cases q : H b with
      | none => rfl
      | some u =>
        have e' : b = a := hA b (by rw [q]; simp)
        subst e'
        rw [hK (by rw [q]; simp)] at e; cases e)
    have hM : Mod K mg (hidT s₁.heap H) := ⟨hKb, nsK hns, ⟨mb, nsK hb, hbb⟩, let ⟨mc, h1, h2⟩ := hlim; ⟨mc, nsK h1, h2⟩⟩
    have e0 : Env0 P w K mg (hidT s₁.heap H) callerA [] s₁ H := ⟨rfl, hM, fun b o e => of_hidT e, Nat.le_of_eq (hidT_size _ _), trivial, fun b hb => absurd (show b ∈ ([] : List Addr) from hb) (by simp), hok, .of_eq hg⟩
    refine codeAny_mono ((F _ hKb (nsK hns)).run callerA [] s₁ H ⟨[.ref a], []⟩ [.ref a] [.ref a] _ _ hr e0 (hbind s₁ (.ref a)) (.cons rfl .nil) (hsp H hO hS)) fun r s' h => ?_
    cases r with
    | error e => exact (hCX H e s' h).elim
    | ok fl =>
      cases fl with
      | next => exact False.elim h
      | brk => exact False.elim h
      | cont => exact False.elim h
      | ret u =>
        obtain ⟨v, H', os, bare, un, hok', r', q⟩ := h
        have q' : v = .bl true := q
        subst q'
        obtain rfl : u = Value.bool true := r'
        refine ⟨rfl, OldK.of_keep fun b o e => ?_, os, bare⟩
        cases q : H b with
        | none => exact un.keep b o e q (by intro z; exact absurd (show b ∈ ([] : List Addr) from z) (by simp)) (by simp)
        | some u =>
          rcases hO b with z | ⟨ob, xs, z⟩
          · rw [q] at z; cases z
          · have z2 := un.frzs b ob _ z
            obtain ⟨e1, _⟩ := hok b _ z
            obtain ⟨e2, _⟩ := hok' b _ z2
            rw [e] at e1; cases e1
            exact e2
  cases hk : K.lookup a with
  | some o =>
    have e := KX a o hk
    rw [ha] at e
    cases e
    refine core (fun _ => none) (fun _ => .inl rfl) (.inr ⟨_, vs.toArray, _, hk, rfl, rfl, rfl, by rw [List.size_toArray, lenV]; exact hl, by simpa using rv⟩) (fun b u z => by have z' : (none : Option HO) = some u := z; cases z') (fun b z => absurd rfl z) fun z => absurd rfl z
  | none =>
    refine core (fun b => if b = a then some (.frz { cls := .type "list", data := .seq vs.toArray } (.lst (ns.map V.int))) else none) (fun b => ?_) (.inl (.inr ⟨{ cls := .type "list", data := .seq vs.toArray }, if_pos rfl⟩)) (fun b u z => ?_) (fun b z => ?_) fun _ => hk
    · by_cases hb : b = a
      · exact .inr ⟨_, _, if_pos hb⟩
      · exact .inl (if_neg hb)
    · by_cases hb : b = a
      · have z' := (if_pos hb).symm.trans z
        cases z'
        subst hb
        exact ⟨ha, by rw [List.length_map]; exact hl, vs, _, rv, ha⟩
      · have z' := (if_neg hb).symm.trans z
        cases z'
    · by_cases hb : b = a
      · exact hb
      · exact absurd (if_neg hb) z
end L2
namespace L2
open PySem PySem.Spec PyProof.Rows
noncomputable abbrev KOf {K : PySem.W.Frag} {h : Heap} (_ : K.In h) : PySem.W.Frag := K
theorem walk_of {l : PySem.W.OpenLaw} {n k : Nat} {q : Program} {loose : List Str} {XP : (Str → Option Value) → Heap → Prop} {YP : World → Heap → Prop} {d : DefRec} {K : Params → PySem.W.Frag} {CX : World → CXT} {sp : World → Sp} {x : Str}
    (hn : l.most = some n) (hn2 : n ≤ sizeLine) (hdf : d.params.defaults = []) (hr : Room k callerA)
    (hY : ∀ (w : World) (h : Heap), YP w h → (K w.params).In h)
    (F : ∀ (w : World) (mg : Str → Option Value) (fa : Addr) (h : Heap), (K w.params).In h → h.Ns mainGlobals mg → mg d.name = some (.ref fa) →
      ∃ fd : FuncData, (∀ (s : Shared) (u : Value), BindsTo s fd ⟨[u], []⟩ [(x, u)]) ∧
        ∀ base : Heap, (K w.params).In base → base.Ns mainGlobals mg → FnOk l.prog w (K w.params) mg base (CX w) k fa fd [x] (sp w))
    (hsp : ∀ (w : World) (H : Hp) (a : Addr) (ns : List Int), ns.length ≤ n → Only H → SqL (K w.params) H a (ns.map V.int) → sp w [.ref a] H (fun v _ => v = .bl true) fun _ _ _ => False)
    (hCX : ∀ (w : World) (H : Hp) (s : Shared) (e : Value) (s' : Shared), CX w [] H s (fun _ _ _ => False) e s' → False) :
    PySem.W.WalkO q loose XP YP l.row.toRowW d [] (fun f vs => PySem.call f vs) := by
  refine Att.attach_call hn hdf fun w s₀ s₁ mg mb fa o pm cd doc a vs ns G Y ho hd hcd hmg hobj hints hlen hg => ?_
  have KX := hY w _ Y
  obtain ⟨fd, hb, hF⟩ := F w mg fa _ KX G.T.g hmg
  exact law_call KX G.T.g G.T.b G.T.builtins G.T.nolimit hg hobj hints (Nat.le_trans hlen hn2) hr hF hb (fun H hO hS => hsp w H a ns hlen hO hS) fun H e s' => hCX w H s₁ e s'
end L2
/- THE LAST THEOREM (shape; LID, My.* are yours):
   My.Adr: a structure of the addresses that your layer names (classes, functions); My.Txt K t: a structure (Prop) of the equations over K;
   My.txt_mk : {K} {implicit addresses ..} (e1 : nsIn K mainGlobals "law" = some (some (.ref f))) (e2 : K.lookup f = some ⟨oc, od, .func (fnOf "law" "law" params body scope dV kV doc pm an cdv ct), sl⟩) (e3 : codeIn K cdv "law" = true) .. : ∃ t, My.Txt K t
set_option maxRecDepth 100000 in
set_option maxHeartbeats 0 in
theorem PySem.Challenge.cw_LID_holds : PySem.Challenge.rw_LID.Holds := by
  w_on; o_law; k_head; (case hw => w_witness2)
  k_fill
  refine L2.walk_of (l := PySem.Challenge.rw_LID) (n := 63) (k := 40) (x := "script") (CX := fun w => ..) (sp := fun _ => My.sp_law) rfl (by decide) rfl ⟨rfl, by decide, by decide⟩ (fun w h Y => PySem.W.kIn_of Y) ?F ?S ?C
  case F =>
    intro w mg fa h KX G hmg
    have T : ∃ t, My.Txt (L2.KOf KX) t := by
      dsimp only [L2.KOf]                          -- K must stand as «<heap const> w.params» for k_is
      refine' My.txt_mk ?e1 ?e2 ?e3 ..
      (case e1 => PySem.W.k_is)                    -- in the order: a name -> its address -> its object -> its parts
      (case e2 => PySem.W.k_is)
      ..
    obtain ⟨t, T⟩ := T
    have e0 := hmg.symm.trans (PySem.W.mg_of KX G T.law)
    cases e0                                       -- fa is the law's own address
    exact ⟨_, fun s u => .of_eq rfl, fun base kb nb => My.law_fn T kb nb⟩     -- if «.of_eq rfl» comes too early: refine' ⟨_, ?b, fun base kb nb => My.law_fn T kb nb⟩; exact fun s u => .of_eq rfl
  case S => exact fun w H a ns hl hO hS => ..
  case C => exact ..
(the tactic k_is has no namespace: write k_is) -/
namespace L2
open PySem PySem.Spec PyProof.Rows
noncomputable def inClass (s : Stmt) (j : Nat) : Stmt := match s with
  | .ClassDef _ _ _ body _ _ _ _ _ _ _ => body.getD j (.Pass ⟨0, 0, 0, 0⟩)
  | _ => .Pass ⟨0, 0, 0, 0⟩
noncomputable def defArgs (s : Stmt) : Arguments := match s with
  | .FunctionDef _ a _ _ _ _ _ _ _ _ => a
  | _ => { posonlyargs := [], args := [], vararg := none, kwonlyargs := [], kw_defaults := [], kwarg := none, defaults := [] }
noncomputable def defBody (s : Stmt) : List Stmt := match s with
  | .FunctionDef _ _ b _ _ _ _ _ _ _ => b
  | _ => []
noncomputable def defScope (s : Stmt) : Scope := match s with
  | .FunctionDef _ _ _ _ _ _ sc _ _ _ => sc
  | _ => { kind := .function, names := [], isGenerator := false, isCoroutine := false }
noncomputable abbrev CX0 : CXT := fun _ _ _ _ _ _ => False
noncomputable abbrev E0 : XK := fun _ _ _ => False
theorem pass0 {X : Cx} : Passes CX0 X E0 := fun _ _ _ _ _ _ _ h => h.elim
structure Fun (K : PySem.W.Frag) (x qual : Str) (st : Stmt) (f : Addr) (fd : FuncData) : Prop where
  ex : ∃ (oc : Value) (od : Option Addr) (kV doc pm : Value) (an : Option Addr) (cdv ct : Value) (osl : Array (Option Value)),
    fd = PySem.W.fnOf x qual (defArgs st) (defBody st) (defScope st) .none kV doc pm an cdv ct ∧ K.lookup f = some ⟨oc, od, .func fd, osl⟩ ∧ PySem.W.codeIn K cdv qual = true
  kp : PySem.W.keepIn K (.ref f) = true
section
variable {P : Program} {w : World} {K : PySem.W.Frag} {mg : Str → Option Value} {base : Heap}
theorem Fun.ok {x qual : Str} {st : Stmt} {f : Addr} {fd : FuncData} {N ps : List Str} {k : Nat} {sp : Sp} (F : Fun K x qual st f fd) (S : FnScope N ps (defScope st)) (len : ∀ vs H Q E, sp vs H Q E → vs.length = ps.length)
    (hbody : ∀ (cdv : Value) (A : Around) (outer : List Env) (s : Shared) (H : Hp) (vs : List V) (Q : VK) (E : XK), Room k (A.deeper (envOfC qual (defScope st) s.heap.objs.size f cdv)) → sp vs H Q E →
      ∃ t, PSs (cxOf CX0 P w K mg base N qual (defScope st) f cdv A outer s H E).nox (defBody st) t ∧ t { nx := fun _ H' => Q .non H', rt := Q } (start N vs) H) : FnOk P w K mg base CX0 (k + 1) f fd ps sp := by
  obtain ⟨oc, od, kV, doc, pm, an, cdv, ct, osl, rfl, lk, hcd⟩ := F.ex
  refine fn_of lk hcd S len fun A outer s H vs Q E hr hsp => ?_
  obtain ⟨t, h, q⟩ := hbody cdv A outer s H vs Q E hr hsp
  exact ⟨t, h.nox, q⟩
theorem Fun.binds {x qual : Str} {st : Stmt} {f : Addr} {fd : FuncData} {ps : List Str} (F : Fun K x qual st f fd)
    (h : ∀ (kV doc pm : Value) (an : Option Addr) (cdv ct : Value) (us : List Value), us.length = ps.length → bindArgs (PySem.W.fnOf x qual (defArgs st) (defBody st) (defScope st) .none kV doc pm an cdv ct) ⟨us, []⟩ = pure (ps.zip us)) : Binds K fd ps [] := by
  obtain ⟨oc, od, kV, doc, pm, an, cdv, ct, osl, rfl, lk, hcd⟩ := F.ex
  exact .all (h kV doc pm an cdv ct)
theorem fun_mk {x qual : Str} {st : Stmt} {f : Addr} {oc : Value} {od an : Option Addr} {osl : Array (Option Value)} {kV doc pm cdv ct : Value} (l : K.lookup f = some ⟨oc, od, .func (PySem.W.fnOf x qual (defArgs st) (defBody st) (defScope st) .none kV doc pm an cdv ct), osl⟩)
    (c : PySem.W.codeIn K cdv qual = true) (k : PySem.W.keepIn K (.ref f) = true) : Fun K x qual st f (PySem.W.fnOf x qual (defArgs st) (defBody st) (defScope st) .none kV doc pm an cdv ct) := ⟨⟨oc, od, kV, doc, pm, an, cdv, ct, osl, rfl, l, c⟩, k⟩
end
section
variable {X : Cx}
theorem pv (i : Nat) {x : Str} {pos : Pos} (hN : X.N[i]? = some x := by rfl) (hv : Vis X.env.scope x := by first | exact Or.inl rfl | exact Or.inr (Or.inl rfl) | exact Or.inr (Or.inr rfl)) (hd : (x == ("__debug__" : Str)) = false := by decide)
    (hcd : (x == ("__classdict__" : Str)) = false := by decide) : PE X (.Name x pos) (tVar i) := pe_var hN hv hd hcd
end
noncomputable def Same (H H' : Hp) : Prop := ∀ b o, H b = some o → H' b = some o
theorem Same.refl (H : Hp) : Same H H := fun _ _ h => h
theorem Same.trans {H H1 H2 : Hp} (a : Same H H1) (b : Same H1 H2) : Same H H2 := fun c o h => b c o (a c o h)
theorem Same.free {H H' : Hp} (e : Same H H') {l : Addr} (h : H' l = Option.none) : H l = Option.none := by
  cases q : H l with
  | none => rfl
  | some o =>
    rw [e l o q] at h
    cases h
theorem Same.seq {K : PySem.W.Frag} {H H' : Hp} {a : Addr} {xs : List V} (e : Same H H') (h : SqL K H a xs) : SqL K H' a xs := by
  rcases h with (h | ⟨o, h⟩) | h
  · exact .inl (.inl (e _ _ h))
  · exact .inl (.inr ⟨o, e _ _ h⟩)
  · exact .inr h
end L2
set_option maxHeartbeats 4000000
namespace RS
noncomputable def gt (r : List Int) (n : Int) : List Int := r.filter (fun o => decide (n < o))
noncomputable def lt (r : List Int) (n : Int) : List Int := r.filter (fun o => decide (o < n))
noncomputable def layL : List (List Int) → Int → List (List Int) × Nat
  | [], n => ([[n]], 0)
  | r :: rs, n => if (gt r n).length = 0 then ((r ++ [n]) :: rs, 0)
    else ((r.set (r.length - (gt r n).length) n) :: (layL rs ((gt r n).headD 0)).1, (layL rs ((gt r n).headD 0)).2 + 1)
noncomputable def layP : List (List Int) → Int → List (List Int) × Nat
  | [], n => ([[n]], 0)
  | r :: rs, n => if (lt r n).length = r.length then ((r ++ [n]) :: rs, 0)
    else ((r.take (lt r n).length ++ [n] ++ r.drop ((lt r n).length + 1)) :: (layP rs (r.getD (lt r n).length 0)).1, (layP rs (r.getD (lt r n).length 0)).2 + 1)
noncomputable def Rise (r : List Int) : Prop := r.Pairwise (· < ·)
noncomputable def Below (r s : List Int) : Prop := s.length ≤ r.length ∧ ∀ (j : Nat) (x y : Int), r[j]? = some x → s[j]? = some y → x < y
inductive Stairs : List (List Int) → Prop
  | nil : Stairs []
  | one {r : List Int} : r ≠ [] → Rise r → Stairs [r]
  | cons {r s : List Int} {rs : List (List Int)} : r ≠ [] → Rise r → Below r s → Stairs (s :: rs) → Stairs (r :: s :: rs)
theorem rise_gt {r : List Int} (h : Rise r) (n : Int) (hn : n ∉ r) : r = lt r n ++ gt r n := by
  induction r with
  | nil => rfl
  | cons a r ih =>
    have h1 := List.pairwise_cons.mp h
    have hn' : n ∉ r := fun z => hn (List.mem_cons_of_mem _ z)
    have hna : n ≠ a := fun z => hn (z ▸ List.mem_cons_self)
    unfold lt gt at *
    by_cases hl : a < n
    · have hg : ¬ n < a := by trivial
      rw [List.filter_cons, List.filter_cons, if_pos (decide_eq_true hl), if_neg (by simp; trivial), List.cons_append, ← ih h1.2 hn']
    · have hg : n < a := by trivial
      have e1 : r.filter (fun o => decide (o < n)) = [] := by
        rw [List.filter_eq_nil_iff]
        intro b hb
        have := h1.1 b hb
        simp; trivial
      have e2 : r.filter (fun o => decide (n < o)) = r := by
        rw [List.filter_eq_self]
        intro b hb
        have := h1.1 b hb
        simp; trivial
      rw [List.filter_cons, List.filter_cons, if_neg (by simp; trivial), if_pos (decide_eq_true hg), e1, e2, List.nil_append]
theorem lt_gt_len {r : List Int} (h : Rise r) (n : Int) (hn : n ∉ r) : (lt r n).length + (gt r n).length = r.length := by
  have e := congrArg List.length (rise_gt h n hn)
  rw [List.length_append] at e
  trivial
theorem set_mid {α : Type} (a : List α) (x y : α) (b : List α) : (a ++ x :: b).set a.length y = a ++ y :: b := by
  induction a with
  | nil => rfl
  | cons c a ih => simp [ih]
theorem lay_perm : ∀ (rs : List (List Int)) (n : Int), (∀ r ∈ rs, Rise r) → n ∉ rs.flatten → rs.flatten.Nodup → (layL rs n).1.flatten.Perm (n :: rs.flatten)
  | [], n, _, _, _ => by unfold layL; simp
  | r :: rs, n, hr, hn, nd => by
    have hR := hr r List.mem_cons_self
    have hnr : n ∉ r := fun z => hn (by rw [List.flatten_cons]; exact List.mem_append_left _ z)
    have e := rise_gt hR n hnr
    have el := lt_gt_len hR n hnr
    unfold layL
    cases hg : gt r n with
    | nil =>
      rw [if_pos (by simp)]
      show ((r ++ [n]) :: rs).flatten.Perm _
      rw [List.flatten_cons, List.flatten_cons, List.append_assoc]
      exact List.perm_middle
    | cons x g =>
      rw [hg] at e el
      rw [if_neg (by simp)]
      have e1 : r.length - (x :: g).length = (lt r n).length := by trivial
      generalize lt r n = a at *
      have hx : x ∉ rs.flatten := fun z => by
        rw [List.flatten_cons, List.nodup_append] at nd
        exact nd.2.2 x (by rw [e]; simp) x z rfl
      have hd : (x :: g).headD 0 = x := rfl
      have e4 : r.set a.length n = a ++ n :: g := by subst e; exact set_mid _ _ _ _
      rw [hd, e1, e4]
      show ((a ++ n :: g) :: (layL rs x).1).flatten.Perm _
      rw [List.flatten_cons, List.flatten_cons, e]
      have ih := lay_perm rs x (fun s hs => hr s (List.mem_cons_of_mem _ hs)) hx (by rw [List.flatten_cons, List.nodup_append] at nd; exact nd.2.1)
      refine (List.Perm.append_left _ ih).trans ?_
      rw [List.append_assoc, List.append_assoc]
      refine List.perm_middle.trans (List.Perm.cons n ?_)
      refine List.Perm.append_left a ?_
      exact List.perm_middle
end RS
namespace RS
noncomputable def ins (r : List Int) (n : Int) : List Int := lt r n ++ n :: (gt r n).tail
theorem layL_cons {r : List Int} {rs : List (List Int)} {n : Int} (hR : Rise r) (hn : n ∉ r) :
    layL (r :: rs) n = (match gt r n with | [] => (ins r n :: rs, 0) | x :: _ => (ins r n :: (layL rs x).1, (layL rs x).2 + 1)) := by
  have e := rise_gt hR n hn
  have el := lt_gt_len hR n hn
  rw [layL]
  unfold ins
  cases hg : gt r n with
  | nil =>
    rw [hg] at e
    rw [if_pos (by simp)]
    simp at e ⊢
    exact e
  | cons x g =>
    rw [hg] at e el
    have e1 : r.length - (x :: g).length = (lt r n).length := by trivial
    rw [if_neg (by simp), e1]
    generalize lt r n = a at *
    have e4 : r.set a.length n = a ++ n :: g := by subst e; exact set_mid _ _ _ _
    rw [e4]
    rfl
theorem mem_lt {r : List Int} {n a : Int} (h : a ∈ lt r n) : a ∈ r ∧ a < n := by
  unfold lt at h
  have := List.mem_filter.mp h
  exact ⟨this.1, of_decide_eq_true this.2⟩
theorem mem_gt {r : List Int} {n a : Int} (h : a ∈ gt r n) : a ∈ r ∧ n < a := by
  unfold gt at h
  have := List.mem_filter.mp h
  exact ⟨this.1, of_decide_eq_true this.2⟩
theorem rise_ins {r : List Int} {n : Int} (hR : Rise r) (hn : n ∉ r) : Rise (ins r n) := by
  have e := rise_gt hR n hn
  unfold ins Rise
  have h1 : (lt r n).Pairwise (· < ·) := hR.sublist (List.filter_sublist)
  have h2 : (gt r n).Pairwise (· < ·) := hR.sublist (List.filter_sublist)
  rw [List.pairwise_append]
  refine ⟨h1, List.pairwise_cons.mpr ⟨fun b hb => (mem_gt (List.mem_of_mem_tail hb)).2, h2.sublist (List.tail_sublist _)⟩, fun a ha b hb => ?_⟩
  have := (mem_lt ha).2
  rcases List.mem_cons.mp hb with rfl | hb
  · exact this
  · have := (mem_gt (List.mem_of_mem_tail hb)).2
    trivial
theorem below_ins {r s : List Int} {n x : Int} {g : List Int} (hR : Rise r) (hS : Rise s) (hB : Below r s) (hn : n ∉ r) (hg : gt r n = x :: g) (hx : x ∉ s) : Below (ins r n) (ins s x) := by
  have er := rise_gt hR n hn
  have es := rise_gt hS x hx
  have hnx : n < x := (mem_gt (r := r) (n := n) (a := x) (by rw [hg]; simp)).2
  have ha : ∀ y ∈ lt r n, y < n := fun y h => (mem_lt h).2
  have hb : ∀ y ∈ lt s x, y < x := fun y h => (mem_lt h).2
  have hc : ∀ y ∈ gt s x, x < y := fun y h => (mem_gt h).2
  obtain ⟨hlen, hcol⟩ := hB
  unfold ins
  rw [hg] at er ⊢
  generalize lt r n = a at *
  generalize lt s x = b at *
  generalize gt s x = c at *
  subst er
  subst es
  have hab : b.length ≤ a.length := by
    apply Nat.le_of_not_lt
    intro hlt
    have e1 : (b ++ c)[a.length]? = some b[a.length] := by rw [List.getElem?_append_left hlt, List.getElem?_eq_getElem hlt]
    have := hcol a.length x b[a.length] (by simp) e1
    have := hb _ (List.getElem_mem hlt)
    trivial
  refine ⟨?_, fun j u v hu hv => ?_⟩
  · simp only [List.length_append, List.length_cons, List.length_tail, List.tail_cons] at hlen ⊢
    trivial
  · rw [List.tail_cons] at hu
    by_cases h1 : j < b.length
    · rw [List.getElem?_append_left (by trivial)] at hu
      rw [List.getElem?_append_left h1] at hv
      exact hcol j u v (by rw [List.getElem?_append_left (by trivial)]; exact hu) (by rw [List.getElem?_append_left h1]; exact hv)
    · by_cases h2 : j = b.length
      · subst h2
        have ev : v = x := by simpa using hv.symm
        subst ev
        by_cases h3 : b.length < a.length
        · rw [List.getElem?_append_left h3] at hu
          have := ha u (List.mem_of_getElem? hu)
          trivial
        · have e3 : b.length = a.length := by trivial
          rw [e3] at hu
          have : u = n := by simpa using hu.symm
          trivial
      · have e1 : (b ++ c)[j]? = some v := by
          rw [List.getElem?_append_right (by trivial)] at hv ⊢
          obtain ⟨k, hk⟩ : ∃ k, j - b.length = k + 1 := ⟨j - b.length - 1, by trivial⟩
          rw [hk, List.getElem?_cons_succ] at hv
          rw [hk]
          cases c with
          | nil => simp at hv
          | cons c0 c => simpa using hv
        by_cases h3 : j = a.length
        · subst h3
          have : u = n := by simpa using hu.symm
          have := hcol a.length x v (by simp) e1
          trivial
        · refine hcol j u v ?_ e1
          by_cases h4 : j < a.length
          · rw [List.getElem?_append_left h4] at hu ⊢
            exact hu
          · rw [List.getElem?_append_right (by trivial)] at hu ⊢
            obtain ⟨k, hk⟩ : ∃ k, j - a.length = k + 1 := ⟨j - a.length - 1, by trivial⟩
            rw [hk] at hu ⊢
            exact hu
theorem Stairs.rise : ∀ {rs : List (List Int)}, Stairs rs → ∀ r ∈ rs, Rise r
  | _, .nil, r, h => by simp at h
  | _, .one _ hr, r, h => by simp at h; subst h; exact hr
  | _, .cons _ hr _ t, r, h => by
    rcases List.mem_cons.mp h with rfl | h
    · exact hr
    · exact t.rise r h
theorem Stairs.pos : ∀ {rs : List (List Int)}, Stairs rs → ∀ r ∈ rs, r ≠ []
  | _, .nil, r, h => by simp at h
  | _, .one hr _, r, h => by simp at h; subst h; exact hr
  | _, .cons hr _ _ t, r, h => by
    rcases List.mem_cons.mp h with rfl | h
    · exact hr
    · exact t.pos r h
theorem Stairs.tail : ∀ {r : List Int} {rs : List (List Int)}, Stairs (r :: rs) → Stairs rs
  | _, _, .one _ _ => .nil
  | _, _, .cons _ _ _ t => t
theorem ins_ne (r : List Int) (n : Int) : ins r n ≠ [] := by unfold ins; simp
theorem lay_head {s : List Int} {rs : List (List Int)} {x : Int} (hS : Rise s) (hx : x ∉ s) : ∃ t, (layL (s :: rs) x).1 = ins s x :: t := by
  rw [layL_cons hS hx]
  cases gt s x with
  | nil => exact ⟨_, rfl⟩
  | cons y g => exact ⟨_, rfl⟩
theorem lay_stairs : ∀ {rs : List (List Int)} {n : Int}, Stairs rs → n ∉ rs.flatten → rs.flatten.Nodup → Stairs (layL rs n).1
  | [], n, _, _, _ => by unfold layL; exact .one (by simp) (List.pairwise_singleton _ _)
  | r :: rs, n, hS, hn, nd => by
    have hR := hS.rise r List.mem_cons_self
    have hnr : n ∉ r := fun z => hn (by rw [List.flatten_cons]; exact List.mem_append_left _ z)
    have hT := hS.tail
    have nd' := nd
    rw [List.flatten_cons, List.nodup_append] at nd'
    rw [layL_cons hR hnr]
    cases hg : gt r n with
    | nil =>
      show Stairs (ins r n :: rs)
      have ei : ins r n = r ++ [n] := by
        have e := rise_gt hR n hnr
        unfold ins
        rw [hg] at e ⊢
        simp at e ⊢
        exact e.symm
      cases hS with
      | one h1 h2 => exact .one (ins_ne _ _) (rise_ins hR hnr)
      | @cons _ s rs' h1 h2 h3 h4 =>
        refine .cons (ins_ne _ _) (rise_ins hR hnr) ?_ h4
        rw [ei]
        refine ⟨by rw [List.length_append]; exact Nat.le_trans h3.1 (Nat.le_add_right _ _), fun j x y hx hy => ?_⟩
        have hj : j < r.length := Nat.lt_of_lt_of_le (List.getElem?_eq_some_iff.mp hy).1 h3.1
        rw [List.getElem?_append_left hj] at hx
        exact h3.2 j x y hx hy
    | cons x g =>
      show Stairs (ins r n :: (layL rs x).1)
      have hxr : x ∈ r := (mem_gt (r := r) (n := n) (a := x) (by rw [hg]; simp)).1
      have hx : x ∉ rs.flatten := fun z => nd'.2.2 x hxr x z rfl
      have ih := lay_stairs hT hx nd'.2.1
      cases hS with
      | one h1 h2 =>
        have e : (layL [] x).1 = [[x]] := rfl
        rw [e] at ih ⊢
        refine .cons (ins_ne _ _) (rise_ins hR hnr) ?_ ih
        have hb := below_ins (s := []) hR List.Pairwise.nil ⟨Nat.zero_le _, fun j a b _ hb => by simp at hb⟩ hnr hg (by simp)
        exact hb
      | @cons _ s rs' h1 h2 h3 h4 =>
        have hSs := h4.rise s List.mem_cons_self
        have hxs : x ∉ s := fun z => hx (by rw [List.flatten_cons]; exact List.mem_append_left _ z)
        obtain ⟨t, et⟩ := lay_head (rs := rs') hSs hxs
        rw [et] at ih ⊢
        exact .cons (ins_ne _ _) (rise_ins hR hnr) (below_ins hR hSs h3 hnr hg hxs) ih
noncomputable def grow (sec : List (List Int)) (at_ : Nat) (k : Int) : List (List Int) :=
  if at_ = sec.length then sec ++ [[k]] else sec.set at_ (sec.getD at_ [] ++ [k])
noncomputable def laidFrom : List Int → Nat → List (List Int) × List (List Int) → List (List Int) × List (List Int)
  | [], _, p => p
  | n :: r, k, p => laidFrom r (k + 1) ((layL p.1 n).1, grow p.2 (layL p.1 n).2 ((k : Int) + 1))
noncomputable def laidL (row : List Int) : List (List Int) × List (List Int) := laidFrom row 0 ([], [])
theorem laidFrom_ok : ∀ (row : List Int) (k : Nat) (p : List (List Int) × List (List Int)), Stairs p.1 → (p.1.flatten ++ row).Nodup →
    Stairs (laidFrom row k p).1 ∧ (laidFrom row k p).1.flatten.Perm (p.1.flatten ++ row)
  | [], k, p, h, nd => ⟨h, by simp [laidFrom]⟩
  | n :: r, k, p, h, nd => by
    have nd' := nd
    rw [List.nodup_append] at nd'
    have hn : n ∉ p.1.flatten := fun z => nd'.2.2 n z n List.mem_cons_self rfl
    have hp := lay_perm p.1 n h.rise hn nd'.1
    have pm : ((layL p.1 n).1.flatten ++ r).Perm (p.1.flatten ++ n :: r) := (List.Perm.append_right r hp).trans (by
      show (n :: p.1.flatten ++ r).Perm _
      exact List.perm_middle.symm)
    obtain ⟨h1, h2⟩ := laidFrom_ok r (k + 1) ((layL p.1 n).1, grow p.2 (layL p.1 n).2 ((k : Int) + 1)) (lay_stairs h hn nd'.1) (pm.nodup_iff.mpr nd)
    exact ⟨h1, h2.trans pm⟩
theorem laidL_stairs {row : List Int} (nd : row.Nodup) : Stairs (laidL row).1 ∧ (laidL row).1.flatten.Perm row := by
  have := laidFrom_ok row 0 ([], []) .nil (by simpa using nd)
  simpa [laidL] using this
end RS
namespace RS
noncomputable def column (R : List (List Int)) (p : Nat) : List Int := (R.filter (fun r => decide (p < r.length))).map (fun r => r.getD p 0)
noncomputable def width (R : List (List Int)) : Nat := (R.headD []).length
noncomputable def turnedP (R : List (List Int)) : List (List Int) := (List.range (width R)).map (column R)
noncomputable def addCol : List (List Int) → List Int → List (List Int)
  | made, [] => made
  | [], x :: r => [x] :: addCol [] r
  | c :: made, x :: r => (c ++ [x]) :: addCol made r
noncomputable def colsL (R : List (List Int)) : List (List Int) := R.foldl addCol []
noncomputable def readL (R : List (List Int)) : List Int := R.reverse.flatten
theorem addCol_get : ∀ (m : List (List Int)) (r : List Int) (p : Nat), (addCol m r)[p]? = match m[p]?, r[p]? with | some c, some x => some (c ++ [x]) | some c, none => some c | none, some x => some [x] | none, none => none
  | m, [], p => by cases m <;> simp [addCol] <;> split <;> simp_all
  | [], x :: r, 0 => by simp [addCol]
  | [], x :: r, p + 1 => by
    have ih := addCol_get [] r p
    simp only [addCol, List.getElem?_cons_succ, List.getElem?_nil] at ih ⊢
    exact ih
  | c :: m, x :: r, 0 => by simp [addCol]
  | c :: m, x :: r, p + 1 => by
    have ih := addCol_get m r p
    simp only [addCol, List.getElem?_cons_succ] at ih ⊢
    exact ih
theorem column_snoc (R : List (List Int)) (r : List Int) (p : Nat) : column (R ++ [r]) p = column R p ++ (r[p]?).toList := by
  unfold column
  rw [List.filter_append, List.map_append]
  congr 1
  by_cases h : p < r.length
  · rw [List.filter_cons, if_pos (decide_eq_true h)]
    simp [List.getD_eq_getElem?_getD, List.getElem?_eq_getElem h]
  · rw [List.filter_cons, if_neg (by simp; trivial)]
    simp [List.getElem?_eq_none (Nat.le_of_not_lt h)]
theorem colsL_snoc (R : List (List Int)) (r : List Int) : colsL (R ++ [r]) = addCol (colsL R) r := by simp [colsL]
theorem colsL_get (R : List (List Int)) (p : Nat) : (colsL R)[p]? = if column R p = [] then none else some (column R p) := by
  induction hn : R.length generalizing R p with
  | zero =>
    have : R = [] := List.length_eq_zero_iff.mp hn
    subst this; simp [colsL, column]
  | succ n ih =>
    obtain ⟨S, r, rfl⟩ : ∃ S r, R = S ++ [r] := ⟨R.dropLast, R.getLast (by intro h; subst h; simp at hn), (List.dropLast_concat_getLast _).symm⟩
    have ihS := ih S p (by simpa using hn)
    rw [colsL_snoc, addCol_get, ihS, column_snoc]
    cases hr : r[p]? with
    | none =>
      by_cases hc : column S p = []
      · simp [hc]
      · simp [hc]
    | some x =>
      by_cases hc : column S p = []
      · simp [hc]
      · simp [hc]
noncomputable def Dec (R : List (List Int)) : Prop := R.Pairwise (fun r s => s.length ≤ r.length)
theorem Dec.column_get : ∀ {R : List (List Int)}, Dec R → ∀ (p q : Nat), (column R p)[q]? = (R[q]?).bind (fun r => r[p]?)
  | [], _, p, q => by simp [column]
  | r :: R, h, p, q => by
    have h1 := List.pairwise_cons.mp h
    have ih := Dec.column_get h1.2 p
    by_cases hp : p < r.length
    · have e : column (r :: R) p = r.getD p 0 :: column R p := by
        unfold column
        rw [List.filter_cons, if_pos (decide_eq_true hp), List.map_cons]
      rw [e]
      cases q with
      | zero => simp [List.getD_eq_getElem?_getD, List.getElem?_eq_getElem hp]
      | succ q => simp only [List.getElem?_cons_succ]; exact ih q
    · have e : column (r :: R) p = [] := by
        unfold column
        rw [List.filter_eq_nil_iff.mpr]
        · rfl
        · intro s hs
          have : s.length ≤ r.length := by
            rcases List.mem_cons.mp hs with rfl | hs
            · exact Nat.le_refl _
            · exact h1.1 s hs
          simp; trivial
      rw [e]
      cases hq : (r :: R)[q]? with
      | none => simp
      | some s =>
        have hs : s ∈ r :: R := List.mem_of_getElem? hq
        have : s.length ≤ r.length := by
          rcases List.mem_cons.mp hs with rfl | hs
          · exact Nat.le_refl _
          · exact h1.1 s hs
        simp only [Option.bind_some, List.getElem?_nil]
        exact (List.getElem?_eq_none (by trivial)).symm
theorem Dec.col_ne {R : List (List Int)} (h : Dec R) (p : Nat) : column R p ≠ [] ↔ p < width R := by
  cases R with
  | nil => simp [column, width]
  | cons r R =>
    have e : (column (r :: R) p)[0]? = r[p]? := by rw [h.column_get]; simp
    constructor
    · intro hne
      cases hc : column (r :: R) p with
      | nil => exact absurd hc hne
      | cons x c =>
        rw [hc] at e
        simp at e
        exact (List.getElem?_eq_some_iff.mp e.symm).1
    · intro hp hne
      rw [hne] at e
      simp [width] at hp
      simp at e
      trivial
theorem Dec.cols {R : List (List Int)} (h : Dec R) : colsL R = turnedP R := by
  apply List.ext_getElem?
  intro p
  rw [colsL_get]
  unfold turnedP
  rw [List.getElem?_map]
  by_cases hp : p < width R
  · rw [if_neg ((h.col_ne p).mpr hp), List.getElem?_range hp]; rfl
  · have : column R p = [] := Classical.byContradiction fun z => hp ((h.col_ne p).mp z)
    rw [if_pos this, List.getElem?_eq_none (by simp; trivial)]; rfl
theorem Stairs.dec : ∀ {R : List (List Int)}, Stairs R → Dec R
  | _, .nil => .nil
  | _, .one _ _ => List.pairwise_singleton _ _
  | _, .cons (r := r) (s := s) (rs := rs) _ _ hb t => by
    have ih := t.dec
    refine List.pairwise_cons.mpr ⟨fun u hu => ?_, ih⟩
    rcases List.mem_cons.mp hu with rfl | hu
    · exact hb.1
    · exact Nat.le_trans ((List.pairwise_cons.mp ih).1 u hu) hb.1
end RS
namespace RS
noncomputable def drawnZ (ns : List Int) (k many : Int) : Int :=
  ((if ns.length = 0 then 7 else ns.getD (k % (ns.length : Int)).toNat 0) * (48271 + 9973 * (k % 97)) + (k + 1) * (k + 3) * 16807 + (ns.length : Int)) % 2147483647 / 16 % many
theorem drawn_lo (ns : List Int) (k : Int) {m : Int} (h : 0 < m) : 0 ≤ drawnZ ns k m := Int.emod_nonneg _ (by trivial)
theorem drawn_hi (ns : List Int) (k : Int) {m : Int} (h : 0 < m) : drawnZ ns k m < m := Int.emod_lt_of_pos _ h
noncomputable def insAt {α : Type} (i : Nat) (x : α) (l : List α) : List α := l.take i ++ x :: l.drop i
theorem insAt_perm {α : Type} (i : Nat) (x : α) (l : List α) : (insAt i x l).Perm (x :: l) := by
  unfold insAt
  refine List.perm_middle.trans (List.Perm.cons x ?_)
  rw [List.take_append_drop]
noncomputable def ordZ (ns : List Int) : Nat → List Int
  | 0 => []
  | k + 1 => insAt (drawnZ ns (10 + 2 * (k : Int)) ((k : Int) + 1)).toNat (k : Int) (ordZ ns k)
noncomputable def numZ (ns : List Int) (n0 g : Int) : Nat → Int
  | 0 => n0
  | k + 1 => numZ ns n0 g k + 1 + drawnZ ns (11 + 2 * (k : Int)) 3 * g
noncomputable def numsZ (ns : List Int) (n0 g : Int) (k : Nat) : List Int := (List.range k).map fun i => numZ ns n0 g (i + 1)
noncomputable def manyZ (ns : List Int) (bound : Int) : Int := if drawnZ ns 1 4 = 1 then drawnZ ns 2 (bound + 1) else drawnZ ns 0 (if bound + 1 < 9 then bound + 1 else 9)
noncomputable def greatZ (ns : List Int) : Int := if drawnZ ns 4 3 = 2 then 10 ^ 27 else 1
noncomputable def rowZ (ns : List Int) (bound : Int) : List Int :=
  (ordZ ns (manyZ ns bound).toNat).map fun k => (numsZ ns (drawnZ ns 3 2001 - 1000) (greatZ ns) (manyZ ns bound).toNat).getD k.toNat 0
theorem many_lo (ns : List Int) {bound : Int} (h : 0 ≤ bound) : 0 ≤ manyZ ns bound := by
  unfold manyZ
  split
  · exact drawn_lo _ _ (by trivial)
  · exact drawn_lo _ _ (by split <;> trivial)
theorem many_hi (ns : List Int) {bound : Int} (h : 0 ≤ bound) : manyZ ns bound ≤ bound := by
  unfold manyZ
  split
  · have := drawn_hi ns 2 (m := bound + 1) (by trivial); trivial
  · have := drawn_hi ns 0 (m := if bound + 1 < 9 then bound + 1 else 9) (by split <;> trivial)
    have h2 : (if bound + 1 < 9 then bound + 1 else 9) ≤ bound + 1 := by split <;> trivial
    trivial
theorem ordZ_perm (ns : List Int) : ∀ k, (ordZ ns k).Perm ((List.range k).map fun (i : Nat) => (i : Int))
  | 0 => by simp [ordZ]
  | k + 1 => by
    unfold ordZ
    refine (insAt_perm _ _ _).trans ?_
    rw [List.range_succ, List.map_append]
    refine (List.Perm.cons _ (ordZ_perm ns k)).trans ?_
    simp only [List.map_cons, List.map_nil]
    exact (List.perm_append_singleton _ _).symm
theorem ordZ_len (ns : List Int) (k : Nat) : (ordZ ns k).length = k := by
  have := (ordZ_perm ns k).length_eq
  simpa using this
theorem ordZ_mem {ns : List Int} {k : Nat} {v : Int} (h : v ∈ ordZ ns k) : 0 ≤ v ∧ v < k := by
  have := (ordZ_perm ns k).mem_iff.mp h
  obtain ⟨i, hi, rfl⟩ := List.mem_map.mp this
  have := List.mem_range.mp hi
  trivial
theorem great_pos (ns : List Int) : 1 ≤ greatZ ns := by
  unfold greatZ
  split
  · decide
  · decide
theorem numZ_lt (ns : List Int) (n0 : Int) {g : Int} (hg : 1 ≤ g) (i : Nat) : ∀ d, numZ ns n0 g i < numZ ns n0 g (i + d + 1)
  | 0 => by
    show _ < numZ ns n0 g i + 1 + _ * g
    have h1 := drawn_lo ns (11 + 2 * (i : Int)) (m := 3) (by decide)
    have := Int.mul_nonneg h1 (show 0 ≤ g by trivial)
    trivial
  | d + 1 => by
    have h := numZ_lt ns n0 hg i d
    show _ < numZ ns n0 g (i + d + 1) + 1 + drawnZ ns (11 + 2 * ((i + d + 1 : Nat) : Int)) 3 * g
    have h1 := drawn_lo ns (11 + 2 * ((i + d + 1 : Nat) : Int)) (m := 3) (by decide)
    have := Int.mul_nonneg h1 (show 0 ≤ g by trivial)
    trivial
theorem numsZ_len (ns : List Int) (n0 g : Int) (k : Nat) : (numsZ ns n0 g k).length = k := by simp [numsZ]
theorem numsZ_get (ns : List Int) (n0 g : Int) {k i : Nat} (h : i < k) : (numsZ ns n0 g k)[i]? = some (numZ ns n0 g (i + 1)) := by
  unfold numsZ
  rw [List.getElem?_map, List.getElem?_range h]; rfl
theorem numsZ_succ (ns : List Int) (n0 g : Int) (k : Nat) : numsZ ns n0 g (k + 1) = numsZ ns n0 g k ++ [numZ ns n0 g (k + 1)] := by
  unfold numsZ
  rw [List.range_succ, List.map_append]; rfl
theorem rowZ_nodup (ns : List Int) (bound : Int) : (rowZ ns bound).Nodup := by
  unfold rowZ
  generalize (manyZ ns bound).toNat = k
  have hg := great_pos ns
  have hp := (ordZ_perm ns k).map fun v => (numsZ ns (drawnZ ns 3 2001 - 1000) (greatZ ns) k).getD v.toNat 0
  refine hp.nodup_iff.mpr ?_
  rw [List.map_map]
  unfold List.Nodup
  rw [List.pairwise_map]
  refine List.Pairwise.imp_of_mem (fun {a b} ha hb hab => ?_) (List.pairwise_lt_range (n := k))
  have ha' := List.mem_range.mp ha
  have hb' := List.mem_range.mp hb
  simp only [Function.comp, Int.toNat_natCast, List.getD_eq_getElem?_getD]
  rw [numsZ_get _ _ _ ha', numsZ_get _ _ _ hb']
  simp only [Option.getD_some]
  have := numZ_lt ns (drawnZ ns 3 2001 - 1000) hg (a + 1) (b - a - 1)
  have e : a + 1 + (b - a - 1) + 1 = b + 1 := by trivial
  rw [e] at this
  trivial
theorem rowZ_len (ns : List Int) {bound : Int} (h : 0 ≤ bound) : ((rowZ ns bound).length : Int) = manyZ ns bound := by
  unfold rowZ
  rw [List.length_map, ordZ_len]
  have := many_lo ns h
  trivial
theorem lay_at : ∀ (rs : List (List Int)) (n : Int), (layL rs n).2 ≤ rs.length ∧ (layL rs n).1.length = if (layL rs n).2 = rs.length then rs.length + 1 else rs.length
  | [], n => by simp [layL]
  | r :: rs, n => by
    rw [layL]
    split
    · simp
    · have ih := lay_at rs ((gt r n).headD 0)
      refine ⟨?_, ?_⟩
      · exact Nat.succ_le_succ ih.1
      · show (_ :: _).length = if _ + 1 = _ then _ else _
        rw [List.length_cons, ih.2]
        simp only [List.length_cons, Nat.add_right_cancel_iff]
        split <;> rfl
theorem lay_len : ∀ (rs : List (List Int)) (n : Int) (B : Nat), (∀ r ∈ rs, r.length ≤ B) → ∀ r ∈ (layL rs n).1, r.length ≤ B + 1
  | [], n, B, h, r, hr => by simp [layL] at hr; subst hr; simp
  | s :: rs, n, B, h, r, hr => by
    rw [layL] at hr
    have hs := h s List.mem_cons_self
    have ht : ∀ r ∈ rs, r.length ≤ B := fun r hr => h r (List.mem_cons_of_mem _ hr)
    split at hr
    · rcases List.mem_cons.mp hr with rfl | hr
      · simp; exact hs
      · have := ht r hr; trivial
    · rcases List.mem_cons.mp hr with rfl | hr
      · simp; trivial
      · exact lay_len rs _ B ht r hr
end RS
namespace RS
theorem laidFrom_snoc : ∀ (r : List Int) (n : Int) (k : Nat) (p : List (List Int) × List (List Int)),
    laidFrom (r ++ [n]) k p = ((layL (laidFrom r k p).1 n).1, grow (laidFrom r k p).2 (layL (laidFrom r k p).1 n).2 ((k + r.length : Nat) + 1))
  | [], n, k, p => by simp [laidFrom]
  | m :: r, n, k, p => by
    show laidFrom (r ++ [n]) (k + 1) _ = _
    rw [laidFrom_snoc r n (k + 1)]
    have e : k + 1 + r.length = k + (m :: r).length := by simp; trivial
    rw [e]
    rfl
theorem laidFrom_size : ∀ (r : List Int) (k : Nat) (p : List (List Int) × List (List Int)) (B : Nat), p.1.length = p.2.length → (∀ s ∈ p.1, s.length ≤ B) → (∀ s ∈ p.2, s.length ≤ B) →
    (laidFrom r k p).1.length = (laidFrom r k p).2.length ∧ (laidFrom r k p).1.length ≤ p.1.length + r.length ∧ (∀ s ∈ (laidFrom r k p).1, s.length ≤ B + r.length) ∧ ∀ s ∈ (laidFrom r k p).2, s.length ≤ B + r.length
  | [], k, p, B, h1, h2, h3 => ⟨h1, Nat.le_refl _, fun s hs => h2 s hs, fun s hs => h3 s hs⟩
  | n :: r, k, p, B, h1, h2, h3 => by
    obtain ⟨a1, a2⟩ := lay_at p.1 n
    have a3 := lay_len p.1 n B h2
    have g1 : (layL p.1 n).1.length = (grow p.2 (layL p.1 n).2 ((k : Int) + 1)).length := by
      rw [a2]
      unfold grow
      rw [h1]
      split
      · simp
      · simp
    have g2 : ∀ s ∈ grow p.2 (layL p.1 n).2 ((k : Int) + 1), s.length ≤ B + 1 := by
      intro s hs
      unfold grow at hs
      split at hs
      · rcases List.mem_append.mp hs with hs | hs
        · have := h3 s hs; trivial
        · simp at hs; subst hs; simp
      · rcases List.mem_or_eq_of_mem_set hs with hs | rfl
        · have := h3 s hs; trivial
        · rw [List.length_append, List.getD_eq_getElem?_getD]
          cases e : p.2[(layL p.1 n).2]? with
          | none => simp
          | some u => have := h3 u (List.mem_of_getElem? e); simp; exact this
    obtain ⟨b1, b2, b3, b4⟩ := laidFrom_size r (k + 1) ((layL p.1 n).1, grow p.2 (layL p.1 n).2 ((k : Int) + 1)) (B + 1) g1 a3 g2
    refine ⟨b1, ?_, fun s hs => ?_, fun s hs => ?_⟩
    · have : (layL p.1 n).1.length ≤ p.1.length + 1 := by rw [a2]; split <;> trivial
      show (laidFrom r (k + 1) _).1.length ≤ _
      simp only [List.length_cons]
      simp only at b2
      trivial
    · have := b3 s hs; simp only [List.length_cons]; trivial
    · have := b4 s hs; simp only [List.length_cons]; trivial
theorem laid_size (row : List Int) : (laidL row).1.length = (laidL row).2.length ∧ (laidL row).1.length ≤ row.length ∧ (∀ s ∈ (laidL row).1, s.length ≤ row.length) ∧ ∀ s ∈ (laidL row).2, s.length ≤ row.length := by
  have := laidFrom_size row 0 ([], []) 0 rfl (by simp) (by simp)
  simpa [laidL] using this
theorem laidL_snoc (r : List Int) (n : Int) : laidL (r ++ [n]) = ((layL (laidL r).1 n).1, grow (laidL r).2 (layL (laidL r).1 n).2 ((r.length : Int) + 1)) := by
  have := laidFrom_snoc r n 0 ([], [])
  simpa [laidL] using this
end RS
namespace RS
noncomputable def laidPFrom : List Int → Nat → List (List Int) × List (List Int) → List (List Int) × List (List Int)
  | [], _, p => p
  | n :: r, k, p => laidPFrom r (k + 1) ((layP p.1 n).1, grow p.2 (layP p.1 n).2 ((k : Int) + 1))
noncomputable def laidP (row : List Int) : List (List Int) × List (List Int) := laidPFrom row 0 ([], [])
end RS
namespace RS
noncomputable def atZ (row : List Int) (i : Nat) : Int := row.getD i 0
noncomputable def lowX (row : List Int) (i : Nat) : Int := if atZ row (i + 1) < atZ row i then atZ row (i + 1) else atZ row i
noncomputable def highX (row : List Int) (i : Nat) : Int := if atZ row i < atZ row (i + 1) then atZ row (i + 1) else atZ row i
noncomputable def betwX (row : List Int) (i : Nat) (z : Int) : Bool := decide (lowX row i < z) && decide (z < highX row i)
noncomputable def mayX (row : List Int) (i : Nat) : Bool := (decide (1 ≤ i) && betwX row i (atZ row (i - 1))) || (decide (i + 2 < row.length) && betwX row i (atZ row (i + 2)))
noncomputable def exX (row : List Int) (i : Nat) : List Int := row.take i ++ [atZ row (i + 1), atZ row i] ++ row.drop (i + 2)
noncomputable def nextX (row : List Int) : List (List Int) := ((List.range (row.length - 1)).filter (mayX row)).map (exX row)
end RS
namespace RS
noncomputable def lay1 : List (List Int) → Int → List (List Int)
  | [], n => [[n]]
  | r :: rs, n => match gt r n with | [] => ins r n :: rs | x :: _ => ins r n :: lay1 rs x
noncomputable def layW (R : List (List Int)) (w : List Int) : List (List Int) := w.foldl lay1 R
noncomputable def bmp (r : List Int) (n : Int) : List Int := (gt r n).take 1
noncomputable def bmpW (r : List Int) : List Int → List Int × List Int
  | [] => (r, [])
  | n :: w => ((bmpW (ins r n) w).1, bmp r n ++ (bmpW (ins r n) w).2)
theorem layW_snoc (R : List (List Int)) (n : Int) (w : List Int) : layW R (n :: w) = layW (lay1 R n) w := rfl
theorem layW_app (R : List (List Int)) (u v : List Int) : layW R (u ++ v) = layW (layW R u) v := by unfold layW; rw [List.foldl_append]
theorem layW_cons : ∀ (w : List Int) (r : List Int) (rs : List (List Int)), layW (r :: rs) w = (bmpW r w).1 :: layW rs (bmpW r w).2
  | [], r, rs => rfl
  | n :: w, r, rs => by
    rw [layW_snoc, lay1, bmpW]
    unfold bmp
    cases hg : gt r n with
    | nil => simp only; rw [layW_cons w]; rfl
    | cons x g => simp only; rw [layW_cons w]; rfl
theorem split_lt {L G : List Int} {n : Int} (hL : ∀ a ∈ L, a < n) (hG : ∀ a ∈ G, n < a) : lt (L ++ G) n = L := by
  unfold lt
  rw [List.filter_append, List.filter_eq_self.mpr (fun a h => by simpa using hL a h), List.filter_eq_nil_iff.mpr (fun a h => by have := hG a h; simp; trivial), List.append_nil]
theorem split_gt {L G : List Int} {n : Int} (hL : ∀ a ∈ L, a < n) (hG : ∀ a ∈ G, n < a) : gt (L ++ G) n = G := by
  unfold gt
  have e1 : L.filter (fun o => decide (n < o)) = [] := List.filter_eq_nil_iff.mpr (fun a h => by have := hL a h; simp; trivial)
  have e2 : G.filter (fun o => decide (n < o)) = G := List.filter_eq_self.mpr (fun a h => by simpa using hG a h)
  rw [List.filter_append, e1, e2, List.nil_append]
theorem bmpW_at {L G : List Int} {n : Int} (w : List Int) (hL : ∀ a ∈ L, a < n) (hG : ∀ a ∈ G, n < a) : bmpW (L ++ G) (n :: w) = ((bmpW (L ++ n :: G.tail) w).1, G.take 1 ++ (bmpW (L ++ n :: G.tail) w).2) := by
  rw [bmpW]
  unfold bmp ins
  rw [split_lt hL hG, split_gt hL hG]
inductive Kn : List Int → List Int → Prop
  | k1 {x y z : Int} : x < y → y < z → Kn [y, x, z] [y, z, x]
  | k2 {x y z : Int} : x < y → y < z → Kn [x, z, y] [z, x, y]
noncomputable def KR (u v : List Int) : Prop := u = v ∨ Kn u v ∨ Kn v u
theorem rise_app {L G : List Int} (h : Rise (L ++ G)) : Rise L ∧ Rise G ∧ ∀ a ∈ L, ∀ b ∈ G, a < b := List.pairwise_append.mp h
theorem part2 {r : List Int} (h : Rise r) {n : Int} (hn : n ∉ r) : ∃ L G, r = L ++ G ∧ (∀ a ∈ L, a < n) ∧ ∀ a ∈ G, n < a :=
  ⟨lt r n, gt r n, rise_gt h n hn, fun _ ha => (mem_lt ha).2, fun _ ha => (mem_gt ha).2⟩
theorem row_k1 {r : List Int} {x y z : Int} (h : Rise r) (hx : x ∉ r) (hy : y ∉ r) (hz : z ∉ r) (xy : x < y) (yz : y < z) : (bmpW r [y, x, z]).1 = (bmpW r [y, z, x]).1 ∧ KR (bmpW r [y, x, z]).2 (bmpW r [y, z, x]).2 := by
  obtain ⟨L, G, rfl, hL, hG⟩ := part2 h hy
  obtain ⟨hRL, hRG, hLG⟩ := rise_app h
  obtain ⟨A, B, rfl, hA, hB⟩ := part2 hRL (n := x) (fun z => hx (List.mem_append_left _ z))
  have hRt : Rise G.tail := hRG.sublist (List.tail_sublist _)
  obtain ⟨E1, E2, eE, hE1, hE2⟩ := part2 hRt (n := z) (fun q => hz (List.mem_append_right _ (List.mem_of_mem_tail q)))
  have hT : ∀ a ∈ E1 ++ E2, y < a := fun a ha => hG a (List.mem_of_mem_tail (eE ▸ ha))
  rw [bmpW_at _ hL hG, bmpW_at _ hL hG, eE]
  have hBy : ∀ a ∈ A ++ B, a < z := fun a ha => by have := hL a ha; trivial
  have c1 : ∀ a ∈ A ++ B ++ y :: E1, a < z := fun a ha => by
    rcases List.mem_append.mp ha with ha | ha
    · exact hBy a ha
    · rcases List.mem_cons.mp ha with rfl | ha
      · exact yz
      · exact hE1 a ha
  have e1 : A ++ B ++ y :: (E1 ++ E2) = (A ++ B ++ y :: E1) ++ E2 := by simp
  have e2 : A ++ B ++ y :: (E1 ++ E2) = A ++ (B ++ y :: (E1 ++ E2)) := by simp
  have c2 : ∀ a ∈ B ++ y :: (E1 ++ E2), x < a := fun a ha => by
    rcases List.mem_append.mp ha with ha | ha
    · exact hB a ha
    · rcases List.mem_cons.mp ha with rfl | ha
      · exact xy
      · have := hT a ha; trivial
  have c3 : ∀ a ∈ B ++ y :: (E1 ++ z :: E2.tail), x < a := fun a ha => by
    rcases List.mem_append.mp ha with ha | ha
    · exact hB a ha
    · rcases List.mem_cons.mp ha with rfl | ha
      · exact xy
      · rcases List.mem_append.mp ha with ha | ha
        · have := hT a (List.mem_append_left _ ha); trivial
        · rcases List.mem_cons.mp ha with rfl | ha
          · trivial
          · have := hT a (List.mem_append_right _ (List.mem_of_mem_tail ha)); trivial
  rw [show bmpW (A ++ B ++ y :: (E1 ++ E2)) [x, z] = bmpW (A ++ (B ++ y :: (E1 ++ E2))) [x, z] by rw [e2], bmpW_at _ hA c2]
  rw [show bmpW (A ++ B ++ y :: (E1 ++ E2)) [z, x] = bmpW ((A ++ B ++ y :: E1) ++ E2) [z, x] by rw [e1], bmpW_at _ c1 hE2]
  rw [show A ++ B ++ y :: E1 ++ z :: E2.tail = A ++ (B ++ y :: (E1 ++ z :: E2.tail)) by simp, bmpW_at _ hA c3]
  have fin : ∀ hd : Int, hd ≤ y → KR (G.take 1 ++ ([hd] ++ E2.take 1)) (G.take 1 ++ (E2.take 1 ++ [hd])) := fun hd hh => by
    cases E2 with
    | nil => exact .inl (by simp)
    | cons e E2 =>
      cases G with
      | nil => simp at eE
      | cons g G =>
        refine .inr (.inl ?_)
        have g1 := hG g List.mem_cons_self
        have g2 : g < e := (List.pairwise_cons.mp hRG).1 e (by simp at eE; rw [eE]; simp)
        exact Kn.k1 (by trivial) g2
  cases B with
  | nil =>
    have e3 : A ++ x :: ([] ++ y :: (E1 ++ E2)).tail = (A ++ x :: E1) ++ E2 := by simp
    rw [e3, bmpW_at _ (fun a ha => by
      rcases List.mem_append.mp ha with ha | ha
      · have := hA a ha; trivial
      · rcases List.mem_cons.mp ha with rfl | ha
        · trivial
        · exact hE1 a ha) hE2]
    exact ⟨by simp [bmpW], by simpa [bmpW] using fin y (by trivial)⟩
  | cons b B =>
    have e3 : A ++ x :: (b :: B ++ y :: (E1 ++ E2)).tail = (A ++ x :: (B ++ y :: E1)) ++ E2 := by simp
    have hbB : ∀ a ∈ b :: B, a < y := fun a ha => hL a (List.mem_append_right _ ha)
    rw [e3, bmpW_at _ (fun a ha => by
      rcases List.mem_append.mp ha with ha | ha
      · have := hA a ha; trivial
      · rcases List.mem_cons.mp ha with rfl | ha
        · trivial
        · rcases List.mem_append.mp ha with ha | ha
          · have := hbB a (List.mem_cons_of_mem _ ha); trivial
          · rcases List.mem_cons.mp ha with rfl | ha
            · exact yz
            · exact hE1 a ha) hE2]
    have := hbB b List.mem_cons_self
    exact ⟨by simp [bmpW], by simpa [bmpW] using fin b (by trivial)⟩
theorem row_k2 {r : List Int} {x y z : Int} (h : Rise r) (hx : x ∉ r) (hy : y ∉ r) (hz : z ∉ r) (xy : x < y) (yz : y < z) : (bmpW r [x, z, y]).1 = (bmpW r [z, x, y]).1 ∧ KR (bmpW r [x, z, y]).2 (bmpW r [z, x, y]).2 := by
  obtain ⟨A, G, rfl, hA, hG⟩ := part2 h hx
  obtain ⟨hRA, hRG, hAG⟩ := rise_app h
  have hAy : ∀ a ∈ A, a < y := fun a ha => by have := hA a ha; trivial
  have hAz : ∀ a ∈ A, a < z := fun a ha => by have := hA a ha; trivial
  have hAx : ∀ a ∈ A ++ [x], a < y := fun a ha => by
    rcases List.mem_append.mp ha with ha | ha
    · exact hAy a ha
    · have : a = x := by simpa using ha
      trivial
  have hAxz : ∀ a ∈ A ++ [x], a < z := fun a ha => by have := hAx a ha; trivial
  cases G with
  | nil =>
    have n0 : ∀ (P : Int → Prop), ∀ a ∈ ([] : List Int), P a := fun P a ha => nomatch ha
    rw [bmpW_at _ hA (n0 _), bmpW_at _ hAz (n0 _)]
    rw [show A ++ x :: ([] : List Int).tail = (A ++ [x]) ++ [] by simp, bmpW_at _ hAxz (n0 _)]
    rw [show A ++ [x] ++ z :: ([] : List Int).tail = (A ++ [x]) ++ [z] by simp, bmpW_at _ hAx (by simpa using yz)]
    rw [show A ++ z :: ([] : List Int).tail = A ++ [z] by simp, bmpW_at _ hA (by simp; trivial)]
    rw [show A ++ x :: ([z] : List Int).tail = (A ++ [x]) ++ [] by simp, bmpW_at _ hAx (n0 _)]
    exact ⟨by simp [bmpW], .inl (by simp [bmpW])⟩
  | cons g E =>
    obtain ⟨hgE, hRE⟩ := List.pairwise_cons.mp hRG
    have hxg := hG g List.mem_cons_self
    have gz : g ≠ z := fun q => hz (by simp [← q])
    have gy : g ≠ y := fun q => hy (by simp [← q])
    by_cases hgz : g < z
    · obtain ⟨F, E2, rfl, hF, hE2⟩ := part2 hRE (n := z) (fun q => hz (by simp [q]))
      obtain ⟨hRF, _, hFE⟩ := rise_app hRE
      obtain ⟨E0, E1, rfl, hE0, hE1⟩ := part2 hRF (n := y) (fun q => hy (by simp [q]))
      have hE1z : ∀ a ∈ E1, a < z := fun a ha => hF a (List.mem_append_right _ ha)
      have gE1 : ∀ a ∈ E1, g < a := fun a ha => hgE a (by simp [ha])
      have gE2 : ∀ a ∈ E2, g < a := fun a ha => hgE a (by simp [ha])
      have hxF : ∀ a ∈ E0 ++ E1, x < a := fun a ha => hG a (by simp at ha ⊢; rcases ha with h | h <;> simp [h])
      have q1 : ∀ a ∈ A ++ x :: (E0 ++ E1), a < z := fun a ha => by
        rcases List.mem_append.mp ha with ha | ha
        · exact hAz a ha
        · rcases List.mem_cons.mp ha with rfl | ha
          · trivial
          · exact hF a ha
      have q2 : ∀ a ∈ A ++ g :: (E0 ++ E1), a < z := fun a ha => by
        rcases List.mem_append.mp ha with ha | ha
        · exact hAz a ha
        · rcases List.mem_cons.mp ha with rfl | ha
          · trivial
          · exact hF a ha
      have q3 : ∀ a ∈ g :: (E0 ++ E1 ++ z :: E2.tail), x < a := fun a ha => by
        rcases List.mem_cons.mp ha with rfl | ha
        · exact hxg
        · rcases List.mem_append.mp ha with ha | ha
          · exact hxF a ha
          · rcases List.mem_cons.mp ha with rfl | ha
            · trivial
            · have := hE2 a (List.mem_of_mem_tail ha); trivial
      have q4 : ∀ a ∈ A ++ x :: E0, a < y := fun a ha => by
        rcases List.mem_append.mp ha with ha | ha
        · exact hAy a ha
        · rcases List.mem_cons.mp ha with rfl | ha
          · trivial
          · exact hE0 a ha
      have q5 : ∀ a ∈ E1 ++ z :: E2.tail, y < a := fun a ha => by
        rcases List.mem_append.mp ha with ha | ha
        · exact hE1 a ha
        · rcases List.mem_cons.mp ha with rfl | ha
          · trivial
          · have := hE2 a (List.mem_of_mem_tail ha); trivial
      rw [bmpW_at _ hA hG, show A ++ x :: (g :: (E0 ++ E1 ++ E2)).tail = (A ++ x :: (E0 ++ E1)) ++ E2 by simp, bmpW_at _ q1 hE2]
      rw [show A ++ x :: (E0 ++ E1) ++ z :: E2.tail = (A ++ x :: E0) ++ (E1 ++ z :: E2.tail) by simp, bmpW_at _ q4 q5]
      rw [show A ++ g :: (E0 ++ E1 ++ E2) = (A ++ g :: (E0 ++ E1)) ++ E2 by simp, bmpW_at _ q2 hE2]
      rw [show A ++ g :: (E0 ++ E1) ++ z :: E2.tail = A ++ (g :: (E0 ++ E1 ++ z :: E2.tail)) by simp, bmpW_at _ hA q3]
      rw [show A ++ x :: (g :: (E0 ++ E1 ++ z :: E2.tail)).tail = (A ++ x :: E0) ++ (E1 ++ z :: E2.tail) by simp, bmpW_at _ q4 q5]
      refine ⟨by simp [bmpW], ?_⟩
      have fin : ∀ hd : Int, g < hd → hd ≤ z → KR ([g] ++ (E2.take 1 ++ [hd])) (E2.take 1 ++ ([g] ++ [hd])) := fun hd h1 h2 => by
        cases E2 with
        | nil => exact .inl (by simp)
        | cons e E2 =>
          have := hE2 e List.mem_cons_self
          exact .inr (.inl (Kn.k2 h1 (by trivial)))
      cases E1 with
      | nil => simpa [bmpW] using fin z hgz (by trivial)
      | cons e1 E1 =>
        have h1 := gE1 e1 List.mem_cons_self
        have h2 := hE1z e1 List.mem_cons_self
        simpa [bmpW] using fin e1 h1 (by trivial)
    · have hzg : z < g := by trivial
      have zE : ∀ a ∈ E, z < a := fun a ha => by have := hgE a ha; trivial
      have zG : ∀ a ∈ g :: E, z < a := fun a ha => by
        rcases List.mem_cons.mp ha with rfl | ha
        · exact hzg
        · exact zE a ha
      have q1 : ∀ a ∈ z :: E, x < a := fun a ha => by
        rcases List.mem_cons.mp ha with rfl | ha
        · trivial
        · have := zE a ha; trivial
      have q2 : ∀ a ∈ z :: E.tail, y < a := fun a ha => by
        rcases List.mem_cons.mp ha with rfl | ha
        · trivial
        · have := zE a (List.mem_of_mem_tail ha); trivial
      have q3 : ∀ a ∈ E, y < a := fun a ha => by have := zE a ha; trivial
      rw [bmpW_at _ hA hG, show A ++ x :: (g :: E).tail = (A ++ [x]) ++ E by simp, bmpW_at _ hAxz zE]
      rw [bmpW_at _ hAx q2]
      rw [bmpW_at _ hAz zG, show A ++ z :: (g :: E).tail = A ++ (z :: E) by simp, bmpW_at _ hA q1]
      rw [show A ++ x :: (z :: E).tail = (A ++ [x]) ++ E by simp, bmpW_at _ hAx q3]
      refine ⟨by simp [bmpW], ?_⟩
      cases E with
      | nil => exact .inl (by simp [bmpW])
      | cons e E =>
        have := hgE e List.mem_cons_self
        exact .inr (.inr (by simpa [bmpW] using Kn.k1 hzg this))
theorem ins_sub {r : List Int} {n a : Int} (h : a ∈ ins r n) : a ∈ r ∨ a = n := by
  unfold ins at h
  rcases List.mem_append.mp h with h | h
  · exact .inl (mem_lt h).1
  · rcases List.mem_cons.mp h with h | h
    · exact .inr h
    · exact .inl (mem_gt (List.mem_of_mem_tail h)).1
theorem bmpW_sub : ∀ {w r : List Int} {a : Int}, a ∈ (bmpW r w).2 → a ∈ r ∨ a ∈ w
  | [], r, a, h => by simp [bmpW] at h
  | n :: w, r, a, h => by
    rw [bmpW] at h
    rcases List.mem_append.mp h with h | h
    · exact .inl (mem_gt (List.mem_of_mem_take h)).1
    · rcases bmpW_sub h with h | h
      · rcases ins_sub h with h | h
        · exact .inl h
        · exact .inr (by simp [h])
      · exact .inr (List.mem_cons_of_mem _ h)
theorem kn_rows : ∀ {rs : List (List Int)} {u v : List Int}, Kn u v → (∀ r ∈ rs, Rise r) → rs.flatten.Nodup → (∀ a ∈ u, a ∉ rs.flatten) → (∀ a ∈ v, a ∉ rs.flatten) → layW rs u = layW rs v
  | [], u, v, k, _, _, _, _ => by
    cases k with
    | @k1 x y z xy yz =>
      simp [layW, lay1, ins, gt, lt, xy, yz, show ¬ y < x by trivial, show ¬ z < y by trivial, show ¬ z < x by trivial, show x < z by trivial]
    | @k2 x y z xy yz =>
      simp [layW, lay1, ins, gt, lt, xy, yz, show ¬ y < x by trivial, show ¬ z < y by trivial, show ¬ z < x by trivial, show x < z by trivial]
  | r :: rs, u, v, k, hr, nd, hu, hv => by
    rw [layW_cons, layW_cons]
    have hR := hr r List.mem_cons_self
    rw [List.flatten_cons] at nd hu hv
    obtain ⟨nd1, nd2, nd3⟩ := List.nodup_append.mp nd
    have row : (bmpW r u).1 = (bmpW r v).1 ∧ KR (bmpW r u).2 (bmpW r v).2 := by
      cases k with
      | @k1 x y z xy yz => exact row_k1 hR (fun q => hu x (by simp) (List.mem_append_left _ q)) (fun q => hu y (by simp) (List.mem_append_left _ q)) (fun q => hu z (by simp) (List.mem_append_left _ q)) xy yz
      | @k2 x y z xy yz => exact row_k2 hR (fun q => hu x (by simp) (List.mem_append_left _ q)) (fun q => hu y (by simp) (List.mem_append_left _ q)) (fun q => hu z (by simp) (List.mem_append_left _ q)) xy yz
    have out : ∀ {w : List Int}, (∀ a ∈ w, a ∉ r ++ rs.flatten) → ∀ a ∈ (bmpW r w).2, a ∉ rs.flatten := fun hw a ha hm => by
      rcases bmpW_sub ha with h | h
      · exact nd3 a h a hm rfl
      · exact hw a h (List.mem_append_right _ hm)
    rw [row.1]
    congr 1
    rcases row.2 with e | k' | k'
    · rw [e]
    · exact kn_rows k' (fun s hs => hr s (List.mem_cons_of_mem _ hs)) nd2 (out hu) (out hv)
    · exact (kn_rows k' (fun s hs => hr s (List.mem_cons_of_mem _ hs)) nd2 (out hv) (out hu)).symm
theorem lay1_same {rs : List (List Int)} {n : Int} (hr : ∀ r ∈ rs, Rise r) (hn : n ∉ rs.flatten) (nd : rs.flatten.Nodup) : (layL rs n).1 = lay1 rs n := by
  induction rs generalizing n with
  | nil => rfl
  | cons r rs ih =>
    rw [List.flatten_cons] at nd hn
    obtain ⟨nd1, nd2, nd3⟩ := List.nodup_append.mp nd
    rw [layL_cons (hr r List.mem_cons_self) (fun q => hn (List.mem_append_left _ q)), lay1]
    cases hg : gt r n with
    | nil => rfl
    | cons x g =>
      simp only
      rw [ih (fun s hs => hr s (List.mem_cons_of_mem _ hs)) (fun q => ?_) nd2]
      have : x ∈ r := (mem_gt (show x ∈ gt r n by rw [hg]; simp)).1
      exact nd3 x this x q rfl
theorem laidFrom_layW : ∀ (row : List Int) (k : Nat) (p : List (List Int) × List (List Int)), Stairs p.1 → (p.1.flatten ++ row).Nodup → (laidFrom row k p).1 = layW p.1 row
  | [], k, p, _, _ => rfl
  | n :: row, k, p, st, nd => by
    obtain ⟨n1, n2, n3⟩ := List.nodup_append.mp nd
    have hn : n ∉ p.1.flatten := fun z => n3 n z n (by simp) rfl
    have e := lay1_same st.rise hn n1
    have pm := lay_perm p.1 n st.rise hn n1
    rw [layW_snoc, ← e, laidFrom]
    refine laidFrom_layW row _ _ (lay_stairs st hn n1) ?_
    have : (p.1.flatten ++ n :: row).Perm ((layL p.1 n).1.flatten ++ row) := by
      refine List.perm_middle.trans ?_
      exact (pm.symm.append_right row)
    exact this.nodup_iff.mp nd
theorem laidL_layW {row : List Int} (nd : row.Nodup) : (laidL row).1 = layW [] row := laidFrom_layW row 0 ([], []) .nil (by simpa using nd)
theorem layW_stairs {row : List Int} (nd : row.Nodup) : Stairs (layW [] row) ∧ (layW [] row).flatten.Perm row := by rw [← laidL_layW nd]; exact laidL_stairs nd
theorem Kn.perm {u v : List Int} (k : Kn u v) : u.Perm v := by
  cases k with
  | k1 => exact .cons _ (.swap _ _ _)
  | k2 => exact .swap _ _ _
theorem kn_same {a u v b : List Int} (nd : (a ++ u ++ b).Nodup) (k : Kn u v) : layW [] (a ++ u ++ b) = layW [] (a ++ v ++ b) := by
  obtain ⟨n1, _, _⟩ := List.nodup_append.mp nd
  obtain ⟨na, nu, d⟩ := List.nodup_append.mp n1
  obtain ⟨st, pm⟩ := layW_stairs na
  rw [layW_app, layW_app, layW_app, layW_app]
  congr 1
  refine kn_rows k st.rise (pm.nodup_iff.mpr na) (fun c hc hm => ?_) (fun c hc hm => ?_)
  · exact d c (pm.mem_iff.mp hm) c hc rfl
  · exact d c (pm.mem_iff.mp hm) c (k.perm.mem_iff.mpr hc) rfl
end RS
namespace RS
end RS
namespace RS
noncomputable def KS (v w : List Int) : Prop := ∃ a u u' b, v = a ++ u ++ b ∧ w = a ++ u' ++ b ∧ (Kn u u' ∨ Kn u' u)
inductive KE : List Int → List Int → Prop
  | refl (w : List Int) : KE w w
  | tail {u v w : List Int} : KE u v → KS v w → KE u w
theorem KS.symm {v w : List Int} (h : KS v w) : KS w v := by
  obtain ⟨a, u, u', b, e1, e2, k⟩ := h
  exact ⟨a, u', u, b, e2, e1, k.symm⟩
theorem KE.trans {u v w : List Int} (h : KE u v) (g : KE v w) : KE u w := by
  induction g with
  | refl => exact h
  | tail _ s ih => exact ih.tail s
theorem KE.of {v w : List Int} (h : KS v w) : KE v w := (KE.refl v).tail h
theorem KE.symm {u v : List Int} (h : KE u v) : KE v u := by
  induction h with
  | refl => exact .refl _
  | tail _ s ih => exact (KE.of s.symm).trans ih
theorem KS.ctx {v w : List Int} (h : KS v w) (c d : List Int) : KS (c ++ v ++ d) (c ++ w ++ d) := by
  obtain ⟨a, u, u', b, rfl, rfl, k⟩ := h
  exact ⟨c ++ a, u, u', b ++ d, by simp, by simp, k⟩
theorem KE.ctx {v w : List Int} (h : KE v w) (c d : List Int) : KE (c ++ v ++ d) (c ++ w ++ d) := by
  induction h with
  | refl => exact .refl _
  | tail _ s ih => exact ih.tail (s.ctx c d)
theorem KE.left {v w : List Int} (h : KE v w) (c : List Int) : KE (c ++ v) (c ++ w) := by simpa using h.ctx c []
theorem KE.right {v w : List Int} (h : KE v w) (d : List Int) : KE (v ++ d) (w ++ d) := by simpa using h.ctx [] d
theorem KE.of_kn {u v : List Int} (k : Kn u v) : KE u v := KE.of ⟨[], u, v, [], by simp, by simp, .inl k⟩
theorem KS.perm {v w : List Int} (h : KS v w) : v.Perm w := by
  obtain ⟨a, u, u', b, rfl, rfl, k⟩ := h
  refine List.Perm.append_right _ (List.Perm.append_left _ ?_)
  rcases k with k | k
  · exact k.perm
  · exact k.perm.symm
theorem KE.perm {v w : List Int} (h : KE v w) : v.Perm w := by
  induction h with
  | refl => exact .refl _
  | tail _ s ih => exact ih.trans s.perm
theorem KS.same {v w : List Int} (h : KS v w) (nd : v.Nodup) : layW [] v = layW [] w := by
  have nd' := h.perm.nodup_iff.mp nd
  obtain ⟨a, u, u', b, rfl, rfl, k⟩ := h
  rcases k with k | k
  · exact kn_same nd k
  · exact (kn_same nd' k).symm
theorem KE.same {v w : List Int} (h : KE v w) (nd : v.Nodup) : layW [] v = layW [] w := by
  induction h with
  | refl => rfl
  | tail h s ih => exact ih.trans (s.same (h.perm.nodup_iff.mp nd))
theorem mv1 : ∀ {g : List Int} {b n : Int}, Rise (b :: g) → n < b → KE (b :: g ++ [n]) (b :: n :: g)
  | [], b, n, _, _ => .refl _
  | c :: g, b, n, h, hn => by
    obtain ⟨h1, h2⟩ := List.pairwise_cons.mp h
    have bc := h1 c List.mem_cons_self
    have s1 : KE (b :: (c :: g ++ [n])) (b :: (c :: n :: g)) := by simpa using (mv1 h2 (by trivial : n < c)).left [b]
    refine s1.trans ?_
    have k := (KE.of_kn (Kn.k1 hn bc)).symm
    simpa using k.right g
theorem mv2 : ∀ {L : List Int} {x n : Int}, Rise L → (∀ a ∈ L, a < n) → n < x → KE (L ++ [x, n]) (x :: L ++ [n])
  | [], x, n, _, _, _ => .refl _
  | l :: L, x, n, h, hl, hx => by
    obtain ⟨h1, h2⟩ := List.pairwise_cons.mp h
    have s1 : KE (l :: (L ++ [x, n])) (l :: (x :: L ++ [n])) := by simpa using (mv2 h2 (fun a ha => hl a (List.mem_cons_of_mem _ ha)) hx).left [l]
    refine s1.trans ?_
    have ln := hl l List.mem_cons_self
    cases L with
    | nil => simpa using KE.of_kn (Kn.k2 ln hx)
    | cons c L =>
      have lc := h1 c List.mem_cons_self
      have cn := hl c (by simp)
      have := (KE.of_kn (Kn.k2 lc (by trivial : c < x))).right (L ++ [n])
      simpa using this
theorem row_joined {r : List Int} {n : Int} (h : Rise r) (hn : n ∉ r) : KE (r ++ [n]) (bmp r n ++ ins r n) := by
  have e := rise_gt h n hn
  unfold bmp ins
  have hL : ∀ a ∈ lt r n, a < n := fun a ha => (mem_lt ha).2
  have hG : ∀ a ∈ gt r n, n < a := fun a ha => (mem_gt ha).2
  rw [e] at h
  obtain ⟨r1, r2, r3⟩ := rise_app h
  conv => lhs; rw [e]
  generalize lt r n = L at *
  generalize gt r n = G at *
  cases G with
  | nil => simpa using KE.refl _
  | cons x g =>
    have hx := hG x List.mem_cons_self
    have s1 : KE (L ++ (x :: g ++ [n])) (L ++ (x :: n :: g)) := (mv1 r2 hx).left L
    have s2 := (mv2 r1 hL hx).right g
    simpa using s1.trans (by simpa using s2)
theorem lay_joined : ∀ {R : List (List Int)} {n : Int}, (∀ r ∈ R, Rise r) → n ∉ R.flatten → R.flatten.Nodup → KE (readL R ++ [n]) (readL (lay1 R n))
  | [], n, _, _, _ => by simpa [readL, lay1] using KE.refl _
  | r :: R, n, hr, hn, nd => by
    rw [List.flatten_cons] at hn nd
    obtain ⟨n1, n2, n3⟩ := List.nodup_append.mp nd
    have e1 : readL (r :: R) = readL R ++ r := by simp [readL]
    have s1 := (row_joined (hr r List.mem_cons_self) (fun z => hn (List.mem_append_left _ z))).left (readL R)
    rw [e1, List.append_assoc, lay1]
    refine s1.trans ?_
    unfold bmp
    cases hg : gt r n with
    | nil => simpa [readL] using KE.refl _
    | cons x g =>
      have hx : x ∈ r := (mem_gt (show x ∈ gt r n by rw [hg]; simp)).1
      have := (lay_joined (R := R) (n := x) (fun s hs => hr s (List.mem_cons_of_mem _ hs)) (fun z => n3 x hx x z rfl) n2).right (ins r n)
      simpa [readL] using this
theorem lay1_stairs {R : List (List Int)} {n : Int} (st : Stairs R) (hn : n ∉ R.flatten) (nd : R.flatten.Nodup) : Stairs (lay1 R n) ∧ (lay1 R n).flatten.Perm (n :: R.flatten) := by
  rw [← lay1_same st.rise hn nd]
  exact ⟨lay_stairs st hn nd, lay_perm R n st.rise hn nd⟩
theorem word_joinedFrom : ∀ (w : List Int) (R : List (List Int)), Stairs R → (R.flatten ++ w).Nodup → KE (readL R ++ w) (readL (layW R w))
  | [], R, _, _ => by simpa [layW] using KE.refl _
  | n :: w, R, st, nd => by
    obtain ⟨n1, n2, n3⟩ := List.nodup_append.mp nd
    have hn : n ∉ R.flatten := fun z => n3 n z n (by simp) rfl
    obtain ⟨st', pm⟩ := lay1_stairs st hn n1
    have s1 := (lay_joined st.rise hn n1).right w
    have nd' : ((lay1 R n).flatten ++ w).Nodup := by
      have : (R.flatten ++ n :: w).Perm ((lay1 R n).flatten ++ w) := List.perm_middle.trans (pm.symm.append_right w)
      exact this.nodup_iff.mp nd
    have s2 := word_joinedFrom w (lay1 R n) st' nd'
    rw [layW_snoc]
    exact (by simpa using s1 : KE (readL R ++ n :: w) (readL (lay1 R n) ++ w)).trans s2
theorem word_joined {w : List Int} (nd : w.Nodup) : KE w (readL (layW [] w)) := by
  simpa [readL] using word_joinedFrom w [] .nil (by simpa using nd)
theorem Kn.rev {u v : List Int} (k : Kn u v) : Kn v.reverse u.reverse := by
  cases k with
  | k1 xy yz => exact Kn.k2 xy yz
  | k2 xy yz => exact Kn.k1 xy yz
theorem KS.rev {v w : List Int} (h : KS v w) : KS v.reverse w.reverse := by
  obtain ⟨a, u, u', b, rfl, rfl, k⟩ := h
  refine ⟨b.reverse, u.reverse, u'.reverse, a.reverse, by simp, by simp, ?_⟩
  rcases k with k | k
  · exact .inr k.rev
  · exact .inl k.rev
theorem KE.rev {v w : List Int} (h : KE v w) : KE v.reverse w.reverse := by
  induction h with
  | refl => exact .refl _
  | tail _ s ih => exact ih.tail s.rev
theorem bmpW_app : ∀ (u v r : List Int), bmpW r (u ++ v) = ((bmpW (bmpW r u).1 v).1, (bmpW r u).2 ++ (bmpW (bmpW r u).1 v).2)
  | [], v, r => by simp [bmpW]
  | n :: u, v, r => by simp only [List.cons_append, bmpW, bmpW_app u v, List.append_assoc]
theorem bmpW_down : ∀ {r c : List Int} {x : Int}, Rise (x :: r) → (∀ a ∈ c, a < x) → bmpW c (x :: r).reverse = (c ++ [x], r.reverse)
  | [], c, x, _, hc => by
    have := bmpW_at (L := c) (G := []) (n := x) [] hc (fun a ha => nomatch ha)
    simpa [bmpW] using this
  | y :: r, c, x, h, hc => by
    obtain ⟨h1, h2⟩ := List.pairwise_cons.mp h
    have xy := h1 y List.mem_cons_self
    have ih := bmpW_down h2 (c := c) (fun a ha => by have := hc a ha; trivial)
    have e : (x :: y :: r).reverse = (y :: r).reverse ++ [x] := by simp
    rw [e, bmpW_app, ih]
    have := bmpW_at (L := c) (G := [y]) (n := x) [] hc (by simpa using xy)
    simp only at this ⊢
    rw [this]
    simp [bmpW]
end RS
namespace RS
noncomputable def Under (C : List (List Int)) (r : List Int) : Prop := ∀ (j : Nat) c x, C[j]? = some c → r[j]? = some x → ∀ a ∈ c, a < x
theorem layW_start {w : List Int} (h : w ≠ []) : layW [] w = layW [[]] w := by
  cases w with
  | nil => exact absurd rfl h
  | cons n w => rfl
theorem lay_down : ∀ {C : List (List Int)} {r : List Int}, Rise r → Under C r → layW C r.reverse = addCol C r
  | [], [], _, _ => rfl
  | c :: C, [], _, _ => rfl
  | [], x :: r, h, _ => by
    rw [layW_start (by simp), layW_cons, bmpW_down (c := []) h (fun a ha => nomatch ha)]
    simp only
    rw [lay_down (List.pairwise_cons.mp h).2 (fun j c x h => by simp at h)]
    rfl
  | c :: C, x :: r, h, hu => by
    rw [layW_cons, bmpW_down h (hu 0 c x rfl rfl)]
    simp only
    rw [lay_down (List.pairwise_cons.mp h).2 (fun j c' x' h1 h2 => hu (j + 1) c' x' (by simpa using h1) (by simpa using h2))]
    rfl
theorem under_next {C : List (List Int)} {r s : List Int} (hu : Under C r) (hb : Below r s) : Under (addCol C r) s := fun j c y h1 h2 => by
  rw [addCol_get] at h1
  have hj : j < s.length := (List.getElem?_eq_some_iff.mp h2).1
  have er : r[j]? = some (r[j]'(Nat.lt_of_lt_of_le hj hb.1)) := List.getElem?_eq_getElem _
  have lt := hb.2 j _ y er h2
  rw [er] at h1
  cases hc : C[j]? with
  | none =>
    rw [hc] at h1
    simp only [Option.some.injEq] at h1
    subst h1
    intro a ha
    rw [List.mem_singleton.mp ha]; exact lt
  | some d =>
    rw [hc] at h1
    simp only [Option.some.injEq] at h1
    subst h1
    intro a ha
    rcases List.mem_append.mp ha with ha | ha
    · have := hu j d _ hc er a ha; trivial
    · rw [List.mem_singleton.mp ha]; exact lt
theorem cols_word : ∀ {T : List (List Int)} {C : List (List Int)}, Stairs T → (∀ r, T.head? = some r → Under C r) → layW C (T.map List.reverse).flatten = T.foldl addCol C
  | [], C, _, _ => rfl
  | [r], C, st, hu => by
    cases st with
    | one _ hr => simpa using lay_down hr (hu r rfl)
  | r :: s :: T, C, st, hu => by
    cases st with
    | cons _ hr hb st' =>
      have e : ((r :: s :: T).map List.reverse).flatten = r.reverse ++ ((s :: T).map List.reverse).flatten := rfl
      rw [e, layW_app, lay_down hr (hu r rfl), cols_word st' (fun s' hs => by
        have : s' = s := by simpa using hs.symm
        rw [this]; exact under_next (hu r rfl) hb)]
      rfl
theorem read_rev (T : List (List Int)) : (readL T).reverse = (T.map List.reverse).flatten := by
  unfold readL
  induction T with
  | nil => rfl
  | cons r T ih => simp [ih]
theorem rev_turned {w : List Int} (nd : w.Nodup) : layW [] w.reverse = turnedP (layW [] w) := by
  obtain ⟨st, pm⟩ := layW_stairs nd
  have k := (word_joined nd).rev
  rw [k.same ((List.reverse_perm w).nodup_iff.mpr nd), read_rev, cols_word st (fun r _ j c x h => by simp at h)]
  exact st.dec.cols
end RS
namespace RS
noncomputable def exs (w : List Int) (ps : List Nat) : List Int := ps.foldl exX w
noncomputable def okX : List Int → List Nat → Prop
  | _, [] => True
  | w, p :: ps => p + 1 < w.length ∧ mayX w p = true ∧ okX (exX w p) ps
noncomputable def dwn (a : Nat) : Nat → List Nat
  | 0 => []
  | k + 1 => dwn (a + 1) k ++ [a + 1]
noncomputable def dwn0 (a : Nat) : Nat → List Nat
  | 0 => []
  | k + 1 => dwn0 (a + 1) k ++ [a]
noncomputable def stepsR (b m g : Nat) : List Nat := (((List.range m).filter fun s => !decide (s = g)).map fun s => b + s).reverse
noncomputable def placesF : List (List Int) → Int → Nat → List Nat
  | [], _, _ => []
  | r :: rs, n, b => if (lt r n).length = r.length then [] else stepsR (b - r.length) r.length (lt r n).length ++ placesF rs (r.getD (lt r n).length 0) (b - r.length)
noncomputable def Linked : List (List Int) → Prop
  | [] => True
  | [_] => True
  | v :: w :: ws => (∃ p, p + 1 < v.length ∧ mayX v p = true ∧ w = exX v p) ∧ Linked (w :: ws)
end RS
namespace RS
theorem places_flat (rs : List (List Int)) : (readL rs).length = rs.flatten.length := (List.Perm.flatten (List.reverse_perm rs)).length_eq
end RS
namespace RS
noncomputable def flZ (R : List (List Int)) : Nat := R.flatten.length
end RS
namespace RS
end RS
namespace L2
open PySem PySem.Spec PyProof.Rows
theorem closure_go {env : Env} : ∀ (names : List (Str × NameKind)) (acc : List (Str × Addr)), (∀ y ∈ names, y.2 = .free → ∃ c, env.cells.lookup y.1 = some c) → (∀ y c, acc.lookup y = some c → env.cells.lookup y = some c) →
    ∃ cl, (forIn names acc (fun (p : Str × NameKind) (r : List (Str × Addr)) => (match p with | (name, kind) => if (kind == NameKind.free) = true then (do let c ← cellOf env name; pure (ForInStep.yield ((name, c) :: r))) else pure (ForInStep.yield r) : Sem (ForInStep (List (Str × Addr)))))) = (pure cl : Sem (List (Str × Addr))) ∧
      (∀ y c, cl.lookup y = some c → env.cells.lookup y = some c) ∧ (∀ y c, acc.lookup y = some c → ∃ c', cl.lookup y = some c') ∧ ∀ y, (y, NameKind.free) ∈ names → ∃ c, cl.lookup y = some c
  | [], acc, _, ha => ⟨acc, rfl, ha, fun y c e => ⟨c, e⟩, fun y hy => absurd hy (by simp)⟩
  | (n, k) :: r, acc, hf, ha => by
    have hr : ∀ y ∈ r, y.2 = .free → ∃ c, env.cells.lookup y.1 = some c := fun y hy => hf y (List.mem_cons_of_mem _ hy)
    cases hk : (k == NameKind.free) with
    | true =>
      have hk' : k = .free := by simpa using hk
      obtain ⟨c, hc⟩ := hf (n, k) List.mem_cons_self hk'
      have ha' : ∀ y c', ((n, c) :: acc).lookup y = some c' → env.cells.lookup y = some c' := fun y c' e => by
        rw [List.lookup_cons] at e
        cases hb : y == n with
        | true => rw [hb] at e; cases e; rw [beq_iff_eq.mp hb]; exact hc
        | false => rw [hb] at e; exact ha y c' e
      obtain ⟨cl, e, h1, h2, h3⟩ := closure_go r ((n, c) :: acc) hr ha'
      have mono : ∀ y c', acc.lookup y = some c' → ∃ c'', cl.lookup y = some c'' := fun y c' q => by
        cases hb : y == n with
        | true => exact h2 y c (by rw [List.lookup_cons, hb])
        | false => exact h2 y c' (by rw [List.lookup_cons, hb]; exact q)
      refine ⟨cl, ?_, h1, mono, fun y hy => ?_⟩
      · rw [List.forIn_cons]
        have : (cellOf env n : Sem Addr) = pure c := by unfold cellOf; rw [hc]
        simp only [hk, if_true, this]
        exact e
      · rcases List.mem_cons.mp hy with q | q
        · cases q
          exact h2 n c (by rw [List.lookup_cons]; simp)
        · exact h3 y q
    | false =>
      obtain ⟨cl, e, h1, h2, h3⟩ := closure_go r acc hr ha
      refine ⟨cl, ?_, h1, h2, fun y hy => ?_⟩
      · rw [List.forIn_cons]
        simp only [hk, Bool.false_eq_true, if_false]
        exact e
      · rcases List.mem_cons.mp hy with q | q
        · cases q
          cases hk
        · exact h3 y q
theorem closure_ok {scope : Scope} {env : Env} (h : ∀ y ∈ scope.names, y.2 = .free → ∃ c, env.cells.lookup y.1 = some c) :
    ∃ cl, closureFor scope env = pure cl ∧ (∀ y c, cl.lookup y = some c → env.cells.lookup y = some c) ∧ ∀ y, (y, NameKind.free) ∈ scope.names → ∃ c, cl.lookup y = some c := by
  obtain ⟨cl, e, h1, _, h3⟩ := closure_go (env := env) scope.names [] h (fun y c e => by simp at e)
  refine ⟨cl, ?_, h1, h3⟩
  unfold closureFor
  exact (congrArg (fun t : Sem (List (Str × Addr)) => t >>= fun cs => pure cs) e).trans rfl
noncomputable def Cx.comp (X : Cx) (M : List Str) (scope : Scope) (cl : List (Str × Addr)) (C : Addr) (s : Shared) (H : Hp) (ex : List Addr) : Cx where
  prog := X.prog
  w := X.w
  K := X.K
  mg := X.mg
  base := X.base
  A := X.A
  N := M
  s₀ := s
  H₀ := H
  env := compEnvC scope cl C X.env
  outer := X.stack
  stack := X.stack
  ex := ex
  fn := fun _ => false
  calm := X.calm
  pn := []
  xe := fun _ _ => False
noncomputable def cst (cp : List Nat) (σ : St) (v : Option V) : St := v :: cp.map fun i => σ.getD i none
noncomputable def tComp (wi : TI) (cp : List Nat) (tt : TT) (te : TE) : TE := fun σ H Q => wi σ H fun J H1 => ∀ D, H1 D = none →
  ∃ W : Nat → Nat → Hp → Prop, (∃ m, W 0 m (upd H1 D (.lst []))) ∧ ∀ i m H, W i m H →
    (J.stop i H ∧ Q (.ref D) H) ∨ (J.go i H ∧ ∀ v H', J.yld i H v H' → tt (cst cp σ (some v)) H' fun b H2 =>
      if b = true then te (cst cp σ (some v)) H2 fun y H3 => ∃ ys, H3 D = some (.lst ys) ∧ ys.length < sizeLine ∧ ∃ m', m' < m ∧ W (i + 1) m' (upd H3 D (.lst (ys ++ [y])))
      else ∃ m', m' < m ∧ W (i + 1) m' H2)
noncomputable def PTs (X : Cx) (ifs : List Expr) (t : TT) : Prop :=
  ∀ (pins : List (Addr × Obj)) (s : Shared) (σ : St) (H : Hp) (Q : Bool → Hp → Prop), Inv X pins σ H s → t σ H Q →
    wpAny (model X.prog X.w) X.A (forIn ifs true fun c r => if r = true then do let ok ← isTrue c X.env (eval c X.env); pure (ForInStep.yield ok) else pure (ForInStep.yield r)) (TP X pins σ Q) X.xe s
noncomputable def tNoTest : TT := fun _ H Q => Q true H
theorem pts_nil {X : Cx} : PTs X [] tNoTest := fun pins s σ H Q I h => wpAny_tests_nil ⟨H, I, h⟩
theorem pts_one {X : Cx} {c : Expr} {t : TT} (h : PT X c t) : PTs X [c] t := fun pins s σ H Q I q => wpAny_tests_one (h pins s σ H Q I q)
structure CompScope (N : List Str) (out : Scope) (x : Str) (cp : List Nat) (M : List Str) (scope : Scope) : Prop where
  hM : M = x :: cp.map fun i => N.getD i x
  kind : scope.kind = .function
  hx : scope.names.lookup x = some .local
  nocellB : scope.names.all (fun y => !(y.2 == .cell)) = true
  locB : scope.names.all (fun y => !(y.2 == .local) || scope.names.lookup y.1 == some .local) = true
  freeB : scope.names.all (fun y => !(y.2 == .free) || (out.names.lookup y.1 == some .cell || out.names.lookup y.1 == some .free)) = true
  capB : cp.all (fun i => decide (i < N.length) && scope.names.lookup (N.getD i x) == some .free) = true
section
variable {N : List Str} {out : Scope} {x : Str} {cp : List Nat} {M : List Str} {scope : Scope}
theorem CompScope.nocell (S : CompScope N out x cp M scope) : ∀ y ∈ scope.names, y.2 ≠ .cell := fun y hy => by
  have := List.all_eq_true.mp S.nocellB y hy
  simpa using this
theorem CompScope.loc (S : CompScope N out x cp M scope) : ∀ y ∈ scope.names, y.2 = .local → scope.names.lookup y.1 = some .local := fun y hy e => by
  have := List.all_eq_true.mp S.locB y hy
  simpa [e] using this
theorem CompScope.free (S : CompScope N out x cp M scope) : ∀ y ∈ scope.names, y.2 = .free → (out.names.lookup y.1 = some .cell ∨ out.names.lookup y.1 = some .free) := fun y hy e => by
  have := List.all_eq_true.mp S.freeB y hy
  simpa [e] using this
theorem CompScope.cap (S : CompScope N out x cp M scope) : ∀ i ∈ cp, i < N.length ∧ scope.names.lookup (N.getD i x) = some .free := fun i hi => by
  have := List.all_eq_true.mp S.capB i hi
  rw [Bool.and_eq_true] at this
  exact ⟨of_decide_eq_true this.1, by simpa using this.2⟩
end
theorem relabel_lookup {env : Env} {x : Str} {k : NameKind} : ∀ {names : List (Str × NameKind)},
    (names.map fun (n, k) => if (k == NameKind.free && env.scope.kind == .function && env.kindOf n == some .cell) then (n, NameKind.cell) else (n, k)).lookup x = some k →
    ∃ k0, names.lookup x = some k0 ∧ (k = k0 ∨ (k0 = .free ∧ k = .cell))
  | [], h => by simp at h
  | (n, k1) :: r, h => by
    have ih := @relabel_lookup env x k r
    have h : List.lookup x ((if (k1 == NameKind.free && env.scope.kind == .function && env.kindOf n == some .cell) = true then (n, NameKind.cell) else (n, k1)) :: (r.map fun (n, k) => if (k == NameKind.free && env.scope.kind == .function && env.kindOf n == some .cell) then (n, NameKind.cell) else (n, k))) = some k := h
    by_cases hc : (k1 == NameKind.free && env.scope.kind == .function && env.kindOf n == some .cell) = true
    · rw [if_pos hc, List.lookup_cons] at h
      cases hx : x == n with
      | true =>
        rw [hx] at h
        rw [List.lookup_cons, hx]
        have hk : k1 = .free := by
          simp only [Bool.and_eq_true, beq_iff_eq] at hc
          exact hc.1.1
        exact ⟨k1, rfl, .inr ⟨hk, (Option.some.inj h).symm⟩⟩
      | false =>
        rw [hx] at h
        rw [List.lookup_cons, hx]
        exact ih h
    · rw [if_neg hc, List.lookup_cons] at h
      cases hx : x == n with
      | true =>
        rw [hx] at h
        rw [List.lookup_cons, hx]
        exact ⟨k1, rfl, .inl (Option.some.inj h).symm⟩
      | false =>
        rw [hx] at h
        rw [List.lookup_cons, hx]
        exact ih h
theorem relabel_free {env : Env} {x : Str} : ∀ {names : List (Str × NameKind)}, names.lookup x = some .free →
    (names.map fun (n, k) => if (k == NameKind.free && env.scope.kind == .function && env.kindOf n == some .cell) then (n, NameKind.cell) else (n, k)).lookup x = some .free ∨
    (names.map fun (n, k) => if (k == NameKind.free && env.scope.kind == .function && env.kindOf n == some .cell) then (n, NameKind.cell) else (n, k)).lookup x = some .cell
  | [], h => by simp at h
  | (n, k1) :: r, h => by
    have ih := @relabel_free env x r
    show List.lookup x ((if (k1 == NameKind.free && env.scope.kind == .function && env.kindOf n == some .cell) = true then (n, NameKind.cell) else (n, k1)) :: _) = _ ∨ List.lookup x ((if (k1 == NameKind.free && env.scope.kind == .function && env.kindOf n == some .cell) = true then (n, NameKind.cell) else (n, k1)) :: _) = _
    rw [List.lookup_cons] at h
    by_cases hc : (k1 == NameKind.free && env.scope.kind == .function && env.kindOf n == some .cell) = true
    · rw [if_pos hc, List.lookup_cons]
      cases hx : x == n with
      | true => exact .inr rfl
      | false => rw [hx] at h; exact ih h
    · rw [if_neg hc, List.lookup_cons]
      cases hx : x == n with
      | true => rw [hx] at h; exact .inl h
      | false => rw [hx] at h; exact ih h
section
variable {X : Cx} {pins : List (Addr × Obj)} {σ : St} {H : Hp}
theorem Inv.comp {s3 s4 : Shared} {x : Str} {cp : List Nat} {M : List Str} {scope : Scope} {cl : List (Str × Addr)} {fp : List Addr} (I : Inv X pins σ H s3) (S : CompScope X.N X.env.scope x cp M scope)
    (hcl : ∀ y c, cl.lookup y = some c → X.env.cells.lookup y = some c) (hcf : ∀ y, (y, NameKind.free) ∈ scope.names → ∃ c, cl.lookup y = some c)
    (hfp : ∀ b ∈ fp, FpOk X pins H b) (hfo : ∀ b ∈ fp, b < s3.heap.objs.size) (hs : s4 = { s3 with heap := s4.heap, toks := s4.toks }) (hk : ∀ b o, s3.heap.get? b = some o → s4.heap.get? b = some o)
    {m : Str → Option Value} (hn : s4.heap.Ns s3.heap.objs.size m) :
    Inv (X.comp M scope cl s3.heap.objs.size s3 H fp) [] (cst cp σ none) H s4 := by
  have os4 : s4.os = s3.os := by rw [hs]
  have g4 : s4.gens = s3.gens := by rw [hs]
  have I4 : Inv X pins σ H s4 := by
    have := I.kept (h' := s4.heap) (t' := s4.toks) hk
    rw [hs]; exact this
  refine ⟨⟨I.ok.mod, S.kind, I.ok.glob, I.ok.blt, Nat.le_refl _, fun y z c h1 h2 => I.ok.inj y z c (hcl y c h1) (hcl z c h2), fun y hy => ?_, fun y c h _ => absurd h (by intro z; cases z), I.ok.hd, I.ok.frames, .inl rfl, fun b hb => ⟨Nat.ne_of_lt (hfo b hb), fun y c e => (hfp b hb).2.2.2.2.1 y c (hcl y c e)⟩,
    I.bs, Nat.le_trans I.ok.bsz I.sz, fun b o e hb => ?_, fun b hb hs => ?_, I.stack, I.stkFree⟩,
    os4, ?_, Un.kept hk, ⟨m, hn, fun i y v h1 h2 h3 => ?_⟩, fun y c e => ?_, I.hok.fresh (Nat.le_refl _), fun y c e => I.freeC y c (hcl y c e), fun p hp => absurd hp (by intro z; cases z), I.hok.kept hk, ?_⟩
  · have hy' : ∃ k, (k = NameKind.cell ∨ k = .free) ∧ (relabel scope X.env).names.lookup y = some k := by
      rcases hy with hy | hy
      · exact ⟨_, .inl rfl, hy⟩
      · exact ⟨_, .inr rfl, hy⟩
    obtain ⟨k, hk, e⟩ := hy'
    obtain ⟨k0, e0, h0⟩ := relabel_lookup (names := scope.names) e
    have mem := PySem.mem_of_lookup e0
    rcases h0 with rfl | ⟨rfl, rfl⟩
    · rcases hk with rfl | rfl
      · exact absurd rfl (S.nocell _ mem)
      · exact hcf y mem
    · exact hcf y mem
  · obtain ⟨_, _, _, h4, _⟩ := hfp b hb
    rcases h4 with h4 | h4
    · exact I.ok.noex b o e h4
    · exact absurd (Nat.lt_of_lt_of_le (Heap.lt_size e) (Nat.le_trans I.ok.bsz h4)) (Nat.lt_irrefl _)
  · obtain ⟨_, h1, h2, _⟩ := hfp b hb
    rcases List.mem_cons.mp (I.stkSub b hs) with e | e
    · exact h1 e
    · exact h2 e
  · rw [g4]; exact I.bare
  · -- names
    have hM : (X.comp M scope cl s3.heap.objs.size s3 H fp).N = x :: cp.map fun i => X.N.getD i x := S.hM
    rw [hM] at h1
    cases i with
    | zero => unfold cst at h2; simp at h2
    | succ i =>
      unfold cst at h2
      simp only [List.getElem?_cons_succ, List.getElem?_map] at h1 h2
      cases hi : cp[i]? with
      | none => rw [hi] at h1; cases h1
      | some j =>
        rw [hi] at h1 h2
        simp only [Option.map_some, Option.some.injEq] at h1 h2
        obtain ⟨hj, hf⟩ := S.cap j (List.mem_of_getElem? hi)
        have hNj : X.N[j]? = some y := by
          rw [← h1, List.getD_eq_getElem?_getD]
          rw [List.getElem?_eq_getElem hj]; rfl
        have hσj : σ[j]? = some (some v) := by
          rw [List.getD_eq_getElem?_getD] at h2
          cases e : σ[j]? with
          | none => rw [e] at h2; cases h2
          | some a => rw [e] at h2; simp at h2; rw [h2]
        rw [h1] at hf
        have memf := PySem.mem_of_lookup hf
        have ho := S.free _ memf rfl
        have hvis : Vis X.env.scope y := ho.elim (fun z => .inr (.inl z)) fun z => .inr (.inr z)
        obtain ⟨m0, hn0, hl0⟩ := I4.loc
        obtain ⟨u, r, l⟩ := hl0 j y v hNj hσj hvis
        refine ⟨u, r, ?_⟩
        rcases l with ⟨k, _⟩ | ⟨k, c, e, z⟩
        · exfalso
          have k' : X.env.scope.names.lookup y = some .local := k
          rcases ho with ho | ho
          · rw [k'] at ho; cases ho
          · rw [k'] at ho; cases ho
        · obtain ⟨c', e'⟩ := hcf y memf
          have : c' = c := by have := hcl y c' e'; rw [e] at this; cases this; rfl
          subst this
          refine .inr ⟨?_, c', e', z⟩
          exact (relabel_free (env := X.env) hf).elim .inr .inl
  · obtain ⟨v, q⟩ := I4.cell y c (hcl y c e)
    exact ⟨v, q⟩
  · show (cst cp σ none).length = M.length
    rw [S.hM]; simp [cst]
theorem Inv.uncomp {s3 s' : Shared} {σ' : St} {H' : Hp} {M : List Str} {scope : Scope} {cl : List (Str × Addr)} {fp : List Addr} {h' : Heap} (I : Inv X pins σ H s3) (hfp : ∀ b ∈ fp, FpOk X pins H b)
    (J : Inv (X.comp M scope cl s3.heap.objs.size s3 H fp) [] σ' H' s') (hs : Heap.SameBut s3.heap.objs.size s'.heap h') : Inv X pins σ H' { s' with heap := h' } := by
  have hC : H' s3.heap.objs.size = none := J.free
  have u := J.base
  have hok : HOk X.prog X.w H' h' := fun b o e => by
    refine (J.hok b o e).stay (fun c v hc q => (hs.2 c ?_).trans q) (fun _ q => q) fun _ _ q => q
    rintro rfl
    rcases hc with z | z
    · rw [← z, hC] at e; cases e
    · rw [hC] at z; cases z
  have ne : ∀ b o, s3.heap.get? b = some o → b ≠ s3.heap.objs.size := fun b o e => Nat.ne_of_lt (Heap.lt_size e)
  have un : Un (frs X.stack) fp H H' s3.heap h' :=
    ⟨fun b o e n hb hx => (hs.2 b (ne b o e)).trans (u.keep b o e n hb hx), fun b o e n hb hx => by
      obtain ⟨sl, q⟩ := u.slot b o e n hb hx
      exact ⟨sl, (hs.2 b (ne b o e)).trans q⟩, u.free, fun b o e hx => by
      obtain ⟨o', q⟩ := u.there b o e hx
      exact ⟨o', (hs.2 b (ne b o e)).trans q⟩, u.tups, u.frzs, u.tbls⟩
  refine I.call' (s' := { s' with heap := h' }) (ch := fp) J.os un hok J.bare fun b hb => ?_
  obtain ⟨_, h1, _, h3, h4, h5⟩ := hfp b hb
  exact ⟨h3, h1, h4, h5⟩
end
section
variable {prog : Program} {w : World} {A : Around} {R : Result → Shared → Prop} {s : Shared}
theorem compLoop_any {elt target iter : Expr} {ifs : List Expr} {scope : Scope} {pos : Pos} {it acc : Value} {env : Env} (I : Nat → Shared → Prop)
    (turn : ∀ n s, I n s → wpAny (model prog w) A (pyNext it) (fun r s₁ => match r with
      | none => R (.ok .next) s₁
      | some v => wpAny (model prog w) A (letOwnedTupleGo target it v) (fun _ s₁' => wpAny (model prog w) A (assign target env v) (fun _ s₂ =>
          wpAny (model prog w) A (forIn ifs true fun c r => if r = true then do let ok ← isTrue c env (eval c env); pure (ForInStep.yield ok) else pure (ForInStep.yield r)) (fun ok s₃ =>
            if ok = true then wpAny (model prog w) A (eval elt env) (fun x s₄ =>
              wpAny (model prog w) A (call (.builtin "list.append") [acc, x]) (fun _ s₅ => ∃ m, m < n ∧ I m s₅) (fun _ _ => False) s₄) (fun _ _ => False) s₃
            else ∃ m, m < n ∧ I m s₃) (fun _ _ => False) s₂) (fun _ _ => False) s₁') (fun _ _ => False) s₁) (fun _ _ => False) s)
    (n : Nat) (h : I n s) :
    codeAny (model prog w) A (.compLoop (.ListComp elt [⟨target, iter, ifs, 0⟩] scope pos) 0 it acc env) R s := by
  refine codeAny_loop rfl I (fun n s hI => ?_) n h
  show wpAny _ A ((compTurn (.ListComp elt [⟨target, iter, ifs, 0⟩] scope pos) 0 it acc env).onRaise (fun x => do noteFrame x env; theTreesLotGoes x)) _ _ s
  refine wpAny_noted ?_
  rw [compTurn_list]
  refine wpAny_bind (wpAny_standAt (wpAny_bind (wpAny_mono (turn n s hI) (fun r s₁ h₁ => ?_) fun _ _ h' => h'.elim)))
  cases r with
  | none => exact wpAny_pure h₁
  | some v =>
    refine wpAny_bind (wpAny_mono h₁ (fun _ s₁' h₁' => ?_) fun _ _ h' => h'.elim)
    refine wpAny_bind (wpAny_mono h₁' (fun _ s₂ h₂ => wpAny_bind (wpAny_mono h₂ (fun ok s₃ h₃ => ?_) fun _ _ h' => h'.elim)) fun _ _ h' => h'.elim)
    cases ok with
    | false => exact wpAny_pure ⟨rfl, h₃⟩
    | true =>
      exact wpAny_bind (wpAny_bind (wpAny_mono h₃ (fun x s₄ h₄ => wpAny_bind (wpAny_mono h₄ (fun _ s₅ h₅ => wpAny_pure (wpAny_pure ⟨rfl, h₅⟩)) fun _ _ h' => h'.elim)) fun _ _ h' => h'.elim))
end
section
variable {X : Cx}
theorem comp_run {elt iter : Expr} {x : Str} {px : Pos} {ifs : List Expr} {scope : Scope} {pos : Pos} {cp : List Nat} {M : List Str} {tt : TT} {te : TE} {cl : List (Str × Addr)}
    (hc : X.calm = true) (S : CompScope X.N X.env.scope x cp M scope) (hnd : M.Nodup)
    (hcl : ∀ y c, cl.lookup y = some c → X.env.cells.lookup y = some c) (hcf : ∀ y, (y, NameKind.free) ∈ scope.names → ∃ c, cl.lookup y = some c)
    (ht : ∀ C s H ex, PTs (X.comp M scope cl C s H ex) ifs tt) (he : ∀ C s H ex, PE (X.comp M scope cl C s H ex) elt te)
    {pins : List (Addr × Obj)} {σ : St} {s2 : Shared} {H2 : Hp} {Q : VK} {it : Addr} {fp : List Addr} {tn : Nat → Heap → Prop} {J : It} {RR : Value → Addr → Result → Shared → Prop} {E : Value → Shared → Prop}
    (I2 : Inv X pins σ H2 s2) (T : Turn X.prog X.w X.K (.Name x px) J fp it tn) (st2 : tn 0 s2.heap) (f2 : ∀ b ∈ fp, FpOk X pins H2 b)
    (q : ∀ D, H2 D = none → ∃ W : Nat → Nat → Hp → Prop, (∃ m, W 0 m (upd H2 D (.lst []))) ∧ ∀ i m H, W i m H →
      (J.stop i H ∧ Q (.ref D) H) ∨ (J.go i H ∧ ∀ v H', J.yld i H v H' → tt (cst cp σ (some v)) H' fun b H2 =>
        if b = true then te (cst cp σ (some v)) H2 fun y H3 => ∃ ys, H3 D = some (.lst ys) ∧ ys.length < sizeLine ∧ ∃ m', m' < m ∧ W (i + 1) m' (upd H3 D (.lst (ys ++ [y])))
        else ∃ m', m' < m ∧ W (i + 1) m' H2))
    (fin : ∀ (D C : Addr) (s' : Shared) (H' : Hp) (m : Str → Option Value), s'.heap.Ns C m → (∀ h', Heap.SameBut C s'.heap h' → Inv X pins σ H' { s' with heap := h' }) → FpOk X pins H' C → Q (.ref D) H' → RR (.ref D) C (.ok .next) s') :
    wpAny (model X.prog X.w) X.A (newList []) (fun acc s₃ => wpAny (model X.prog X.w) X.A (newFunctionEnv scope X.env.globals cl [] X.env.qual none .none (some X.env)) (fun cenv s₄ =>
      codeAny (model X.prog X.w) X.A (.compStart (.ListComp elt [⟨.Name x px, iter, ifs, 0⟩] scope pos) 0 (.ref it) acc { cenv with scope := relabel scope X.env }) (RR acc cenv.locals) s₄) E s₃) E s2 := by
  have fobj : ∀ b ∈ fp, b < s2.heap.objs.size := fun b hb => by
    obtain ⟨o, e, _⟩ := T.obj 0 _ st2 b hb
    exact Heap.lt_size e
  refine wpAny_newObj_type (wpAny_newFunctionEnv S.nocell (by intro y hy; simp at hy) (fun h₁ hns₁ hsb₁ => ?_) S.kind)
  have hf : H2 s2.heap.objs.size = none := I2.hok.fresh (Nat.le_refl _)
  obtain ⟨W, ⟨m0, w0⟩, turn⟩ := q _ hf
  generalize hs3 : ({ s2 with heap := s2.heap.push { cls := .type "list", dict := none, data := .seq ([] : List Value).toArray } } : Shared) = s3 at *
  have I3 : Inv X pins σ (upd H2 s2.heap.objs.size (.lst [])) s3 := by
    rw [← hs3]
    exact I2.laid (t' := s2.toks) (fun b u e => Heap.get?_push_of_some _ e) (Nat.le_refl _) ⟨Nat.zero_le _, [], 0, .nil, Heap.get?_push_size _ rfl⟩
  have sz3 : s2.heap.objs.size < s3.heap.objs.size := by rw [← hs3]; show _ < (s2.heap.push _).objs.size; rw [Heap.size_push]; exact Nat.lt_succ_self _
  have f3 : ∀ b ∈ fp, FpOk X pins (upd H2 s2.heap.objs.size (.lst [])) b := fun b hb => by
    obtain ⟨h0, r⟩ := f2 b hb
    exact ⟨by rw [upd_ne (Nat.ne_of_lt (fobj b hb))]; exact h0, r⟩
  have keep34 : ∀ b o, s3.heap.get? b = some o → h₁.get? b = some o := fun b o e => hsb₁.extBut b o (Nat.ne_of_lt (Heap.lt_size e)) (Heap.get?_push_of_some _ e)
  have keep24 : ∀ b o, s2.heap.get? b = some o → h₁.get? b = some o := fun b o e => keep34 b o (by rw [← hs3]; exact Heap.get?_push_of_some _ e)
  have Ic : Inv (X.comp M scope cl s3.heap.objs.size s3 (upd H2 s2.heap.objs.size (.lst [])) fp) [] (cst cp σ none) (upd H2 s2.heap.objs.size (.lst [])) { s3 with heap := h₁, toks := s3.toks + ([] : List (Str × Value)).length } :=
    I3.comp S hcl hcf f3 (fun b hb => Nat.lt_trans (fobj b hb) sz3) rfl keep34 hns₁
  have fst : ∀ {H' : Hp}, (∀ b ∈ fp, H' b = none) → ∀ b ∈ fp, FpOk (X.comp M scope cl s3.heap.objs.size s3 (upd H2 s2.heap.objs.size (.lst [])) fp) [] H' b := fun hn b hb => by
    obtain ⟨_, h1, h2, _, h4, _⟩ := f2 b hb
    refine ⟨hn b hb, Nat.ne_of_lt (Nat.lt_trans (fobj b hb) sz3), fun hs => ?_, .inl hb, fun y c e => h4 y c (hcl y c e), fun p hp => absurd hp (by intro z; cases z)⟩
    rcases List.mem_cons.mp (I3.stkSub b hs) with e | e
    · exact h1 e
    · exact h2 e
  have loop : codeAny (model X.prog X.w) X.A (.compLoop (.ListComp elt [⟨.Name x px, iter, ifs, 0⟩] scope pos) 0 (.ref it) (.ref s2.heap.objs.size) (compEnvC scope cl s3.heap.objs.size X.env)) (RR (.ref s2.heap.objs.size) s3.heap.objs.size)
      { s3 with heap := h₁, toks := s3.toks + ([] : List (Str × Value)).length } := by
    refine compLoop_any (fun n s' => ∃ i vo H', Inv (X.comp M scope cl s3.heap.objs.size s3 (upd H2 s2.heap.objs.size (.lst [])) fp) [] (cst cp σ vo) H' s' ∧ tn i s'.heap ∧ (∀ b ∈ fp, H' b = none) ∧ W i n H') ?_ m0
      ⟨0, none, _, Ic, T.keep _ _ _ st2 (fun b hb o e => keep24 b o e), fun b hb => (f3 b hb).1, w0⟩
    rintro n s5 ⟨i, vo, H5, I5, st5, fr5, w5⟩
    rcases turn i n H5 w5 with ⟨stop, qn⟩ | ⟨go, step⟩
    · refine thn (T.done (X.comp M scope cl s3.heap.objs.size s3 (upd H2 s2.heap.objs.size (.lst [])) fp) rfl rfl rfl hc i [] s5 _ H5 _ I5 (fst fr5) st5 stop) fun r s6 ⟨hr, I6⟩ => ?_
      subst hr
      obtain ⟨m', hm', _⟩ := id I6.loc
      exact fin _ _ s6 H5 m' hm' (fun h' hb => I3.uncomp f3 I6 hb) (I3.fpOk (Nat.le_refl _) I6.free) qn
    · refine thn (T.item (X.comp M scope cl s3.heap.objs.size s3 (upd H2 s2.heap.objs.size (.lst [])) fp) rfl rfl rfl hc i [] s5 _ H5 _ I5 (fst fr5) st5 go) fun r s6 ⟨u, hr, h6⟩ => ?_
      subst hr
      refine thn h6 fun _ s7 ⟨v, H7, I7, r7, y7, st7, fr7⟩ => ?_
      have I7' := I7.pinned (fst fr7) (T.obj _ _ st7)
      have hMx : (X.comp M scope cl s3.heap.objs.size s3 (upd H2 s2.heap.objs.size (.lst [])) fp).N[0]? = some x := by
        show M[0]? = some x
        rw [S.hM]; rfl
      refine wpAny_assign_Name (store_ok I7' hnd hMx (.inl (lookup_relabel_local S.hx)) r7 (fun s8 I8 => ?_) (.inr (lookup_relabel_local S.hx)))
      have I8' : Inv (X.comp M scope cl s3.heap.objs.size s3 (upd H2 s2.heap.objs.size (.lst [])) fp) ([] ++ pinsAt fp s7.heap) (cst cp σ (some v)) H7 s8 := I8
      have again : ∀ {H9 : Hp} {s9 : Shared} {m' : Nat}, Inv (X.comp M scope cl s3.heap.objs.size s3 (upd H2 s2.heap.objs.size (.lst [])) fp) ([] ++ pinsAt fp s7.heap) (cst cp σ (some v)) H9 s9 → m' < n → W (i + 1) m' H9 →
          ∃ m, m < n ∧ ∃ i vo H', Inv (X.comp M scope cl s3.heap.objs.size s3 (upd H2 s2.heap.objs.size (.lst [])) fp) [] (cst cp σ vo) H' s9 ∧ tn i s9.heap ∧ (∀ b ∈ fp, H' b = none) ∧ W i m H' := fun {H9 s9 m'} I9 hm w9 => by
        refine ⟨m', hm, i + 1, some v, H9, I9.unpinned, T.keep _ _ _ st7 fun b hb o e => (I9.pin (b, o) (List.mem_append_right _ (List.mem_append_right _ (mem_pinsAt hb e)))).1, fun b hb => ?_, w9⟩
        obtain ⟨o, e, d⟩ := T.obj _ _ st7 b hb
        exact (I9.pin (b, o) (List.mem_append_right _ (List.mem_append_right _ (mem_pinsAt hb e)))).2.1
      refine thn (ht _ _ _ _ _ s8 _ H7 _ I8' (step v H7 y7)) fun b s9 ⟨H9, I9, q9⟩ => ?_
      cases b with
      | false =>
        rw [if_neg Bool.false_ne_true] at q9
        rw [if_neg Bool.false_ne_true]
        obtain ⟨m', hm, w9⟩ := q9
        exact again I9 hm w9
      | true =>
        rw [if_pos rfl] at q9
        rw [if_pos rfl]
        refine thn (he _ _ _ _ _ s9 _ H9 _ I9 q9) fun yv s10 ⟨y, H10, I10, ry, ys, hD, hlen, m', hm, w10⟩ => ?_
        exact thn (mt_append _ s10 _ H10 (.ref s2.heap.objs.size) [y] (.ref s2.heap.objs.size) [yv] (fun _ H' => H' = upd H10 s2.heap.objs.size (.lst (ys ++ [y]))) I10 rfl (.cons ry .nil) ⟨_, ys, y, rfl, rfl, hD, hlen, rfl⟩)
          fun _ s11 ⟨_, H11, I11, _, e11⟩ => again I11 hm (e11 ▸ w10)
  exact codeAny_compStart_list loop (T.self _ 0 _ _ _ (T.keep _ _ _ st2 fun b hb o e => keep24 b o e) loop)
theorem pe_comp {elt iter : Expr} {x : Str} {px : Pos} {ifs : List Expr} {scope : Scope} {pos : Pos} {cp : List Nat} {M : List Str} {wi : TI} {tt : TT} {te : TE}
    (hc : X.calm = true) (S : CompScope X.N X.env.scope x cp M scope) (hnd : M.Nodup) (hi : PI X (.Name x px) iter wi)
    (ht : ∀ cl C s H ex, PTs (X.comp M scope cl C s H ex) ifs tt) (he : ∀ cl C s H ex, PE (X.comp M scope cl C s H ex) elt te)
    (hs : ∀ v, foldedSetIterable iter X.env v = pure v := by intro _; rfl) : PE X (.ListComp elt [⟨.Name x px, iter, ifs, 0⟩] scope pos) (tComp wi cp tt te) := by
  intro pins s σ H Q I h
  obtain ⟨cl, e, hcl, hcf⟩ := closure_ok (scope := scope) (env := X.env) fun y hy hf => I.ok.has y.1 (S.free y hy hf)
  rw [eval_ListComp]
  refine wpAny_comprehension_free (use := none) rfl hs e S.kind S.loc (thn (hi pins s σ H _ I h) fun xv s1 h1 => thn h1 fun itv s2 h2 => ?_)
  obtain ⟨it, fp, tn, J, H2, rfl, I2, T, st2, f2, q⟩ := h2
  refine comp_run (RR := fun acc C => compPost (model X.prog X.w) X.A X.xe none (EP X pins σ Q) acc C) hc S hnd hcl hcf (ht cl) (he cl) I2 T st2 f2 q ?_
  intro D C s' H' m hn hI _ qD
  exact ⟨m, hn, fun h' hb => ⟨.ref D, H', hI h' hb, rfl, qD⟩⟩
theorem ps_comp {elt iter : Expr} {x y : Str} {px py : Pos} {ifs : List Expr} {scope : Scope} {pos spos : Pos} {cp : List Nat} {M : List Str} {wi : TI} {tt : TT} {te : TE} {i : Nat}
    (hN : X.N.Nodup) (hy : X.N[i]? = some y) (hloc : X.env.scope.names.lookup y = some .local)
    (hc : X.calm = true) (S : CompScope X.N X.env.scope x cp M scope) (hnd : M.Nodup) (hi : PI X (.Name x px) iter wi)
    (ht : ∀ cl C s H ex, PTs (X.comp M scope cl C s H ex) ifs tt) (he : ∀ cl C s H ex, PE (X.comp M scope cl C s H ex) elt te)
    (hsw : swapsWith (.ListComp elt [⟨.Name x px, iter, ifs, 0⟩] scope pos) (some (.Name y py)) spos.line X.env = pure true := by rfl)
    (hs : ∀ v, foldedSetIterable iter X.env v = pure v := by intro _; rfl) : PS X (.Assign [.Name y py] (.ListComp elt [⟨.Name x px, iter, ifs, 0⟩] scope pos) spos) (tAsg (tComp wi cp tt te) (gName i)) := by
  intro pins s σ H D I h
  obtain ⟨cl, e, hcl, hcf⟩ := closure_ok (scope := scope) (env := X.env) fun y hy hf => I.ok.has y.1 (S.free y hy hf)
  rw [exec_Assign_Name_used _ _ _ _ hsw]
  refine wpAny_bind (wpAny_standAt (wpAny_bind ?_))
  show wpAny _ X.A (do let _ ← comprehension (.ListComp elt [⟨.Name x px, iter, ifs, 0⟩] scope pos) scope X.env _ (newList []) false (eval iter X.env) (some (assign (.Name y py) X.env))) _ _ s
  refine wpAny_bind (wpAny_mono (wpAny_comprehension_free (use := some (assign (.Name y py) X.env)) (Q := fun _ s' => SP X pins D .next s') rfl hs e S.kind S.loc
    (thn (hi pins s σ H _ I h) fun xv s1 h1 => thn h1 fun itv s2 h2 => ?_)) (fun _ s' hq => wpAny_pure (wpAny_pure hq)) fun _ _ e => e)
  obtain ⟨it, fp, tn, J, H2, rfl, I2, T, st2, f2, q⟩ := h2
  refine comp_run (Q := fun v H' => D.nx (σ.set i (some v)) H') (RR := fun acc C => compPost (model X.prog X.w) X.A X.xe (some (assign (.Name y py) X.env)) (fun _ s' => SP X pins D .next s') acc C) hc S hnd hcl hcf (ht cl) (he cl) I2 T st2 f2 q ?_
  intro D' C s' H' m hn hI fC qD
  obtain ⟨f0, f1, f2', f3, f4, f5⟩ := fC
  have I' : Inv X pins σ H' s' := hI s'.heap (Heap.SameBut.refl ..)
  show wpAny _ X.A (assign (.Name y py) X.env (.ref D')) _ _ _
  refine wpAny_assign_Name (store_ok2 (v := .ref D') I' hN hy (.inl hloc) rfl (fun s'' I'' ch => ?_) (.inr hloc))
  obtain ⟨a, sb, ha⟩ := ch
  have haC : C ≠ a := by
    rcases ha with rfl | ha
    · exact f1
    · exact fun z => f4 y a ha z.symm
  refine ⟨m, hn.sameBut sb haC, fun h' hb => ⟨_, H', ?_, qD⟩⟩
  exact I''.turned (t' := s''.toks) (fun b o hbC e => (hb.2 b hbC).trans e) f0 f1 f3 f4 f5
end
end L2
namespace L2
open PySem PySem.Spec PyProof.Rows
noncomputable def onI (x : V) (F : Int → Prop) : Prop := match x with | .int i => F i | _ => False
noncomputable def onB (x : V) (F : Bool → Prop) : Prop := match x with | .bl b => F b | _ => False
noncomputable def onL (H : Hp) (x : V) (F : Addr → List V → Prop) : Prop := match x with
  | .ref p => (match H p with | some (.lst xs) => F p xs | _ => False)
  | _ => False
noncomputable def onS (H : Hp) (x : V) (F : List V → Prop) : Prop := match x with
  | .ref p => (match H p with | some (.lst xs) => F xs | some (.tup xs) => F xs | _ => False)
  | _ => False
noncomputable def on1 (vs : List V) (F : V → Prop) : Prop := match vs with | [x] => F x | _ => False
noncomputable def on2 (vs : List V) (F : V → V → Prop) : Prop := match vs with | [x, y] => F x y | _ => False
noncomputable def onO {α : Type} (o : Option α) (F : α → Prop) : Prop := match o with | some v => F v | none => False
noncomputable def new (H : Hp) (o : HO) (Q : VK) : Prop := ∀ p, H p = none → Q (.ref p) (upd H p o)
theorem onI.out {x : V} {F : Int → Prop} (h : onI x F) : ∃ i, x = .int i ∧ F i := by
  cases x with
  | int i => exact ⟨i, rfl, h⟩
  | _ => exact h.elim
theorem onB.out {x : V} {F : Bool → Prop} (h : onB x F) : ∃ i, x = .bl i ∧ F i := by
  cases x with
  | bl i => exact ⟨i, rfl, h⟩
  | _ => exact h.elim
theorem onL.out {H : Hp} {x : V} {F : Addr → List V → Prop} (h : onL H x F) : ∃ p xs, x = .ref p ∧ H p = some (.lst xs) ∧ F p xs := by
  cases x with
  | ref p =>
    cases e : H p with
    | none => simp only [onL, e] at h
    | some o =>
      cases o with
      | lst xs => simp only [onL, e] at h; exact ⟨p, xs, rfl, e, h⟩
      | _ => simp only [onL, e] at h
  | _ => exact h.elim
theorem onS.out {H : Hp} {x : V} {F : List V → Prop} (h : onS H x F) : ∃ p xs, x = .ref p ∧ (H p = some (.lst xs) ∨ H p = some (.tup xs)) ∧ F xs := by
  cases x with
  | ref p =>
    cases e : H p with
    | none => simp only [onS, e] at h
    | some o =>
      cases o with
      | lst xs => simp only [onS, e] at h; exact ⟨p, xs, rfl, .inl e, h⟩
      | tup xs => simp only [onS, e] at h; exact ⟨p, xs, rfl, .inr e, h⟩
      | _ => simp only [onS, e] at h
  | _ => exact h.elim
theorem on1.out {vs : List V} {F : V → Prop} (h : on1 vs F) : ∃ x, vs = [x] ∧ F x := by
  match vs, h with
  | [x], h => exact ⟨x, rfl, h⟩
  | [], h => exact h.elim
  | _ :: _ :: _, h => exact h.elim
theorem on2.out {vs : List V} {F : V → V → Prop} (h : on2 vs F) : ∃ x y, vs = [x, y] ∧ F x y := by
  match vs, h with
  | [x, y], h => exact ⟨x, y, rfl, h⟩
  | [], h => exact h.elim
  | [_], h => exact h.elim
  | _ :: _ :: _ :: _, h => exact h.elim
theorem onO.out {α : Type} {o : Option α} {F : α → Prop} (h : onO o F) : ∃ v, o = some v ∧ F v := by
  cases o with
  | none => exact h.elim
  | some v => exact ⟨v, rfl, h⟩
theorem sq_of {K : PySem.W.Frag} {H : Hp} {p : Addr} {xs : List V} (h : H p = some (.lst xs) ∨ H p = some (.tup xs)) : SqL K H p xs ∨ SqT K H p xs := h.imp SqL.of SqT.of
section
variable {X : Cx}
theorem CallR.imp {f : Value} {r r' : List V → Hp → VK → Prop} (h : CallR X f r) (i : ∀ xs H Q, r' xs H Q → r xs H Q) : CallR X f r' := fun pins s σ H xs us Q I rs q => h pins s σ H xs us Q I rs (i _ _ _ q)
theorem OpR.imp {f : Value → Value → Sem Value} {r r' : R2} (h : OpR X f r) (i : ∀ x y H Q, r' x y H Q → r x y H Q) : OpR X f r' := fun pins s σ H x y v u Q I rx ry q => h pins s σ H x y v u Q I rx ry (i _ _ _ _ q)
theorem IxR.imp {r r' : R2} (h : IxR X r) (i : ∀ x y H Q, r' x y H Q → r x y H Q) : IxR X r' := fun value slice pins s σ H x y v u Q I rx ry q => h value slice pins s σ H x y v u Q I rx ry (i _ _ _ _ q)
theorem SlR.imp {r r' : V → Option Int → Option Int → Hp → VK → Prop} (h : SlR X r) (i : ∀ x lo hi H Q, r' x lo hi H Q → r x lo hi H Q) : SlR X r' :=
  fun pins s σ H x v vl vu lo hi sl Q I rx hs pl pu q => h pins s σ H x v vl vu lo hi sl Q I rx hs pl pu (i _ _ _ _ _ q)
theorem MtR.imp {id : String} {r r' : V → List V → Hp → VK → Prop} (h : MtR X id r) (i : ∀ x vs H Q, r' x vs H Q → r x vs H Q) : MtR X id r' := fun pins s σ H x xs v us Q I rx rs q => h pins s σ H x xs v us Q I rx rs (i _ _ _ _ q)
noncomputable def rII (f : Int → Int → V) : R2 := fun x y H Q => onI x fun i => onI y fun j => Q (f i j) H
theorem rII.ok {f : Int → Int → V} {x y : V} {H : Hp} {Q : VK} (h : rII f x y H Q) : rI0 f x y H Q := by
  obtain ⟨i, rfl, h1⟩ := onI.out h
  obtain ⟨j, rfl, h2⟩ := onI.out h1
  exact ⟨i, j, rfl, rfl, h2⟩
noncomputable def rIC (C : Int → Int → Prop) (f : Int → Int → V) : R2 := fun x y H Q => onI x fun i => onI y fun j => C i j ∧ Q (f i j) H
theorem rIC.ok {C : Int → Int → Prop} {f : Int → Int → V} {x y : V} {H : Hp} {Q : VK} (h : rIC C f x y H Q) : rI C f x y H Q := by
  obtain ⟨i, rfl, h1⟩ := onI.out h
  obtain ⟨j, rfl, h2⟩ := onI.out h1
  exact ⟨i, j, rfl, rfl, h2⟩
noncomputable def rPlus : R2 := fun x y H Q => match x with
  | .int i => onI y fun j => Q (.int (i + j)) H
  | _ => onL H x fun _ xs => onL H y fun _ ys => xs.length + ys.length ≤ sizeLine ∧ new H (.lst (xs ++ ys)) Q
theorem f_add : OpR X (binaryOp .Add) rPlus := (op_add.or op_cat).imp fun x y H Q h => by
  cases x with
  | int i =>
    obtain ⟨j, rfl, h1⟩ := onI.out (x := y) h
    exact .inl ⟨i, j, rfl, rfl, h1⟩
  | ref a =>
    have h0 : onL H (.ref a) fun _ xs => onL H y fun _ ys => xs.length + ys.length ≤ sizeLine ∧ new H (.lst (xs ++ ys)) Q := h
    obtain ⟨p, xs, e, hp, h2⟩ := onL.out h0
    obtain ⟨q, ys, rfl, hq, hz, h3⟩ := onL.out h2
    exact .inr ⟨p, q, xs, ys, e, rfl, hp, hq, hz, h3⟩
  | _ => exact h.elim
theorem f_sub : OpR X (binaryOp .Sub) (rII fun i j => .int (i - j)) := op_sub.imp fun _ _ _ _ h => h.ok
theorem f_fdiv : OpR X (binaryOp .FloorDiv) (rIC CDiv fun i j => .int (i / j)) := op_fdiv.imp fun _ _ _ _ h => h.ok
theorem f_mod : OpR X (binaryOp .Mod) (rIC (fun _ j => 0 < j) fun i j => .int (i % j)) := op_mod.imp fun _ _ _ _ h => h.ok
theorem f_pow : OpR X (binaryOp .Pow) (rIC CPow fun i j => .int (i ^ j.toNat)) := op_pow.imp fun _ _ _ _ h => h.ok
theorem f_lt : OpR X (compareOp .Lt) (rII fun i j => .bl (decide (i < j))) := op_lt.imp fun _ _ _ _ h => h.ok
theorem f_gt : OpR X (compareOp .Gt) (rII fun i j => .bl (decide (j < i))) := op_gt.imp fun _ _ _ _ h => h.ok
theorem f_ge : OpR X (compareOp .GtE) (rII fun i j => .bl (decide (j ≤ i))) := op_ge.imp fun _ _ _ _ h => h.ok
noncomputable def rNeg : V → Hp → VK → Prop := fun x H Q => onI x fun i => Q (.int (-i)) H
noncomputable def rLen : List V → Hp → VK → Prop := fun vs H Q => on1 vs fun x => onS H x fun ys => Q (.int ys.length) H
theorem f_len : CallR X (.builtin "len") rLen := call_len_seq.imp fun vs H Q h => by
  obtain ⟨x, rfl, h1⟩ := on1.out h
  obtain ⟨p, ys, rfl, hp, h2⟩ := onS.out h1
  exact ⟨p, ys, rfl, sq_of hp, h2⟩
noncomputable def rIxF : R2 := fun x y H Q => onI y fun i => onS H x fun xs => onO (atI xs i) fun v => Q v H
theorem f_ix : IxR X rIxF := (ix_list.or ix_tup).imp fun x y H Q h => by
  obtain ⟨i, rfl, h1⟩ := onI.out h
  obtain ⟨p, xs, rfl, hp, h2⟩ := onS.out h1
  obtain ⟨v, e, h3⟩ := onO.out h2
  rcases hp with hp | hp
  · exact .inl ⟨p, xs, i, v, rfl, rfl, SqL.of hp, e, h3⟩
  · exact .inr ⟨p, xs, i, v, rfl, rfl, SqT.of hp, e, h3⟩
noncomputable def rSlF : V → Option Int → Option Int → Hp → VK → Prop := fun x lo hi H Q => onL H x fun _ xs => new H (.lst (cutV xs lo hi)) Q
theorem f_sl : SlR X rSlF := sl_list.imp fun x lo hi H Q h => by
  obtain ⟨p, xs, rfl, hp, h1⟩ := onL.out h
  exact ⟨p, xs, rfl, SqL.of hp, h1⟩
noncomputable def rListF : List V → Hp → VK → Prop := fun vs H Q => on1 vs fun x => onS H x fun ys => new H (.lst ys) Q
theorem f_list : CallR X (.type "list") rListF := call_list_of.imp fun vs H Q h => by
  obtain ⟨x, rfl, h1⟩ := on1.out h
  obtain ⟨p, ys, rfl, hp, h2⟩ := onS.out h1
  exact ⟨p, ys, rfl, sq_of hp, h2⟩
noncomputable def rIsN : R2 := fun x y H Q => y = .non ∧ Q (.bl (decide (x = .non))) H
noncomputable def rNotN : R2 := fun x y H Q => y = .non ∧ Q (.bl (!decide (x = .non))) H
theorem f_isN : OpR X (compareOp .Is) rIsN := op_isN
theorem f_notN : OpR X (compareOp .IsNot) rNotN := op_notN
noncomputable def tML (r : V → List V → Hp → VK → Prop) (to : TE) (t : TA) : TE := fun σ H Q => to σ H fun x H1 => onL H1 x fun _ _ => t σ H1 fun vs H2 => r x vs H2 Q
noncomputable def tML0 (r : V → List V → Hp → VK → Prop) (to : TE) : TE := fun σ H Q => to σ H fun x H1 => onL H1 x fun _ _ => r x [] H1 Q
theorem pe_ml {o e : Expr} {es : List Expr} {to : TE} {t : TA} {name : Str} {apos cpos : Pos} {id : String} {r : V → List V → Hp → VK → Prop}
    (slot : Slot "list" name id) (hty : typeOf (.builtin id) = pure (.type "method_descriptor")) (hm : MtR X id r) (ho : PE X o to) (ha : PA X (e :: es) t)
    (hbase : attributeBase o name X.env (eval o X.env) = eval o X.env := by rfl)
    (hfew : ((backTo cpos (starEach (e :: es) X.env)).all (fun x => !x.1) && (backToKw cpos (keywordEach [] X.env)).all (fun x => x.1.isSome)
      && decide ((e :: es).length + ([] : List Keyword).length + (if ([] : List Keyword).isEmpty then 0 else 1) < 30)) = true := by rfl)
    (hline : (apos.endLine == cpos.line) = true := by rfl) (hs : starEach (e :: es) X.env = (false, eval e X.env) :: starEach es X.env := by rfl) (hplain : (backTo cpos (starEach es X.env)).any (·.1) = false := by rfl) :
    PE X (.Call (.Attribute o name apos) (e :: es) [] cpos) (tML r to t) := by
  intro pins s σ H Q I h
  refine wpAny_Call_method_late hbase hfew hline rfl (thn (ho pins s σ H _ I h) fun v s1 ⟨x, H1, I1, r1, q1⟩ => ?_)
  obtain ⟨p, xs, rfl, hp, q1⟩ := onL.out q1
  obtain ⟨h1, h2⟩ := tyV_is (T := "list") I1 r1 (.inl ⟨rfl, xs, SqL.of hp⟩)
  refine ⟨"list", id, PySem.F.plainAttrs_list, slot, hty, h1, h2, ?_⟩
  have hA := ha cpos pins s1 σ H1 _ I1 q1
  rw [hs] at hA ⊢
  refine Calls.callWith_builtin (by show (false || (backTo cpos (starEach es X.env)).any (·.1)) = false; rw [hplain] <;> rfl) (Calls.evalArgs_plain ?_)
  exact thn hA fun us s2 ⟨vs, H2, I2, r2, q2⟩ => hm pins s2 σ H2 _ vs v us Q I2 r1 r2 q2
noncomputable def rAppF : V → List V → Hp → VK → Prop := fun x vs H Q => on1 vs fun y => onL H x fun l xs => xs.length < sizeLine ∧ Q .non (upd H l (.lst (xs ++ [y])))
theorem f_append : MtR X "list.append" rAppF := MtR.imp (show MtR X "list.append" rAppend from mt_append) fun x vs H Q h => by
  obtain ⟨y, rfl, h1⟩ := on1.out h
  obtain ⟨l, xs, rfl, hp, hz, h2⟩ := onL.out h1
  exact ⟨l, xs, y, rfl, rfl, hp, hz, h2⟩
noncomputable def rExtF : V → List V → Hp → VK → Prop := fun x vs H Q => on1 vs fun y => onL H x fun l xs => onL H y fun _ zs => xs.length + zs.length ≤ sizeLine ∧ Q .non (upd H l (.lst (xs ++ zs)))
theorem f_extend : MtR X "list.extend" rExtF := MtR.imp (show MtR X "list.extend" rExtend from mt_extend) fun x vs H Q h => by
  obtain ⟨y, rfl, h1⟩ := on1.out h
  obtain ⟨l, xs, rfl, hp, h2⟩ := onL.out h1
  obtain ⟨b, zs, rfl, hb, hz, h3⟩ := onL.out h2
  exact ⟨l, b, xs, zs, rfl, rfl, hp, hb, hz, h3⟩
noncomputable def rPopF : V → List V → Hp → VK → Prop := fun x vs H Q => vs = [] ∧ onL H x fun l xs => onO xs[xs.length - 1]? fun y => Q y (upd H l (.lst xs.dropLast))
noncomputable def rPopAtF : V → List V → Hp → VK → Prop := fun x vs H Q => on1 vs fun y => onI y fun i => onL H x fun l xs => (0 ≤ i ∧ i < xs.length) ∧ onO xs[i.toNat]? fun y => Q y (upd H l (.lst (xs.eraseIdx i.toNat)))
noncomputable def rInsF : V → List V → Hp → VK → Prop := fun x vs H Q => on2 vs fun k y => onI k fun i => onL H x fun l xs => (0 ≤ i ∧ i ≤ xs.length ∧ xs.length < sizeLine) ∧ Q .non (upd H l (.lst (xs.take i.toNat ++ y :: xs.drop i.toNat)))
theorem f_insert : MtR X "list.insert" rInsF := by
  intro pins s σ H x vs v us Q I rx rv h
  obtain ⟨k, y, rfl, h1⟩ := on2.out h
  obtain ⟨i, rfl, h2⟩ := onI.out h1
  obtain ⟨l, xs, rfl, hH, ⟨h0, h1, hz⟩, q⟩ := onL.out h2
  cases rx
  obtain ⟨u, w, rfl, ru, rw'⟩ := rv.two
  obtain ⟨t, rfl⟩ := ru
  obtain ⟨z, its, n, r, hl, e⟩ := I.lstM hH
  have hn := line63
  refine call_meets F.slot_list_insert ⟨_, e, rfl⟩ F.entry_list_insert (F.args_list_insert_3 _ _ _) (AutoSeq1.list_insert_list_int_val_1 l its.toArray n i t w (by rw [fitsIndex_both (by trivial) (by trivial)]; decide) (by rw [List.size_toArray]; trivial)) ⟨e, ?_⟩
  refine ⟨.non, _, I.lset (its' := its.take i.toNat ++ w :: its.drop i.toNat) hH e ?_ ((r.take _).append (.cons rw' (r.drop _))) ?_, rfl, q⟩
  · have hm : min i.toNat its.length = i.toNat := by trivial
    simp only [if_neg (show ¬ i < 0 by trivial), List.size_toArray, hm]
    simp
    exact List.take_of_length_le (by simp)
  · simp only [List.length_append, List.length_take, List.length_cons, List.length_drop]
    trivial
end
end L2
namespace L2
open PySem PySem.Spec PyProof.Rows
structure Cal (P : Program) (w : World) (K : PySem.W.Frag) (mg : Str → Option Value) (base : Heap) (k : Nat) (x : Str) (ps : List Str) (sp : Sp) : Prop where
  ex : ∃ (f : Addr) (fd : FuncData), FnOk P w K mg base CX0 k f fd ps sp ∧ mg x = some (.ref f) ∧ PySem.W.keepIn K (.ref f) = true ∧ Binds K fd ps []
noncomputable def tCl (sp : Sp) (t : TA) : TE := fun σ H Q => t σ H fun vs H1 => sp vs H1 Q E0
section
variable {X : Cx}
theorem pe_cl {k : Nat} {x : Str} {ps : List Str} {sp : Sp} {p pos : Pos} {e : Expr} {es : List Expr} {t : TA} (C : Cal X.prog X.w X.K X.mg X.base k x ps sp) (hr : Room k X.A) (hg : Gl X x) (ha : PA X (e :: es) t)
    (hdb : (x == ("__debug__" : Str)) = false := by decide) (he : starEach (e :: es) X.env = (false, eval e X.env) :: starEach es X.env := by rfl) (hpl : (backTo pos (starEach es X.env)).any (·.1) = false := by rfl) :
    PE X (.Call (.Name x p) (e :: es) [] pos) (tCl sp t) := by
  obtain ⟨f, fd, F, hm, hk, hb⟩ := C.ex
  have g := pe_call (E := E0) (p := p) (pos := pos) F hr hg hm hk hb (dvs := []) .nil pass0 ha hdb he hpl
  intro pins s σ H Q I h
  refine g pins s σ H Q I ?_
  show t σ H fun vs H1 => sp (vs ++ []) H1 Q E0
  simp only [List.append_nil]
  exact h
structure BtT (mg : Str → Option Value) (x : Str) (T : String) : Prop where
  no : mg x = none
  bt : bootBuiltins x = some (.type T)
  nn : x ≠ "__name__"
  nd : (x == ("__debug__" : Str)) = false
theorem pe_ty {x : Str} {T : String} {pos : Pos} (hg : Gl X x) (h : BtT X.mg x T) : PE X (.Name x pos) (tC (.ty T)) := pe_bltn hg h.no h.bt rfl h.nn h.nd
end
namespace BI
theorem len : bootBuiltins "len" = some (.builtin "len") := by decide +kernel
theorem isinstance : bootBuiltins "isinstance" = some (.builtin "isinstance") := by decide +kernel
theorem min : bootBuiltins "min" = some (.builtin "min") := by decide +kernel
theorem max : bootBuiltins "max" = some (.builtin "max") := by decide +kernel
theorem sum : bootBuiltins "sum" = some (.builtin "sum") := by decide +kernel
theorem all : bootBuiltins "all" = some (.builtin "all") := by decide +kernel
theorem sorted : bootBuiltins "sorted" = some (.builtin "sorted") := by decide +kernel
theorem list : bootBuiltins "list" = some (.type "list") := by decide +kernel
theorem set : bootBuiltins "set" = some (.type "set") := by decide +kernel
theorem int : bootBuiltins "int" = some (.type "int") := by decide +kernel
theorem bool : bootBuiltins "bool" = some (.type "bool") := by decide +kernel
theorem tuple : bootBuiltins "tuple" = some (.type "tuple") := by decide +kernel
theorem any : bootBuiltins "any" = some (.builtin "any") := by decide +kernel
theorem str : bootBuiltins "str" = some (.type "str") := by decide +kernel
end BI
structure Bl (mg : Str → Option Value) : Prop where
  len : mg "len" = none
  range : mg "range" = none
  list : mg "list" = none
  isinstance : mg "isinstance" = none
  min : mg "min" = none
  max : mg "max" = none
  sum : mg "sum" = none
  all : mg "all" = none
  set : mg "set" = none
  sorted : mg "sorted" = none
  enumerate : mg "enumerate" = none
  reversed : mg "reversed" = none
  int : mg "int" = none
  bool : mg "bool" = none
  tuple : mg "tuple" = none
  any : mg "any" = none
  str : mg "str" = none
theorem Bl.b_int {mg : Str → Option Value} (T : Bl mg) : BtT mg "int" "int" := ⟨T.int, BI.int, by decide, by decide⟩
theorem Bl.b_bool {mg : Str → Option Value} (T : Bl mg) : BtT mg "bool" "bool" := ⟨T.bool, BI.bool, by decide, by decide⟩
theorem Bl.b_list {mg : Str → Option Value} (T : Bl mg) : BtT mg "list" "list" := ⟨T.list, BI.list, by decide, by decide⟩
theorem Bl.b_str {mg : Str → Option Value} (T : Bl mg) : BtT mg "str" "str" := ⟨T.str, BI.str, by decide, by decide⟩
noncomputable def tyN (H : Hp) (x : V) : Option String := match x with
  | .non => some "NoneType"
  | .bl _ => some "bool"
  | .int _ => some "int"
  | .ref p => (match H p with | some (.lst _) => some "list" | some (.tup _) => some "tuple" | _ => none)
  | _ => none
noncomputable def isiT (t c : String) : Option Bool :=
  if t = c then some true else if t = "bool" ∧ c = "int" then some true
  else if t ∈ ["NoneType", "bool", "int", "list", "tuple"] ∧ c ∈ ["bool", "int", "list", "tuple"] then some false else none
theorem isiT_ok {K : PySem.W.Frag} {t c : String} {b : Bool} (h : isiT t c = some b) : PySem.W.kitOne K (.type t) (.type c) = some b := by
  unfold isiT at h
  split at h
  · rename_i e; subst e; cases h
    unfold PySem.W.kitOne
    rw [if_pos (by simp)]
  · split at h
    · rename_i e; obtain ⟨rfl, rfl⟩ := e; cases h; rfl
    · split at h
      · rename_i h1 h2 h3
        cases h
        obtain ⟨m1, m2⟩ := h3
        simp only [List.mem_cons, List.not_mem_nil, or_false] at m1 m2
        rcases m1 with rfl | rfl | rfl | rfl | rfl <;> rcases m2 with rfl | rfl | rfl | rfl <;> first | exact absurd rfl h1 | exact absurd ⟨rfl, rfl⟩ h2 | rfl
      · cases h
theorem tyN_ok {K : PySem.W.Frag} {H : Hp} {x : V} {t : String} (h : tyN H x = some t) : TyOf K H x (.type t) := by
  cases x with
  | non => cases h; exact .non
  | bl b => cases h; exact .bl b
  | int i => cases h; exact .int i
  | ref p =>
    cases e : H p with
    | none => simp only [tyN, e] at h; cases h
    | some o =>
      cases o with
      | lst xs => simp only [tyN, e] at h; cases h; exact .lst e
      | tup xs => simp only [tyN, e] at h; cases h; exact .tup e
      | _ => simp only [tyN, e] at h; cases h
  | _ => cases h
noncomputable def rIsi : List V → Hp → VK → Prop := fun vs H Q => on2 vs fun x c => match c with | .ty T => onO (tyN H x) fun t => onO (isiT t T) fun b => Q (.bl b) H | _ => False
section
variable {X : Cx}
theorem f_isi : CallR X (.builtin "isinstance") rIsi := by
  intro pins s σ H xs us Q I r h
  obtain ⟨x, c, rfl, h1⟩ := on2.out h
  cases c with
  | ty T =>
    obtain ⟨t, e1, h2⟩ := onO.out (F := fun t => onO (isiT t T) fun b => Q (.bl b) H) h1
    obtain ⟨b, e2, h3⟩ := onO.out h2
    obtain ⟨u, v, rfl, ru, rv⟩ := r.two
    obtain rfl : v = Value.type T := rv
    exact isinst_ok I ru (tyN_ok e1) (isiT_ok e2) fun tk => ⟨.bl b, H, I.tok tk, rfl, h3⟩
  | _ => exact h1.elim
noncomputable def rSetF : V → V → V → Hp → (Hp → Prop) → Prop := fun o i v H Q => onI i fun k => onL H o fun p xs => (0 ≤ k ∧ k < xs.length) ∧ Q (upd H p (.lst (xs.set k.toNat v)))
theorem PSet.imp {t t' : TSet} (h : PSet X t) (i : ∀ o k v H Q, t' o k v H Q → t o k v H Q) : PSet X t' := fun pins s σ H o k v ov iv u Q I ro ri rv q => h pins s σ H o k v ov iv u Q I ro ri rv (i _ _ _ _ _ q)
theorem ixN_nat {n : Nat} {k : Int} (h0 : 0 ≤ k) (h1 : k < n) : ixN n k = some k.toNat := by
  unfold ixN
  rw [if_pos h0, if_pos h1]
theorem f_set : PSet X rSetF := set_list.imp fun o k v H Q h => by
  obtain ⟨i, rfl, h1⟩ := onI.out h
  obtain ⟨p, xs, rfl, hp, ⟨h0, h1⟩, h2⟩ := onL.out h1
  exact ⟨p, xs, i, i.toNat, rfl, rfl, hp, ixN_nat h0 h1, h2⟩
noncomputable def iL (K : PySem.W.Frag) (tl : TE) : TI := fun σ H R => tl σ H fun x H1 => onL H1 x fun a _ => R (Itl K a) H1
theorem pi_l {tg l : Expr} {tl : TE} (hl : PE X l tl) : PI X tg l (iL X.K tl) := by
  intro pins s σ H R I h
  refine thn (hl pins s σ H _ I h) fun v s1 ⟨x, H1, I1, r1, q1⟩ => ?_
  obtain ⟨a, xs, e, hq, q⟩ := onL.out q1
  subst e
  cases r1
  obtain ⟨its, rv, p, hz⟩ := I1.list (SqL.of (K := X.K) hq)
  refine wpAny_pyIter_list p.isList ?_
  refine ⟨s1.heap.objs.size, [s1.heap.objs.size], _, _, H1, rfl, I1.kept (t' := s1.toks) fun b o e => Heap.get?_push_of_some _ e, turn_list a _, ⟨_, Heap.get?_push_size _ rfl, rfl, rfl⟩, fun b hb => ?_, q⟩
  have e : b = s1.heap.objs.size := by simpa using hb
  subst e
  exact I1.fpOk (Nat.le_refl _) (I1.hok.fresh (Nat.le_refl _))
noncomputable def tTru (t : TE) : TT := fun σ H Q => t σ H fun x H1 => match x with | .bl b => Q b H1 | _ => onL H1 x fun _ xs => Q (!xs.isEmpty) H1
theorem pt_tru {a : Expr} {ta : TE} (ha : PE X a ta) (he : ∀ whole, isTrue a X.env whole = (do let v ← whole; standAt a.pos; holding [v] (truthy v))) : PT X a (tTru ta) := by
  intro pins s σ H Q I h
  refine isTrue_plain (thn (ha pins s σ H _ I h) fun v s1 ⟨x, H1, I1, r1, q1⟩ => tru_ok pins s1 σ H1 x v Q I1 r1 ?_) (he _)
  cases x with
  | bl b => exact ⟨b, rfl, q1⟩
  | ref p =>
    obtain ⟨p', xs, e, hp, q⟩ := onL.out (x := .ref p) q1
    cases e
    exact ⟨_, .inl ⟨xs, SqL.of hp, rfl⟩, q⟩
  | _ => exact q1.elim
noncomputable def rMin : List V → Hp → VK → Prop := fun vs H Q => on2 vs fun x y => onI x fun i => onI y fun j => Q (.int (if j < i then j else i)) H
theorem f_min (hc : X.calm = true) : CallR X (.builtin "min") rMin := (call_min2 hc).imp fun vs H Q h => by
  obtain ⟨x, y, rfl, h1⟩ := on2.out h
  obtain ⟨i, rfl, h2⟩ := onI.out h1
  obtain ⟨j, rfl, h3⟩ := onI.out h2
  exact ⟨i, j, rfl, h3⟩
end
end L2
namespace L2
open PySem PySem.Spec PyProof.Rows
theorem Same.upd_new {H : Hp} {p : Addr} {o : HO} (h : H p = none) : Same H (upd H p o) := fun b u e => by rw [upd_ne (ne_of_none e h)]; exact e
theorem Same.upd_in {H H' : Hp} {p : Addr} {o : HO} (s : Same H H') (h : H p = none) : Same H (upd H' p o) := fun b u e => by rw [upd_ne (ne_of_none e h)]; exact s b u e
theorem line100 {n : Nat} (h : n ≤ 10000) : n < sizeLine := Nat.lt_of_le_of_lt h (by rw [sizeLine_eq]; decide)
theorem line100' {n : Nat} (h : n ≤ 10000) : n ≤ sizeLine := Nat.le_of_lt (line100 h)
noncomputable def IntsAt (H : Hp) (a : Addr) (xs : List Int) : Prop := H a = some (.lst (xs.map V.int))
noncomputable abbrev RowsL (H : Hp) (as : List Addr) (xss : List (List Int)) : Prop := Paired (fun b xs => H b = some (.lst (xs.map V.int))) as xss
structure RowsAt (H : Hp) (a : Addr) (as : List Addr) (xss : List (List Int)) : Prop where
  top : H a = some (.lst (as.map V.ref))
  row : RowsL H as xss
theorem RowsL.mono {H H' : Hp} {as : List Addr} {xss : List (List Int)} (h : RowsL H as xss) (k : ∀ b ∈ as, ∀ o, H b = some o → H' b = some o) : RowsL H' as xss := by
  induction h with
  | nil => exact .nil
  | cons r t ih => exact .cons (k _ List.mem_cons_self _ r) (ih fun b hb => k b (List.mem_cons_of_mem _ hb))
theorem RowsL.same {H H' : Hp} {as : List Addr} {xss : List (List Int)} (h : RowsL H as xss) (s : Same H H') : RowsL H' as xss := h.mono fun b _ o e => s b o e
theorem RowsL.len {H : Hp} {as : List Addr} {xss : List (List Int)} (h : RowsL H as xss) : as.length = xss.length := Paired.length h
theorem RowsL.get {H : Hp} : ∀ {as : List Addr} {xss : List (List Int)} {i : Nat} {xs : List Int}, RowsL H as xss → xss[i]? = some xs → ∃ b, as[i]? = some b ∧ H b = some (.lst (xs.map V.int))
  | _, _, _, _, .nil, e => by simp at e
  | _, _, 0, _, .cons r _, e => by simp at e; subst e; exact ⟨_, rfl, r⟩
  | _, _, i + 1, xs, .cons _ t, e => by
    obtain ⟨b, h1, h2⟩ := RowsL.get (i := i) (xs := xs) t (by simpa using e)
    exact ⟨b, by simpa using h1, h2⟩
theorem RowsL.get' {H : Hp} {as : List Addr} {xss : List (List Int)} {i : Nat} {b : Addr} (h : RowsL H as xss) (e : as[i]? = some b) : ∃ xs, xss[i]? = some xs ∧ H b = some (.lst (xs.map V.int)) := by
  have hl := h.len
  have hi : i < xss.length := by rw [← hl]; exact (List.getElem?_eq_some_iff.mp e).1
  obtain ⟨b', h1, h2⟩ := h.get (List.getElem?_eq_getElem hi)
  rw [e] at h1; cases h1
  exact ⟨_, List.getElem?_eq_getElem hi, h2⟩
theorem RowsL.snoc {H : Hp} {as : List Addr} {xss : List (List Int)} {b : Addr} {xs : List Int} (h : RowsL H as xss) (hb : H b = some (.lst (xs.map V.int))) : RowsL H (as ++ [b]) (xss ++ [xs]) := Paired.snoc h hb
theorem RowsL.set {H : Hp} : ∀ {as : List Addr} {xss : List (List Int)} {i : Nat} {b : Addr} {ys : List Int}, RowsL H as xss → as[i]? = some b → as.Nodup → RowsL (upd H b (.lst (ys.map V.int))) as (xss.set i ys)
  | _, _, _, _, _, .nil, e, _ => by simp at e
  | a :: as, _ :: xss, 0, b, ys, .cons r t, e, nd => by
    simp at e; subst e
    refine .cons upd_same (RowsL.mono t fun c hc o q => ?_)
    have ne : c ≠ a := fun z => (List.nodup_cons.mp nd).1 (z ▸ hc)
    rw [upd_ne ne]; exact q
  | a :: as, _ :: xss, i + 1, b, ys, .cons r t, e, nd => by
    have e' : as[i]? = some b := by simpa using e
    refine .cons ?_ (RowsL.set t e' (List.nodup_cons.mp nd).2)
    have ne : a ≠ b := fun z => (List.nodup_cons.mp nd).1 (by rw [z]; exact List.mem_of_getElem? e')
    rw [upd_ne ne]; exact r
theorem RowsL.app {H : Hp} : ∀ {as bs : List Addr} {xss yss : List (List Int)}, RowsL H as xss → RowsL H bs yss → RowsL H (as ++ bs) (xss ++ yss)
  | _, _, _, _, .nil, h => h
  | _, _, _, _, .cons r t, h => .cons r (RowsL.app t h)
theorem map_get {α β : Type} {f : α → β} {xs : List α} {i : Nat} {x : α} (h : xs[i]? = some x) : (xs.map f)[i]? = some (f x) := by rw [List.getElem?_map, h]; rfl
theorem atI_map {α β : Type} {f : α → β} {xs : List α} {i : Int} {x : α} (h0 : 0 ≤ i) (h : xs[i.toNat]? = some x) : atI (xs.map f) i = some (f x) := by
  have := atI_nat (map_get (f := f) h)
  rwa [Int.toNat_of_nonneg h0] at this
structure Fresh (H : Hp) (bs : List Addr) : Prop where
  nd : bs.Nodup
  no : ∀ b ∈ bs, H b = none
structure Yields (J : It) (H : Hp) (xs : List V) : Prop where
  go : ∀ i H' v, Same H H' → xs[i]? = some v → J.go i H' ∧ ∀ u H'', J.yld i H' u H'' → H'' = H' ∧ u = v
  stop : ∀ i H', Same H H' → xs.length ≤ i → J.stop i H'
theorem yields_list {K : PySem.W.Frag} {H : Hp} {a : Addr} {xs : List V} (h : H a = some (.lst xs)) : Yields (Itl K a) H xs where
  go := fun i H' v s e => ⟨⟨xs, v, SqL.of (s a _ h), e⟩, fun u H'' y => ⟨y.1, by
    have := y.2 xs (SqL.of (s a _ h))
    rw [e] at this; cases this; rfl⟩⟩
  stop := fun i H' s hi => ⟨xs, SqL.of (s a _ h), hi⟩
theorem yields_range {H : Hp} {lo : Int} {n : Nat} : Yields (Itr lo n) H ((List.range n).map fun i => V.int (lo + (i : Nat))) where
  go := fun i H' v s e => by
    rw [List.getElem?_map] at e
    have hi : i < n := by
      cases q : (List.range n)[i]? with
      | none => rw [q] at e; cases e
      | some j => have := (List.getElem?_eq_some_iff.mp q).1; simpa using this
    rw [List.getElem?_range hi] at e
    have e' : V.int (lo + (i : Nat)) = v := by simpa using e
    exact ⟨hi, fun u H'' y => ⟨y.1, y.2.trans e'⟩⟩
  stop := fun i H' s hi => by
    have hi' : n ≤ i := by simpa using hi
    exact hi'
theorem comp_pure {J : It} {H : Hp} {xs : List V} {cp : List Nat} {σ : St} {tt : TT} {te : TE} {Q : VK} (Y : Yields J H xs) (p : V → Bool) (f : V → V) (hz : xs.length ≤ 10000)
    (ht : ∀ v ∈ xs, ∀ H', Same H H' → ∀ R : Bool → Hp → Prop, R (p v) H' → tt (cst cp σ (some v)) H' R) (he : ∀ v ∈ xs, p v = true → ∀ H', Same H H' → ∀ R : VK, R (f v) H' → te (cst cp σ (some v)) H' R)
    (hQ : ∀ D, H D = none → Q (.ref D) (upd H D (.lst ((xs.filter p).map f)))) :
    ∀ D, H D = none → ∃ W : Nat → Nat → Hp → Prop, (∃ m, W 0 m (upd H D (.lst []))) ∧ ∀ i m H, W i m H →
      (J.stop i H ∧ Q (.ref D) H) ∨ (J.go i H ∧ ∀ v H', J.yld i H v H' → tt (cst cp σ (some v)) H' fun b H2 =>
        if b = true then te (cst cp σ (some v)) H2 fun y H3 => ∃ ys, H3 D = some (.lst ys) ∧ ys.length < sizeLine ∧ ∃ m', m' < m ∧ W (i + 1) m' (upd H3 D (.lst (ys ++ [y])))
        else ∃ m', m' < m ∧ W (i + 1) m' H2) := by
  intro D hD
  refine ⟨fun i m H' => m = xs.length - i ∧ i ≤ xs.length ∧ H' = upd H D (.lst (((xs.take i).filter p).map f)), ⟨xs.length, by simp, Nat.zero_le _, by simp⟩, ?_⟩
  rintro i m H1 ⟨rfl, hi, rfl⟩
  have sm : Same H (upd H D (.lst (((xs.take i).filter p).map f))) := Same.upd_new hD
  by_cases hlt : i < xs.length
  · have e : xs[i]? = some xs[i] := List.getElem?_eq_getElem hlt
    obtain ⟨g, yl⟩ := Y.go i _ _ sm e
    refine .inr ⟨g, fun v H' y => ?_⟩
    obtain ⟨rfl, rfl⟩ := yl v H' y
    have hm : xs[i] ∈ xs := List.getElem_mem hlt
    have tk : xs.take (i + 1) = xs.take i ++ [xs[i]] := by rw [List.take_add_one, e]; rfl
    refine ht _ hm _ sm _ ?_
    by_cases hp : p xs[i] = true
    · rw [if_pos hp]
      refine he _ hm hp _ sm _ ⟨_, upd_same, ?_, xs.length - (i + 1), by trivial, rfl, hlt, ?_⟩
      · have h1 : ((xs.take i).filter p).length ≤ (xs.take i).length := List.length_filter_le _ _
        rw [List.length_take] at h1
        refine line100 ?_
        rw [List.length_map]
        trivial
      · rw [upd_upd, tk, List.filter_append, List.map_append, List.filter_cons, if_pos hp]; rfl
    · rw [if_neg hp]
      refine ⟨xs.length - (i + 1), by trivial, rfl, hlt, ?_⟩
      rw [tk, List.filter_append, List.filter_cons, if_neg hp]; simp
  · have e : i = xs.length := by trivial
    subst e
    refine .inl ⟨Y.stop _ _ sm (Nat.le_refl _), ?_⟩
    have := hQ D hD
    rwa [List.take_length]
theorem comp_rows {J : It} {H : Hp} {xs : List V} {cp : List Nat} {σ : St} {te : TE} {Q : VK} (Y : Yields J H xs) (gs : List (List Int)) (hg : gs.length = xs.length) (hz : xs.length ≤ 10000)
    (he : ∀ (i : Nat) v g, xs[i]? = some v → gs[i]? = some g → ∀ H', Same H H' → ∀ R : VK, (∀ b H'', Same H' H'' → H' b = none → H'' b = some (.lst (g.map V.int)) → R (.ref b) H'') → te (cst cp σ (some v)) H' R)
    (hQ : ∀ D as H', H D = none → Same H H' → RowsAt H' D as gs → Fresh H (D :: as) → Q (.ref D) H') :
    ∀ D, H D = none → ∃ W : Nat → Nat → Hp → Prop, (∃ m, W 0 m (upd H D (.lst []))) ∧ ∀ i m H, W i m H →
      (J.stop i H ∧ Q (.ref D) H) ∨ (J.go i H ∧ ∀ v H', J.yld i H v H' → tNoTest (cst cp σ (some v)) H' fun b H2 =>
        if b = true then te (cst cp σ (some v)) H2 fun y H3 => ∃ ys, H3 D = some (.lst ys) ∧ ys.length < sizeLine ∧ ∃ m', m' < m ∧ W (i + 1) m' (upd H3 D (.lst (ys ++ [y])))
        else ∃ m', m' < m ∧ W (i + 1) m' H2) := by
  intro D hD
  refine ⟨fun i m H' => m = xs.length - i ∧ i ≤ xs.length ∧ Same H H' ∧ ∃ as, RowsAt H' D as (gs.take i) ∧ Fresh H (D :: as), ⟨xs.length, by simp, Nat.zero_le _, Same.upd_new hD, [], ⟨upd_same, by simpa using Paired.nil⟩, ⟨by simp, by simpa using hD⟩⟩, ?_⟩
  rintro i m H1 ⟨rfl, hi, sm, as, ra, fr⟩
  by_cases hlt : i < xs.length
  · have e : xs[i]? = some xs[i] := List.getElem?_eq_getElem hlt
    have hgi : i < gs.length := by rw [hg]; exact hlt
    have eg : gs[i]? = some gs[i] := List.getElem?_eq_getElem hgi
    obtain ⟨g, yl⟩ := Y.go i _ _ sm e
    refine .inr ⟨g, fun v H' y => ?_⟩
    obtain ⟨rfl, rfl⟩ := yl v H' y
    unfold tNoTest
    dsimp only
    rw [if_pos rfl]
    refine he i _ _ e eg _ sm _ fun b H2 s2 hb hb2 => ?_
    have la : as.length = i := by rw [RowsL.len ra.row, List.length_take]; trivial
    have bD : b ≠ D := fun z => by rw [z, ra.top] at hb; cases hb
    have nD : ∀ c ∈ as, c ≠ D := fun c hc z => (List.nodup_cons.mp fr.nd).1 (z ▸ hc)
    have bas : b ∉ as := fun hm => by
      obtain ⟨j, hj⟩ := List.getElem?_of_mem hm
      obtain ⟨ys, _, hy⟩ := RowsL.get' ra.row hj
      rw [hb] at hy; cases hy
    refine ⟨as.map V.ref, s2 _ _ ra.top, line100 (by rw [List.length_map]; trivial), xs.length - (i + 1), by trivial, rfl, hlt, (sm.trans s2).upd_in hD, as ++ [b], ⟨?_, ?_⟩, ?_, ?_⟩
    · rw [upd_same, List.map_append]; rfl
    · rw [List.take_add_one, eg]
      refine RowsL.mono (RowsL.snoc (RowsL.same ra.row s2) hb2) fun c hc o q => ?_
      rw [upd_ne]
      · exact q
      · rcases List.mem_append.mp hc with hc | hc
        · exact nD c hc
        · have : c = b := by simpa using hc
          rw [this]; exact bD
    · refine List.nodup_cons.mpr ⟨fun hm => ?_, ?_⟩
      · rcases List.mem_append.mp hm with hm | hm
        · exact (List.nodup_cons.mp fr.nd).1 hm
        · have e : D = b := by simpa using hm
          exact bD e.symm
      · rw [List.nodup_append]
        refine ⟨(List.nodup_cons.mp fr.nd).2, by simp, fun c hc d hd => ?_⟩
        have : d = b := by simpa using hd
        rw [this]
        exact fun z => bas (z ▸ hc)
    · intro c hc
      rcases List.mem_cons.mp hc with rfl | hc
      · exact hD
      · rcases List.mem_append.mp hc with hc | hc
        · exact fr.no c (List.mem_cons_of_mem _ hc)
        · have : c = b := by simpa using hc
          rw [this]; exact sm.free hb
  · have e : i = xs.length := by trivial
    subst e
    refine .inl ⟨Y.stop _ _ sm (Nat.le_refl _), ?_⟩
    rw [← hg, List.take_length] at ra
    exact hQ D as H1 hD sm ra fr
end L2
namespace L2
open PySem PySem.Spec PyProof.Rows
noncomputable def Itv (K : PySem.W.Frag) (a : Addr) (n : Nat) : It :=
  ⟨fun i H => ∃ xs x, SqL K H a xs ∧ xs.length = n ∧ i < n ∧ xs[n - 1 - i]? = some x, fun i H x H' => H' = H ∧ ∀ xs, SqL K H a xs → xs[n - 1 - i]? = some x, fun i _ => i = n⟩
theorem turn_rev {P : Program} {w : World} {K : PySem.W.Frag} {tg : Expr} (a it : Addr) (n : Nat) : Turn P w K tg (Itv K a n) [it] it (fun i h => h.IsRevIter it a ((n : Int) - 1 - (i : Int))) where
  mem := by simp
  obj := fun i h st b hb => by
    have e : b = it := by simpa using hb
    subst e
    obtain ⟨o, e, c, d⟩ := st
    exact ⟨o, e, fun v z => by rw [d] at z; cases z⟩
  keep := fun i h h' st k => st.at fun o e => k it (by simp) o e
  item := by
    intro X hP hw hK hc i pins s σ H E I hf st hg
    subst hP hw hK
    obtain ⟨xs, x, hq, hn, hi, hx⟩ := hg
    obtain ⟨its, rv, p, hz⟩ := I.list hq
    obtain ⟨u, hu, ru⟩ := rv.get hx
    obtain ⟨f0, f1, f2, f3, f4, f5⟩ := hf it (by simp)
    have ei : (n : Int) - 1 - (i : Int) = ((n - 1 - i : Nat) : Int) := by trivial
    rw [ei] at st
    refine wpAny_pyNext_rev_item st p.isList (x := u) (by simpa using hu) fun h' st' sb => ?_
    have I1 : Inv X pins σ H { s with heap := h' } := I.turned (t' := s.toks) (fun b o hb e => (sb.2 b hb).trans e) f0 f1 f3 f4 f5
    obtain ⟨o, e, c, d⟩ := id st'
    have e2 : ((n - 1 - i : Nat) : Int) - 1 = (n : Int) - 1 - ((i + 1 : Nat) : Int) := by trivial
    rw [e2] at st'
    exact ⟨u, rfl, go_of (s := { s with heap := h' }) e c d (by decide) ⟨x, H, I1, ru, ⟨rfl, fun ys hy => by rw [I.list_inj hy hq]; exact hx⟩, st', fun b hb => (hf b hb).1⟩⟩
  done := by
    intro X hP hw hK hc i pins s σ H E I hf st hg
    subst hP hw hK
    have hi : i = n := hg
    subst hi
    obtain ⟨f0, f1, f2, f3, f4, f5⟩ := hf it (by simp)
    have e : (i : Int) - 1 - (i : Int) = -1 := by trivial
    rw [e] at st
    exact wpAny_pyNext_rev_end (I.ok.hd hc) st fun h' eb => ⟨rfl, I.turned (t' := s.toks) (fun b o hb e => eb b o hb e) f0 f1 f3 f4 f5⟩
  self := fun _ _ _ _ _ st h => wpAny_pyIter_revIter st h
section
variable {X : Cx} {tg : Expr}
noncomputable def iRev (K : PySem.W.Frag) (ta : TA) : TI := fun σ H R => ta σ H fun vs H1 => on1 vs fun x => onL H1 x fun a xs => R (Itv K a xs.length) H1
theorem pi_rev {a : Expr} {ta : TA} {p pos : Pos} (hg : Gl X "reversed") (hm : X.mg "reversed" = none) (ha : PA X [a] ta) (hs : starEach [a] X.env = [(false, eval a X.env)] := by rfl) : PI X tg (.Call (.Name "reversed" p) [a] [] pos) (iRev X.K ta) := by
  intro pins s σ H R I h
  refine Call_ (ld_blt I hg hm boot_reversed (PyProof.Rows.callWith_type1 (thn (ha pos pins s σ H _ I h) fun us s1 ⟨vs, H1, I1, r1, q1⟩ => ?_) hs rfl))
  obtain ⟨x, rfl, q1⟩ := on1.out q1
  obtain ⟨l, xs, rfl, hl, q⟩ := onL.out q1
  obtain ⟨u, rfl, ru⟩ := r1.one
  cases ru
  obtain ⟨its, rv, pl, hz⟩ := I1.list (SqL.of (K := X.K) hl)
  refine call_reversed_list pl.isList ?_
  have en : ((its.toArray.size : Nat) : Int) - 1 = (xs.length : Int) - 1 := by rw [List.size_toArray, rv.length]
  rw [en]
  have st : (s1.heap.push (revObj l ((xs.length : Int) - 1))).IsRevIter s1.heap.objs.size l ((xs.length : Int) - 1 - ((0 : Nat) : Int)) := ⟨_, Heap.get?_push_size _ rfl, rfl, by simp [revObj]⟩
  have I2 : Inv X pins σ H1 { s1 with heap := s1.heap.push (revObj l ((xs.length : Int) - 1)) } := I1.kept (t' := s1.toks) fun b o e => Heap.get?_push_of_some _ e
  refine wpAny_pyIter_revIter (s := { s1 with heap := s1.heap.push (revObj l ((xs.length : Int) - 1)) }) st ?_
  refine ⟨s1.heap.objs.size, [s1.heap.objs.size], _, _, H1, rfl, I2, turn_rev l _ xs.length, st, fun b hb => ?_, q⟩
  have e : b = s1.heap.objs.size := by simpa using hb
  subst e
  exact I1.fpOk (Nat.le_refl _) (I1.hok.fresh (Nat.le_refl _))
theorem for_rev {K : PySem.W.Frag} {a : Addr} {xs : List V} {g : TG} {tb : TS} {D : Ends} {σ : St} {H : Hp} (Pv : Nat → St → Hp → Prop) (h0 : Pv 0 σ H) (hl : ∀ i σ H, i ≤ xs.length → Pv i σ H → SqL K H a xs)
    (hs : ∀ i x σ H, xs.reverse[i]? = some x → Pv i σ H → g x σ H fun σ2 H2 => tb { D with nx := Pv (i + 1), ct := Pv (i + 1), bk := D.nx } σ2 H2) (hd : ∀ σ H, Pv xs.length σ H → D.nx σ H) :
    ∃ W : Nat → Nat → St → Hp → Prop, (∃ m, W 0 m σ H) ∧ ∀ i m σ H, W i m σ H →
      ((Itv K a xs.length).stop i H ∧ D.nx σ H) ∨ ((Itv K a xs.length).go i H ∧ ∃ N : St → Hp → Prop, (∀ σ' H', N σ' H' → ∃ m', m' < m ∧ W (i + 1) m' σ' H') ∧ ∀ x H', (Itv K a xs.length).yld i H x H' → g x σ H' fun σ2 H2 => tb { D with nx := N, ct := N, bk := D.nx } σ2 H2) := by
  refine ⟨fun i m σ H => m = xs.length - i ∧ i ≤ xs.length ∧ Pv i σ H, ⟨xs.length, by simp, Nat.zero_le _, h0⟩, ?_⟩
  rintro i m σ H ⟨rfl, hi, p⟩
  have q := hl i σ H hi p
  by_cases hlt : i < xs.length
  · have hj : xs.length - 1 - i < xs.length := by trivial
    refine .inr ⟨⟨xs, xs[xs.length - 1 - i], q, rfl, hlt, List.getElem?_eq_getElem hj⟩, Pv (i + 1), fun σ' H' p' => ⟨xs.length - (i + 1), by trivial, rfl, hlt, p'⟩, fun x H' y => ?_⟩
    obtain ⟨e, y⟩ := y
    subst e
    refine hs i x σ _ ?_ p
    rw [List.getElem?_reverse hlt]
    exact y xs q
  · have e : i = xs.length := by trivial
    subst e
    exact .inl ⟨rfl, hd σ H p⟩
end
end L2
namespace L2
open PySem PySem.Spec PyProof.Rows
section
variable {t u : TS} {D : Ends} {σ : St} {H : Hp} {Q : VK} {te ta tb : TE} {tA tB' : TT} {R : Bool → Hp → Prop} {g : TG} {r : R2} {S : List V → Hp → Prop} {l : TA}
@[simp] theorem rd_seq : tSeq t u D σ H = t { D with nx := u D } σ H := rfl
@[simp] theorem rd_next : tNext D σ H = D.nx σ H := rfl
@[simp] theorem rd_drop : tDrop te D σ H = te σ H fun _ H1 => D.nx σ H1 := rfl
@[simp] theorem rd_ret : tRet te D σ H = te σ H D.rt := rfl
@[simp] theorem rd_if : tIfS tA t u D σ H = tA σ H fun b H1 => if b = true then t D σ H1 else u D σ H1 := rfl
@[simp] theorem rd_asg : tAsg te g D σ H = te σ H fun x H1 => g x σ H1 D.nx := rfl
@[simp] theorem rd_name {i : Nat} {v : V} {N : St → Hp → Prop} : gName i v σ H N = N (σ.set i (some v)) H := rfl
@[simp] theorem rd_sub {to ti : TE} {ts : TSet} {v : V} {N : St → Hp → Prop} : gSub to ti ts v σ H N = to σ H fun o H1 => ti σ H1 fun i H2 => ts o i v H2 fun H3 => N σ H3 := rfl
theorem rd_var {i : Nat} : tVar i σ H Q = onO (σ[i]?.join) fun v => Q v H := by
  unfold tVar
  cases h : σ[i]? with
  | none => simp [onO]
  | some o => cases o <;> simp [onO]
@[simp] theorem rd_var0 {o : Option V} {σ : St} : tVar 0 (o :: σ) H Q = onO o fun v => Q v H := by rw [rd_var]; rfl
@[simp] theorem rd_varS {i : Nat} {o : Option V} {σ : St} : tVar (i + 1) (o :: σ) H Q = tVar i σ H Q := by rw [rd_var, rd_var]; rfl
@[simp] theorem rd_var1 {o : Option V} {σ : St} : tVar 1 (o :: σ) H Q = tVar 0 σ H Q := rd_varS
@[simp] theorem rd_var2 {o : Option V} {σ : St} : tVar 2 (o :: σ) H Q = tVar 1 σ H Q := rd_varS
@[simp] theorem rd_var3 {o : Option V} {σ : St} : tVar 3 (o :: σ) H Q = tVar 2 σ H Q := rd_varS
@[simp] theorem rd_var4 {o : Option V} {σ : St} : tVar 4 (o :: σ) H Q = tVar 3 σ H Q := rd_varS
@[simp] theorem rd_var5 {o : Option V} {σ : St} : tVar 5 (o :: σ) H Q = tVar 4 σ H Q := rd_varS
@[simp] theorem rd_var6 {o : Option V} {σ : St} : tVar 6 (o :: σ) H Q = tVar 5 σ H Q := rd_varS
@[simp] theorem rd_var7 {o : Option V} {σ : St} : tVar 7 (o :: σ) H Q = tVar 6 σ H Q := rd_varS
@[simp] theorem rd_var8 {o : Option V} {σ : St} : tVar 8 (o :: σ) H Q = tVar 7 σ H Q := rd_varS
@[simp] theorem rd_var9 {o : Option V} {σ : St} : tVar 9 (o :: σ) H Q = tVar 8 σ H Q := rd_varS
@[simp] theorem rd_var10 {o : Option V} {σ : St} : tVar 10 (o :: σ) H Q = tVar 9 σ H Q := rd_varS
@[simp] theorem rd_var11 {o : Option V} {σ : St} : tVar 11 (o :: σ) H Q = tVar 10 σ H Q := rd_varS
@[simp] theorem rd_onO {α : Type} {v : α} {F : α → Prop} : onO (some v) F = F v := rfl
@[simp] theorem rd_onI {i : Int} {F : Int → Prop} : onI (.int i) F = F i := rfl
@[simp] theorem rd_onB {i : Bool} {F : Bool → Prop} : onB (.bl i) F = F i := rfl
@[simp] theorem rd_on1 {x : V} {F : V → Prop} : on1 [x] F = F x := rfl
@[simp] theorem rd_on2 {x y : V} {F : V → V → Prop} : on2 [x, y] F = F x y := rfl
theorem onL_of {p : Addr} {xs : List V} {F : Addr → List V → Prop} (h : H p = some (.lst xs)) : onL H (.ref p) F = F p xs := by simp only [onL, h]
theorem onS_of {p : Addr} {xs : List V} {F : List V → Prop} (h : H p = some (.lst xs)) : onS H (.ref p) F = F xs := by simp only [onS, h]
theorem onS_ofT {p : Addr} {xs : List V} {F : List V → Prop} (h : H p = some (.tup xs)) : onS H (.ref p) F = F xs := by simp only [onS, h]
@[simp] theorem rd_c {v : V} : tC v σ H Q = Q v H := rfl
@[simp] theorem rd_op : tOp r ta tb σ H Q = ta σ H fun x H1 => tb σ H1 fun y H2 => r x y H2 Q := rfl
@[simp] theorem rd_un {f : V → Hp → VK → Prop} : tUn f ta σ H Q = ta σ H fun x H1 => f x H1 Q := rfl
@[simp] theorem rd_test : tTest te σ H R = te σ H fun x H' => onB x fun k => R k H' := by
  show (te σ H fun x H' => ∃ k, x = .bl k ∧ R k H') = _
  congr; funext x H'
  cases x <;> simp [onB]
@[simp] theorem rd_tB : tB te σ H R = te σ H fun x H' => onB x fun k => R k H' := by
  show (te σ H fun x H' => ∃ k, x = .bl k ∧ R k H') = _
  congr; funext x H'
  cases x <;> simp [onB]
@[simp] theorem rd_and : tAnd tA tB' σ H R = tA σ H fun c H1 => if c = true then tB' σ H1 R else R false H1 := rfl
@[simp] theorem rd_or : tOr tA tB' σ H R = tA σ H fun c H1 => if c = true then R true H1 else tB' σ H1 R := rfl
@[simp] theorem rd_not : tNot tA σ H R = tA σ H fun c H1 => R (!c) H1 := rfl
@[simp] theorem rd_andV : tAndV ta tb σ H Q = ta σ H fun x H1 => onB x fun c => if c = true then tb σ H1 Q else Q (.bl false) H1 := by
  show (ta σ H fun x H' => ∃ k, x = .bl k ∧ _) = _
  congr; funext x H'
  cases x <;> simp [onB]
@[simp] theorem rd_orV : tOrV ta tb σ H Q = ta σ H fun x H1 => onB x fun c => if c = true then Q (.bl true) H1 else tb σ H1 Q := by
  show (ta σ H fun x H' => ∃ k, x = .bl k ∧ _) = _
  congr; funext x H'
  cases x <;> simp [onB]
@[simp] theorem rd_notV : tNotV ta σ H Q = ta σ H fun x H1 => onB x fun c => Q (.bl (!c)) H1 := by
  show (ta σ H fun x H' => ∃ k, x = .bl k ∧ _) = _
  congr; funext x H'
  cases x <;> simp [onB]
@[simp] theorem rd_ifE : tIf tA ta tb σ H Q = tA σ H fun c H1 => if c = true then ta σ H1 Q else tb σ H1 Q := rfl
@[simp] theorem rd_nil : tNil σ H S = S [] H := rfl
@[simp] theorem rd_cons : tCons ta l σ H S = ta σ H fun x H1 => l σ H1 fun xs H2 => S (x :: xs) H2 := rfl
@[simp] theorem rd_tup : tTup l σ H Q = l σ H fun xs H1 => xs.length ≤ sizeLine ∧ ∀ p, H1 p = none → Q (.ref p) (upd H1 p (.tup xs)) := rfl
@[simp] theorem rd_lst : tLst l σ H Q = l σ H fun xs H1 => xs.length ≤ sizeLine ∧ ∀ p, H1 p = none → Q (.ref p) (upd H1 p (.lst xs)) := rfl
@[simp] theorem rd_cb {f : List V → Hp → VK → Prop} : tCB f l σ H Q = l σ H fun vs H1 => f vs H1 Q := rfl
@[simp] theorem rd_cl {sp : Sp} : tCl sp l σ H Q = l σ H fun vs H1 => sp vs H1 Q E0 := rfl
@[simp] theorem rd_ml {f : V → List V → Hp → VK → Prop} : tML f ta l σ H Q = ta σ H fun x H1 => onL H1 x fun _ _ => l σ H1 fun vs H2 => f x vs H2 Q := rfl
@[simp] theorem rd_ml0 {f : V → List V → Hp → VK → Prop} : tML0 f ta σ H Q = ta σ H fun x H1 => onL H1 x fun _ _ => f x [] H1 Q := rfl
@[simp] theorem rd_sl {f : V → Option Int → Option Int → Hp → VK → Prop} {tl th : TO} : tSl f ta tl th σ H Q = ta σ H fun x H1 => tl σ H1 fun a H2 => th σ H2 fun b H3 => f x a b H3 Q := rfl
@[simp] theorem rd_nopart {N : Option Int → Hp → Prop} : tNoPart σ H N = N none H := rfl
@[simp] theorem rd_part {N : Option Int → Hp → Prop} : tPart ta σ H N = ta σ H fun x H1 => onI x fun i => N (some i) H1 := by
  show (ta σ H fun x H' => ∃ i, x = .int i ∧ _) = _
  congr; funext x H'
  cases x <;> simp [onI]
@[simp] theorem rd_tru : tTru te σ H R = te σ H fun x H1 => match x with | .bl b => R b H1 | _ => onL H1 x fun _ xs => R (!xs.isEmpty) H1 := rfl
@[simp] theorem rd_II {f : Int → Int → V} {x y : V} : rII f x y H Q = onI x fun i => onI y fun j => Q (f i j) H := rfl
@[simp] theorem rd_IC {C : Int → Int → Prop} {f : Int → Int → V} {x y : V} : rIC C f x y H Q = onI x fun i => onI y fun j => C i j ∧ Q (f i j) H := rfl
@[simp] theorem rd_plusI {i : Int} {y : V} : rPlus (.int i) y H Q = onI y fun j => Q (.int (i + j)) H := rfl
@[simp] theorem rd_plusL {a : Addr} {y : V} : rPlus (.ref a) y H Q = onL H (.ref a) fun _ xs => onL H y fun _ ys => xs.length + ys.length ≤ sizeLine ∧ new H (.lst (xs ++ ys)) Q := rfl
@[simp] theorem rd_neg {x : V} : rNeg x H Q = onI x fun i => Q (.int (-i)) H := rfl
@[simp] theorem rd_len {vs : List V} : rLen vs H Q = on1 vs fun x => onS H x fun ys => Q (.int ys.length) H := rfl
@[simp] theorem rd_ix {x y : V} : rIxF x y H Q = onI y fun i => onS H x fun xs => onO (atI xs i) fun v => Q v H := rfl
@[simp] theorem rd_cut {x : V} {lo hi : Option Int} : rSlF x lo hi H Q = onL H x fun _ xs => new H (.lst (cutV xs lo hi)) Q := rfl
@[simp] theorem rd_list {vs : List V} : rListF vs H Q = on1 vs fun x => onS H x fun ys => new H (.lst ys) Q := rfl
@[simp] theorem rd_app {x : V} {vs : List V} : rAppF x vs H Q = on1 vs fun y => onL H x fun l xs => xs.length < sizeLine ∧ Q .non (upd H l (.lst (xs ++ [y]))) := rfl
@[simp] theorem rd_ext {x : V} {vs : List V} : rExtF x vs H Q = on1 vs fun y => onL H x fun l xs => onL H y fun _ zs => xs.length + zs.length ≤ sizeLine ∧ Q .non (upd H l (.lst (xs ++ zs))) := rfl
@[simp] theorem rd_ins {x : V} {vs : List V} : rInsF x vs H Q = on2 vs fun k y => onI k fun i => onL H x fun l xs => (0 ≤ i ∧ i ≤ xs.length ∧ xs.length < sizeLine) ∧ Q .non (upd H l (.lst (xs.take i.toNat ++ y :: xs.drop i.toNat))) := rfl
@[simp] theorem rd_setF {o i v : V} {N : Hp → Prop} : rSetF o i v H N = onI i fun k => onL H o fun p xs => (0 ≤ k ∧ k < xs.length) ∧ N (upd H p (.lst (xs.set k.toNat v))) := rfl
@[simp] theorem rd_isi {x : V} {T : String} : rIsi [x, .ty T] H Q = onO (tyN H x) fun t => onO (isiT t T) fun b => Q (.bl b) H := rfl
@[simp] theorem rd_min {vs : List V} : rMin vs H Q = on2 vs fun x y => onI x fun i => onI y fun j => Q (.int (if j < i then j else i)) H := rfl
@[simp] theorem rd_iL {K : PySem.W.Frag} {N : It → Hp → Prop} : iL K ta σ H N = ta σ H fun x H1 => onL H1 x fun a _ => N (Itl K a) H1 := rfl
@[simp] theorem rd_rng1 {N : It → Hp → Prop} : iRng1 l σ H N = l σ H fun vs H1 => on1 vs fun x => onI x fun j => (-(2 ^ 62) ≤ j ∧ j < 2 ^ 62) ∧ N (Itr 0 j.toNat) H1 := by
  show (l σ H fun vs H1 => ∃ j : Int, vs = [.int j] ∧ -(2 ^ 62) ≤ j ∧ j < 2 ^ 62 ∧ N (Itr 0 j.toNat) H1) = _
  congr; funext vs H1
  apply propext
  constructor
  · rintro ⟨j, rfl, h1, h2, h3⟩; exact ⟨⟨h1, h2⟩, h3⟩
  · intro h
    obtain ⟨x, rfl, h⟩ := on1.out h
    obtain ⟨j, rfl, ⟨h1, h2⟩, h3⟩ := onI.out h
    exact ⟨j, rfl, h1, h2, h3⟩
@[simp] theorem rd_rev {K : PySem.W.Frag} {N : It → Hp → Prop} : iRev K l σ H N = l σ H fun vs H1 => on1 vs fun x => onL H1 x fun a xs => N (Itv K a xs.length) H1 := rfl
@[simp] theorem rd_new {o : HO} : new H o Q = ∀ p, H p = none → Q (.ref p) (upd H p o) := rfl
@[simp] theorem rd_notest : tNoTest σ H R = R true H := rfl
@[simp] theorem rd_eqI {i j : Int} : rEq (.int i) (.int j) H Q = Q (.bl (decide (i = j))) H := by
  show (true = true ∧ Q (.bl (decide (V.int i = V.int j))) H) = _
  simp
@[simp] theorem rd_neI {i j : Int} : rNe (.int i) (.int j) H Q = Q (.bl (!decide (i = j))) H := by
  show (true = true ∧ Q (.bl (!decide (V.int i = V.int j))) H) = _
  simp
@[simp] theorem rd_isN {x : V} : rIsN x .non H Q = Q (.bl (decide (x = .non))) H := by simp [rIsN]
@[simp] theorem rd_notN {x : V} : rNotN x .non H Q = Q (.bl (!decide (x = .non))) H := by simp [rNotN]
theorem rd_comp {wi : TI} {cp : List Nat} {tt : TT} : tComp wi cp tt te σ H Q = wi σ H fun J H1 => ∀ D, H1 D = none →
  ∃ W : Nat → Nat → Hp → Prop, (∃ m, W 0 m (upd H1 D (.lst []))) ∧ ∀ i m H, W i m H →
    (J.stop i H ∧ Q (.ref D) H) ∨ (J.go i H ∧ ∀ v H', J.yld i H v H' → tt (cst cp σ (some v)) H' fun b H2 =>
      if b = true then te (cst cp σ (some v)) H2 fun y H3 => ∃ ys, H3 D = some (.lst ys) ∧ ys.length < sizeLine ∧ ∃ m', m' < m ∧ W (i + 1) m' (upd H3 D (.lst (ys ++ [y])))
      else ∃ m', m' < m ∧ W (i + 1) m' H2) := rfl
end
theorem comp_listP {K : PySem.W.Frag} {tl : TE} {cp : List Nat} {tt : TT} {te : TE} {σ : St} {H : Hp} {Q : VK} {a : Addr} {xs : List V} (hl : ∀ R : VK, R (.ref a) H → tl σ H R) (h : H a = some (.lst xs)) (p : V → Bool) (f : V → V) (hz : xs.length ≤ 10000)
    (ht : ∀ v ∈ xs, ∀ H', Same H H' → ∀ R : Bool → Hp → Prop, R (p v) H' → tt (cst cp σ (some v)) H' R) (he : ∀ v ∈ xs, p v = true → ∀ H', Same H H' → ∀ R : VK, R (f v) H' → te (cst cp σ (some v)) H' R)
    (hQ : ∀ D, H D = none → Q (.ref D) (upd H D (.lst ((xs.filter p).map f)))) : tComp (iL K tl) cp tt te σ H Q := by
  refine hl _ ?_
  rw [onL_of h]
  exact comp_pure (yields_list h) p f hz ht he hQ
theorem comp_listR {K : PySem.W.Frag} {tl : TE} {cp : List Nat} {te : TE} {σ : St} {H : Hp} {Q : VK} {a : Addr} {xs : List V} (hl : ∀ R : VK, R (.ref a) H → tl σ H R) (h : H a = some (.lst xs)) (gs : List (List Int)) (hg : gs.length = xs.length) (hz : xs.length ≤ 10000)
    (he : ∀ (i : Nat) v g, xs[i]? = some v → gs[i]? = some g → ∀ H', Same H H' → ∀ R : VK, (∀ b H'', Same H' H'' → H' b = none → H'' b = some (.lst (g.map V.int)) → R (.ref b) H'') → te (cst cp σ (some v)) H' R)
    (hQ : ∀ D as H', H D = none → Same H H' → RowsAt H' D as gs → Fresh H (D :: as) → Q (.ref D) H') : tComp (iL K tl) cp tNoTest te σ H Q := by
  refine hl _ ?_
  rw [onL_of h]
  exact comp_rows (yields_list h) gs hg hz he hQ
theorem comp_copy {K : PySem.W.Frag} {tl : TE} {cp : List Nat} {σ : St} {H : Hp} {Q : VK} {a : Addr} {as : List Addr} {xss : List (List Int)} (hl : ∀ R : VK, R (.ref a) H → tl σ H R) (h : RowsAt H a as xss) (hz : xss.length ≤ 10000)
    (hQ : ∀ D bs H', H D = none → Same H H' → RowsAt H' D bs xss → Fresh H (D :: bs) → Q (.ref D) H') : tComp (iL K tl) cp tNoTest (tCB rListF (tCons (tVar 0) tNil)) σ H Q := by
  refine comp_listR hl h.top xss (by rw [List.length_map, h.row.len]) (by rw [List.length_map, h.row.len]; exact hz) (fun i v g e1 e2 H' s R k => ?_) hQ
  rw [List.getElem?_map] at e1
  cases e3 : as[i]? with
  | none => rw [e3] at e1; cases e1
  | some b =>
    rw [e3] at e1
    cases e1
    obtain ⟨xs, e4, hb⟩ := h.row.get' e3
    rw [e2] at e4; cases e4
    simp only [rd_cb, rd_cons, rd_nil, cst, rd_var0, rd_onO, rd_list, rd_on1, onS_of (s _ _ hb), rd_new]
    exact fun p hp => k p _ (Same.upd_new hp) hp upd_same
end L2
namespace L2
open PySem PySem.Spec PyProof.Rows
theorem for_rangeF {wi : TI} {g : TG} {tb : TS} {D : Ends} {σ : St} {H : Hp} (n : Nat) (hn : ∀ N : It → Hp → Prop, N (Itr 0 n) H → wi σ H N) (Pv : Nat → St → Hp → Prop) (h0 : Pv 0 σ H)
    (hs : ∀ i σ H, i < n → Pv i σ H → g (.int (i : Nat)) σ H fun σ2 H2 => tb { D with nx := Pv (i + 1), ct := Pv (i + 1), bk := D.nx } σ2 H2) (hd : ∀ σ H, Pv n σ H → D.nx σ H) : tFor wi g tb D σ H :=
  hn _ (for_range (lo := 0) (n := n) Pv h0 (fun i σ H hi p => by
    have := hs i σ H hi p
    rw [Int.zero_add]; exact this) hd)
theorem for_listF {K : PySem.W.Frag} {wi : TI} {g : TG} {tb : TS} {D : Ends} {σ : St} {H : Hp} (a : Addr) (xs : List V) (hn : ∀ N : It → Hp → Prop, N (Itl K a) H → wi σ H N) (Pv : Nat → St → Hp → Prop) (h0 : Pv 0 σ H) (hl : ∀ i σ H, i ≤ xs.length → Pv i σ H → H a = some (.lst xs))
    (hs : ∀ i x σ H, xs[i]? = some x → Pv i σ H → g x σ H fun σ2 H2 => tb { D with nx := Pv (i + 1), ct := Pv (i + 1), bk := D.nx } σ2 H2) (hd : ∀ σ H, Pv xs.length σ H → D.nx σ H) : tFor wi g tb D σ H :=
  hn _ (for_list (K := K) (a := a) (xs := xs) Pv h0 (fun i σ H hi p => SqL.of (hl i σ H hi p)) hs hd)
theorem for_revF {K : PySem.W.Frag} {wi : TI} {g : TG} {tb : TS} {D : Ends} {σ : St} {H : Hp} (a : Addr) (xs : List V) (hn : ∀ N : It → Hp → Prop, N (Itv K a xs.length) H → wi σ H N) (Pv : Nat → St → Hp → Prop) (h0 : Pv 0 σ H) (hl : ∀ i σ H, i ≤ xs.length → Pv i σ H → H a = some (.lst xs))
    (hs : ∀ i x σ H, xs.reverse[i]? = some x → Pv i σ H → g x σ H fun σ2 H2 => tb { D with nx := Pv (i + 1), ct := Pv (i + 1), bk := D.nx } σ2 H2) (hd : ∀ σ H, Pv xs.length σ H → D.nx σ H) : tFor wi g tb D σ H :=
  hn _ (for_rev (K := K) (a := a) (xs := xs) Pv h0 (fun i σ H hi p => SqL.of (hl i σ H hi p)) hs hd)
theorem while_F {c : TT} {tb : TS} {D : Ends} {σ : St} {H : Hp} (Pv : Nat → St → Hp → Prop) (m : Nat) (h0 : Pv m σ H)
    (hs : ∀ m σ H, Pv m σ H → c σ H fun b H1 => if b = true then tb { D with nx := fun σ' H' => ∃ m', m' < m ∧ Pv m' σ' H', ct := fun σ' H' => ∃ m', m' < m ∧ Pv m' σ' H', bk := D.nx } σ H1 else D.nx σ H1)
    (mono : ∀ (σ : St) (H : Hp) (Q Q' : Bool → Hp → Prop), (∀ b H1, Q b H1 → Q' b H1) → c σ H Q → c σ H Q') : tWhile c tb D σ H := by
  refine ⟨Pv, ⟨m, h0⟩, fun m σ H p => mono σ H _ _ (fun b H1 q => ?_) (hs m σ H p)⟩
  cases b with
  | true => rw [if_pos rfl] at q ⊢; exact ⟨_, fun σ' H' h => h, q⟩
  | false => rw [if_neg Bool.false_ne_true] at q ⊢; exact q
theorem atI_int {xs : List Int} {i : Nat} {x : Int} (h : xs[i]? = some x) : atI (xs.map V.int) (i : Int) = some (.int x) := atI_nat (map_get h)
theorem atI_ref {xs : List Addr} {i : Nat} {x : Addr} (h : xs[i]? = some x) : atI (xs.map V.ref) (i : Int) = some (.ref x) := atI_nat (map_get h)
theorem take_next {α : Type} {xs : List α} {i : Nat} {x : α} (h : xs[i]? = some x) : xs.take (i + 1) = xs.take i ++ [x] := by rw [List.take_add_one, h]; rfl
end L2
namespace L2
open PySem PySem.Spec PyProof.Rows
theorem cut1 {A R : TS} {D : Ends} {σ : St} {H : Hp} (Ps : St → Hp → Prop) (h1 : ∀ R' : TS, (∀ σ' H', Ps σ' H' → R' D σ' H') → tSeq A R' D σ H) (h2 : ∀ σ' H', Ps σ' H' → R D σ' H') : tSeq A R D σ H := h1 R h2
theorem cut2 {A B R : TS} {D : Ends} {σ : St} {H : Hp} (Ps : St → Hp → Prop) (h1 : ∀ R' : TS, (∀ σ' H', Ps σ' H' → R' D σ' H') → tSeq A (tSeq B R') D σ H) (h2 : ∀ σ' H', Ps σ' H' → R D σ' H') : tSeq A (tSeq B R) D σ H := h1 R h2
theorem line3 {n : Nat} (h : n ≤ 10000) : n ≤ sizeLine := line100' h
end L2
namespace L2
open PySem PySem.Spec PyProof.Rows
theorem upd_none {H : Hp} {a b : Addr} {o : HO} (h : upd H a o b = none) : b ≠ a ∧ H b = none := by
  by_cases e : b = a
  · rw [e, upd_same] at h; cases h
  · rw [upd_ne e] at h; exact ⟨e, h⟩
theorem RowsL.notin {H : Hp} {as : List Addr} {xss : List (List Int)} {p : Addr} (h : RowsL H as xss) (hp : H p = none) : p ∉ as := fun hm => by
  obtain ⟨j, hj⟩ := List.getElem?_of_mem hm
  obtain ⟨ys, _, hy⟩ := RowsL.get' h hj
  rw [hp] at hy; cases hy
theorem RowsAt.set {H : Hp} {a : Addr} {as : List Addr} {xss : List (List Int)} {i : Nat} {b : Addr} {ys : List Int} (h : RowsAt H a as xss) (e : as[i]? = some b) (nd : (a :: as).Nodup) : RowsAt (upd H b (.lst (ys.map V.int))) a as (xss.set i ys) := by
  have nd' := List.nodup_cons.mp nd
  refine ⟨?_, RowsL.set h.row e nd'.2⟩
  have ne : a ≠ b := fun z => nd'.1 (by rw [z]; exact List.mem_of_getElem? e)
  rw [upd_ne ne]; exact h.top
theorem RowsAt.same {H H' : Hp} {a : Addr} {as : List Addr} {xss : List (List Int)} (h : RowsAt H a as xss) (s : Same H H') : RowsAt H' a as xss := ⟨s _ _ h.top, RowsL.same h.row s⟩
theorem Fresh.sub {H : Hp} {as bs : List Addr} (h : Fresh H as) (s : bs.Sublist as) : Fresh H bs := ⟨h.nd.sublist s, fun b hb => h.no b (s.subset hb)⟩
theorem Fresh.cons {H : Hp} {p : Addr} {as : List Addr} (h : Fresh H as) (hp : H p = none) (hn : p ∉ as) : Fresh H (p :: as) := ⟨List.nodup_cons.mpr ⟨hn, h.nd⟩, fun b hb => by
  rcases List.mem_cons.mp hb with rfl | hb
  · exact hp
  · exact h.no b hb⟩
theorem Fresh.snoc {H : Hp} {p : Addr} {as : List Addr} (h : Fresh H as) (hp : H p = none) (hn : p ∉ as) : Fresh H (as ++ [p]) := ⟨by
  rw [List.nodup_append]
  exact ⟨h.nd, by simp, fun c hc d hd => by
    have : d = p := by simpa using hd
    rw [this]
    exact fun z => hn (z ▸ hc)⟩, fun b hb => by
  rcases List.mem_append.mp hb with hb | hb
  · exact h.no b hb
  · have : b = p := by simpa using hb
    rw [this]; exact hp⟩
theorem Fresh.old {H H' : Hp} {as : List Addr} (h : Fresh H' as) (s : Same H H') : Fresh H as := ⟨h.nd, fun b hb => s.free (h.no b hb)⟩
theorem RowsAt.app {H : Hp} {a p : Addr} {as : List Addr} {xss : List (List Int)} {ys : List Int} (h : RowsL H as xss) (ht : H a = some (.lst (as.map V.ref ++ [V.ref p]))) (hp : H p = some (.lst (ys.map V.int))) : RowsAt H a (as ++ [p]) (xss ++ [ys]) :=
  ⟨by rw [ht, List.map_append]; rfl, RowsL.snoc h hp⟩
end L2
namespace L2
open PySem PySem.Spec PyProof.Rows
theorem Fresh.append {H : Hp} {as bs : List Addr} (ha : Fresh H as) (hb : Fresh H bs) (hd : ∀ c ∈ as, c ∉ bs) : Fresh H (as ++ bs) :=
  ⟨List.nodup_append.mpr ⟨ha.nd, hb.nd, fun a h1 b h2 z => hd a h1 (z ▸ h2)⟩, fun b hb' => (List.mem_append.mp hb').elim (ha.no b) (hb.no b)⟩
theorem RowsAt.out {H : Hp} {a c : Addr} {as : List Addr} {xss : List (List Int)} {o : HO} (h : RowsAt H a as xss) (hc : c ∉ a :: as) : RowsAt (upd H c o) a as xss :=
  ⟨by
    have ne : a ≠ c := fun z => hc (by rw [z]; exact List.mem_cons_self)
    rw [upd_ne ne]; exact h.top, RowsL.mono h.row fun b hb o' e => by
    have ne : b ≠ c := fun z => hc (List.mem_cons_of_mem _ (z ▸ hb))
    rw [upd_ne ne]; exact e⟩
theorem RowsAt.live {H : Hp} {a : Addr} {as : List Addr} {xss : List (List Int)} (h : RowsAt H a as xss) {c : Addr} (hc : c ∈ a :: as) : H c ≠ none := fun z => by
  rcases List.mem_cons.mp hc with rfl | hc
  · rw [h.top] at z; cases z
  · exact RowsL.notin h.row z hc
theorem RowsAt.notin {H : Hp} {a : Addr} {as : List Addr} {xss : List (List Int)} (h : RowsAt H a as xss) {c : Addr} (hc : H c = none) : c ∉ a :: as := fun z => h.live z hc
end L2
namespace L2
open PySem PySem.Spec PyProof.Rows
section
variable {prog : Program} {w : World} {A : Around} {E : Value → Shared → Prop} {s : Shared}
end
noncomputable def Ite (K : PySem.W.Frag) (a : Addr) (c : Int) : It :=
  ⟨fun i H => ∃ xs x, SqL K H a xs ∧ xs[i]? = some x, fun i H v H' => ∃ p x, v = .ref p ∧ H p = none ∧ H' = upd H p (.tup [.int (c + i), x]) ∧ ∀ xs, SqL K H a xs → xs[i]? = some x, fun i H => ∃ xs, SqL K H a xs ∧ xs.length ≤ i⟩
section
variable {X : Cx} {elts : List Expr} {x1 : _} {tpos : Pos}
noncomputable def iEnum (K : PySem.W.Frag) (c : Int) (ta : TA) : TI := fun σ H R => ta σ H fun vs H1 => on1 vs fun x => onL H1 x fun a _ => R (Ite K a c) H1
end
end L2
namespace L2
open PySem PySem.Spec PyProof.Rows
noncomputable abbrev kwS (v : Value) : List (Str × Value) := [(Str.ofString "start", v)]
open AutoSeq1 (wpAny_loadPart') in
section
variable {prog : Program} {w : World} {A : Around} {E : Value → Shared → Prop} {s : Shared}
end
section
variable {X : Cx} {elts : List Expr} {x1 : _} {tpos : Pos}
end
@[simp] theorem rd_enum {K : PySem.W.Frag} {c : Int} {l : TA} {σ : St} {H : Hp} {N : It → Hp → Prop} : iEnum K c l σ H N = l σ H fun vs H1 => on1 vs fun x => onL H1 x fun a _ => N (Ite K a c) H1 := rfl
theorem cut_to {xs : List V} {p : Nat} (h : p ≤ xs.length) : cutV xs none (some (p : Int)) = xs.take p := by
  unfold cutV
  have e1 : HT.sIx xs.length 0 none = 0 := rfl
  have e2 : HT.sIx xs.length xs.length (some (p : Int)) = p := by rw [HT.sIx_nat]; trivial
  rw [e1, e2]; simp
end L2
namespace L2
open PySem PySem.Spec PyProof.Rows
noncomputable def sortZ (ns : List Int) : List Int := ns.mergeSort fun a b => decide (a ≤ b)
theorem sortZ_perm (ns : List Int) : (sortZ ns).Perm ns := List.mergeSort_perm _ _
theorem sortZ_le (ns : List Int) : (sortZ ns).Pairwise (· ≤ ·) := by
  have := List.pairwise_mergeSort (le := fun (a b : Int) => decide (a ≤ b)) (fun a b c h1 h2 => by simp at *; trivial) (fun a b => by simp; trivial) ns
  exact this.imp fun h => by simpa using h
theorem sortZ_uniq {ns ms : List Int} (h : ms.Perm ns) (hp : ms.Pairwise (· ≤ ·)) : ms = sortZ ns :=
  List.Perm.eq_of_pairwise (le := (· ≤ ·)) (fun a b _ _ h1 h2 => Int.le_antisymm h1 h2) hp (sortZ_le ns) (h.trans (sortZ_perm ns).symm)
theorem sortZ_len (ns : List Int) : (sortZ ns).length = ns.length := (sortZ_perm ns).length_eq
theorem ints_of_vals : ∀ {ns : List Int} {us : List Value}, Vals (ns.map V.int) us → IntsAre us ns
  | [], _, .nil => .nil
  | n :: ns, _, .cons r t => by
    obtain ⟨k, rfl⟩ := r
    exact .cons n k (ints_of_vals t)
section
variable {X : Cx}
noncomputable def rSorted : List V → Hp → VK → Prop := fun vs H Q => on1 vs fun x => onL H x fun _ xs => ∃ ns : List Int, xs = ns.map V.int ∧ ns.length < 64 ∧ new H (.lst ((sortZ ns).map V.int)) Q
theorem f_sorted : CallR X (.builtin "sorted") rSorted := by
  intro pins s σ H xs us Q I r h
  obtain ⟨x, rfl, h1⟩ := on1.out h
  obtain ⟨p, ys, rfl, hp, ns, rfl, hz, q⟩ := onL.out h1
  obtain ⟨u, rfl, rx⟩ := vals1 r
  cases rx
  obtain ⟨its, r', pl, hz'⟩ := I.list (SqL.of hp)
  have hI := ints_of_vals r'
  have hlen := r'.length
  rw [List.length_map] at hlen
  refine sorted_ints pl.isList hI (by trivial) fun out ns' a1 a2 a3 => ?_
  have e := sortZ_uniq a2 a3
  subst e
  obtain ⟨e, he⟩ := sortedAll_at s.heap its out
  have := sortZ_len ns
  have hs : sizeLine = 16777216 := sizeLine_eq
  exact ⟨.ref (s.heap.objs.size + 1), _, I.laid (t' := s.toks) (fun b o => sortedAll_old) (by trivial) (show ObjOk X.prog X.w _ _ _ (.lst ((sortZ ns).map V.int)) from ⟨by rw [List.length_map]; trivial, out.toList, e, vals_ints a1, he⟩), rfl, q _ (I.hok.fresh (by trivial))⟩
noncomputable def rIndex : V → List V → Hp → VK → Prop := fun x vs H Q => on1 vs fun y => onI y fun k => onL H x fun _ xs => ∃ ns : List Int, xs = ns.map V.int ∧ k ∈ ns ∧ Q (.int (ns.idxOf k : Nat)) H
noncomputable def rMax1 : List V → Hp → VK → Prop := fun vs H Q => on1 vs fun x => onL H x fun _ xs => ∃ ns : List Int, xs = ns.map V.int ∧ ns ≠ [] ∧ ∀ M, M ∈ ns → (∀ a ∈ ns, a ≤ M) → Q (.int M) H
noncomputable def rMin1 : List V → Hp → VK → Prop := fun vs H Q => on1 vs fun x => onL H x fun _ xs => ∃ ns : List Int, xs = ns.map V.int ∧ ns ≠ [] ∧ ∀ M, M ∈ ns → (∀ a ∈ ns, M ≤ a) → Q (.int M) H
noncomputable def rSum : List V → Hp → VK → Prop := fun vs H Q => on1 vs fun x => onL H x fun _ xs => ∃ ns : List Int, xs = ns.map V.int ∧ (∀ j, j < ns.length → InLong (ns.getD j 0) ∧ InLong (ns.take (j + 1)).sum) ∧ Q (.int ns.sum) H
theorem list_iter {l : Addr} {items : Array Value} {s : Shared} {prog : Program} {w : World} {A : Around} {E : Value → Shared → Prop} {Q : Value → Shared → Prop} (hl : s.heap.IsList l items)
    (h : ∀ s₂ : Shared, s₂ = { s with heap := s.heap.push { cls := .type "list_iterator", data := .fields #[.ref l, .int 0 0] } } →
      (s₂.heap.IsListIter s.heap.objs.size l 0 ∧ s₂.heap.IsList l items) → l ≠ s.heap.objs.size → Q (.ref s.heap.objs.size) s₂) :
    wpAny (model prog w) A (pyIter (.ref l)) Q E s := by
  have hlt : l < s.heap.objs.size := by obtain ⟨_, e, _⟩ := hl; exact Heap.lt_size e
  exact wpAny_pyIter_list hl (h _ rfl ⟨⟨_, Heap.get?_push_size _ rfl, rfl, rfl⟩, hl.push _⟩ (Nat.ne_of_lt hlt))
theorem vals_bool {bs : List Bool} {us : List Value} (r : Vals (bs.map V.bl) us) (i : Nat) (v : Value) (h : us.toArray[i]? = some v) : v = .bool (bs.getD i false) := by
  rw [List.getElem?_toArray] at h
  have hl := r.length
  rw [List.length_map] at hl
  have hi : i < us.length := (List.getElem?_eq_some_iff.mp h).1
  have e : (bs.map V.bl)[i]? = some (V.bl bs[i]) := by rw [List.getElem?_map, List.getElem?_eq_getElem (by trivial)]; rfl
  obtain ⟨w, hw, rw'⟩ := r.get e
  rw [h] at hw
  cases hw
  cases rw'
  rw [List.getD_eq_getElem?_getD, List.getElem?_eq_getElem (by trivial)]; rfl
theorem truth_bools {prog : Program} {w : World} {A : Around} {P : Nat → Value → Prop} (val : Nat → Bool) (hval : ∀ i v, P i v → v = .bool (val i)) : TruthOf prog w A P val := fun i v s Q E hP hQ => by
  rw [hval i v hP]
  exact wpAny_pure hQ
noncomputable def rAll : List V → Hp → VK → Prop := fun vs H Q => on1 vs fun x => onL H x fun _ xs => ∃ bs : List Bool, xs = bs.map V.bl ∧ Q (.bl (bs.all id)) H
noncomputable def rAny : List V → Hp → VK → Prop := fun vs H Q => on1 vs fun x => onL H x fun _ xs => ∃ bs : List Bool, xs = bs.map V.bl ∧ Q (.bl (bs.any id)) H
theorem range_all (bs : List Bool) : (List.range bs.length).all (fun i => bs.getD i false) = bs.all id := by
  rw [Bool.eq_iff_iff, List.all_eq_true, List.all_eq_true]
  constructor
  · intro h b hb
    obtain ⟨i, hi, rfl⟩ := List.getElem_of_mem hb
    have := h i (List.mem_range.mpr hi)
    simpa [List.getD_eq_getElem?_getD, List.getElem?_eq_getElem hi] using this
  · intro h i hi
    have hi := List.mem_range.mp hi
    have := h _ (List.getElem_mem hi)
    simpa [List.getD_eq_getElem?_getD, List.getElem?_eq_getElem hi] using this
theorem f_all (hc : X.calm = true) : CallR X (.builtin "all") rAll := by
  intro pins s σ H xs us Q I r h
  obtain ⟨x, rfl, h1⟩ := on1.out h
  obtain ⟨p, ys, rfl, hp, bs, rfl, q⟩ := onL.out h1
  obtain ⟨u, rfl, rx⟩ := vals1 r
  cases rx
  obtain ⟨its, r', pl, hz'⟩ := I.list (SqL.of hp)
  have hlen := r'.length
  rw [List.length_map] at hlen
  refine call_all_walk (list_iter pl.isList fun s₂ e st hne => ?_)
  subst e
  refine ⟨_, _, _, _, _, _, fun i => bs.getD i false, rfl, Walks.list (A := X.A.in1) (I.ok.hd hc) _ p hne its.toArray, st, truth_bools _ (fun i v hP => vals_bool r' i v hP), fun h' tk hk => ?_⟩
  refine ⟨.bl _, H, I.kept (old_kept hk), rfl, ?_⟩
  rw [List.size_toArray, ← hlen, range_all]
  exact q
end
section
variable {H : Hp} {Q : VK}
@[simp] theorem rd_sorted {vs : List V} : rSorted vs H Q = on1 vs fun x => onL H x fun _ xs => ∃ ns : List Int, xs = ns.map V.int ∧ ns.length < 64 ∧ new H (.lst ((sortZ ns).map V.int)) Q := rfl
@[simp] theorem rd_index {x : V} {vs : List V} : rIndex x vs H Q = on1 vs fun y => onI y fun k => onL H x fun _ xs => ∃ ns : List Int, xs = ns.map V.int ∧ k ∈ ns ∧ Q (.int (ns.idxOf k : Nat)) H := rfl
@[simp] theorem rd_max1 {vs : List V} : rMax1 vs H Q = on1 vs fun x => onL H x fun _ xs => ∃ ns : List Int, xs = ns.map V.int ∧ ns ≠ [] ∧ ∀ M, M ∈ ns → (∀ a ∈ ns, a ≤ M) → Q (.int M) H := rfl
@[simp] theorem rd_min1 {vs : List V} : rMin1 vs H Q = on1 vs fun x => onL H x fun _ xs => ∃ ns : List Int, xs = ns.map V.int ∧ ns ≠ [] ∧ ∀ M, M ∈ ns → (∀ a ∈ ns, M ≤ a) → Q (.int M) H := rfl
@[simp] theorem rd_sum {vs : List V} : rSum vs H Q = on1 vs fun x => onL H x fun _ xs => ∃ ns : List Int, xs = ns.map V.int ∧ (∀ j, j < ns.length → InLong (ns.getD j 0) ∧ InLong (ns.take (j + 1)).sum) ∧ Q (.int ns.sum) H := rfl
@[simp] theorem rd_all {vs : List V} : rAll vs H Q = on1 vs fun x => onL H x fun _ xs => ∃ bs : List Bool, xs = bs.map V.bl ∧ Q (.bl (bs.all id)) H := rfl
@[simp] theorem rd_any {vs : List V} : rAny vs H Q = on1 vs fun x => onL H x fun _ xs => ∃ bs : List Bool, xs = bs.map V.bl ∧ Q (.bl (bs.any id)) H := rfl
@[simp] theorem rd_popAt {x : V} {vs : List V} : rPopAtF x vs H Q = on1 vs fun y => onI y fun i => onL H x fun l xs => (0 ≤ i ∧ i < xs.length) ∧ onO xs[i.toNat]? fun y => Q y (upd H l (.lst (xs.eraseIdx i.toNat))) := rfl
end
end L2
namespace L2
open PySem PySem.Spec PyProof.Rows
theorem RowsAt.any {H : Hp} {a : Addr} {as : List Addr} {xss : List (List Int)} (h : RowsAt H a as xss) {B : Nat} (hz : ∀ r ∈ xss, r.length ≤ B) : ∀ p ∈ as, ∃ ys, H p = some (.lst ys) ∧ ys.length ≤ B := fun p hp => by
  obtain ⟨i, hi⟩ := List.getElem?_of_mem hp
  obtain ⟨xs, e, hx⟩ := RowsL.get' h.row hi
  exact ⟨_, hx, by rw [List.length_map]; exact hz xs (List.mem_of_getElem? e)⟩
theorem RowsAt.old {H0 H H' : Hp} {a : Addr} {as : List Addr} {xss : List (List Int)} (h : RowsAt H0 a as xss) (s : Same H0 H') : RowsAt H' a as xss := h.same s
end L2
namespace L2
open PySem PySem.Spec PyProof.Rows
section
variable {X : Cx} {a b c : Expr} {ta tb tc : TE} {pos : Pos}
noncomputable def rMax : List V → Hp → VK → Prop := fun vs H Q => on2 vs fun x y => onI x fun i => onI y fun j => Q (.int (if i < j then j else i)) H
@[simp] theorem rd_max {vs : List V} {H : Hp} {Q : VK} : rMax vs H Q = on2 vs fun x y => onI x fun i => onI y fun j => Q (.int (if i < j then j else i)) H := rfl
end
theorem comp_new {K : PySem.W.Frag} {tl : TE} {cp : List Nat} {tt : TT} {te : TE} {σ : L2.St} {H : Hp} {Q : VK} {o : HO} (hl : ∀ R : VK, (∀ S, H S = none → R (.ref S) (upd H S o)) → tl σ H R) (h : ∀ S, H S = none → tComp (iL K (tC (.ref S))) cp tt te σ (upd H S o) Q) : tComp (iL K tl) cp tt te σ H Q := hl _ h
theorem ifS {tA : TT} {t u : TS} {D : Ends} {σ : St} {H : Hp} (b : Bool) (H1 : Hp) (h : ∀ R : Bool → Hp → Prop, R b H1 → tA σ H R) (k : if b = true then t D σ H1 else u D σ H1) : tIfS tA t u D σ H := h _ k
end L2
namespace L2
open PySem PySem.Spec PyProof.Rows
mutual
inductive Dp (H : Hp) : V → PyData → Prop
  | non : Dp H .non .none
  | bl (b : Bool) : Dp H (.bl b) (.bool b)
  | int (i : Int) : Dp H (.int i) (.int i)
  | lst {a : Addr} {xs : List V} {ds : List PyData} : H a = some (.lst xs) → DpAll H xs ds → Dp H (.ref a) (.list ds)
  | tup {a : Addr} {xs : List V} {ds : List PyData} : H a = some (.tup xs) → DpAll H xs ds → Dp H (.ref a) (.tuple ds)
inductive DpAll (H : Hp) : List V → List PyData → Prop
  | nil : DpAll H [] []
  | cons {x : V} {d : PyData} {xs : List V} {ds : List PyData} : Dp H x d → DpAll H xs ds → DpAll H (x :: xs) (d :: ds)
end
section
variable {X : Cx} {pins : List (Addr × Obj)} {σ : St} {H : Hp} {s : Shared}
mutual
theorem dp_reads (I : Inv X pins σ H s) : ∀ {v : V} {d : PyData} {u : Value}, Dp H v d → RelV v u → ∃ as, Reads s.heap u d as
  | _, _, _, .non, r => by cases r; exact ⟨_, Reads.none⟩
  | _, _, _, .bl b, r => by cases r; exact ⟨_, Reads.bool b⟩
  | _, _, _, .int i, r => by obtain ⟨t, rfl⟩ := r; exact ⟨_, Reads.int i t⟩
  | _, _, _, .lst ha h, r => by
    cases r
    obtain ⟨its, r', pl, hz⟩ := I.list (SqL.of ha)
    obtain ⟨as, q⟩ := dp_readsAll I h r'
    obtain ⟨o, ho, hc, n, hd⟩ := pl.isList
    exact ⟨_, reads_list_at ho hc hd (by simpa using q)⟩
  | _, _, _, .tup ha h, r => by
    cases r
    obtain ⟨its, r', pl, hz⟩ := I.tuple (SqT.of ha)
    obtain ⟨as, q⟩ := dp_readsAll I h r'
    obtain ⟨o, ho, hc, n, hd⟩ := pl
    exact ⟨_, reads_tuple_at ho hc hd (by simpa using q)⟩
theorem dp_readsAll (I : Inv X pins σ H s) : ∀ {xs : List V} {ds : List PyData} {us : List Value}, DpAll H xs ds → Vals xs us → ∃ as, ReadsAll s.heap us ds as
  | _, _, _, .nil, .nil => ⟨_, ReadsAll.nil⟩
  | _, _, _, .cons h t, .cons r rt => by
    obtain ⟨as, q⟩ := dp_reads I h r
    obtain ⟨bs, p⟩ := dp_readsAll I t rt
    exact ⟨_, ReadsAll.cons q p⟩
end
end
section
variable {X : Cx}
noncomputable def rEqF : R2 := fun x y H Q => match x with
  | .ref a => ∃ d e, Dp H (.ref a) d ∧ Dp H y e ∧ SeqAt.shaped d = true ∧ SeqAt.shaped e = true ∧ Q (.bl (PyData.eqv d e)) H
  | x => rEq x y H Q
noncomputable def rNeF : R2 := fun x y H Q => match x with
  | .ref a => ∃ d e, Dp H (.ref a) d ∧ Dp H y e ∧ SeqAt.shaped d = true ∧ SeqAt.shaped e = true ∧ Q (.bl (!PyData.eqv d e)) H
  | x => rNe x y H Q
theorem f_eqF (hu : X.A.units + 64 < cLine) : OpR X (compareOp .Eq) rEqF := by
  intro pins s σ H x y v u Q I rx ry h
  cases x with
  | ref a =>
    obtain ⟨d, e, hd, he, sd, se, q⟩ := h
    obtain ⟨as, ra⟩ := dp_reads I hd rx
    obtain ⟨bs, rb⟩ := dp_reads I he ry
    exact eq_dataH ra rb sd se hu ⟨.bl _, H, I, rfl, q⟩
  | _ => exact op_eq pins s σ H _ y v u Q I rx ry h
theorem f_neF (hu : X.A.units + 64 < cLine) : OpR X (compareOp .NotEq) rNeF := by
  intro pins s σ H x y v u Q I rx ry h
  cases x with
  | ref a =>
    obtain ⟨d, e, hd, he, sd, se, q⟩ := h
    obtain ⟨as, ra⟩ := dp_reads I hd rx
    obtain ⟨bs, rb⟩ := dp_reads I he ry
    exact ne_dataH ra rb sd se hu ⟨.bl _, H, I, rfl, q⟩
  | _ => exact op_ne pins s σ H _ y v u Q I rx ry h
end
theorem hu64 {A : Around} {k : Nat} (hr : Room k A) : A.units + 64 < cLine := by have := hr.un; trivial
section
variable {H : Hp} {Q : VK}
@[simp] theorem rd_eqFI {i : Int} {y : V} : rEqF (.int i) y H Q = rEq (.int i) y H Q := rfl
@[simp] theorem rd_eqFB {i : Bool} {y : V} : rEqF (.bl i) y H Q = rEq (.bl i) y H Q := rfl
@[simp] theorem rd_eqFN {y : V} : rEqF .non y H Q = rEq .non y H Q := rfl
@[simp] theorem rd_eqFS {i : Str} {y : V} : rEqF (.str i) y H Q = rEq (.str i) y H Q := rfl
@[simp] theorem rd_neFI {i : Int} {y : V} : rNeF (.int i) y H Q = rNe (.int i) y H Q := rfl
@[simp] theorem rd_neFB {i : Bool} {y : V} : rNeF (.bl i) y H Q = rNe (.bl i) y H Q := rfl
@[simp] theorem rd_neFN {y : V} : rNeF .non y H Q = rNe .non y H Q := rfl
@[simp] theorem rd_neFS {i : Str} {y : V} : rNeF (.str i) y H Q = rNe (.str i) y H Q := rfl
@[simp] theorem rd_eqB {i j : Bool} : rEq (.bl i) (.bl j) H Q = Q (.bl (decide (i = j))) H := by
  show (true = true ∧ Q (.bl (decide (V.bl i = V.bl j))) H) = _
  simp
@[simp] theorem rd_neB {i j : Bool} : rNe (.bl i) (.bl j) H Q = Q (.bl (!decide (i = j))) H := by
  show (true = true ∧ Q (.bl (!decide (V.bl i = V.bl j))) H) = _
  simp
end
noncomputable def leafP : V → PyData | .int i => .int i | _ => .none
noncomputable def isLeaf : V → Bool | .int _ => true | .non => true | _ => false
theorem dp_leaf {H : Hp} {v : V} (h : isLeaf v = true) : Dp H v (leafP v) := by
  cases v with
  | int i => exact .int i
  | non => exact .non
  | _ => simp [isLeaf] at h
theorem dpAll_leaf {H : Hp} : ∀ {xs : List V}, xs.all isLeaf = true → DpAll H xs (xs.map leafP)
  | [], _ => .nil
  | x :: xs, h => by
    rw [List.all_cons, Bool.and_eq_true] at h
    exact .cons (dp_leaf h.1) (dpAll_leaf h.2)
theorem leaf_ints (xs : List Int) : (xs.map V.int).all isLeaf = true := by
  rw [List.all_eq_true]; intro v hv; obtain ⟨i, _, rfl⟩ := List.mem_map.mp hv; rfl
theorem leaf_lay : ∀ xs : List V, PyData.canLayAll0 (xs.map leafP) = true ∧ PyData.depthAll (xs.map leafP) = 0
  | [] => by simp [PyData.canLayAll0, PyData.depthAll]
  | x :: xs => by
    obtain ⟨h1, h2⟩ := leaf_lay xs
    cases x <;> simp [leafP, PyData.canLayAll0, PyData.depthAll, PyData.canLay0, PyData.depth, h1, h2]
theorem leaf_shaped (xs : List V) : SeqAt.shaped (.list (xs.map leafP)) = true := by
  obtain ⟨h1, h2⟩ := leaf_lay xs
  simp [SeqAt.shaped, PyData.canLay0, PyData.depth, h1, h2]
theorem leaf_eqv1 {x y : V} (hx : isLeaf x = true) (hy : isLeaf y = true) : PyData.eqv (leafP x) (leafP y) = decide (x = y) := by
  cases x <;> cases y <;> simp_all [isLeaf, leafP, PyData.eqv] <;> rfl
theorem leaf_eqv : ∀ {xs ys : List V}, xs.all isLeaf = true → ys.all isLeaf = true → PyData.eqvAll (xs.map leafP) (ys.map leafP) = decide (xs = ys)
  | [], [], _, _ => by simp [PyData.eqvAll]
  | [], _ :: _, _, _ => by simp [PyData.eqvAll]
  | _ :: _, [], _, _ => by simp [PyData.eqvAll]
  | x :: xs, y :: ys, h1, h2 => by
    rw [List.all_cons, Bool.and_eq_true] at h1 h2
    simp only [List.map_cons, PyData.eqvAll, leaf_eqv1 h1.1 h2.1, leaf_eqv h1.2 h2.2]
    by_cases h : x = y <;> simp [h]
theorem eqF_leaf {H : Hp} {Q : VK} {a b : Addr} {xs ys : List V} (ha : H a = some (.lst xs)) (hb : H b = some (.lst ys)) (fx : xs.all isLeaf = true) (fy : ys.all isLeaf = true) (q : Q (.bl (decide (xs = ys))) H) : rEqF (.ref a) (.ref b) H Q :=
  ⟨_, _, .lst ha (dpAll_leaf fx), .lst hb (dpAll_leaf fy), leaf_shaped _, leaf_shaped _, by simp only [PyData.eqv]; rw [leaf_eqv fx fy]; exact q⟩
theorem int_inj {xs ys : List Int} : (xs.map V.int = ys.map V.int) ↔ xs = ys := List.map_inj_right (fun _ _ h => by injection h)
theorem eqF_ints {H : Hp} {Q : VK} {a b : Addr} {xs ys : List Int} (ha : H a = some (.lst (xs.map V.int))) (hb : H b = some (.lst (ys.map V.int))) (q : Q (.bl (decide (xs = ys))) H) : rEqF (.ref a) (.ref b) H Q :=
  eqF_leaf ha hb (leaf_ints _) (leaf_ints _) (by simp only [int_inj]; exact q)
noncomputable def rowP (xs : List Int) : PyData := .list (xs.map PyData.int)
end L2
namespace L2
open PySem PySem.Spec PyProof.Rows
section
variable {X : Cx} {e c : Expr} {te tc : TE} {pos p2 : Pos}
noncomputable def tRevF (te : TE) : TE := fun σ H Q => te σ H fun x H1 => onL H1 x fun _ xs => new H1 (.lst xs.reverse) Q
@[simp] theorem rd_revF {σ : St} {H : Hp} {Q : VK} : tRevF te σ H Q = te σ H fun x H1 => onL H1 x fun _ xs => new H1 (.lst xs.reverse) Q := rfl
end
end L2
namespace L2
open PySem PySem.Spec PyProof.Rows
section
variable {X : Cx}
noncomputable def rInF : R2 := fun x y H Q => onS H y fun xs => flatV x = true ∧ xs.all flatV = true ∧ Q (.bl (inV x xs)) H
noncomputable def rNotInF : R2 := fun x y H Q => onS H y fun xs => flatV x = true ∧ xs.all flatV = true ∧ Q (.bl (!inV x xs)) H
theorem f_in : OpR X (compareOp .In) rInF := op_in_seq.imp fun x y H Q h => by
  obtain ⟨p, xs, rfl, hp, f1, f2, q⟩ := onS.out h
  exact ⟨p, xs, rfl, sq_of hp, f1, f2, q⟩
@[simp] theorem rd_in {x y : V} {H : Hp} {Q : VK} : rInF x y H Q = onS H y fun xs => flatV x = true ∧ xs.all flatV = true ∧ Q (.bl (inV x xs)) H := rfl
@[simp] theorem rd_notin {x y : V} {H : Hp} {Q : VK} : rNotInF x y H Q = onS H y fun xs => flatV x = true ∧ xs.all flatV = true ∧ Q (.bl (!inV x xs)) H := rfl
end
theorem flat_ints (xs : List Int) : (xs.map V.int).all flatV = true := by
  rw [List.all_eq_true]; intro v hv; obtain ⟨i, _, rfl⟩ := List.mem_map.mp hv; rfl
theorem in_int (n : Int) (xs : List Int) : inV (.int n) (xs.map V.int) = decide (n ∈ xs) := by
  unfold inV
  rw [Bool.eq_iff_iff, List.any_eq_true, decide_eq_true_eq]
  constructor
  · rintro ⟨v, hv, e⟩
    obtain ⟨i, hi, rfl⟩ := List.mem_map.mp hv
    have : i = n := by simpa [eqV] using e
    exact this ▸ hi
  · intro h
    exact ⟨.int n, List.mem_map.mpr ⟨n, h, rfl⟩, by simp [eqV]⟩
end L2
namespace L2
open PySem PySem.Spec PyProof.Rows
end L2
namespace L2
open PySem PySem.Spec PyProof.Rows
end L2
namespace PySem
section
variable {prog : Program} {w : World} {A : Around} {E : Value → Shared → Prop} {s : Shared}
end
end PySem
namespace L2
open PySem PySem.Spec PyProof.Rows
section
variable {X : Cx}
noncomputable def tLR (ta : TA) : TE := fun σ H Q => ta σ H fun vs H1 => on1 vs fun x => onL H1 x fun _ xs => new H1 (.lst xs.reverse) Q
@[simp] theorem rd_LR {ta : TA} {σ : St} {H : Hp} {Q : VK} : tLR ta σ H Q = ta σ H fun vs H1 => on1 vs fun x => onL H1 x fun _ xs => new H1 (.lst xs.reverse) Q := rfl
end
end L2
namespace L2
open PySem PySem.Spec PyProof.Rows
end L2
namespace L2
open PySem PySem.Spec PyProof.Rows
end L2
namespace L2
open PySem PySem.Spec PyProof.Rows
theorem ifS' {tA : TT} {t u : TS} {D : Ends} {σ : St} {H : Hp} (Ps : Hp → Prop) (b : Bool) (h : ∀ R : Bool → Hp → Prop, (∀ H1, Ps H1 → R b H1) → tA σ H R) (k : ∀ H1, Ps H1 → if b = true then t D σ H1 else u D σ H1) : tIfS tA t u D σ H := h _ k
end L2
namespace L2
open PySem PySem.Spec PyProof.Rows
noncomputable def sortR (ns : List Int) : List Int := ns.mergeSort fun a b => decide (b ≤ a)
theorem sortR_perm (ns : List Int) : (sortR ns).Perm ns := List.mergeSort_perm _ _
theorem sortR_ge (ns : List Int) : (sortR ns).Pairwise (· ≥ ·) := by
  have := List.pairwise_mergeSort (le := fun (a b : Int) => decide (b ≤ a)) (fun a b c h1 h2 => by simp at *; trivial) (fun a b => by simp; trivial) ns
  exact this.imp fun h => by simpa using h
theorem sortR_uniq {ns ms : List Int} (h : ms.Perm ns) (hp : ms.Pairwise (· ≥ ·)) : ms = sortR ns :=
  List.Perm.eq_of_pairwise (le := (· ≥ ·)) (fun a b _ _ h1 h2 => by have : a ≥ b := h1; have : b ≥ a := h2; trivial) hp (sortR_ge ns) (h.trans (sortR_perm ns).symm)
theorem sortR_len (ns : List Int) : (sortR ns).length = ns.length := (sortR_perm ns).length_eq
section
variable {X : Cx}
noncomputable def tSortR (ta : TA) : TE := fun σ H Q => ta σ H fun vs H1 => on1 vs fun x => onL H1 x fun _ xs => ∃ ns : List Int, xs = ns.map V.int ∧ ns.length < 64 ∧ new H1 (.lst ((sortR ns).map V.int)) Q
theorem pe_sortedR {a : Expr} {ta : TA} {j : _} {p pos cp kp : Pos} (hg : Gl X "sorted") (hm : X.mg "sorted" = none) (ha : PA X [a] ta) (hs : starEach [a] X.env = [(false, eval a X.env)] := by rfl) :
    PE X (.Call (.Name "sorted" p) [a] [⟨some "reverse", .Constant (.bool true) j cp, kp⟩] pos) (tSortR ta) := by
  intro pins s σ H Q I h
  refine wpAny_Call_Name_kw (ld_blt I hg hm BI.sorted ?_)
  refine callWith_builtin_kwB (first := []) (by rw [hs]; rfl) rfl ?_
  have hA := ha pos pins s σ H _ I h
  rw [hs] at hA ⊢
  refine evalArgs_kwB rfl (thn hA fun us s1 ⟨vs, H1, I1, r1, q1⟩ => ?_)
  refine kws_cons (Constant_bool (kws_nil ?_))
  obtain ⟨x, rfl, q2⟩ := on1.out q1
  obtain ⟨l, xs, rfl, hl, ns, rfl, hz, q⟩ := onL.out q2
  obtain ⟨u, rfl, ru⟩ := r1.one
  cases ru
  obtain ⟨its, r', pl, hz'⟩ := I1.list (SqL.of (K := X.K) hl)
  have hI := ints_of_vals r'
  have hlen := r'.length
  rw [List.length_map] at hlen
  refine sorted_ints_rev (b := true) pl.isList hI (by trivial) fun out ns' a1 a2 a3 => ?_
  have e := sortR_uniq a2 a3
  subst e
  obtain ⟨e, he⟩ := sortedAll_at s1.heap its out
  have := sortR_len ns
  have hs : sizeLine = 16777216 := sizeLine_eq
  exact ⟨.ref (s1.heap.objs.size + 1), _, I1.laid (t' := s1.toks) (fun b o => sortedAll_old) (by trivial) (show ObjOk X.prog X.w _ _ _ (.lst ((sortR ns).map V.int)) from ⟨by rw [List.length_map]; trivial, out.toList, e, vals_ints a1, he⟩), rfl, q _ (I1.hok.fresh (by trivial))⟩
@[simp] theorem rd_sortR {ta : TA} {σ : St} {H : Hp} {Q : VK} : tSortR ta σ H Q = ta σ H fun vs H1 => on1 vs fun x => onL H1 x fun _ xs => ∃ ns : List Int, xs = ns.map V.int ∧ ns.length < 64 ∧ new H1 (.lst ((sortR ns).map V.int)) Q := rfl
theorem dedup_step (acc : List Int) (k : Int) : step_dedup acc k = if acc.any (· == k) then acc else acc ++ [k] := rfl
theorem dedup_len : ∀ (ns acc : List Int), acc.Nodup → ((ns.foldl step_dedup acc).length ≤ acc.length + ns.length) ∧ ((ns.foldl step_dedup acc).length = acc.length + ns.length ↔ (acc ++ ns).Nodup)
  | [], acc, nd => by simp [nd]
  | n :: ns, acc, nd => by
    rw [List.foldl_cons, dedup_step]
    by_cases h : acc.any (· == n) = true
    · rw [if_pos h]
      have ih := dedup_len ns acc nd
      have hm : n ∈ acc := by obtain ⟨a, ha, e⟩ := List.any_eq_true.mp h; have : a = n := by simpa using e
                              exact this ▸ ha
      refine ⟨by have := ih.1; simp; trivial, ⟨fun e => ?_, fun e => ?_⟩⟩
      · have := ih.1; simp at e; trivial
      · exact absurd rfl ((List.nodup_append.mp e).2.2 n hm n (by simp))
    · rw [if_neg h]
      have hm : n ∉ acc := fun z => h (List.any_eq_true.mpr ⟨n, z, by simp⟩)
      have nd' : (acc ++ [n]).Nodup := by
        rw [List.nodup_append]
        exact ⟨nd, by simp, fun a ha b hb => by rw [List.mem_singleton.mp hb]; exact fun z => hm (z ▸ ha)⟩
      have ih := dedup_len ns (acc ++ [n]) nd'
      rw [List.length_append, List.length_singleton, List.append_assoc, List.singleton_append] at ih
      refine ⟨by have := ih.1; simp; trivial, ?_⟩
      rw [← ih.2]
      simp; trivial
noncomputable def tLenSet (ta : TA) : TE := fun σ H Q => ta σ H fun vs H1 => on1 vs fun x => onL H1 x fun _ xs => ∃ ns : List Int, xs = ns.map V.int ∧ ns.length ≤ 4000 ∧ ∀ c : Nat, c ≤ ns.length → (c = ns.length ↔ ns.Nodup) → Q (.int (c : Int)) H1
theorem pe_lenSet {a : Expr} {ta : TA} {p p' pos pos' : Pos} (hgl : Gl X "len") (hml : X.mg "len" = none) (hgr : Gl X "set") (hmr : X.mg "set" = none) (ha : PA X [a] ta) (hc : X.calm = true)
    (hs : starEach [a] X.env = [(false, eval a X.env)] := by rfl)
    (hs2 : starEach [.Call (.Name "set" p') [a] [] pos'] X.env = [(false, eval (.Call (.Name "set" p') [a] [] pos') X.env)] := by rfl) :
    PE X (.Call (.Name "len" p) [.Call (.Name "set" p') [a] [] pos'] [] pos) (tLenSet ta) := by
  intro pins s σ H Q I h
  refine wpAny_Call_Name_kw (ld_blt I hgl hml BI.len ?_ (by decide) (by decide))
  refine PyProof.Rows.callWith_builtin1 ?_ hs2 rfl
  rw [hs2]
  show wpAny _ _ (spliced ((false, eval (.Call (.Name "set" p') [a] [] pos') X.env) :: [])) _ _ s
  refine Calls.spliced_cons ?_
  refine Call_ (ld_blt I hgr hmr BI.set (PyProof.Rows.callWith_type1 (thn (ha pos' pins s σ H _ I h) fun us s1 ⟨vs, H1, I1, r1, q1⟩ => ?_) hs rfl))
  obtain ⟨x, rfl, q1⟩ := on1.out q1
  obtain ⟨l, xs, rfl, hl, ns, rfl, hz, q⟩ := onL.out q1
  obtain ⟨u, rfl, ru⟩ := r1.one
  cases ru
  obtain ⟨its, rv, pl, hz'⟩ := I1.list (SqL.of (K := X.K) hl)
  have hI := ints_of_vals rv
  have hlen := rv.length
  rw [List.length_map] at hlen
  refine call_set_list (ns := ns) (I1.ok.hd hc) pl.isList (by simpa using hI) (by rw [List.size_toArray]; show its.length + 1 < 4096; trivial) fun h' tk hset hk => ?_
  refine Calls.spliced_nil ?_
  obtain ⟨o, es, ep, t, ho, hex, hd, _, _, hb, hf, hsz⟩ := hset
  have e2 : firstMet (fun i => ns.getD i 0) its.toArray.size = ns.foldl step_dedup [] := by
    unfold firstMet
    rw [List.size_toArray, ← hlen]
    congr 1
    apply List.ext_getElem?
    intro i
    rw [List.getElem?_map]
    by_cases hi : i < ns.length
    · rw [List.getElem?_range hi, List.getElem?_eq_getElem hi]
      simp [List.getD_eq_getElem?_getD, List.getElem?_eq_getElem hi]
    · rw [List.getElem?_eq_none (by simpa using hi), List.getElem?_eq_none (by trivial)]; rfl
  have dl := dedup_len ns [] List.nodup_nil
  rw [e2] at hsz
  simp only [List.length_nil, Nat.zero_add, List.nil_append] at dl
  rw [← hsz] at dl
  refine call_len_set ho hex hd hf (by have : scanBound = 4096 := rfl; trivial) ?_
  refine ⟨.int (es.size : Int), H1, I1.kept (t' := _) (fun b o eo => hk b o (Heap.lt_size eo) eo), ⟨_, rfl⟩, q es.size dl.1 dl.2⟩
@[simp] theorem rd_lenSet {ta : TA} {σ : St} {H : Hp} {Q : VK} : tLenSet ta σ H Q = ta σ H fun vs H1 => on1 vs fun x => onL H1 x fun _ xs => ∃ ns : List Int, xs = ns.map V.int ∧ ns.length ≤ 4000 ∧ ∀ c : Nat, c ≤ ns.length → (c = ns.length ↔ ns.Nodup) → Q (.int (c : Int)) H1 := rfl
theorem count_eqU {x : V} : ∀ {xs : List V} {us : List Value}, Vals xs us → xs.all flatV = true → us.countP (eqU x) = xs.countP fun y => eqV y x
  | _, _, .nil, _ => rfl
  | y :: xs, u :: us, .cons r t, f => by
    rw [List.all_cons, Bool.and_eq_true] at f
    rw [List.countP_cons, List.countP_cons, eqU_of r f.1, count_eqU t f.2]
noncomputable def rCount : V → List V → Hp → VK → Prop := fun x vs H Q => on1 vs fun y => onL H x fun _ xs => flatV y = true ∧ xs.all flatV = true ∧ Q (.int ((xs.countP fun z => eqV z y : Nat) : Int)) H
theorem f_count : MtR X "list.count" rCount := by
  intro pins s σ H x vs v us Q I rx rv h
  obtain ⟨y, rfl, h1⟩ := on1.out h
  obtain ⟨l, xs, rfl, hH, fy, fx, q⟩ := onL.out h1
  cases rx
  obtain ⟨u, rfl, ru⟩ := rv.one
  obtain ⟨its, r', pl, hz'⟩ := I.list (SqL.of hH)
  obtain ⟨⟨cls, dd, data, sl⟩, ho, hc, n, hd⟩ := pl.isList
  simp only at hc hd
  subst hc hd
  refine call_meets PySem.F.slot_list_count ⟨_, ho, rfl⟩ PySem.F.entry_list_count (PySem.F.args_list_count_2 _ _)
    (SeqAt.list_countAt l its.toArray n dd sl u (eqU y)) ⟨ho, fun w hw => mem_eqAt ru fy r' fx w (by simpa using hw), ?_⟩
  refine ⟨.int _, H, I.tok _, ⟨_, rfl⟩, ?_⟩
  rw [show its.toArray.toList.countP (eqU y) = xs.countP fun z => eqV z y from count_eqU r' fx]
  exact q
@[simp] theorem rd_count {x : V} {vs : List V} {H : Hp} {Q : VK} : rCount x vs H Q = on1 vs fun y => onL H x fun _ xs => flatV y = true ∧ xs.all flatV = true ∧ Q (.int ((xs.countP fun z => eqV z y : Nat) : Int)) H := rfl
noncomputable def rMulF : R2 := fun x y H Q => match x with
  | .int i => onI y fun j => CMul i j ∧ Q (.int (i * j)) H
  | .ref a => onI y fun k => onL H (.ref a) fun _ xs => (0 ≤ k ∧ xs.length * k.toNat ≤ 10000 ∧ k ≤ 10000) ∧ new H (.lst (List.replicate k.toNat xs).flatten) Q
  | _ => False
theorem f_mulF : OpR X (binaryOp .Mult) rMulF := by
  intro pins s σ H x y v u Q I rx ry h
  cases x with
  | int i =>
    obtain ⟨j, rfl, c, q⟩ := onI.out h
    exact op_mul pins s σ H _ _ v u Q I rx ry ⟨i, j, rfl, rfl, c, q⟩
  | ref a =>
    obtain ⟨k, rfl, h'⟩ := onI.out h
    obtain ⟨l, xs, e, hH, ⟨h1, h2, h3⟩, q⟩ := onL.out h'
    exact op_rep pins s σ H _ _ v u Q I rx ry ⟨l, k, xs, e, rfl, hH, by trivial, by trivial, line100' h2, q⟩
  | _ => exact (show False from h).elim
@[simp] theorem rd_mulFI {i : Int} {y : V} {H : Hp} {Q : VK} : rMulF (.int i) y H Q = onI y fun j => CMul i j ∧ Q (.int (i * j)) H := rfl
@[simp] theorem rd_mulFL {a : Addr} {y : V} {H : Hp} {Q : VK} : rMulF (.ref a) y H Q = onI y fun k => onL H (.ref a) fun _ xs => (0 ≤ k ∧ xs.length * k.toNat ≤ 10000 ∧ k ≤ 10000) ∧ new H (.lst (List.replicate k.toNat xs).flatten) Q := rfl
end
end L2
namespace L2
open PySem PySem.Spec PyProof.Rows
noncomputable abbrev RowsW (H : Hp) (as : List Addr) (xss : List (List V)) : Prop := Paired (fun b xs => H b = some (.lst xs)) as xss
structure RowsV (H : Hp) (a : Addr) (as : List Addr) (xss : List (List V)) : Prop where
  top : H a = some (.lst (as.map V.ref))
  row : RowsW H as xss
theorem RowsW.mono {H H' : Hp} {as : List Addr} {xss : List (List V)} (h : RowsW H as xss) (k : ∀ b ∈ as, ∀ o, H b = some o → H' b = some o) : RowsW H' as xss := by
  induction h with
  | nil => exact .nil
  | cons r t ih => exact .cons (k _ List.mem_cons_self _ r) (ih fun b hb => k b (List.mem_cons_of_mem _ hb))
theorem RowsW.same {H H' : Hp} {as : List Addr} {xss : List (List V)} (h : RowsW H as xss) (s : Same H H') : RowsW H' as xss := h.mono fun b _ o e => s b o e
theorem RowsW.len {H : Hp} {as : List Addr} {xss : List (List V)} (h : RowsW H as xss) : as.length = xss.length := Paired.length h
theorem RowsW.get {H : Hp} : ∀ {as : List Addr} {xss : List (List V)} {i : Nat} {xs : List V}, RowsW H as xss → xss[i]? = some xs → ∃ b, as[i]? = some b ∧ H b = some (.lst xs)
  | _, _, _, _, .nil, e => by simp at e
  | _, _, 0, _, .cons r _, e => by simp at e; subst e; exact ⟨_, rfl, r⟩
  | _, _, i + 1, xs, .cons _ t, e => by
    obtain ⟨b, h1, h2⟩ := RowsW.get (i := i) (xs := xs) t (by simpa using e)
    exact ⟨b, by simpa using h1, h2⟩
theorem RowsW.get' {H : Hp} {as : List Addr} {xss : List (List V)} {i : Nat} {b : Addr} (h : RowsW H as xss) (e : as[i]? = some b) : ∃ xs, xss[i]? = some xs ∧ H b = some (.lst xs) := by
  have hl := h.len
  have hi : i < xss.length := by rw [← hl]; exact (List.getElem?_eq_some_iff.mp e).1
  obtain ⟨b', h1, h2⟩ := h.get (List.getElem?_eq_getElem hi)
  rw [e] at h1; cases h1
  exact ⟨_, List.getElem?_eq_getElem hi, h2⟩
theorem RowsW.snoc {H : Hp} {as : List Addr} {xss : List (List V)} {b : Addr} {xs : List V} (h : RowsW H as xss) (hb : H b = some (.lst xs)) : RowsW H (as ++ [b]) (xss ++ [xs]) := Paired.snoc h hb
theorem RowsW.set {H : Hp} : ∀ {as : List Addr} {xss : List (List V)} {i : Nat} {b : Addr} {ys : List V}, RowsW H as xss → as[i]? = some b → as.Nodup → RowsW (upd H b (.lst ys)) as (xss.set i ys)
  | _, _, _, _, _, .nil, e, _ => by simp at e
  | a :: as, _ :: xss, 0, b, ys, .cons r t, e, nd => by
    simp at e; subst e
    refine .cons upd_same (RowsW.mono t fun c hc o q => ?_)
    have ne : c ≠ a := fun z => (List.nodup_cons.mp nd).1 (z ▸ hc)
    rw [upd_ne ne]; exact q
  | a :: as, _ :: xss, i + 1, b, ys, .cons r t, e, nd => by
    have e' : as[i]? = some b := by simpa using e
    refine .cons ?_ (RowsW.set t e' (List.nodup_cons.mp nd).2)
    have ne : a ≠ b := fun z => (List.nodup_cons.mp nd).1 (by rw [z]; exact List.mem_of_getElem? e')
    rw [upd_ne ne]; exact r
theorem RowsW.app {H : Hp} : ∀ {as bs : List Addr} {xss yss : List (List V)}, RowsW H as xss → RowsW H bs yss → RowsW H (as ++ bs) (xss ++ yss)
  | _, _, _, _, .nil, h => h
  | _, _, _, _, .cons r t, h => .cons r (RowsW.app t h)
theorem comp_rowsV {J : It} {H : Hp} {xs : List V} {cp : List Nat} {σ : St} {te : TE} {Q : VK} (Y : Yields J H xs) (gs : List (List V)) (hg : gs.length = xs.length) (hz : xs.length ≤ 10000)
    (he : ∀ (i : Nat) v g, xs[i]? = some v → gs[i]? = some g → ∀ H', Same H H' → ∀ R : VK, (∀ b H'', Same H' H'' → H' b = none → H'' b = some (.lst g) → R (.ref b) H'') → te (cst cp σ (some v)) H' R)
    (hQ : ∀ D as H', H D = none → Same H H' → RowsV H' D as gs → Fresh H (D :: as) → Q (.ref D) H') :
    ∀ D, H D = none → ∃ W : Nat → Nat → Hp → Prop, (∃ m, W 0 m (upd H D (.lst []))) ∧ ∀ i m H, W i m H →
      (J.stop i H ∧ Q (.ref D) H) ∨ (J.go i H ∧ ∀ v H', J.yld i H v H' → tNoTest (cst cp σ (some v)) H' fun b H2 =>
        if b = true then te (cst cp σ (some v)) H2 fun y H3 => ∃ ys, H3 D = some (.lst ys) ∧ ys.length < sizeLine ∧ ∃ m', m' < m ∧ W (i + 1) m' (upd H3 D (.lst (ys ++ [y])))
        else ∃ m', m' < m ∧ W (i + 1) m' H2) := by
  intro D hD
  refine ⟨fun i m H' => m = xs.length - i ∧ i ≤ xs.length ∧ Same H H' ∧ ∃ as, RowsV H' D as (gs.take i) ∧ Fresh H (D :: as), ⟨xs.length, by simp, Nat.zero_le _, Same.upd_new hD, [], ⟨upd_same, by simpa using Paired.nil⟩, ⟨by simp, by simpa using hD⟩⟩, ?_⟩
  rintro i m H1 ⟨rfl, hi, sm, as, ra, fr⟩
  by_cases hlt : i < xs.length
  · have e : xs[i]? = some xs[i] := List.getElem?_eq_getElem hlt
    have hgi : i < gs.length := by rw [hg]; exact hlt
    have eg : gs[i]? = some gs[i] := List.getElem?_eq_getElem hgi
    obtain ⟨g, yl⟩ := Y.go i _ _ sm e
    refine .inr ⟨g, fun v H' y => ?_⟩
    obtain ⟨rfl, rfl⟩ := yl v H' y
    unfold tNoTest
    dsimp only
    rw [if_pos rfl]
    refine he i _ _ e eg _ sm _ fun b H2 s2 hb hb2 => ?_
    have la : as.length = i := by rw [RowsW.len ra.row, List.length_take]; trivial
    have bD : b ≠ D := fun z => by rw [z, ra.top] at hb; cases hb
    have nD : ∀ c ∈ as, c ≠ D := fun c hc z => (List.nodup_cons.mp fr.nd).1 (z ▸ hc)
    have bas : b ∉ as := fun hm => by
      obtain ⟨j, hj⟩ := List.getElem?_of_mem hm
      obtain ⟨ys, _, hy⟩ := RowsW.get' ra.row hj
      rw [hb] at hy; cases hy
    refine ⟨as.map V.ref, s2 _ _ ra.top, line100 (by rw [List.length_map]; trivial), xs.length - (i + 1), by trivial, rfl, hlt, (sm.trans s2).upd_in hD, as ++ [b], ⟨?_, ?_⟩, ?_, ?_⟩
    · rw [upd_same, List.map_append]; rfl
    · rw [List.take_add_one, eg]
      refine RowsW.mono (RowsW.snoc (RowsW.same ra.row s2) hb2) fun c hc o q => ?_
      rw [upd_ne]
      · exact q
      · rcases List.mem_append.mp hc with hc | hc
        · exact nD c hc
        · have : c = b := by simpa using hc
          rw [this]; exact bD
    · refine List.nodup_cons.mpr ⟨fun hm => ?_, ?_⟩
      · rcases List.mem_append.mp hm with hm | hm
        · exact (List.nodup_cons.mp fr.nd).1 hm
        · have e : D = b := by simpa using hm
          exact bD e.symm
      · rw [List.nodup_append]
        refine ⟨(List.nodup_cons.mp fr.nd).2, by simp, fun c hc d hd => ?_⟩
        have : d = b := by simpa using hd
        rw [this]
        exact fun z => bas (z ▸ hc)
    · intro c hc
      rcases List.mem_cons.mp hc with rfl | hc
      · exact hD
      · rcases List.mem_append.mp hc with hc | hc
        · exact fr.no c (List.mem_cons_of_mem _ hc)
        · have : c = b := by simpa using hc
          rw [this]; exact sm.free hb
  · have e : i = xs.length := by trivial
    subst e
    refine .inl ⟨Y.stop _ _ sm (Nat.le_refl _), ?_⟩
    rw [← hg, List.take_length] at ra
    exact hQ D as H1 hD sm ra fr
theorem RowsW.notin {H : Hp} {as : List Addr} {xss : List (List V)} {p : Addr} (h : RowsW H as xss) (hp : H p = none) : p ∉ as := fun hm => by
  obtain ⟨j, hj⟩ := List.getElem?_of_mem hm
  obtain ⟨ys, _, hy⟩ := RowsW.get' h hj
  rw [hp] at hy; cases hy
theorem RowsV.set {H : Hp} {a : Addr} {as : List Addr} {xss : List (List V)} {i : Nat} {b : Addr} {ys : List V} (h : RowsV H a as xss) (e : as[i]? = some b) (nd : (a :: as).Nodup) : RowsV (upd H b (.lst ys)) a as (xss.set i ys) := by
  have nd' := List.nodup_cons.mp nd
  refine ⟨?_, RowsW.set h.row e nd'.2⟩
  have ne : a ≠ b := fun z => nd'.1 (by rw [z]; exact List.mem_of_getElem? e)
  rw [upd_ne ne]; exact h.top
theorem RowsV.same {H H' : Hp} {a : Addr} {as : List Addr} {xss : List (List V)} (h : RowsV H a as xss) (s : Same H H') : RowsV H' a as xss := ⟨s _ _ h.top, RowsW.same h.row s⟩
theorem RowsV.app {H : Hp} {a p : Addr} {as : List Addr} {xss : List (List V)} {ys : List V} (h : RowsW H as xss) (ht : H a = some (.lst (as.map V.ref ++ [V.ref p]))) (hp : H p = some (.lst ys)) : RowsV H a (as ++ [p]) (xss ++ [ys]) :=
  ⟨by rw [ht, List.map_append]; rfl, RowsW.snoc h hp⟩
theorem RowsV.out {H : Hp} {a c : Addr} {as : List Addr} {xss : List (List V)} {o : HO} (h : RowsV H a as xss) (hc : c ∉ a :: as) : RowsV (upd H c o) a as xss :=
  ⟨by
    have ne : a ≠ c := fun z => hc (by rw [z]; exact List.mem_cons_self)
    rw [upd_ne ne]; exact h.top, RowsW.mono h.row fun b hb o' e => by
    have ne : b ≠ c := fun z => hc (List.mem_cons_of_mem _ (z ▸ hb))
    rw [upd_ne ne]; exact e⟩
theorem RowsV.live {H : Hp} {a : Addr} {as : List Addr} {xss : List (List V)} (h : RowsV H a as xss) {c : Addr} (hc : c ∈ a :: as) : H c ≠ none := fun z => by
  rcases List.mem_cons.mp hc with rfl | hc
  · rw [h.top] at z; cases z
  · exact RowsW.notin h.row z hc
theorem RowsV.notin {H : Hp} {a : Addr} {as : List Addr} {xss : List (List V)} (h : RowsV H a as xss) {c : Addr} (hc : H c = none) : c ∉ a :: as := fun z => h.live z hc
theorem comp_listRV {K : PySem.W.Frag} {tl : TE} {cp : List Nat} {te : TE} {σ : St} {H : Hp} {Q : VK} {a : Addr} {xs : List V} (hl : ∀ R : VK, R (.ref a) H → tl σ H R) (h : H a = some (.lst xs)) (gs : List (List V)) (hg : gs.length = xs.length) (hz : xs.length ≤ 10000)
    (he : ∀ (i : Nat) v g, xs[i]? = some v → gs[i]? = some g → ∀ H', Same H H' → ∀ R : VK, (∀ b H'', Same H' H'' → H' b = none → H'' b = some (.lst g) → R (.ref b) H'') → te (cst cp σ (some v)) H' R)
    (hQ : ∀ D as H', H D = none → Same H H' → RowsV H' D as gs → Fresh H (D :: as) → Q (.ref D) H') : tComp (iL K tl) cp tNoTest te σ H Q := by
  refine hl _ ?_
  rw [onL_of h]
  exact comp_rowsV (yields_list h) gs hg hz he hQ
theorem comp_copyV {K : PySem.W.Frag} {tl : TE} {cp : List Nat} {σ : St} {H : Hp} {Q : VK} {a : Addr} {as : List Addr} {xss : List (List V)} (hl : ∀ R : VK, R (.ref a) H → tl σ H R) (h : RowsV H a as xss) (hz : xss.length ≤ 10000)
    (hQ : ∀ D bs H', H D = none → Same H H' → RowsV H' D bs xss → Fresh H (D :: bs) → Q (.ref D) H') : tComp (iL K tl) cp tNoTest (tCB rListF (tCons (tVar 0) tNil)) σ H Q := by
  refine comp_listRV hl h.top xss (by rw [List.length_map, h.row.len]) (by rw [List.length_map, h.row.len]; exact hz) (fun i v g e1 e2 H' s R k => ?_) hQ
  rw [List.getElem?_map] at e1
  cases e3 : as[i]? with
  | none => rw [e3] at e1; cases e1
  | some b =>
    rw [e3] at e1
    cases e1
    obtain ⟨xs, e4, hb⟩ := h.row.get' e3
    rw [e2] at e4; cases e4
    simp only [rd_cb, rd_cons, rd_nil, cst, rd_var0, rd_onO, rd_list, rd_on1, onS_of (s _ _ hb), rd_new]
    exact fun p hp => k p _ (Same.upd_new hp) hp upd_same
theorem comp_rowsTV {J : It} {H : Hp} {xs : List V} {cp : List Nat} {σ : St} {tt : TT} {te : TE} {Q : VK} (Y : Yields J H xs) (p : V → Bool) (g : V → List V) (hz : xs.length ≤ 10000)
    (ht : ∀ v ∈ xs, ∀ H', Same H H' → ∀ R : Bool → Hp → Prop, (∀ H'', Same H' H'' → R (p v) H'') → tt (cst cp σ (some v)) H' R)
    (he : ∀ v ∈ xs, p v = true → ∀ H', Same H H' → ∀ R : VK, (∀ b H'', Same H' H'' → H' b = none → H'' b = some (.lst (g v)) → R (.ref b) H'') → te (cst cp σ (some v)) H' R)
    (hQ : ∀ D as H', H D = none → Same H H' → RowsV H' D as ((xs.filter p).map g) → Fresh H (D :: as) → Q (.ref D) H') :
    ∀ D, H D = none → ∃ W : Nat → Nat → Hp → Prop, (∃ m, W 0 m (upd H D (.lst []))) ∧ ∀ i m H, W i m H →
      (J.stop i H ∧ Q (.ref D) H) ∨ (J.go i H ∧ ∀ v H', J.yld i H v H' → tt (cst cp σ (some v)) H' fun b H2 =>
        if b = true then te (cst cp σ (some v)) H2 fun y H3 => ∃ ys, H3 D = some (.lst ys) ∧ ys.length < sizeLine ∧ ∃ m', m' < m ∧ W (i + 1) m' (upd H3 D (.lst (ys ++ [y])))
        else ∃ m', m' < m ∧ W (i + 1) m' H2) := by
  intro D hD
  refine ⟨fun i m H' => m = xs.length - i ∧ i ≤ xs.length ∧ Same H H' ∧ ∃ as, RowsV H' D as (((xs.take i).filter p).map g) ∧ Fresh H (D :: as), ⟨xs.length, by simp, Nat.zero_le _, Same.upd_new hD, [], ⟨upd_same, by simpa using Paired.nil⟩, ⟨by simp, by simpa using hD⟩⟩, ?_⟩
  rintro i m H1 ⟨rfl, hi, sm, as, ra, fr⟩
  by_cases hlt : i < xs.length
  · have e : xs[i]? = some xs[i] := List.getElem?_eq_getElem hlt
    have hm : xs[i] ∈ xs := List.getElem_mem hlt
    obtain ⟨gg, yl⟩ := Y.go i _ _ sm e
    refine .inr ⟨gg, fun v H' y => ?_⟩
    obtain ⟨rfl, rfl⟩ := yl v H' y
    refine ht _ hm _ sm _ fun H2 s2 => ?_
    have tk := take_next e
    have la : as.length ≤ i := by
      have h1 := RowsW.len ra.row
      have h2 := List.length_filter_le p (xs.take i)
      rw [List.length_map] at h1
      rw [List.length_take] at h2
      trivial
    by_cases hp : p xs[i] = true
    · rw [if_pos hp]
      have ra := ra.same s2
      refine he _ hm hp _ (sm.trans s2) _ fun b H3 s3 hb hb3 => ?_
      have bD : b ≠ D := fun z => by rw [z, ra.top] at hb; cases hb
      have bas : b ∉ as := RowsW.notin ra.row hb
      have nD : ∀ c ∈ as, c ≠ D := fun c hc z => (List.nodup_cons.mp fr.nd).1 (z ▸ hc)
      refine ⟨as.map V.ref, s3 _ _ ra.top, line100 (by rw [List.length_map]; trivial), xs.length - (i + 1), by trivial, rfl, hlt, ((sm.trans s2).trans s3).upd_in hD, as ++ [b], ⟨?_, ?_⟩, ?_⟩
      · rw [upd_same, List.map_append]; rfl
      · rw [tk, List.filter_append, List.filter_cons, if_pos hp, List.filter_nil, List.map_append]
        refine RowsW.mono (RowsW.snoc (RowsW.same ra.row s3) hb3) fun c hc o q => ?_
        rw [upd_ne]
        · exact q
        · rcases List.mem_append.mp hc with hc | hc
          · exact nD c hc
          · have : c = b := by simpa using hc
            rw [this]; exact bD
      · have : Fresh H ((D :: as) ++ [b]) := Fresh.snoc fr ((sm.trans s2).free hb) (fun z => by
          rcases List.mem_cons.mp z with z | z
          · exact bD z
          · exact bas z)
        exact this
    · rw [if_neg hp]
      refine ⟨xs.length - (i + 1), by trivial, rfl, hlt, sm.trans s2, as, ?_, fr⟩
      rw [tk, List.filter_append, List.filter_cons, if_neg hp, List.filter_nil, List.append_nil]
      exact ra.same s2
  · have e : i = xs.length := by trivial
    subst e
    refine .inl ⟨Y.stop _ _ sm (Nat.le_refl _), ?_⟩
    rw [List.take_length] at ra
    exact hQ D as H1 hD sm ra fr
theorem rowsV_map {H : Hp} {α : Type} {as : List Addr} {xss : List (List V)} (h : RowsW H as xss) (f : V → α) (g : List V → α) (hf : ∀ b xs, b ∈ as → xs ∈ xss → H b = some (.lst xs) → f (.ref b) = g xs) : (as.map V.ref).map f = xss.map g := by
  induction h with
  | nil => rfl
  | cons r t ih =>
    rw [List.map_cons, List.map_cons, List.map_cons, hf _ _ List.mem_cons_self List.mem_cons_self r, ih fun b xs hb hx => hf b xs (List.mem_cons_of_mem _ hb) (List.mem_cons_of_mem _ hx)]
theorem rowsV_filt {H : Hp} {as : List Addr} {xss : List (List V)} (h : RowsW H as xss) (p : V → Bool) (q : List V → Bool) (hp : ∀ b xs, H b = some (.lst xs) → p (.ref b) = q xs) : ∃ bs, (as.map V.ref).filter p = bs.map V.ref ∧ RowsW H bs (xss.filter q) := by
  induction h with
  | nil => exact ⟨[], rfl, .nil⟩
  | @cons b xs as xss r t ih =>
    obtain ⟨bs, e, hb⟩ := ih
    rw [List.map_cons, List.filter_cons, List.filter_cons, hp b xs r]
    cases q xs with
    | true => exact ⟨b :: bs, by rw [if_pos rfl, e]; rfl, by rw [if_pos rfl]; exact .cons r hb⟩
    | false => exact ⟨bs, by rw [if_neg Bool.false_ne_true]; exact e, by rw [if_neg Bool.false_ne_true]; exact hb⟩
theorem rowsV_mem {H : Hp} {as : List Addr} {xss : List (List V)} {v : V} (h : RowsW H as xss) (hv : v ∈ as.map V.ref) : ∃ b xs, v = .ref b ∧ b ∈ as ∧ xs ∈ xss ∧ H b = some (.lst xs) := by
  obtain ⟨b, hb, rfl⟩ := List.mem_map.mp hv
  obtain ⟨i, hi⟩ := List.getElem?_of_mem hb
  obtain ⟨xs, ex, hx⟩ := RowsW.get' h hi
  exact ⟨b, xs, rfl, hb, List.mem_of_getElem? ex, hx⟩
theorem RowsW.drop {H : Hp} : ∀ {as : List Addr} {xss : List (List V)} (k : Nat), RowsW H as xss → RowsW H (as.drop k) (xss.drop k)
  | _, _, 0, h => h
  | _, _, _ + 1, .nil => .nil
  | _, _, k + 1, .cons _ t => RowsW.drop k t
theorem RowsAt.toV {H : Hp} {a : Addr} {as : List Addr} {xss : List (List Int)} (h : RowsAt H a as xss) : RowsV H a as (xss.map fun r => r.map V.int) := by
  refine ⟨h.top, ?_⟩
  have : ∀ {as : List Addr} {xss : List (List Int)}, RowsL H as xss → RowsW H as (xss.map fun r => r.map V.int) := by
    intro as xss h
    induction h with
    | nil => exact .nil
    | cons r t ih => exact .cons r ih
  exact this h.row
end L2
namespace L2
open PySem PySem.Spec PyProof.Rows
theorem comp_pureG {J : It} {H : Hp} {xs : List V} {cp : List Nat} {σ : St} {tt : TT} {te : TE} {Q : VK} (Y : Yields J H xs) (p : V → Bool) (f : V → V) (hz : xs.length ≤ 10000)
    (ht : ∀ v ∈ xs, ∀ H', Same H H' → ∀ R : Bool → Hp → Prop, (∀ H'', Same H' H'' → R (p v) H'') → tt (cst cp σ (some v)) H' R)
    (he : ∀ v ∈ xs, p v = true → ∀ H', Same H H' → ∀ R : VK, (∀ H'', Same H' H'' → R (f v) H'') → te (cst cp σ (some v)) H' R)
    (hQ : ∀ D H', H D = none → Same H H' → H' D = some (.lst ((xs.filter p).map f)) → Q (.ref D) H') :
    ∀ D, H D = none → ∃ W : Nat → Nat → Hp → Prop, (∃ m, W 0 m (upd H D (.lst []))) ∧ ∀ i m H, W i m H →
      (J.stop i H ∧ Q (.ref D) H) ∨ (J.go i H ∧ ∀ v H', J.yld i H v H' → tt (cst cp σ (some v)) H' fun b H2 =>
        if b = true then te (cst cp σ (some v)) H2 fun y H3 => ∃ ys, H3 D = some (.lst ys) ∧ ys.length < sizeLine ∧ ∃ m', m' < m ∧ W (i + 1) m' (upd H3 D (.lst (ys ++ [y])))
        else ∃ m', m' < m ∧ W (i + 1) m' H2) := by
  intro D hD
  refine ⟨fun i m H' => m = xs.length - i ∧ i ≤ xs.length ∧ Same H H' ∧ H' D = some (.lst (((xs.take i).filter p).map f)), ⟨xs.length, by simp, Nat.zero_le _, Same.upd_new hD, by rw [upd_same]; rfl⟩, ?_⟩
  rintro i m H1 ⟨rfl, hi, sm, hd⟩
  by_cases hlt : i < xs.length
  · have e : xs[i]? = some xs[i] := List.getElem?_eq_getElem hlt
    have hm : xs[i] ∈ xs := List.getElem_mem hlt
    obtain ⟨gg, yl⟩ := Y.go i _ _ sm e
    refine .inr ⟨gg, fun v H' y => ?_⟩
    obtain ⟨rfl, rfl⟩ := yl v H' y
    refine ht _ hm _ sm _ fun H2 s2 => ?_
    have tk := take_next e
    have la : (((xs.take i).filter p).map f).length ≤ i := by
      have h2 := List.length_filter_le p (xs.take i)
      rw [List.length_map]
      rw [List.length_take] at h2
      trivial
    by_cases hp : p xs[i] = true
    · rw [if_pos hp]
      refine he _ hm hp _ (sm.trans s2) _ fun H3 s3 => ?_
      refine ⟨_, s3 _ _ (s2 _ _ hd), line100 (by trivial), xs.length - (i + 1), by trivial, rfl, hlt, ((sm.trans s2).trans s3).upd_in hD, ?_⟩
      rw [upd_same, tk, List.filter_append, List.filter_cons, if_pos hp, List.filter_nil, List.map_append]; rfl
    · rw [if_neg hp]
      refine ⟨xs.length - (i + 1), by trivial, rfl, hlt, sm.trans s2, ?_⟩
      rw [tk, List.filter_append, List.filter_cons, if_neg hp, List.filter_nil, List.append_nil]
      exact s2 _ _ hd
  · have e : i = xs.length := by trivial
    subst e
    refine .inl ⟨Y.stop _ _ sm (Nat.le_refl _), ?_⟩
    rw [List.take_length] at hd
    exact hQ D H1 hD sm hd
theorem comp_listG {K : PySem.W.Frag} {tl : TE} {cp : List Nat} {tt : TT} {te : TE} {σ : St} {H : Hp} {Q : VK} {a : Addr} {xs : List V} (hl : ∀ R : VK, R (.ref a) H → tl σ H R) (h : H a = some (.lst xs)) (p : V → Bool) (f : V → V) (hz : xs.length ≤ 10000)
    (ht : ∀ v ∈ xs, ∀ H', Same H H' → ∀ R : Bool → Hp → Prop, (∀ H'', Same H' H'' → R (p v) H'') → tt (cst cp σ (some v)) H' R)
    (he : ∀ v ∈ xs, p v = true → ∀ H', Same H H' → ∀ R : VK, (∀ H'', Same H' H'' → R (f v) H'') → te (cst cp σ (some v)) H' R)
    (hQ : ∀ D H', H D = none → Same H H' → H' D = some (.lst ((xs.filter p).map f)) → Q (.ref D) H') : tComp (iL K tl) cp tt te σ H Q := by
  refine hl _ ?_
  rw [onL_of h]
  exact comp_pureG (yields_list h) p f hz ht he hQ
theorem comp_listTV {K : PySem.W.Frag} {tl : TE} {cp : List Nat} {tt : TT} {te : TE} {σ : St} {H : Hp} {Q : VK} {a : Addr} {xs : List V} (hl : ∀ R : VK, R (.ref a) H → tl σ H R) (h : H a = some (.lst xs)) (p : V → Bool) (g : V → List V) (hz : xs.length ≤ 10000)
    (ht : ∀ v ∈ xs, ∀ H', Same H H' → ∀ R : Bool → Hp → Prop, (∀ H'', Same H' H'' → R (p v) H'') → tt (cst cp σ (some v)) H' R)
    (he : ∀ v ∈ xs, p v = true → ∀ H', Same H H' → ∀ R : VK, (∀ b H'', Same H' H'' → H' b = none → H'' b = some (.lst (g v)) → R (.ref b) H'') → te (cst cp σ (some v)) H' R)
    (hQ : ∀ D as H', H D = none → Same H H' → RowsV H' D as ((xs.filter p).map g) → Fresh H (D :: as) → Q (.ref D) H') : tComp (iL K tl) cp tt te σ H Q := by
  refine hl _ ?_
  rw [onL_of h]
  exact comp_rowsTV (yields_list h) p g hz ht he hQ
noncomputable def intsOf (l : List V) : List Int := l.filterMap fun v => match v with | .int i => some i | _ => none
theorem intsOf_ints (xs : List Int) : intsOf (xs.map V.int) = xs := by
  unfold intsOf
  rw [List.filterMap_map]
  simp [Function.comp_def]
theorem leaf_filter : ∀ {l : List V}, l.all isLeaf = true → l.filter (fun v => !decide (v = V.non)) = (intsOf l).map V.int
  | [], _ => rfl
  | v :: l, h => by
    rw [List.all_cons, Bool.and_eq_true] at h
    have ih := leaf_filter h.2
    cases v with
    | int i => simpa [intsOf] using ih
    | non => simpa [intsOf] using ih
    | _ => simp [isLeaf] at h
theorem intsOf_len (l : List V) : (intsOf l).length ≤ l.length := List.length_filterMap_le _ _
noncomputable def readV (vss : List (List V)) : List Int := (vss.reverse.map intsOf).flatten
noncomputable def colV (vss : List (List V)) (p : Nat) : List V := (vss.filter fun r => decide (p < r.length)).map fun r => r.getD p .non
noncomputable def widthV (vss : List (List V)) : Nat := (vss.headD []).length
noncomputable def turnV (vss : List (List V)) : List (List V) := (List.range (widthV vss)).map (colV vss)
noncomputable def holesV (l : List V) : Nat := l.countP fun z => eqV z .non
noncomputable def riseV (l : List V) : Bool := decide (l = List.replicate (holesV l) .non ++ (sortZ (intsOf l)).map V.int)
noncomputable def shapeB (ls : List Int) : Bool := decide (ls = sortR ls) && ls.all fun x => decide (1 ≤ x)
noncomputable def lensV (vss : List (List V)) : List Int := vss.map fun r => (r.length : Int)
noncomputable def holedV (vss : List (List V)) : Bool := shapeB (lensV vss) && decide (readV vss).Nodup && vss.all riseV && (turnV vss).all riseV
theorem leaf_flat {l : List V} (h : l.all isLeaf = true) : l.all flatV = true := by
  rw [List.all_eq_true] at h ⊢
  intro v hv
  have := h v hv
  cases v <;> simp_all [isLeaf, flatV]
theorem holesV_le (l : List V) : holesV l ≤ l.length := List.countP_le_length
theorem leaf_col {vss : List (List V)} (h : ∀ r ∈ vss, r.all isLeaf = true) (p : Nat) : (colV vss p).all isLeaf = true := by
  rw [List.all_eq_true]
  intro v hv
  obtain ⟨r, hr, rfl⟩ := List.mem_map.mp hv
  obtain ⟨h1, h2⟩ := List.mem_filter.mp hr
  have hp := of_decide_eq_true h2
  rw [List.getD_eq_getElem?_getD, List.getElem?_eq_getElem hp]
  exact List.all_eq_true.mp (h r h1) _ (List.getElem_mem hp)
theorem colV_len (vss : List (List V)) (p : Nat) : (colV vss p).length ≤ vss.length := by
  unfold colV
  rw [List.length_map]
  exact List.length_filter_le _ _
end L2
namespace L2
open PySem PySem.Spec PyProof.Rows RS
theorem pi_lK {X : Cx} {tg : Expr} {l : Expr} {tl : TE} {K : PySem.W.Frag} (hK : X.K = K) (hl : PE X l tl) : PI X tg l (iL K tl) := by subst hK; exact pi_l hl
noncomputable def hol (low : List Int) (n : Int) : V := if n ∈ low then .non else .int n
noncomputable def holR (low : List Int) (R : List (List Int)) : List (List V) := R.map fun r => r.map (hol low)
noncomputable def Down (low : List Int) (R : List (List Int)) : Prop := ∀ x ∈ R.flatten, ∀ y ∈ R.flatten, x < y → y ∈ low → x ∈ low
theorem hol_leaf (low : List Int) (n : Int) : isLeaf (hol low n) = true := by unfold hol; split <;> rfl
theorem intsOf_hol (low : List Int) (r : List Int) : intsOf (r.map (hol low)) = r.filter fun n => !decide (n ∈ low) := by
  induction r with
  | nil => rfl
  | cons n r ih =>
    unfold intsOf at ih ⊢
    rw [List.map_cons, List.filterMap_cons, ih, List.filter_cons]
    by_cases h : n ∈ low
    · simp [hol, h]
    · simp [hol, h]
theorem holesV_hol (low : List Int) (r : List Int) : holesV (r.map (hol low)) = (r.filter fun n => decide (n ∈ low)).length := by
  unfold holesV
  induction r with
  | nil => rfl
  | cons n r ih =>
    rw [List.map_cons, List.countP_cons, ih, List.filter_cons]
    by_cases h : n ∈ low
    · simp [hol, h, eqV]
    · simp [hol, h, eqV]
theorem rise_hol {low r : List Int} (hr : Rise r) (hd : ∀ x ∈ r, ∀ y ∈ r, x < y → y ∈ low → x ∈ low) : riseV (r.map (hol low)) = true := by
  unfold riseV
  rw [decide_eq_true_eq, intsOf_hol, holesV_hol]
  have es : sortZ (r.filter fun n => !decide (n ∈ low)) = r.filter fun n => !decide (n ∈ low) := (sortZ_uniq (List.Perm.refl _) ((hr.sublist List.filter_sublist).imp fun h => Int.le_of_lt h)).symm
  rw [es]
  clear es
  induction r with
  | nil => rfl
  | cons n r ih =>
    obtain ⟨h1, h2⟩ := List.pairwise_cons.mp hr
    have ih := ih h2 (fun x hx y hy => hd x (List.mem_cons_of_mem _ hx) y (List.mem_cons_of_mem _ hy))
    by_cases h : n ∈ low
    · have e : hol low n = .non := by simp [hol, h]
      rw [List.map_cons, e, ih, List.filter_cons, if_pos (by simpa using h), List.filter_cons (p := fun n => !decide (n ∈ low)), if_neg (by simpa using h), List.length_cons, List.replicate_succ]
      rfl
    · have none : ∀ y ∈ r, y ∉ low := fun y hy hl => h (hd n List.mem_cons_self y (List.mem_cons_of_mem _ hy) (h1 y hy) hl)
      have f1 : (n :: r).filter (fun n => decide (n ∈ low)) = [] := List.filter_eq_nil_iff.mpr fun y hy => by
        rcases List.mem_cons.mp hy with rfl | hy
        · simpa using h
        · simpa using none y hy
      have f2 : (n :: r).filter (fun n => !decide (n ∈ low)) = n :: r := List.filter_eq_self.mpr fun y hy => by
        rcases List.mem_cons.mp hy with rfl | hy
        · simpa using h
        · simpa using none y hy
      rw [f1, f2]
      simp only [List.length_nil, List.replicate_zero, List.nil_append]
      apply List.map_congr_left
      intro y hy
      rcases List.mem_cons.mp hy with rfl | hy
      · simp [hol, h]
      · simp [hol, none y hy]
theorem readV_hol (low : List Int) (R : List (List Int)) : readV (holR low R) = (readL R).filter fun n => !decide (n ∈ low) := by
  unfold readV holR readL
  rw [← List.map_reverse, List.map_map]
  induction R.reverse with
  | nil => rfl
  | cons r S ih =>
    rw [List.map_cons, List.flatten_cons, ih, List.flatten_cons, List.filter_append]
    rw [Function.comp_apply, intsOf_hol]
theorem lensV_hol (low : List Int) (R : List (List Int)) : lensV (holR low R) = R.map fun r => (r.length : Int) := by
  unfold lensV holR
  rw [List.map_map]
  apply List.map_congr_left
  intro r _
  simp
theorem colV_hol (low : List Int) (R : List (List Int)) (p : Nat) : colV (holR low R) p = (RS.column R p).map (hol low) := by
  unfold colV holR RS.column
  rw [List.filter_map, List.map_map, List.map_map]
  have : (fun r : List V => decide (p < r.length)) ∘ (fun r : List Int => r.map (hol low)) = fun r => decide (p < r.length) := by funext r; simp
  rw [this]
  apply List.map_congr_left
  intro r hr
  have hp := of_decide_eq_true (List.mem_filter.mp hr).2
  simp [List.getD_eq_getElem?_getD, List.getElem?_eq_getElem hp]
theorem widthV_hol (low : List Int) (R : List (List Int)) : widthV (holR low R) = width R := by
  cases R <;> simp [widthV, holR, width]
theorem turnV_hol (low : List Int) (R : List (List Int)) : turnV (holR low R) = holR low (turnedP R) := by
  unfold turnV turnedP
  rw [widthV_hol]
  show _ = ((List.range (width R)).map (RS.column R)).map _
  rw [List.map_map]
  apply List.map_congr_left
  intro p _
  rw [colV_hol]; rfl
theorem shapeB_dec {R : List (List Int)} (st : Stairs R) : shapeB (R.map fun r => (r.length : Int)) = true := by
  unfold shapeB
  rw [Bool.and_eq_true, decide_eq_true_eq]
  refine ⟨sortR_uniq (List.Perm.refl _) ?_, ?_⟩
  · refine List.Pairwise.map _ (fun r s (h : s.length ≤ r.length) => ?_) st.dec
    show (r.length : Int) ≥ (s.length : Int)
    trivial
  · rw [List.all_eq_true]
    intro x hx
    obtain ⟨r, hr, rfl⟩ := List.mem_map.mp hx
    have := List.length_pos_iff.mpr (st.pos r hr)
    simp; trivial
theorem cols_rise {R : List (List Int)} (nd : R.flatten.Nodup) {row : List Int} (nr : row.Nodup) (e : R = layW [] row) : ∀ c ∈ turnedP R, Rise c := by
  have := (layW_stairs ((List.reverse_perm row).nodup_iff.mpr nr)).1
  rw [rev_turned nr, ← e] at this
  exact this.rise
theorem mem_col {R : List (List Int)} {p : Nat} {x : Int} (h : x ∈ RS.column R p) : x ∈ R.flatten := by
  unfold RS.column at h
  obtain ⟨r, hr, rfl⟩ := List.mem_map.mp h
  obtain ⟨h1, h2⟩ := List.mem_filter.mp hr
  have hp := of_decide_eq_true h2
  rw [List.getD_eq_getElem?_getD, List.getElem?_eq_getElem hp]
  exact List.mem_flatten.mpr ⟨r, h1, List.getElem_mem hp⟩
theorem holed_ok {row low : List Int} (nr : row.Nodup) (hd : Down low (layW [] row)) : holedV (holR low (layW [] row)) = true := by
  obtain ⟨st, pm⟩ := layW_stairs nr
  have nd := pm.nodup_iff.mpr nr
  unfold holedV
  rw [lensV_hol, shapeB_dec st, Bool.true_and, readV_hol, Bool.and_eq_true, Bool.and_eq_true, decide_eq_true_eq]
  refine ⟨⟨?_, ?_⟩, ?_⟩
  · have : (readL (layW [] row)).Nodup := (List.Perm.flatten (List.reverse_perm _)).nodup_iff.mpr nd
    exact this.sublist List.filter_sublist
  · rw [List.all_eq_true]
    intro l hl
    obtain ⟨r, hr, rfl⟩ := List.mem_map.mp hl
    exact rise_hol (st.rise r hr) fun x hx y hy => hd x (List.mem_flatten.mpr ⟨r, hr, hx⟩) y (List.mem_flatten.mpr ⟨r, hr, hy⟩)
  · rw [turnV_hol, List.all_eq_true]
    intro l hl
    obtain ⟨c, hc, rfl⟩ := List.mem_map.mp hl
    have rc := cols_rise nd nr rfl c hc
    obtain ⟨p, _, rfl⟩ := List.mem_map.mp hc
    exact rise_hol rc fun x hx y hy => hd x (mem_col hx) y (mem_col hy)
theorem down_take {R : List (List Int)} (d : Nat) : Down ((sortZ R.flatten).take d) R := fun x hx y hy hlt hm => by
  have px : x ∈ sortZ R.flatten := (sortZ_perm _).mem_iff.mpr hx
  rw [← List.take_append_drop d (sortZ R.flatten)] at px
  rcases List.mem_append.mp px with h | h
  · exact h
  · have := sortZ_le R.flatten
    rw [← List.take_append_drop d (sortZ R.flatten)] at this
    have := (List.pairwise_append.mp this).2.2 y hm x h
    trivial
theorem down_take2 {R : List (List Int)} (d e : Nat) : Down (((sortZ R.flatten).take d).take e) R := by rw [List.take_take]; exact down_take _
end L2
namespace L2
open PySem PySem.Spec PyProof.Rows RS
section
variable {X : Cx}
noncomputable def rNotT : R2 := fun x y H Q => onB x fun b => y = .bl true ∧ Q (.bl (!b)) H
noncomputable def rIsT : R2 := fun x y H Q => onB x fun b => y = .bl true ∧ Q (.bl b) H
@[simp] theorem rd_notT {b : Bool} {H : Hp} {Q : VK} : rNotT (.bl b) (.bl true) H Q = Q (.bl (!b)) H := by simp [rNotT]
@[simp] theorem rd_isT {b : Bool} {H : Hp} {Q : VK} : rIsT (.bl b) (.bl true) H Q = Q (.bl b) H := by simp [rIsT]
end
noncomputable def cellV (X : List (List V)) (i j : Nat) : Option V := (X[i]?).bind fun r => r[j]?
noncomputable def setV (X : List (List V)) (i j : Nat) (v : V) : List (List V) := X.set i ((X.getD i []).set j v)
theorem getD_row {X : List (List V)} {i : Nat} {r : List V} (h : X[i]? = some r) : X.getD i [] = r := by rw [List.getD_eq_getElem?_getD, h]; rfl
theorem setV_row {X : List (List V)} {i j : Nat} {v : V} (k : Nat) : (setV X i j v)[k]? = (X[k]?).map fun r => if k = i then r.set j v else r := by
  unfold setV
  by_cases h : k = i
  · subst h
    rw [List.getElem?_set]
    cases e : X[k]? with
    | none => simp [List.getElem?_eq_none_iff.mp e]
    | some r =>
      have := (List.getElem?_eq_some_iff.mp e).1
      rw [if_pos rfl, if_pos this, getD_row e]; simp
  · rw [List.getElem?_set_ne (Ne.symm h)]
    cases X[k]? with
    | none => rfl
    | some r => simp [h]
theorem cell_setV {X : List (List V)} {i j : Nat} {v : V} (k l : Nat) : cellV (setV X i j v) k l = (cellV X k l).map fun w => if k = i ∧ l = j then v else w := by
  unfold cellV
  rw [setV_row]
  cases X[k]? with
  | none => rfl
  | some r =>
    by_cases h : k = i
    · simp only [h, if_true, Option.map_some, Option.bind_some, true_and]
      rw [List.getElem?_set]
      by_cases hl : l = j
      · subst hl
        by_cases hlt : l < r.length
        · simp [hlt]
        · simp [hlt]
      · rw [if_neg (Ne.symm hl)]
        cases r[l]? <;> simp [hl]
    · simp only [h, if_false, Option.map_some, Option.bind_some, false_and]
      cases r[l]? <;> simp
inductive SlidR : List (List V) → Nat → Nat → List (List V) × Nat → Prop
  | stop {X : List (List V)} {i j : Nat} : cellV X i (j + 1) = none → cellV X (i + 1) j = none → SlidR X i j ((X.set i ((X.getD i []).take j)).filter (fun r => !r.isEmpty), i)
  | right {X : List (List V)} {i j : Nat} {r : Int} {F : List (List V) × Nat} : cellV X i (j + 1) = some (.int r) → (cellV X (i + 1) j = none ∨ ∃ b, cellV X (i + 1) j = some (.int b) ∧ ¬ b < r) → SlidR (setV X i j (.int r)) i (j + 1) F → SlidR X i j F
  | down {X : List (List V)} {i j : Nat} {b : Int} {F : List (List V) × Nat} : cellV X (i + 1) j = some (.int b) → (cellV X i (j + 1) = none ∨ ∃ r, cellV X i (j + 1) = some (.int r) ∧ b < r) → SlidR (setV X i j (.int b)) (i + 1) j F → SlidR X i j F
noncomputable def NumF (hs : Nat → Nat) (X : List (List V)) : Prop := ∀ i j v, cellV X i j = some v → hs i ≤ j → ∃ n, v = .int n
theorem NumF.set {hs : Nat → Nat} {X : List (List V)} (h : NumF hs X) (i j : Nat) (n : Int) : NumF hs (setV X i j (.int n)) := fun k l v e hk => by
  rw [cell_setV] at e
  cases c : cellV X k l with
  | none => rw [c] at e; cases e
  | some w =>
    rw [c] at e
    simp only [Option.map_some, Option.some.injEq] at e
    by_cases hh : k = i ∧ l = j
    · rw [if_pos hh] at e; exact ⟨n, e.symm⟩
    · rw [if_neg hh] at e; subst e; exact h k l w c hk
end L2
namespace L2
open PySem PySem.Spec PyProof.Rows
end L2
namespace L2
end L2
namespace L2
open PySem PySem.Spec PyProof.Rows RS
noncomputable def DecV (R : List (List V)) : Prop := R.Pairwise (fun r s => s.length ≤ r.length)
theorem DecV.column_get : ∀ {R : List (List V)}, DecV R → ∀ (p q : Nat), (colV R p)[q]? = (R[q]?).bind (fun r => r[p]?)
  | [], _, p, q => by simp [colV]
  | r :: R, h, p, q => by
    have h1 := List.pairwise_cons.mp h
    have ih := DecV.column_get h1.2 p
    by_cases hp : p < r.length
    · have e : colV (r :: R) p = r.getD p .non :: colV R p := by
        unfold colV
        rw [List.filter_cons, if_pos (decide_eq_true hp), List.map_cons]
      rw [e]
      cases q with
      | zero => simp [List.getD_eq_getElem?_getD, List.getElem?_eq_getElem hp]
      | succ q => simp only [List.getElem?_cons_succ]; exact ih q
    · have e : colV (r :: R) p = [] := by
        unfold colV
        rw [List.filter_eq_nil_iff.mpr]
        · rfl
        · intro s hs
          have : s.length ≤ r.length := by
            rcases List.mem_cons.mp hs with rfl | hs
            · exact Nat.le_refl _
            · exact h1.1 s hs
          simp; trivial
      rw [e]
      cases hq : (r :: R)[q]? with
      | none => simp
      | some s =>
        have hs : s ∈ r :: R := List.mem_of_getElem? hq
        have : s.length ≤ r.length := by
          rcases List.mem_cons.mp hs with rfl | hs
          · exact Nat.le_refl _
          · exact h1.1 s hs
        simp only [Option.bind_some, List.getElem?_nil]
        exact (List.getElem?_eq_none (by trivial)).symm
structure HolF (X : List (List V)) : Prop where
  dec : DecV X
  pos : ∀ r ∈ X, r ≠ []
  rows : ∀ r ∈ X, riseV r = true
  cols : ∀ p, p < widthV X → riseV (colV X p) = true
  nd : (readV X).Nodup
noncomputable def hsV (X : List (List V)) (i : Nat) : Nat := holesV (X.getD i [])
end L2
namespace L2
open PySem PySem.Spec PyProof.Rows
noncomputable def Itd (hi : Int) (n : Nat) : It := ⟨fun i _ => i < n, fun i H x H' => H' = H ∧ x = .int (hi - i), fun i _ => n ≤ i⟩
section
variable {X : Cx} {tg : Expr}
noncomputable def iDown (ta : TA) : TI := fun σ H R => ta σ H fun vs H1 => ∃ i j : Int, vs = [.int i, .int j, .int (-1)] ∧ (-(2 ^ 30) ≤ i ∧ i < 2 ^ 30 ∧ -(2 ^ 30) ≤ j ∧ j < 2 ^ 30) ∧ R (Itd i (i - j).toNat) H1
end
end L2
namespace L2
open PySem PySem.Spec PyProof.Rows
theorem comp_ev {K : PySem.W.Frag} {tl : TE} {cp : List Nat} {tt : TT} {te : TE} {σ : St} {H : Hp} {Q : VK} (Ps : Addr → Hp → Prop) (hl : ∀ R : VK, (∀ S H', Ps S H' → R (.ref S) H') → tl σ H R) (h : ∀ S H', Ps S H' → tComp (iL K (tC (.ref S))) cp tt te σ H' Q) : tComp (iL K tl) cp tt te σ H Q := hl _ h
end L2
namespace L2
open PySem PySem.Spec PyProof.Rows
end L2
namespace L2
open PySem PySem.Spec PyProof.Rows
section
variable {X : Cx}
noncomputable def deepIn (x y : V) (H : Hp) (R : Bool → Prop) : Prop := ∃ d ds, Dp H x d ∧ Dp H y (.list ds) ∧ PyData.canLayAll0 ds = true ∧ d.canLay0 = true ∧ d.depth ≤ 60 ∧ R (ds.any fun e => PyData.eqv e d)
noncomputable def rInD : R2 := fun x y H Q => match x with
  | .ref a => deepIn (.ref a) y H fun b => Q (.bl b) H
  | x => rInF x y H Q
noncomputable def rNotInD : R2 := fun x y H Q => match x with
  | .ref a => deepIn (.ref a) y H fun b => Q (.bl (!b)) H
  | x => rNotInF x y H Q
section
variable {H : Hp} {Q : VK}
@[simp] theorem rd_inDI {i : Int} {y : V} : rInD (.int i) y H Q = rInF (.int i) y H Q := rfl
@[simp] theorem rd_inDN {y : V} : rInD .non y H Q = rInF .non y H Q := rfl
@[simp] theorem rd_notinDI {i : Int} {y : V} : rNotInD (.int i) y H Q = rNotInF (.int i) y H Q := rfl
@[simp] theorem rd_notinDN {y : V} : rNotInD .non y H Q = rNotInF .non y H Q := rfl
end
end
end L2
namespace L2
open PySem PySem.Spec PyProof.Rows
noncomputable def rowOf (H : Hp) (b : Addr) : List Int := match H b with | some (.lst xs) => xs.map (fun v => match v with | .int i => i | _ => 0) | _ => []
end L2
namespace L2
open PySem PySem.Spec PyProof.Rows
noncomputable def rngZ (i : Int) (n : Nat) : List Int := (List.range n).map fun (k : Nat) => i + (k : Int)
section
variable {X : Cx}
noncomputable def tLRng (ta : TA) : TE := fun σ H Q => ta σ H fun vs H1 => on2 vs fun x y => onI x fun i => onI y fun j => (-(2 ^ 62) ≤ i ∧ i < 2 ^ 62 ∧ -(2 ^ 62) ≤ j ∧ j < 2 ^ 62) ∧ (j - i).toNat ≤ 1000 ∧ new H1 (.lst ((rngZ i (j - i).toNat).map V.int)) Q
@[simp] theorem rd_LRng {ta : TA} {σ : St} {H : Hp} {Q : VK} : tLRng ta σ H Q = ta σ H fun vs H1 => on2 vs fun x y => onI x fun i => onI y fun j => (-(2 ^ 62) ≤ i ∧ i < 2 ^ 62 ∧ -(2 ^ 62) ≤ j ∧ j < 2 ^ 62) ∧ (j - i).toNat ≤ 1000 ∧ new H1 (.lst ((rngZ i (j - i).toNat).map V.int)) Q := rfl
noncomputable def rSumB : List V → Hp → VK → Prop := fun vs H Q => on1 vs fun x => onL H x fun _ xs => ∃ ns : List Int, xs = ns.map V.int ∧ Q (.int ns.sum) H
@[simp] theorem rd_sumB {vs : List V} {H : Hp} {Q : VK} : rSumB vs H Q = on1 vs fun x => onL H x fun _ xs => ∃ ns : List Int, xs = ns.map V.int ∧ Q (.int ns.sum) H := rfl
noncomputable def CDivB (i j : Int) : Prop := 0 < j ∧ j < 2 ^ 2000
noncomputable def ipM : TIp := fun x y H Q => onI x fun i => onI y fun j => CMul i j ∧ Q (.int (i * j)) H
end
end L2
namespace L2
open PySem PySem.Spec PyProof.Rows
noncomputable def CXx (P : Program) (w : World) : CXT := fun outer H s E ev s' => ∃ (e : Addr) (C a0 : Value) (B : Heap) (H' : Hp),
  ev = .ref e ∧ s'.os = s.os ∧ AllBare s'.gens ∧ Heap.FlyingW B outer e C a0 s'.heap ∧ HOk P w H' B ∧ H' e = none ∧
  (∀ b o, s.heap.get? b = some o → H b = none → b ∉ frs outer → B.get? b = some o) ∧ (∀ b o, s.heap.get? b = some o → b ∉ frs outer → ∃ o', B.get? b = some o') ∧ Un (frs outer) [] H H' s.heap s'.heap ∧ E C none H'
abbrev veTail : List Value := [.type "ValueError", .type "Exception", .type "BaseException", .type "object"]
section
variable {P : Program} {w : World} {K : PySem.W.Frag} {mg : Str → Option Value} {base : Heap}
noncomputable def tRaise (E : XK) (C : Addr) : TS := fun _ _ H => E (.ref C) none H
end
end L2
namespace L2
open PySem PySem.Spec PyProof.Rows
section
variable {P : Program} {w : World} {K : PySem.W.Frag} {mg : Str → Option Value} {base : Heap}
theorem Fun.okX {x qual : Str} {st : Stmt} {f : Addr} {fd : FuncData} {N ps : List Str} {k : Nat} {sp : Sp} (F : Fun K x qual st f fd) (S : FnScope N ps (defScope st)) (len : ∀ vs H Q E, sp vs H Q E → vs.length = ps.length)
    (hbody : ∀ (cdv : Value) (A : Around) (outer : List Env) (s : Shared) (H : Hp) (vs : List V) (Q : VK) (E : XK), Room k (A.deeper (envOfC qual (defScope st) s.heap.objs.size f cdv)) → sp vs H Q E →
      ∃ t, PSs (cxOf (CXx P w) P w K mg base N qual (defScope st) f cdv A outer s H E) (defBody st) t ∧ t { nx := fun _ H' => Q .non H', rt := Q } (start N vs) H) : FnOk P w K mg base (CXx P w) (k + 1) f fd ps sp := by
  obtain ⟨oc, od, kV, doc, pm, an, cdv, ct, osl, rfl, lk, hcd⟩ := F.ex
  exact fn_of lk hcd S len fun A outer s H vs Q E hr hsp => hbody cdv A outer s H vs Q E hr hsp
structure CalX (P : Program) (w : World) (K : PySem.W.Frag) (mg : Str → Option Value) (base : Heap) (k : Nat) (x : Str) (ps : List Str) (sp : Sp) : Prop where
  ex : ∃ (f : Addr) (fd : FuncData), FnOk P w K mg base (CXx P w) k f fd ps sp ∧ mg x = some (.ref f) ∧ PySem.W.keepIn K (.ref f) = true ∧ Binds K fd ps []
end
section
variable {X : Cx}
noncomputable def hasIn (K : PySem.W.Frag) (C : Addr) (v : Value) : Bool := match K.lookup C with
  | some ⟨_, _, .cls cd, _⟩ => cd.mro.contains v
  | _ => false
noncomputable def ExcAt (e : Addr) (C : Value) : Heap → Prop := fun h => ∃ o, h.get? e = some o ∧ o.cls = C
structure Own (K : PySem.W.Frag) (mg : Str → Option Value) (x : Str) (C : Addr) : Prop where
  mg : mg x = some (.ref C)
  exc : PySem.W.excIn K C veTail "ValueError.__new__" = true
end
end L2
namespace L2
open PySem PySem.Spec PyProof.Rows
section
variable {X : Cx} {pins : List (Addr × Obj)} {σ : St} {H : Hp} {s : Shared}
noncomputable abbrev Cx.hand (X : Cx) (e : Addr) (oe : Obj) : Cx := { X with A := X.A.mark (some (.ref e)), calm := false, xe := fun _ _ => False, pn := (e, oe) :: X.pn }
theorem Cx.Ok.hand {e : Addr} {oe : Obj} (k : X.Ok) : (X.hand e oe).Ok :=
  ⟨k.mod, k.kind, k.glob, k.blt, k.above, k.inj, k.has, k.cab, (fun z => nomatch z), k.frames, k.stk, k.exf, k.bs, k.bsz, k.noex, k.exfs, k.funs, k.frf⟩
theorem Cx.Ok.unhand {e : Addr} {oe : Obj} (k : (X.hand e oe).Ok) (hc : X.calm = true → X.A.handled = none) : X.Ok :=
  ⟨k.mod, k.kind, k.glob, k.blt, k.above, k.inj, k.has, k.cab, hc, k.frames, k.stk, k.exf, k.bs, k.bsz, k.noex, k.exfs, k.funs, k.frf⟩
theorem Inv.hand {e : Addr} {oe : Obj} (I : Inv X pins σ H s) (he : s.heap.get? e = some oe) (hH : H e = none) (h1 : e ≠ X.env.locals) (h2 : e ∉ X.fs) (h3 : ∀ v, oe.data ≠ .cell v) : Inv (X.hand e oe) pins σ H s :=
  ⟨I.ok.hand, I.os, I.bare, I.base, I.loc, I.cell, I.free, I.freeC, fun p hp => by
    rcases List.mem_cons.mp hp with rfl | hp
    · exact ⟨he, hH, h1, h2, h3⟩
    · exact I.pin p hp, I.hok, I.len⟩
theorem Inv.unhand {e : Addr} {oe : Obj} (I : Inv (X.hand e oe) pins σ H s) (hc : X.calm = true → X.A.handled = none) : Inv X pins σ H s :=
  ⟨I.ok.unhand hc, I.os, I.bare, I.base, I.loc, I.cell, I.free, I.freeC, fun p hp => I.pin p (List.mem_cons_of_mem _ hp), I.hok, I.len⟩
end
end L2
namespace L2
open PySem PySem.Spec PyProof.Rows
section
variable {X : Cx}
noncomputable def tTryA (K : PySem.W.Frag) (D : Addr) (sp : Sp) (i ie : Nat) (ta : TA) (th : Addr → Addr → TS) : TS := fun Dn σ H => ta σ H fun vs H1 => sp vs H1 (fun v H2 => Dn.nx (σ.set i (some v)) H2) (fun Cv _ H2 => ∃ C : Addr, Cv = .ref C ∧ PySem.W.excIn K C veTail "ValueError.__new__" = true ∧ hasIn K C (.ref D) = true ∧
  ∀ e, H2 e = none → th e C { nx := fun σ' H' => Dn.nx (σ'.set ie none) H', rt := Dn.rt, bk := fun σ' H' => Dn.bk (σ'.set ie none) H', ct := fun σ' H' => Dn.ct (σ'.set ie none) H' } (σ.set ie (some (.ref e))) H2)
end
end L2
namespace L2
open PySem PySem.Spec PyProof.Rows PySem.W
section
variable {X : Cx}
noncomputable def rIsiX (K : Frag) (e C : Addr) : List V → Hp → VK → Prop := fun vs H Q => on2 vs fun x y => x = .ref e ∧ match y with
  | .ref D => kitOne K (.ref C) (.ref D) = some true ∧ Q (.bl true) H
  | .ty T => kitOne K (.ref C) (.type T) = some true ∧ Q (.bl true) H
  | _ => False
end
end L2
namespace L2
open PySem PySem.Spec PyProof.Rows
end L2
namespace L2
open PySem PySem.Spec PySem.Calls PyProof.Rows PySem.W PySem.Builtin PySem.Builtin.ObjectAttr PySem.Builtin.Getset_descriptor
structure ExK (K : Frag) (C : Addr) : Prop where
  ga : findIn K (.ref C) "__getattribute__" = some (some (.builtin "BaseException.__getattribute__"))
  gh : findIn K (.ref C) "__getattr__" = some none
  ha : findIn K (.ref C) "__class__" = some (some (.builtin "object.__class__"))
  hn : specialIn K (.builtin "object.__class__") "__get__" = some (some (.builtin "getset_descriptor.__get__"))
  ht : takesIn K (.builtin "object.__class__") = some true
  ho : mroIn K C (.type "object") = some true
  hb : mroIn K C (.type "BaseException") = some true
section
variable {prog : Program} {w : World} {A : Around} {E : Value → Shared → Prop} {s : Shared} {K : Frag} {e C : Addr}
end
section
variable {X : Cx}
noncomputable def rIsiY (K : Frag) (e C : Addr) : List V → Hp → VK → Prop := fun vs H Q => on2 vs fun x y => x = .ref e ∧ match y with
  | .ref D => ∃ b, kitOne K (.ref C) (.ref D) = some b ∧ Q (.bl b) H
  | .ty T => ∃ b, kitOne K (.ref C) (.type T) = some b ∧ Q (.bl b) H
  | _ => False
end
end L2
namespace L2
open PySem PySem.Spec PyProof.Rows
section
variable {X : Cx}
noncomputable abbrev TX := (St → Hp → Prop) → XK → St → Hp → Prop
noncomputable def PX (X : Cx) (bs : List Stmt) (tb : TX) : Prop := ∀ (pins : List (Addr × Obj)) (s : Shared) (σ : St) (H : Hp) (N : St → Hp → Prop) (E : XK), Inv X pins σ H s → tb N E σ H →
  wpAny (model X.prog X.w) X.A (execs bs X.env) (fun f s' => f = .next ∧ ∃ σ' H', Inv X pins σ' H' s' ∧ N σ' H') (fun ev s' => ∃ H1 s1, Inv X pins σ H1 s1 ∧ CXx X.prog X.w X.stack H1 s1 E ev s') s
noncomputable def xAsg (sp : Sp) (i : Nat) (ta : TA) : TX := fun N E σ H => ta σ H fun vs H1 => sp vs H1 (fun v H2 => N (σ.set i (some v)) H2) E
noncomputable def xDrop (sp : Sp) (ta : TA) : TX := fun N E σ H => ta σ H fun vs H1 => sp vs H1 (fun _ H2 => N σ H2) E
noncomputable def xIf (tc : TT) (a b : TX) : TX := fun N E σ H => tc σ H fun d H1 => if d = true then a N E σ H1 else b N E σ H1
noncomputable def tTry (K : PySem.W.Frag) (D : Addr) (ie : Nat) (tb : TX) (th : Addr → Addr → TS) : TS := fun Dn σ H => tb Dn.nx (fun Cv _ H2 => ∃ C : Addr, Cv = .ref C ∧ PySem.W.excIn K C veTail "ValueError.__new__" = true ∧ hasIn K C (.ref D) = true ∧ ExK K C ∧
  ∀ e, H2 e = none → th e C { nx := fun σ' H' => Dn.nx (σ'.set ie none) H', rt := Dn.rt, bk := fun σ' H' => Dn.bk (σ'.set ie none) H', ct := fun σ' H' => Dn.ct (σ'.set ie none) H' } (σ.set ie (some (.ref e))) H2) σ H
end
end L2
namespace L2
open PySem PySem.Spec PyProof.Rows RS
noncomputable def leS (a b : V) : Bool := match b with
  | .non => decide (a = .non)
  | .int n => match a with | .int m => decide (m < n) | _ => true
  | _ => false
structure GoodP (X : List (List V)) : Prop where
  pos : ∀ r ∈ X, r ≠ []
  dec : ∀ i r s, X[i]? = some r → X[i + 1]? = some s → s.length ≤ r.length
  row : ∀ r ∈ X, r.Pairwise (fun a b => leS a b = true)
  col : ∀ i i' j a b, i < i' → cellV X i j = some a → cellV X i' j = some b → leS a b = true
  nd : (X.map intsOf).flatten.Nodup
noncomputable def aboveV (X : List (List V)) (i j : Nat) : List V := (X.take i).map fun r => r.getD j .non
noncomputable def seenV (X : List (List V)) (i : Nat) (l : List V) : List Int := ((X.take i).map intsOf).flatten ++ intsOf l
noncomputable def okCell (seen : List Int) (left above : List V) (v : V) : Bool := match v with
  | .non => (left ++ above).all fun u => decide (u = .non)
  | .int n => !decide (n ∈ seen) && (intsOf (left ++ above)).all fun m => decide (m < n)
  | _ => false
noncomputable def okHead (X : List (List V)) (i : Nat) (r : List V) : Bool := !decide (r.length = 0) && (decide (i = 0) || decide (r.length ≤ (X.getD (i - 1) []).length))
noncomputable def okRow (X : List (List V)) (i : Nat) (r : List V) : Bool := okHead X i r && (List.range r.length).all fun j => okCell (seenV X i (r.take j)) (r.take j) (aboveV X i j) (r.getD j .non)
noncomputable def goodB (X : List (List V)) : Bool := (List.range X.length).all fun i => okRow X i (X.getD i [])
end L2
namespace L2
open PySem PySem.Spec PyProof.Rows RS
noncomputable def rowQ (xs : List V) : PyData := .list (xs.map leafP)
end L2
namespace L2
open PySem PySem.Spec PyProof.Rows
section
variable {X : Cx}
noncomputable def onT (x : V) (F : Str → Prop) : Prop := match x with | .str z => F z | _ => False
@[simp] theorem rd_onT {z : Str} {F : Str → Prop} : onT (.str z) F = F z := rfl
theorem onT.out {x : V} {F : Str → Prop} (h : onT x F) : ∃ z, x = .str z ∧ F z := by
  cases x with
  | str z => exact ⟨z, rfl, h⟩
  | _ => exact h.elim
noncomputable def tMS (r : V → List V → Hp → VK → Prop) (to : TE) (t : TA) : TE := fun σ H Q => to σ H fun x H1 => onT x fun _ => t σ H1 fun vs H2 => r x vs H2 Q
@[simp] theorem rd_ms {r : V → List V → Hp → VK → Prop} {to : TE} {t : TA} {σ : St} {H : Hp} {Q : VK} : tMS r to t σ H Q = to σ H fun x H1 => onT x fun _ => t σ H1 fun vs H2 => r x vs H2 Q := rfl
theorem pe_ms {o e : Expr} {es : List Expr} {to : TE} {t : TA} {name : Str} {apos cpos : Pos} {id : String} {r : V → List V → Hp → VK → Prop}
    (slot : Slot "str" name id) (hty : typeOf (.builtin id) = pure (.type "method_descriptor")) (hm : MtR X id r) (ho : PE X o to) (ha : PA X (e :: es) t)
    (hbase : attributeBase o name X.env (eval o X.env) = eval o X.env := by rfl)
    (hfew : ((backTo cpos (starEach (e :: es) X.env)).all (fun x => !x.1) && (backToKw cpos (keywordEach [] X.env)).all (fun x => x.1.isSome)
      && decide ((e :: es).length + ([] : List Keyword).length + (if ([] : List Keyword).isEmpty then 0 else 1) < 30)) = true := by rfl)
    (hline : (apos.endLine == cpos.line) = true := by rfl) (hs : starEach (e :: es) X.env = (false, eval e X.env) :: starEach es X.env := by rfl) (hplain : (backTo cpos (starEach es X.env)).any (·.1) = false := by rfl) :
    PE X (.Call (.Attribute o name apos) (e :: es) [] cpos) (tMS r to t) := by
  intro pins s σ H Q I h
  refine wpAny_Call_method_late hbase hfew hline rfl (thn (ho pins s σ H _ I h) fun v s1 ⟨x, H1, I1, r1, q1⟩ => ?_)
  obtain ⟨z, rfl, q1⟩ := onT.out q1
  obtain ⟨h1, h2⟩ := tyV_is (T := "str") I1 r1 rfl
  refine ⟨"str", id, PySem.F.plainAttrs_str, slot, hty, h1, h2, ?_⟩
  have hA := ha cpos pins s1 σ H1 _ I1 q1
  rw [hs] at hA ⊢
  refine Calls.callWith_builtin (by show (false || (backTo cpos (starEach es X.env)).any (·.1)) = false; rw [hplain] <;> rfl) (Calls.evalArgs_plain ?_)
  exact thn hA fun us s2 ⟨vs, H2, I2, r2, q2⟩ => hm pins s2 σ H2 _ vs v us Q I2 r1 r2 q2
theorem strs_of_vals : ∀ {ws : List Str} {us : List Value}, Vals (ws.map V.str) us → StrsAre us ws
  | [], _, .nil => .nil
  | n :: ns, _, .cons r t => by
    obtain ⟨k, rfl⟩ := r
    exact .cons n k (strs_of_vals t)
theorem vals_of_strs : ∀ {ws : List Str} {us : List Value}, StrsAre us ws → Vals (ws.map V.str) us
  | _, _, .nil => .nil
  | _, _, .cons y t r => .cons ⟨t, rfl⟩ (vals_of_strs r)
noncomputable def rJoin : V → List V → Hp → VK → Prop := fun x vs H Q => onT x fun sep => on1 vs fun y => onL H y fun _ xs => ∃ ws : List Str, xs = ws.map V.str ∧ (ws.map (·.length)).sum + ws.length * sep.length ≤ 16777216 ∧ Q (.str (Txt.join sep ws)) H
theorem f_join : MtR X "str.join" rJoin := by
  intro pins s σ H x vs v us Q I rx rv h
  obtain ⟨sep, rfl, h1⟩ := onT.out h
  obtain ⟨y, rfl, h2⟩ := on1.out h1
  obtain ⟨l, xs, rfl, hH, ws, rfl, hz, q⟩ := onL.out h2
  obtain ⟨t, rfl⟩ := rx
  obtain ⟨u, rfl, ru⟩ := rv.one
  cases ru
  obtain ⟨its, r', pl, hz'⟩ := I.list (SqL.of hH)
  exact join_list pl.isList (strs_of_vals r') hz fun t' k => ⟨.str _, H, I.tok _, ⟨_, rfl⟩, q⟩
noncomputable def rSplit : V → List V → Hp → VK → Prop := fun x vs H Q => onT x fun a => on1 vs fun y => onT y fun b => (b.length == 0) = false ∧ a.length ≤ 1000000 ∧ (Txt.split a b).length ≤ 1000000 ∧ new H (.lst ((Txt.split a b).map V.str)) Q
theorem split_at {prog : Program} {w : World} {A : Around} {E : Value → Shared → Prop} {s : Shared} {x y : Str} {t u : Tok} {Q : Value → Shared → Prop} (hy : (y.length == 0) = false) (hx : x.length ≤ 1000000) (hn : (Txt.split x y).length ≤ 1000000)
    (h : ∀ (l : List (Str × Tok)) (k : Nat), l.map (·.1) = Txt.split x y → Q (.ref s.heap.objs.size) { s with heap := s.heap.push { cls := .type "list", data := .seq (strValues l).toArray }, toks := k }) :
    wpAny (model prog w) A (call (.builtin "str.split") [.str x t, .str y u]) Q E s := by
  have hs : sizeLine = 16777216 := sizeLine_eq
  cases h1 : (decide (x.length < y.length) || decide (Builtin.Str.strKind x < Builtin.Str.strKind y))
  · cases hf : (Builtin.Str.occurrences x y 0 x.length (x.length + 1)).isEmpty
    · have e : Txt.split x y = Builtin.Str.partsBetween x (Builtin.Str.occurrences x y 0 x.length (x.length + 1)) y.length := by
        unfold Txt.split
        rw [h1, hf]; rfl
      refine call_meets PySem.F.slot_str_split (typeIs_str _ _ _) PySem.F.entry_str_split (PySem.F.args_str_split_2 _ _) (meets_str_split_sep x y t u h1 hy hf (by trivial) (by rw [← e]; trivial)) ?_
      rw [strsFrom_eq]
      exact h (numbered s.toks _) _ ((numbered_texts _ _).trans e.symm)
    · have e : Txt.split x y = [x] := by
        unfold Txt.split
        rw [h1, hf]; rfl
      exact call_meets PySem.F.slot_str_split (typeIs_str _ _ _) PySem.F.entry_str_split (PySem.F.args_str_split_2 _ _) (meets_str_split_not_found x y t u h1 hy hf) (h [(x, t)] _ e.symm)
  · have e : Txt.split x y = [x] := by
      unfold Txt.split
      rw [h1]; rfl
    exact call_meets PySem.F.slot_str_split (typeIs_str _ _ _) PySem.F.entry_str_split (PySem.F.args_str_split_2 _ _) (meets_str_split_cannot_occur x y t u h1) (h [(x, t)] _ e.symm)
theorem f_split : MtR X "str.split" rSplit := by
  intro pins s σ H x vs v us Q I rx rv h
  obtain ⟨a, rfl, h1⟩ := onT.out h
  obtain ⟨y, rfl, h2⟩ := on1.out h1
  obtain ⟨b, rfl, hb, ha, hn, q⟩ := onT.out h2
  obtain ⟨t, rfl⟩ := rx
  obtain ⟨u, rfl, ru⟩ := rv.one
  obtain ⟨t2, rfl⟩ := ru
  have hs : sizeLine = 16777216 := sizeLine_eq
  refine split_at hb ha hn fun l k e => ?_
  have vl : Vals ((Txt.split a b).map V.str) (strValues l) := by
    rw [← e]
    exact vals_of_strs (strsAre_of_values l)
  exact ⟨.ref s.heap.objs.size, _, I.laid (t' := k) (fun c o ho => Heap.get?_push_of_some _ ho) (Nat.le_refl _) (show ObjOk X.prog X.w _ _ _ (.lst ((Txt.split a b).map V.str)) from ⟨by rw [List.length_map]; trivial, _, _, vl, Heap.get?_push_size _ rfl⟩), rfl, q _ (I.hok.fresh (Nat.le_refl _))⟩
noncomputable def rStrI : List V → Hp → VK → Prop := fun vs H Q => on1 vs fun x => onI x fun i => i.natAbs.log2 < 1920 ∧ Q (.str (toString i)) H
theorem f_strI : CallR X (.type "str") rStrI := call_str_int.imp fun vs H Q h => by
  obtain ⟨x, rfl, h1⟩ := on1.out h
  obtain ⟨i, rfl, hz, q⟩ := onI.out h1
  exact ⟨i, rfl, hz, q⟩
noncomputable def rIntT : List V → Hp → VK → Prop := fun vs H Q => on1 vs fun x => onT x fun z => ∃ n, PySem.intText? z = some n ∧ z.length ≤ 640 ∧ Q (.int n) H
theorem f_intT : CallR X (.type "int") rIntT := by
  intro pins s σ H xs us Q I r h
  obtain ⟨x, rfl, h1⟩ := on1.out h
  obtain ⟨z, rfl, n, hn, hl, q⟩ := onT.out h1
  obtain ⟨u, rfl, t, rfl⟩ := vals1 r
  exact PySem.W.KIN.call_text hn hl ⟨.int n, H, I.tok _, ⟨_, rfl⟩, q⟩
@[simp] theorem rd_strI {vs : List V} {H : Hp} {Q : VK} : rStrI vs H Q = on1 vs fun x => onI x fun i => i.natAbs.log2 < 1920 ∧ Q (.str (toString i)) H := rfl
@[simp] theorem rd_intT {vs : List V} {H : Hp} {Q : VK} : rIntT vs H Q = on1 vs fun x => onT x fun z => ∃ n, PySem.intText? z = some n ∧ z.length ≤ 640 ∧ Q (.int n) H := rfl
@[simp] theorem rd_join {x : V} {vs : List V} {H : Hp} {Q : VK} : rJoin x vs H Q = onT x fun sep => on1 vs fun y => onL H y fun _ xs => ∃ ws : List Str, xs = ws.map V.str ∧ (ws.map (·.length)).sum + ws.length * sep.length ≤ 16777216 ∧ Q (.str (Txt.join sep ws)) H := rfl
@[simp] theorem rd_split {x : V} {vs : List V} {H : Hp} {Q : VK} : rSplit x vs H Q = onT x fun a => on1 vs fun y => onT y fun b => (b.length == 0) = false ∧ a.length ≤ 1000000 ∧ (Txt.split a b).length ≤ 1000000 ∧ new H (.lst ((Txt.split a b).map V.str)) Q := rfl
noncomputable def rPlusT : R2 := fun x y H Q => onT x fun i => onT y fun j => i.length + j.length ≤ sizeLine ∧ Q (.str (i ++ j)) H
theorem f_addT : OpR X (binaryOp .Add) rPlusT := op_add_str.imp fun x y H Q h => by
  obtain ⟨i, rfl, h1⟩ := onT.out h
  obtain ⟨j, rfl, hz, q⟩ := onT.out h1
  exact ⟨i, j, rfl, rfl, hz, q⟩
@[simp] theorem rd_plusT {x y : V} {H : Hp} {Q : VK} : rPlusT x y H Q = onT x fun i => onT y fun j => i.length + j.length ≤ sizeLine ∧ Q (.str (i ++ j)) H := rfl
end
end L2
namespace L2
open PySem PySem.Spec PyProof.Rows
noncomputable def glu (c : Nat) : List (List Nat) → List Nat
  | [] => []
  | [a] => a
  | a :: b :: r => a ++ c :: glu c (b :: r)
theorem glu_cons (c : Nat) (a : List Nat) {r : List (List Nat)} (h : r ≠ []) : glu c (a :: r) = a ++ c :: glu c r := by
  cases r with
  | nil => exact absurd rfl h
  | cons b r => rfl
theorem free_cut {c : Nat} : ∀ {a b x y : List Nat}, c ∉ a → c ∉ b → a ++ c :: x = b ++ c :: y → a = b ∧ x = y
  | [], [], x, y, _, _, h => by simpa using h
  | [], e :: b, x, y, _, hb, h => by
    simp at h
    exact absurd (by rw [h.1]; exact List.mem_cons_self) hb
  | e :: a, [], x, y, ha, _, h => by
    simp at h
    exact absurd (by rw [h.1]; exact List.mem_cons_self) ha
  | e :: a, f :: b, x, y, ha, hb, h => by
    simp only [List.cons_append, List.cons.injEq] at h
    obtain ⟨h1, h2⟩ := h
    obtain ⟨h3, h4⟩ := free_cut (fun z => ha (List.mem_cons_of_mem _ z)) (fun z => hb (List.mem_cons_of_mem _ z)) h2
    exact ⟨by rw [h1, h3], h4⟩
theorem glu_inj {c : Nat} : ∀ {A B : List (List Nat)}, A ≠ [] → B ≠ [] → (∀ a ∈ A, c ∉ a) → (∀ b ∈ B, c ∉ b) → glu c A = glu c B → A = B
  | [], _, h, _, _, _, _ => absurd rfl h
  | _, [], _, h, _, _, _ => absurd rfl h
  | [a], [b], _, _, _, _, h => by have : a = b := h; rw [this]
  | [a], b :: d :: B, _, _, hA, hB, h => by
    rw [glu_cons c b (by simp)] at h
    have h : a = b ++ c :: glu c (d :: B) := h
    exact absurd (by rw [h]; simp) (hA a List.mem_cons_self)
  | a :: d :: A, [b], _, _, hA, hB, h => by
    rw [glu_cons c a (by simp)] at h
    have h : a ++ c :: glu c (d :: A) = b := h
    exact absurd (by rw [← h]; simp) (hB b List.mem_cons_self)
  | a :: d :: A, b :: e :: B, _, _, hA, hB, h => by
    rw [glu_cons c a (by simp), glu_cons c b (by simp)] at h
    obtain ⟨h1, h2⟩ := free_cut (hA a List.mem_cons_self) (hB b List.mem_cons_self) h
    rw [h1, glu_inj (by simp) (by simp) (fun x hx => hA x (List.mem_cons_of_mem _ hx)) (fun x hx => hB x (List.mem_cons_of_mem _ hx)) h2]
theorem str_app (x y : Str) : (x ++ y).cps.toList = x.cps.toList ++ y.cps.toList := by
  show (x.cps ++ y.cps).toList = _
  simp
theorem join_list_of (c : Nat) : ∀ ws : List Str, (Str.join ⟨#[c]⟩ ws).cps.toList = glu c (ws.map fun w => w.cps.toList)
  | [] => rfl
  | [x] => rfl
  | x :: y :: r => by
    have ih := join_list_of c (y :: r)
    show ((x ++ ⟨#[c]⟩) ++ Str.join ⟨#[c]⟩ (y :: r)).cps.toList = _
    rw [str_app, str_app, ih]
    show _ = x.cps.toList ++ c :: glu c ((y :: r).map fun w => w.cps.toList)
    simp
theorem toList_inj {x y : Str} (h : x.cps.toList = y.cps.toList) : x = y := Str.ext' (Array.toList_inj.mp h)
theorem map_inj : ∀ {A B : List Str}, (A.map fun w => w.cps.toList) = (B.map fun w => w.cps.toList) → A = B
  | [], [], _ => rfl
  | [], _ :: _, h => by simp at h
  | _ :: _, [], h => by simp at h
  | a :: A, b :: B, h => by
    simp only [List.map_cons, List.cons.injEq] at h
    rw [toList_inj h.1, map_inj h.2]
theorem split_ne (x y : Str) : Txt.split x y ≠ [] := by
  intro h
  unfold Txt.split at h
  split at h
  · cases h
  · split at h
    · cases h
    · unfold Builtin.Str.partsBetween at h
      simp at h
theorem split_join {c : Nat} {ws : List Str} (hne : ws ≠ []) (hf : ∀ w ∈ ws, c ∉ w.cps.toList) : Txt.split (Txt.join ⟨#[c]⟩ ws) ⟨#[c]⟩ = ws := by
  have e1 := StrLaws.join_split (Txt.join ⟨#[c]⟩ ws) ⟨#[c]⟩
  have e2 : Txt.join ⟨#[c]⟩ ws = Str.join ⟨#[c]⟩ ws := StrLaws.glued_eq_join _ ws
  have e3 : (Str.join ⟨#[c]⟩ (Txt.split (Txt.join ⟨#[c]⟩ ws) ⟨#[c]⟩)).cps.toList = (Txt.join ⟨#[c]⟩ ws).cps.toList := by rw [e1]
  rw [e2] at e3 ⊢
  rw [join_list_of, join_list_of] at e3
  have nn := split_ne (Str.join ⟨#[c]⟩ ws) ⟨#[c]⟩
  have fr := StrLaws.split_free (Str.join ⟨#[c]⟩ ws) c
  generalize Txt.split (Str.join ⟨#[c]⟩ ws) ⟨#[c]⟩ = ps at *
  refine map_inj (glu_inj (by simpa using nn) (by simpa using hne) (fun a ha => ?_) (fun b hb => ?_) e3)
  · obtain ⟨p, hp, rfl⟩ := List.mem_map.mp ha
    exact fr p hp
  · obtain ⟨p, hp, rfl⟩ := List.mem_map.mp hb
    exact hf p hp
theorem dig_len : ∀ (k m : Nat), m < 10 ^ (k + 1) → (Nat.toDigits 10 m).length ≤ k + 1
  | 0, m, h => by
    rw [Nat.toDigits_of_lt_base (by simpa using h)]; simp
  | k + 1, m, h => by
    by_cases hm : m < 10
    · rw [Nat.toDigits_of_lt_base hm]; simp
    · have hq : m % 10 < 10 := Nat.mod_lt m (by decide)
      have t : Nat.toDigits 10 (m / 10) ++ Nat.toDigits 10 (m % 10) = Nat.toDigits 10 (10 * (m / 10) + m % 10) := Nat.toDigits_append_toDigits (by decide) (by trivial) hq
      rw [Nat.div_add_mod] at t
      have hd : m / 10 < 10 ^ (k + 1) := by
        rw [Nat.pow_succ] at h
        exact Nat.div_lt_of_lt_mul (by rw [Nat.mul_comm]; exact h)
      have ih := dig_len k (m / 10) hd
      rw [← t, List.length_append, Nat.toDigits_of_lt_base hq]
      simp
      trivial
theorem num_all (m : Nat) : PySem.NumText.AllDigits ((Nat.toDigits 10 m).map Char.toNat) := by
  intro c hc
  obtain ⟨ch, hch, e⟩ := List.mem_map.mp hc
  have r := digit_range (Nat.isDigit_of_mem_toDigits (by decide) (by decide) hch)
  rw [← e]
  exact r
theorem num_ne (m : Nat) : (Nat.toDigits 10 m).map Char.toNat ≠ [] := by
  intro e
  have h := toDigits_len_ge 10 m
  rw [List.map_eq_nil_iff.mp e] at h
  exact absurd h (by decide)
theorem signs_neg (m : Nat) : (Str.ofString (toString (Int.negSucc m))).cps.toList = 45 :: (Nat.toDigits 10 (m + 1)).map Char.toNat := by
  rw [signs_ofString]
  have e : toString (Int.negSucc m) = "-" ++ Nat.repr (m + 1) := rfl
  rw [e, String.toList_append, List.map_append, Nat.toList_repr]
  rfl
theorem num_text {n : Int} (h : n.natAbs < 10 ^ 40) : PySem.intText? (Str.ofString (toString n)) = some n ∧ (Str.ofString (toString n)).length ≤ 41 := by
  have len : ∀ x : Str, x.length = x.cps.toList.length := fun x => by simp [Str.length]
  cases n with
  | ofNat m =>
    have hm : m < 10 ^ (39 + 1) := by simpa using h
    have hl : (Str.ofString (toString (Int.ofNat m))).length ≤ 40 := by
      rw [len, show (Int.ofNat m) = ((m : Nat) : Int) from rfl, PySem.W.KIN.signs_num, List.length_map]
      exact dig_len 39 m hm
    refine ⟨?_, by trivial⟩
    have e := intText_digits (x := Str.ofString (toString (Int.ofNat m))) (by rw [show (Int.ofNat m) = ((m : Nat) : Int) from rfl, PySem.W.KIN.signs_num]; exact num_all m) (by rw [show (Int.ofNat m) = ((m : Nat) : Int) from rfl, PySem.W.KIN.signs_num]; exact num_ne m) (by trivial)
    rw [e, show (Int.ofNat m) = ((m : Nat) : Int) from rfl, PySem.W.KIN.signs_num, PySem.W.KIN.val_back]
  | negSucc m =>
    have hm : m + 1 < 10 ^ (39 + 1) := by simpa [Int.natAbs] using h
    have hl : (Str.ofString (toString (Int.negSucc m))).length ≤ 41 := by
      rw [len, signs_neg, List.length_cons, List.length_map]
      have := dig_len 39 (m + 1) hm
      trivial
    refine ⟨?_, hl⟩
    rw [intText_neg (signs_neg m) (num_all (m + 1)) (num_ne (m + 1)) (by trivial), PySem.W.KIN.val_back]
    rfl
theorem num_free {k : Nat} (hk : k ≠ 45 ∧ (k < 48 ∨ 57 < k)) (n : Int) : k ∉ (Str.ofString (toString n)).cps.toList := int_text_free' k hk n
theorem num_log {n : Int} (h : n.natAbs < 10 ^ 40) : n.natAbs.log2 < 1920 := by
  by_cases h0 : n.natAbs = 0
  · rw [h0]; decide
  · rw [Nat.log2_lt h0]
    exact Nat.lt_trans h (by decide)
end L2
namespace L2
open PySem PySem.Spec PyProof.Rows
section
variable {X : Cx}
noncomputable def xPe (te : TE) (i : Nat) : TX := fun N _ σ H => te σ H fun v H1 => N (σ.set i (some v)) H1
theorem px_pe {i : Nat} {x : Str} {p1 p4 : Pos} {e : Expr} {te : TE} (hxe : ∀ v s, ¬ X.xe v s) (hN : X.N.Nodup) (hi : X.N[i]? = some x) (hx : Loc X.env.scope x) (he : PE X e te)
    (hf : X.fn x = true ∨ X.env.scope.names.lookup x = some .local := by first | exact .inl rfl | exact .inr rfl | assumption) (hsw : swapsWith e (some (.Name x p1)) p4.line X.env = pure false := by rfl) :
    PX X [.Assign [.Name x p1] e p4] (xPe te i) := by
  intro pins s σ H N E I h
  refine wpAny_execs_cons (wpAny_Assign_Name (wpAny_mono (he pins s σ H _ I h) (fun v s1 ⟨y, H1, I1, r1, q1⟩ => ?_) (fun ev s' z => (hxe _ _ z).elim)) hsw)
  refine wpAny_mono (store_ok (Q := fun _ s2 => Inv X pins (σ.set i (some y)) H1 s2) (E := fun _ _ => False) I1 hN hi hx r1 (fun s2 I2 => I2) hf) (fun _ s2 I2 => ?_) (fun _ _ z => z.elim)
  exact wpAny_execs_nil ⟨rfl, _, H1, I2, q1⟩
noncomputable def tTryP (tb : TX) : TS := fun Dn σ H => tb Dn.nx E0 σ H
theorem ps_tryP {bs : List Stmt} {h0 : ExceptHandler} {hs : List ExceptHandler} {p7 : Pos} {tb : TX} (hb : PX X bs tb) : PS X (.Try bs (h0 :: hs) [] [] p7) (tTryP tb) := by
  intro pins s σ H Dn I h
  refine wpAny_Try_except (wpAny_mono (hb pins s σ H _ _ I h) (fun f s1 ⟨e, σ', H', I', q⟩ => ?_) (fun ev s' ⟨H1, s1, I1, cx⟩ => ?_))
  · subst e
    exact wpAny_execs_nil ⟨σ', H', I', q⟩
  · obtain ⟨_, _, _, _, _, _, _, _, _, _, _, _, _, _, z⟩ := cx
    exact z.elim
@[simp] theorem rd_tryP {te : TE} {i : Nat} {Dn : Ends} {σ : St} {H : Hp} : tTryP (xPe te i) Dn σ H = te σ H fun v H1 => Dn.nx (σ.set i (some v)) H1 := rfl
noncomputable def tTruT (t : TE) : TT := fun σ H Q => t σ H fun x H1 => onT x fun z => z.length ≤ sizeLine ∧ Q ((z.length : Int) != 0) H1
theorem pt_truT {a : Expr} {ta : TE} (ha : PE X a ta) (he : ∀ whole, isTrue a X.env whole = (do let v ← whole; standAt a.pos; holding [v] (truthy v))) : PT X a (tTruT ta) := by
  intro pins s σ H Q I h
  refine isTrue_plain (thn (ha pins s σ H _ I h) fun v s1 ⟨x, H1, I1, r1, q1⟩ => tru_ok pins s1 σ H1 x v Q I1 r1 ?_) (he _)
  obtain ⟨z, rfl, hz, q⟩ := onT.out q1
  exact ⟨_, ⟨hz, rfl⟩, q⟩
@[simp] theorem rd_truT {ta : TE} {σ : St} {H : Hp} {Q : Bool → Hp → Prop} : tTruT ta σ H Q = ta σ H fun x H1 => onT x fun z => z.length ≤ sizeLine ∧ Q ((z.length : Int) != 0) H1 := rfl
@[simp] theorem rd_eqS {i j : Str} {H : Hp} {Q : VK} : rEq (.str i) (.str j) H Q = Q (.bl (decide (i = j))) H := by
  show (true = true ∧ Q (.bl (decide (V.str i = V.str j))) H) = _
  simp
@[simp] theorem rd_neS {i j : Str} {H : Hp} {Q : VK} : rNe (.str i) (.str j) H Q = Q (.bl (!decide (i = j))) H := by
  show (true = true ∧ Q (.bl (!decide (V.str i = V.str j))) H) = _
  simp
end
end L2
namespace SR
open PySem
def top (i : Nat) : Stmt := PySem.Challenge.pw_stairrows_k25_written_and_read.main.body.getD i (.Pass ⟨0, 0, 0, 0⟩)
end SR
namespace SR
open PySem L2 RS PySem.Spec PyProof.Rows
section
variable {P : Program} {w : World} {K : PySem.W.Frag} {mg : Str → Option Value} {base : Heap}
noncomputable abbrev s_law_whole : Stmt := top 29
theorem sc_law_whole : FnScope ["found"] ["found"] (defScope s_law_whole) := ⟨rfl, rfl, rfl, by decide +kernel, rfl, by decide +kernel, by decide +kernel⟩
noncomputable def spWhole : Sp := fun vs H Q _ => ∃ i : Int, vs = [.int i] ∧ Q (.bl true) H
theorem ok_whole {f : Addr} {fd : FuncData} (F : Fun K "_law_whole" "_law_whole" s_law_whole f fd) (T : Bl mg) : FnOk P w K mg base CX0 1 f fd ["found"] spWhole := by
  refine F.ok sc_law_whole (fun vs H Q E h => ?_) (fun cdv A outer s H vs Q E hr h => ?_)
  · obtain ⟨i, rfl, _⟩ := h; rfl
  · obtain ⟨i, rfl, q⟩ := h
    refine ⟨_, (pss_one (ps_ret (pe_and (pe_callB f_isi (by rfl) T.isinstance BI.isinstance (pa_cons (pv 0) (pa_cons (pe_ty (by rfl) T.b_int) pa_nil))) (pe_one (pe_not (pe_callB f_isi (by rfl) T.isinstance BI.isinstance (pa_cons (pv 0) (pa_cons (pe_ty (by rfl) T.b_bool) pa_nil)))))))), ?_⟩
    have e0 : start ["found"] [V.int i] = [some (.int i)] := rfl
    rw [e0]
    simp [tyN, isiT, q]
end
end SR
namespace SR
open PySem L2 RS PySem.Spec PyProof.Rows
section
variable {P : Program} {w : World} {K : PySem.W.Frag} {mg : Str → Option Value} {base : Heap}
noncomputable abbrev s_law_drawn : Stmt := top 25
theorem sc_law_drawn : FnScope ["script", "k", "many", "cell", "mixed"] ["script", "k", "many"] (defScope s_law_drawn) := ⟨rfl, rfl, rfl, by decide +kernel, rfl, by decide +kernel, by decide +kernel⟩
noncomputable def spDrawn (K : PySem.W.Frag) : Sp := fun vs H Q _ => ∃ (a : Addr) (ns : List Int) (k m : Int), vs = [.ref a, .int k, .int m] ∧ SqL K H a (ns.map V.int) ∧ ns.length ≤ 63 ∧ 0 ≤ k ∧ k < 1000 ∧ 0 < m ∧ Q (.int (drawnZ ns k m)) H
theorem ok_drawn {f : Addr} {fd : FuncData} (F : Fun K "_law_drawn" "_law_drawn" s_law_drawn f fd) (T : Bl mg) : FnOk P w K mg base CX0 1 f fd ["script", "k", "many"] (spDrawn K) := by
  refine F.ok sc_law_drawn (fun vs H Q E h => ?_) (fun cdv A outer s H vs Q E hr h => ?_)
  · obtain ⟨a, ns, k, m, rfl, _⟩ := h; rfl
  · obtain ⟨a, ns, k, m, rfl, hS, hl, hk0, hk1, hm, q⟩ := h
    refine ⟨_, (pss_cons (ps_set (i := 3) sc_law_drawn.nd rfl (Or.inl rfl) pe_int)
      (pss_cons (ps_if (pt_cmpR f_gt (pe_callB call_len_seq (by rfl) T.len BI.len (pa_cons (pv 0) pa_nil)) pe_int (nomark _)) (pss_one (ps_set (i := 3) sc_law_drawn.nd rfl (Or.inl rfl) (pe_ix ix_list (pv 0) (pe_op f_mod (pv 1) (pe_callB call_len_seq (by rfl) T.len BI.len (pa_cons (pv 0) pa_nil))) (fun _ _ => rfl)))) pss_nil)
      (pss_cons (ps_set (i := 4) sc_law_drawn.nd rfl (Or.inl rfl) (pe_op f_add (pe_op f_add (pe_op f_mulF (pv 3) (pe_op f_add pe_int (pe_op f_mulF pe_int (pe_op f_mod (pv 1) pe_int)))) (pe_op f_mulF (pe_op f_mulF (pe_op f_add (pv 1) pe_int) (pe_op f_add (pv 1) pe_int)) pe_int)) (pe_callB call_len_seq (by rfl) T.len BI.len (pa_cons (pv 0) pa_nil))))
      (pss_one (ps_ret (pe_op f_mod (pe_op f_fdiv (pe_op f_mod (pv 4) pe_int) pe_int) (pv 2))))))), ?_⟩
    have e0 : start ["script", "k", "many", "cell", "mixed"] [V.ref a, V.int k, V.int m] = [some (.ref a), some (.int k), some (.int m), none, none] := rfl
    rw [e0]
    simp
    have c1 : CMul 9973 (k % 97) := .inl ⟨by decide, by decide⟩
    have c2 : ∀ i, CMul i (48271 + 9973 * (k % 97)) := fun i => .inr ⟨by trivial, by trivial⟩
    have c3 : CMul (k + 1) (k + 3) := .inl ⟨by trivial, by trivial⟩
    have c4 : CMul ((k + 1) * (k + 3)) 16807 := .inr ⟨by decide, by decide⟩
    have c5 : ∀ i, CDiv i 16 := fun i => ⟨by decide, by decide⟩
    refine ⟨_, .inl hS, ?_⟩
    by_cases h0 : ns.length = 0
    · rw [if_neg (by simp [h0])]
      refine ⟨c1, c2 7, c3, c4, _, .inl hS, c5 _, hm, ?_⟩
      have e : drawnZ ns k m = (7 * (48271 + 9973 * (k % 97)) + (k + 1) * (k + 3) * 16807 + ((ns.map V.int).length : Int)) % 2147483647 / 16 % m := by
        unfold drawnZ
        rw [if_pos h0, List.length_map]
      rw [← e]
      exact q
    · have hp : 0 < ns.length := by trivial
      rw [if_pos (by rw [List.length_map]; exact hp)]
      have hi0 : 0 ≤ k % (ns.length : Int) := Int.emod_nonneg _ (by trivial)
      have hi1 : k % (ns.length : Int) < ns.length := Int.emod_lt_of_pos _ (by trivial)
      have ex : ns[(k % (ns.length : Int)).toNat]? = some (ns.getD (k % (ns.length : Int)).toNat 0) := by
        have : (k % (ns.length : Int)).toNat < ns.length := by trivial
        rw [List.getD_eq_getElem?_getD, List.getElem?_eq_getElem this]; rfl
      refine ⟨_, .inl hS, by rw [List.length_map]; exact hp, a, _, _, .int (ns.getD (k % (ns.length : Int)).toNat 0), rfl, rfl, hS, by rw [List.length_map]; exact atI_map hi0 ex, c1, c2 _, c3, c4, _, .inl hS, c5 _, hm, ?_⟩
      have e : drawnZ ns k m = (ns.getD (k % (ns.length : Int)).toNat 0 * (48271 + 9973 * (k % 97)) + (k + 1) * (k + 3) * 16807 + ((ns.map V.int).length : Int)) % 2147483647 / 16 % m := by
        unfold drawnZ
        rw [if_neg h0, List.length_map]
      rw [← e]
      exact q
end
end SR
namespace SR
open PySem L2 RS PySem.Spec PyProof.Rows
section
variable {P : Program} {w : World} {K : PySem.W.Frag} {mg : Str → Option Value} {base : Heap}
theorem drawn_step {H : Hp} {a : Addr} {ns : List Int} {k m : Int} {Q : VK} {E : XK} (hS : SqL K H a (ns.map V.int)) (hl : ns.length ≤ 63) (hk0 : 0 ≤ k) (hk1 : k < 1000) (hm : 0 < m) (q : Q (.int (drawnZ ns k m)) H) : spDrawn K [.ref a, .int k, .int m] H Q E := ⟨a, ns, k, m, rfl, hS, hl, hk0, hk1, hm, q⟩
theorem insAt_map {α β : Type} (f : α → β) (i : Nat) (x : α) (l : List α) : (insAt i x l).map f = (l.map f).take i ++ f x :: (l.map f).drop i := by
  unfold insAt
  rw [List.map_append, List.map_cons, List.map_take, List.map_drop]
noncomputable abbrev s_law_row_by : Stmt := top 26
theorem sc_law_row_by : FnScope ["script", "bound", "many", "number", "great", "order", "numbers", "k"] ["script", "bound"] (defScope s_law_row_by) := ⟨rfl, rfl, rfl, by decide +kernel, rfl, by decide +kernel, by decide +kernel⟩
noncomputable def spRowBy (K : PySem.W.Frag) : Sp := fun vs H Q _ => ∃ (a : Addr) (ns : List Int) (b : Int), vs = [.ref a, .int b] ∧ SqL K H a (ns.map V.int) ∧ ns.length ≤ 63 ∧ 0 ≤ b ∧ b ≤ 40 ∧
  ∀ r H', Same H H' → H r = none → H' r = some (.lst ((rowZ ns b).map V.int)) → Q (.ref r) H'
theorem ok_row_by {f : Addr} {fd : FuncData} (F : Fun K "_law_row_by" "_law_row_by" s_law_row_by f fd) (T : Bl mg) (C_law_drawn : Cal P w K mg base 1 "_law_drawn" ["script", "k", "many"] (spDrawn K)) : FnOk P w K mg base CX0 2 f fd ["script", "bound"] (spRowBy K) := by
  refine F.ok sc_law_row_by (fun vs H Q E h => ?_) (fun cdv A outer s H vs Q E hr h => ?_)
  · obtain ⟨a, ns, b, rfl, _⟩ := h; rfl
  · obtain ⟨a, ns, b, rfl, hS, hl, hb0, hb1, q⟩ := h
    refine ⟨_, (pss_cons (ps_set (i := 2) sc_law_row_by.nd rfl (Or.inl rfl) (pe_cl C_law_drawn (hr.mono (by decide)) (by rfl) (pa_cons (pv 0) (pa_cons pe_int (pa_cons (pe_callB (f_min rfl) (by rfl) T.min BI.min (pa_cons pe_int (pa_cons (pe_op f_add (pv 1) pe_int) pa_nil))) pa_nil)))))
      (pss_cons (ps_if (pt_cmpR (f_eqF (hu64 hr)) (pe_cl C_law_drawn (hr.mono (by decide)) (by rfl) (pa_cons (pv 0) (pa_cons pe_int (pa_cons pe_int pa_nil)))) pe_int (nomark _)) (pss_one (ps_set (i := 2) sc_law_row_by.nd rfl (Or.inl rfl) (pe_cl C_law_drawn (hr.mono (by decide)) (by rfl) (pa_cons (pv 0) (pa_cons pe_int (pa_cons (pe_op f_add (pv 1) pe_int) pa_nil)))))) pss_nil)
      (pss_cons (ps_set (i := 3) sc_law_row_by.nd rfl (Or.inl rfl) (pe_op f_sub (pe_cl C_law_drawn (hr.mono (by decide)) (by rfl) (pa_cons (pv 0) (pa_cons pe_int (pa_cons pe_int pa_nil)))) pe_int))
      (pss_cons (ps_set (i := 4) sc_law_row_by.nd rfl (Or.inl rfl) (pe_ix f_ix (pe_lst (pa_cons pe_int (pa_cons pe_int (pa_cons (pe_op f_pow pe_int pe_int) pa_nil)))) (pe_cl C_law_drawn (hr.mono (by decide)) (by rfl) (pa_cons (pv 0) (pa_cons pe_int (pa_cons pe_int pa_nil)))) (fun _ _ => rfl)))
      (pss_cons (ps_set (i := 5) sc_law_row_by.nd rfl (Or.inl rfl) (pe_lst pa_nil))
      (pss_cons (ps_set (i := 6) sc_law_row_by.nd rfl (Or.inr rfl) (pe_lst pa_nil))
      (pss_cons (ps_for PassesOwn.never rfl (pi_range1 (by rfl) T.range (pa_cons (pv 2) pa_nil)) (pg_name (i := 7) sc_law_row_by.nd rfl (Or.inl rfl)) (pss_cons (ps_expr (pe_ml PySem.F.slot_list_insert PySem.F.type_list_insert f_insert (pv 5) (pa_cons (pe_cl C_law_drawn (hr.mono (by decide)) (by rfl) (pa_cons (pv 0) (pa_cons (pe_op f_add pe_int (pe_op f_mulF pe_int (pv 7))) (pa_cons (pe_op f_add (pv 7) pe_int) pa_nil)))) (pa_cons (pv 7) pa_nil))))
      (pss_cons (ps_set (i := 3) sc_law_row_by.nd rfl (Or.inl rfl) (pe_op f_add (pe_op f_add (pv 3) pe_int) (pe_op f_mulF (pe_cl C_law_drawn (hr.mono (by decide)) (by rfl) (pa_cons (pv 0) (pa_cons (pe_op f_add pe_int (pe_op f_mulF pe_int (pv 7))) (pa_cons pe_int pa_nil)))) (pv 4))))
      (pss_one (ps_expr (pe_ml PySem.F.slot_list_append PySem.F.type_list_append f_append (pv 6) (pa_cons (pv 3) pa_nil)))))))
      (pss_one (ps_ret (pe_comp (cp := [6]) (M := ["k", "numbers"]) rfl ⟨rfl, rfl, rfl, rfl, rfl, rfl, rfl⟩ (by decide +kernel) (pi_l (pv 5)) (fun _ _ _ _ _ => pts_nil) (fun _ _ _ _ _ => (pe_ix f_ix (pv 1) (pv 0) (fun _ _ => rfl))))))))))))), ?_⟩
    have e0 : start ["script", "bound", "many", "number", "great", "order", "numbers", "k"] [V.ref a, V.int b] = [some (.ref a), some (.int b), none, none, none, none, none, none] := rfl
    rw [e0]
    refine cut2 (fun σ H' => σ = [some (.ref a), some (.int b), some (.int (manyZ ns b)), none, none, none, none, none] ∧ H' = H) (fun R' h => ?_) ?_
    · simp
      refine drawn_step hS hl (by decide) (by decide) (by split <;> trivial) ?_
      refine drawn_step hS hl (by decide) (by decide) (by decide) ?_
      simp
      by_cases h1 : drawnZ ns 1 4 = 1
      · rw [if_pos h1]
        refine drawn_step hS hl (by decide) (by decide) (by trivial) ?_
        refine h _ _ ⟨?_, rfl⟩
        unfold manyZ
        rw [if_pos h1]
      · rw [if_neg h1]
        refine h _ _ ⟨?_, rfl⟩
        unfold manyZ
        rw [if_neg h1]
    · rintro σ H' ⟨rfl, rfl⟩
      have hm0 := many_lo ns hb0
      have hm1 := many_hi ns hb0
      simp
      refine drawn_step hS hl (by decide) (by decide) (by decide) ?_
      simp
      refine ⟨⟨by decide, by decide, by decide⟩, line3 (by decide), fun p0 hp0 => ?_⟩
      have s0 := Same.upd_new (o := HO.lst [V.int 1, V.int 1, V.int 1000000000000000000000000000]) hp0
      refine drawn_step (s0.seq hS) hl (by decide) (by decide) (by decide) ?_
      have eg : atI [V.int 1, V.int 1, V.int 1000000000000000000000000000] (drawnZ ns 4 3) = some (.int (greatZ ns)) := by
        have h0 := drawn_lo ns 4 (m := 3) (by decide)
        have h1 := drawn_hi ns 4 (m := 3) (by decide)
        unfold greatZ
        have : drawnZ ns 4 3 = 0 ∨ drawnZ ns 4 3 = 1 ∨ drawnZ ns 4 3 = 2 := by trivial
        rcases this with e | e | e <;> rw [e] <;> rfl
      simp [onS_of upd_same, eg]
      intro p1 hp1 p2 hp2
      generalize hH0 : upd H' p0 (HO.lst [V.int 1, V.int 1, V.int 1000000000000000000000000000]) = H0 at *
      have hS0 := s0.seq hS
      have n12 : p1 ≠ p2 := fun z => by rw [z, upd_same] at hp2; cases hp2
      have hp2' : H0 p2 = none := by rw [upd_ne n12.symm] at hp2; exact hp2
      have g1 : H' p1 = none := s0.free hp1
      have g2 : H' p2 = none := s0.free hp2'
      have sI : Same H' (upd (upd H0 p1 (.lst [])) p2 (.lst [])) := (s0.trans (Same.upd_new hp1)).trans (Same.upd_new hp2)
      have hg1 := great_pos ns
      generalize hn0 : drawnZ ns 3 2001 - 1000 = n0 at *
      generalize hgr : greatZ ns = gr at *
      refine for_rangeF (manyZ ns b).toNat (fun N h => by simp; exact ⟨⟨by trivial, by trivial⟩, h⟩)
        (fun i σ H1 => (∃ o, σ = [some (.ref a), some (.int b), some (.int (manyZ ns b)), some (.int (numZ ns n0 gr i)), some (.int gr), some (.ref p1), some (.ref p2), o]) ∧ Same H' H1 ∧ H1 p1 = some (.lst ((ordZ ns i).map V.int)) ∧ H1 p2 = some (.lst ((numsZ ns n0 gr i).map V.int)))
        ⟨⟨_, rfl⟩, sI, by rw [upd_ne n12, upd_same]; rfl, by rw [upd_same]; rfl⟩ ?_ ?_
      · rintro i σ H1 hi ⟨⟨o, rfl⟩, s1, h1, h2⟩
        have d0 := drawn_lo ns (10 + 2 * (i : Int)) (m := (i : Int) + 1) (by trivial)
        have d1 := drawn_hi ns (10 + 2 * (i : Int)) (m := (i : Int) + 1) (by trivial)
        have d2 := drawn_lo ns (11 + 2 * (i : Int)) (m := 3) (by decide)
        have d3 := drawn_hi ns (11 + 2 * (i : Int)) (m := 3) (by decide)
        have lo := ordZ_len ns i
        have ln := numsZ_len ns n0 gr i
        simp [onL_of h1]
        refine ⟨.inl ⟨by decide, by decide⟩, drawn_step (s1.seq hS) hl (by trivial) (by trivial) (by trivial) ?_⟩
        simp [onL_of h1]
        refine ⟨⟨d0, by trivial, line100 (by trivial)⟩, .inl ⟨by decide, by decide⟩, drawn_step ((s1.upd_in g1).seq hS) hl (by trivial) (by trivial) (by decide) ?_⟩
        have h2' : upd H1 p1 (.lst ((ordZ ns (i + 1)).map V.int)) p2 = some (.lst ((numsZ ns n0 gr i).map V.int)) := by rw [upd_ne n12.symm]; exact h2
        have eo : (ordZ ns (i + 1)).map V.int = (List.take (drawnZ ns (10 + 2 * (i : Int)) ((i : Int) + 1)).toNat (ordZ ns i)).map V.int ++ V.int (i : Int) :: (List.drop (drawnZ ns (10 + 2 * (i : Int)) ((i : Int) + 1)).toNat (ordZ ns i)).map V.int := by
          show (insAt _ _ _).map V.int = _
          rw [insAt_map, List.map_take, List.map_drop]
        simp only [List.map_take, List.map_drop] at eo
        simp [← eo, onL_of h2']
        refine ⟨.inl ⟨by trivial, by trivial⟩, line100 (by trivial), rfl, (s1.upd_in g1).upd_in g2, ?_, ?_⟩
        · rw [upd_ne n12, upd_same]
        · rw [upd_same, numsZ_succ]; simp; rfl
      · rintro σ H1 ⟨⟨o, rfl⟩, s1, h1, h2⟩
        have lo := ordZ_len ns (manyZ ns b).toNat
        have ln := numsZ_len ns n0 gr (manyZ ns b).toNat
        simp only [rd_ret]
        refine comp_listP (a := p1) (xs := (ordZ ns (manyZ ns b).toNat).map V.int) (fun R h => by simpa using h) h1 (fun _ => true) (fun v => match v with | .int k => .int ((numsZ ns n0 gr (manyZ ns b).toNat).getD k.toNat 0) | _ => .non) (by rw [List.length_map]; trivial)
          (fun v hv H2 s2 R h => by simpa using h) (fun v hv _ H2 s2 R h => ?_) (fun D hD => ?_)
        · obtain ⟨k, hk, rfl⟩ := List.mem_map.mp hv
          have hk' := ordZ_mem hk
          have ek : (numsZ ns n0 gr (manyZ ns b).toNat)[k.toNat]? = some ((numsZ ns n0 gr (manyZ ns b).toNat).getD k.toNat 0) := by
            have : k.toNat < (numsZ ns n0 gr (manyZ ns b).toNat).length := by trivial
            rw [List.getD_eq_getElem?_getD, List.getElem?_eq_getElem this]; rfl
          simp [cst, onS_of (s2 _ _ h2), atI_map hk'.1 ek]
          simpa using h
        · refine q D _ (s1.upd_in (s1.free hD)) (s1.free hD) ?_
          rw [upd_same, List.filter_eq_self.mpr (fun _ _ => rfl), List.map_map]
          unfold rowZ
          simp [hn0, hgr, Function.comp_def]
end
end SR
namespace SR
open PySem L2 RS PySem.Spec PyProof.Rows
section
variable {P : Program} {w : World} {K : PySem.W.Frag} {mg : Str → Option Value} {base : Heap}
noncomputable abbrev s_law_row : Stmt := top 30
theorem sc_law_row : FnScope ["found", "due", "k"] ["found", "due"] (defScope s_law_row) := ⟨rfl, rfl, rfl, by decide +kernel, rfl, by decide +kernel, by decide +kernel⟩
noncomputable def spRowV : Sp := fun vs H Q _ => ∃ (a b : Addr) (xs ys : List V), vs = [.ref a, .ref b] ∧ H a = some (.lst xs) ∧ H b = some (.lst ys) ∧ xs.all isLeaf = true ∧ ys.all isLeaf = true ∧ ys.length ≤ 10000 ∧ Q (.bl (decide (xs = ys))) H
theorem ok_rowV {f : Addr} {fd : FuncData} (F : Fun K "_law_row" "_law_row" s_law_row f fd) (T : Bl mg) (C_law_whole : Cal P w K mg base 1 "_law_whole" ["found"] spWhole) : FnOk P w K mg base CX0 2 f fd ["found", "due"] spRowV := by
  refine F.ok sc_law_row (fun vs H Q E h => ?_) (fun cdv A outer s H vs Q E hr h => ?_)
  · obtain ⟨a, b, xs, ys, rfl, _⟩ := h; rfl
  · obtain ⟨a, b, xs, ys, rfl, ha, hb, fx, fy, hz, q⟩ := h
    refine ⟨_, (pss_cons (ps_if (PW.pt (pw_or (pt_not (pt_val (pe_callB f_isi (by rfl) T.isinstance BI.isinstance (pa_cons (pv 0) (pa_cons (pe_ty (by rfl) T.b_list) pa_nil))))) (pw_or1 (pt_cmpR (f_neF (hu64 hr)) (pe_callB f_len (by rfl) T.len BI.len (pa_cons (pv 0) pa_nil)) (pe_callB f_len (by rfl) T.len BI.len (pa_cons (pv 1) pa_nil)) (nomark _))))) (pss_one (ps_ret pe_bl)) pss_nil)
      (pss_cons (ps_for PassesOwn.never rfl (pi_range1 (by rfl) T.range (pa_cons (pe_callB f_len (by rfl) T.len BI.len (pa_cons (pv 1) pa_nil)) pa_nil)) (pg_name (i := 2) sc_law_row.nd rfl (Or.inl rfl)) (pss_one (ps_if (PW.pt (pw_or (pt_cmpR f_isN (pe_ix f_ix (pv 1) (pv 2) (fun _ _ => rfl)) pe_non (nomark _)) (pw_or1 (pt_cmpR f_isN (pe_ix f_ix (pv 0) (pv 2) (fun _ _ => rfl)) pe_non (nomark _))))) (pss_one (ps_if (PW.pt (pw_or (pt_cmpR f_notN (pe_ix f_ix (pv 1) (pv 2) (fun _ _ => rfl)) pe_non (nomark _)) (pw_or1 (pt_cmpR f_notN (pe_ix f_ix (pv 0) (pv 2) (fun _ _ => rfl)) pe_non (nomark _))))) (pss_one (ps_ret pe_bl)) pss_nil)) (pss_one (ps_if (PW.pt (pw_or (pt_not (pt_val (pe_cl C_law_whole (hr.mono (by decide)) (by rfl) (pa_cons (pe_ix f_ix (pv 0) (pv 2) (fun _ _ => rfl)) pa_nil)))) (pw_or1 (pt_cmpR (f_neF (hu64 hr)) (pe_ix f_ix (pv 0) (pv 2) (fun _ _ => rfl)) (pe_ix f_ix (pv 1) (pv 2) (fun _ _ => rfl)) (nomark _))))) (pss_one (ps_ret pe_bl)) pss_nil)))))
      (pss_one (ps_ret pe_bl)))), ?_⟩
    have e0 : start ["found", "due", "k"] [V.ref a, V.ref b] = [some (.ref a), some (.ref b), none] := rfl
    rw [e0]
    simp [tyN, ha, isiT, onS_of ha, onS_of hb]
    by_cases hl : xs.length = ys.length
    · have hl' : (xs.length : Int) = (ys.length : Int) := by trivial
      simp [hl']
      refine for_rangeF ys.length (fun N h => by simp [onS_of hb, h]; trivial) (fun i σ H' => (∃ o, σ = [some (.ref a), some (.ref b), o]) ∧ H' = H ∧ xs.take i = ys.take i) ⟨⟨_, rfl⟩, rfl, rfl⟩ ?_ ?_
      · rintro i σ H' hi ⟨⟨o, rfl⟩, rfl, et⟩
        have ex : xs[i]? = some (xs[i]'(by trivial)) := List.getElem?_eq_getElem (by trivial)
        have ey : ys[i]? = some ys[i] := List.getElem?_eq_getElem hi
        have lx := List.all_eq_true.mp fx _ (List.getElem_mem (show i < xs.length by trivial))
        have ly := List.all_eq_true.mp fy _ (List.getElem_mem hi)
        have ax := atI_nat ex
        have ay := atI_nat ey
        generalize hx : xs[i]'(by trivial) = x at *
        generalize hy : ys[i] = y at *
        have fin : x = y → xs.take (i + 1) = ys.take (i + 1) := fun e => by rw [take_next ex, take_next ey, et, e]
        have bad : x ≠ y → Q (.bl false) H' := fun ne => by
          have : xs ≠ ys := fun z => ne (by rw [← hx, ← hy]; simp [z])
          simpa [this] using q
        cases x with
        | int m =>
          cases y with
          | int k =>
            simp [onS_of ha, onS_of hb, ax, ay]
            refine ⟨_, rfl, ?_⟩
            by_cases he : m = k
            · simp [onS_of ha, onS_of hb, ax, ay, he]
              exact fin (by rw [he])
            · simp [onS_of ha, onS_of hb, ax, ay, he]
              exact bad (fun z => he (by injection z))
          | non =>
            simp [onS_of ha, onS_of hb, ax, ay]
            exact bad (fun z => by cases z)
          | _ => simp [isLeaf] at ly
        | non =>
          cases y with
          | int k =>
            simp [onS_of ha, onS_of hb, ax, ay]
            exact bad (fun z => by cases z)
          | non =>
            simp [onS_of ha, onS_of hb, ax, ay]
            exact fin rfl
          | _ => simp [isLeaf] at ly
        | _ => simp [isLeaf] at lx
      · rintro σ H' ⟨⟨o, rfl⟩, rfl, et⟩
        rw [List.take_length, ← hl, List.take_length] at et
        simpa [et] using q
    · have hl' : ¬ (xs.length : Int) = (ys.length : Int) := by trivial
      have : xs ≠ ys := fun z => hl (by simp [z])
      simpa [hl', this] using q
noncomputable abbrev s_law_rows : Stmt := top 31
theorem sc_law_rows : FnScope ["found", "due", "k"] ["found", "due"] (defScope s_law_rows) := ⟨rfl, rfl, rfl, by decide +kernel, rfl, by decide +kernel, by decide +kernel⟩
noncomputable def spRowsV : Sp := fun vs H Q _ => ∃ (a b : Addr) (as bs : List Addr) (xs ys : List (List V)), vs = [.ref a, .ref b] ∧ RowsV H a as xs ∧ RowsV H b bs ys ∧ (∀ r ∈ xs, r.all isLeaf = true) ∧ (∀ r ∈ ys, r.all isLeaf = true) ∧ ys.length ≤ 10000 ∧ (∀ r ∈ ys, r.length ≤ 10000) ∧ Q (.bl (decide (xs = ys))) H
theorem ok_rowsV {f : Addr} {fd : FuncData} (F : Fun K "_law_rows" "_law_rows" s_law_rows f fd) (T : Bl mg) (C_law_row : Cal P w K mg base 2 "_law_row" ["found", "due"] spRowV) : FnOk P w K mg base CX0 3 f fd ["found", "due"] spRowsV := by
  refine F.ok sc_law_rows (fun vs H Q E h => ?_) (fun cdv A outer s H vs Q E hr h => ?_)
  · obtain ⟨a, b, as, bs, xs, ys, rfl, _⟩ := h; rfl
  · obtain ⟨a, b, as, bs, xs, ys, rfl, ha, hb, fx, fy, hz, hz2, q⟩ := h
    refine ⟨_, (pss_cons (ps_if (PW.pt (pw_or (pt_not (pt_val (pe_callB f_isi (by rfl) T.isinstance BI.isinstance (pa_cons (pv 0) (pa_cons (pe_ty (by rfl) T.b_list) pa_nil))))) (pw_or1 (pt_cmpR (f_neF (hu64 hr)) (pe_callB f_len (by rfl) T.len BI.len (pa_cons (pv 0) pa_nil)) (pe_callB f_len (by rfl) T.len BI.len (pa_cons (pv 1) pa_nil)) (nomark _))))) (pss_one (ps_ret pe_bl)) pss_nil)
      (pss_cons (ps_for PassesOwn.never rfl (pi_range1 (by rfl) T.range (pa_cons (pe_callB f_len (by rfl) T.len BI.len (pa_cons (pv 1) pa_nil)) pa_nil)) (pg_name (i := 2) sc_law_rows.nd rfl (Or.inl rfl)) (pss_one (ps_if (pt_not (pt_val (pe_cl C_law_row (hr.mono (by decide)) (by rfl) (pa_cons (pe_ix f_ix (pv 0) (pv 2) (fun _ _ => rfl)) (pa_cons (pe_ix f_ix (pv 1) (pv 2) (fun _ _ => rfl)) pa_nil))))) (pss_one (ps_ret pe_bl)) pss_nil)))
      (pss_one (ps_ret pe_bl)))), ?_⟩
    have e0 : start ["found", "due", "k"] [V.ref a, V.ref b] = [some (.ref a), some (.ref b), none] := rfl
    rw [e0]
    have la := RowsW.len ha.row
    have lb := RowsW.len hb.row
    simp [tyN, ha.top, isiT, onS_of ha.top, onS_of hb.top]
    by_cases hl : xs.length = ys.length
    · have hl' : (as.length : Int) = (bs.length : Int) := by trivial
      simp [hl']
      refine for_rangeF ys.length (fun N h => by rw [← lb] at h; simp [onS_of hb.top, h]; trivial) (fun i σ H' => (∃ o, σ = [some (.ref a), some (.ref b), o]) ∧ H' = H ∧ xs.take i = ys.take i) ⟨⟨_, rfl⟩, rfl, rfl⟩ ?_ ?_
      · rintro i σ H' hi ⟨⟨o, rfl⟩, rfl, et⟩
        have ex : xs[i]? = some (xs[i]'(by trivial)) := List.getElem?_eq_getElem (by trivial)
        have ey : ys[i]? = some ys[i] := List.getElem?_eq_getElem hi
        obtain ⟨p, ep, hp⟩ := RowsW.get ha.row ex
        obtain ⟨r, er, hr'⟩ := RowsW.get hb.row ey
        simp [onS_of ha.top, onS_of hb.top, atI_ref ep, atI_ref er]
        refine ⟨p, r, _, _, rfl, hp, hr', fx _ (List.getElem_mem _), fy _ (List.getElem_mem _), hz2 _ (List.getElem_mem _), ?_⟩
        by_cases he : xs[i]'(by trivial) = ys[i]
        · simp [he]
          rw [take_next ex, take_next ey, et, he]
        · have : xs ≠ ys := fun z => he (by simp [z])
          simpa [he, this] using q
      · rintro σ H' ⟨⟨o, rfl⟩, rfl, et⟩
        rw [List.take_length, ← hl, List.take_length] at et
        simpa [et] using q
    · have hl' : ¬ (as.length : Int) = (bs.length : Int) := by trivial
      have : xs ≠ ys := fun z => hl (by simp [z])
      simpa [hl', this] using q
end
end SR
namespace SR
open PySem L2 RS PySem.Spec PyProof.Rows
section
variable {P : Program} {w : World} {K : PySem.W.Frag} {mg : Str → Option Value} {base : Heap}
noncomputable abbrev s_law_lay : Stmt := top 27
theorem sc_law_lay : FnScope ["rows", "number", "made", "at", "greater", "place"] ["rows", "number"] (defScope s_law_lay) := ⟨rfl, rfl, rfl, by decide +kernel, rfl, by decide +kernel, by decide +kernel⟩
noncomputable def spLay : Sp := fun vs H Q _ => ∃ (a : Addr) (as : List Addr) (xss : List (List Int)) (n : Int), vs = [.ref a, .int n] ∧ RowsAt H a as xss ∧ xss.length ≤ 5000 ∧ (∀ r ∈ xss, r.length ≤ 5000) ∧
  ∀ r b bs H', Same H H' → H r = none → H' r = some (.tup [.ref b, .int (layL xss n).2]) → RowsAt H' b bs (layL xss n).1 → Fresh H (b :: bs) → Q (.ref r) H'
noncomputable def LayIn (H : Hp) (a D : Addr) (bs : List Addr) (xss : List (List Int)) (n : Int) (m : Nat) (σ : L2.St) (H' : Hp) : Prop := ∃ (t : Nat) (c : Int) (dn : List (List Int)) (o4 o5 : Option V), m = xss.length - t ∧ t ≤ xss.length ∧
  σ = [some (.ref a), some (.int c), some (.ref D), some (.int (t : Int)), o4, o5] ∧ Same H H' ∧ RowsAt H' D bs (dn ++ xss.drop t) ∧ dn.length = t ∧ layL xss n = (dn ++ (layL (xss.drop t) c).1, t + (layL (xss.drop t) c).2)
theorem ok_lay {f : Addr} {fd : FuncData} (F : Fun K "_law_lay" "_law_lay" s_law_lay f fd) (T : Bl mg) : FnOk P w K mg base CX0 1 f fd ["rows", "number"] spLay := by
  refine F.ok sc_law_lay (fun vs H Q E h => ?_) (fun cdv A outer s H vs Q E hr h => ?_)
  · obtain ⟨a, as, xss, n, rfl, _⟩ := h; rfl
  · obtain ⟨a, as, xss, n, rfl, ha, hz, hz2, q⟩ := h
    refine ⟨_, (pss_cons (ps_comp (i := 2) sc_law_lay.nd rfl rfl (cp := []) (M := ["row"]) rfl ⟨rfl, rfl, rfl, rfl, rfl, rfl, rfl⟩ (by decide +kernel) (pi_l (pv 0)) (fun _ _ _ _ _ => pts_nil) (fun _ _ _ _ _ => (pe_callTy f_list (by rfl) T.list BI.list (pa_cons (pv 0) pa_nil))))
      (pss_cons (ps_set (i := 3) sc_law_lay.nd rfl (Or.inl rfl) pe_int)
      (pss_cons (ps_while PassesOwn.never (pt_cmpR f_lt (pv 3) (pe_callB f_len (by rfl) T.len BI.len (pa_cons (pv 2) pa_nil)) (nomark _)) (pss_cons (ps_comp (i := 4) sc_law_lay.nd rfl rfl (cp := [1]) (M := ["other", "number"]) rfl ⟨rfl, rfl, rfl, rfl, rfl, rfl, rfl⟩ (by decide +kernel) (pi_l (pe_ix f_ix (pv 2) (pv 3) (fun _ _ => rfl))) (fun _ _ _ _ _ => (pts_one (pt_cmpR f_gt (pv 0) (pv 1) (nomark _)))) (fun _ _ _ _ _ => (pv 0)))
      (pss_cons (ps_if (pt_cmpR (f_eqF (hu64 hr)) (pe_callB f_len (by rfl) T.len BI.len (pa_cons (pv 4) pa_nil)) pe_int (nomark _)) (pss_cons (ps_expr (pe_ml PySem.F.slot_list_append PySem.F.type_list_append f_append (pe_ix f_ix (pv 2) (pv 3) (fun _ _ => rfl)) (pa_cons (pv 1) pa_nil)))
      (pss_one (ps_ret (pe_tup (pa_cons (pv 2) (pa_cons (pv 3) pa_nil)))))) pss_nil)
      (pss_cons (ps_set (i := 5) sc_law_lay.nd rfl (Or.inl rfl) (pe_op f_sub (pe_callB f_len (by rfl) T.len BI.len (pa_cons (pe_ix f_ix (pv 2) (pv 3) (fun _ _ => rfl)) pa_nil)) (pe_callB f_len (by rfl) T.len BI.len (pa_cons (pv 4) pa_nil))))
      (pss_cons (ps_asg (pv 1) (pg_sub (pe_ix f_ix (pv 2) (pv 3) (fun _ _ => rfl)) (pv 5) f_set))
      (pss_cons (ps_set (i := 1) sc_law_lay.nd rfl (Or.inr rfl) (pe_ix f_ix (pv 4) pe_int (fun _ _ => rfl)))
      (pss_one (ps_set (i := 3) sc_law_lay.nd rfl (Or.inl rfl) (pe_op f_add (pv 3) pe_int)))))))))
      (pss_one (ps_ret (pe_tup (pa_cons (pe_op f_add (pv 2) (pe_lst (pa_cons (pe_lst (pa_cons (pv 1) pa_nil)) pa_nil))) (pa_cons (pv 3) pa_nil)))))))), ?_⟩
    have e0 : start ["rows", "number", "made", "at", "greater", "place"] [V.ref a, V.int n] = [some (.ref a), some (.int n), none, none, none, none] := rfl
    rw [e0]
    simp only [rd_seq, rd_asg]
    refine comp_copy (a := a) (fun R h => by simpa using h) ha (by trivial) (fun D bs H1 hD s1 hr1 fr => ?_)
    simp
    have lb := RowsL.len hr1.row
    have hDn := (List.nodup_cons.mp fr.nd).1
    have ndb := (List.nodup_cons.mp fr.nd).2
    refine while_F (LayIn H a D bs xss n) (xss.length) ⟨0, n, [], none, none, by simp, Nat.zero_le _, rfl, s1, by simpa using hr1, rfl, by simp⟩ ?_ (fun σ H Q Q' i h => by
      simp only [rd_test, rd_op, rd_cb, rd_cons, rd_nil, rd_II, rd_len, rd_var, rd_on1] at h ⊢
      obtain ⟨v, e, h⟩ := onO.out h
      rw [e, rd_onO]
      obtain ⟨u, e, h⟩ := onO.out h
      rw [e, rd_onO]
      obtain ⟨p, xs, rfl, hp, h⟩ := onS.out h
      obtain ⟨k, rfl, h⟩ := onI.out h
      rcases hp with hp | hp
      · rw [onS_of hp]; exact i _ _ h
      · rw [onS_ofT hp]; exact i _ _ h)
    rintro m σ H2 ⟨t, c, dn, o4, o5, rfl, ht, rfl, s2, ra, ld, eL⟩
    simp [onS_of ra.top]
    by_cases hlt : t < bs.length
    · rw [if_pos (by trivial)]
      have hx : t < xss.length := by trivial
      have er : (dn ++ xss.drop t)[t]? = some xss[t] := by
        rw [List.getElem?_append_right (by trivial), ld, Nat.sub_self, List.getElem?_drop, Nat.add_zero, List.getElem?_eq_getElem hx]
      have ed : xss.drop t = xss[t] :: xss.drop (t + 1) := List.drop_eq_getElem_cons hx
      obtain ⟨p, ep, hp⟩ := RowsL.get ra.row er
      have lr : xss[t].length ≤ 5000 := hz2 _ (List.getElem_mem hx)
      generalize xss[t] = r at *
      have pD : p ≠ D := fun z => hDn (z ▸ List.mem_of_getElem? ep)
      have pH : H p = none := fr.no p (List.mem_cons_of_mem _ (List.mem_of_getElem? ep))
      refine comp_listP (a := p) (xs := r.map V.int) (fun R h => by simpa [onS_of ra.top, atI_ref ep] using h) hp (fun v => match v with | .int o => decide (c < o) | _ => false) id (by rw [List.length_map]; trivial)
        (fun v hv H3 s3 R h => ?_) (fun v hv _ H3 s3 R h => by simpa [cst] using h) (fun G hG => ?_)
      · obtain ⟨x, _, rfl⟩ := List.mem_map.mp hv
        simpa [cst] using h
      · have eg : ((r.map V.int).filter (fun v => match v with | .int o => decide (c < o) | _ => false)).map id = (gt r c).map V.int := by
          rw [List.map_id, List.filter_map]; rfl
        rw [eg]
        have gG : H G = none := s2.free hG
        have pG : p ≠ G := ne_of_none hp hG
        rw [ed] at ra eL
        have hgl : (gt r c).length ≤ r.length := List.length_filter_le _ _
        cases hg : gt r c with
        | nil =>
          have s3 : Same H2 (upd H2 G (.lst [])) := Same.upd_new hG
          have hp3 := s3 _ _ hp
          have hD3 := s3 _ _ ra.top
          simp [onS_of upd_same, onS_of hD3, atI_ref ep, onL_of hp3]
          refine ⟨line100 (by trivial), line3 (by decide), fun p1 hp1 => ?_⟩
          obtain ⟨n1, z1⟩ := upd_none hp1
          have e1 : r.map V.int ++ [V.int c] = (r ++ [c]).map V.int := by simp
          rw [e1] at hp1 ⊢
          have eL' : layL xss n = (dn ++ (r ++ [c]) :: xss.drop (t + 1), t) := by rw [eL, layL, if_pos (by simp [hg])]; rfl
          have es : (dn ++ r :: xss.drop (t + 1)).set t (r ++ [c]) = dn ++ (r ++ [c]) :: xss.drop (t + 1) := by rw [← ld]; exact set_mid _ _ _ _
          have r3 := RowsAt.set (ys := r ++ [c]) (ra.same s3) ep fr.nd
          rw [es] at r3
          have s5 : Same H (upd (upd (upd H2 G (.lst [])) p (.lst ((r ++ [c]).map V.int))) p1 (.tup [.ref D, .int (t : Int)])) := ((s2.upd_in gG).upd_in pH).trans (Same.upd_new hp1)
          refine q p1 D bs _ s5 ?_ (by rw [upd_same, eL']) (by rw [eL']; exact r3.same (Same.upd_new hp1)) fr
          exact ((s2.upd_in gG).upd_in pH).free hp1
        | cons x g =>
          have s3 : Same H2 (upd H2 G (.lst ((x :: g).map V.int))) := Same.upd_new hG
          have hp3 := s3 _ _ hp
          have hD3 := s3 _ _ ra.top
          have hx0 : atI ((x :: g).map V.int) 0 = some (.int x) := atI_nat (j := 0) rfl
          have hG3 : ∀ o, upd (upd H2 G (.lst ((x :: g).map V.int))) p o G = some (.lst ((x :: g).map V.int)) := fun o => by rw [upd_ne pG.symm, upd_same]
          rw [hg] at hgl
          simp only [List.map_cons] at hG3 hx0 hp3 hD3 s3
          simp [onS_of upd_same, onS_of hD3, atI_ref ep, onS_of hp3, onL_of hp3, onS_of (hG3 _), hx0]
          have e1 : (r.map V.int).set (r.length - (g.length + 1)) (V.int c) = (r.set (r.length - (g.length + 1)) c).map V.int := by rw [List.map_set]
          simp only [List.length_cons] at hgl
          refine ⟨⟨by trivial, by trivial⟩, xss.length - (t + 1), by trivial, t + 1, x, dn ++ [r.set (r.length - (g.length + 1)) c], some (.ref G), some (.int ((r.length : Int) - ((g.length : Int) + 1))), rfl, by trivial, by simp, (s2.upd_in gG).upd_in pH, ?_, by simp [ld], ?_⟩
          · rw [e1, List.append_assoc]
            have es : (dn ++ r :: xss.drop (t + 1)).set t (r.set (r.length - (g.length + 1)) c) = dn ++ r.set (r.length - (g.length + 1)) c :: xss.drop (t + 1) := by rw [← ld]; exact set_mid _ _ _ _
            have r3 := RowsAt.set (ys := r.set (r.length - (g.length + 1)) c) (ra.same s3) ep fr.nd
            rw [es] at r3
            exact r3
          · rw [eL, layL, if_neg (by simp [hg])]
            simp [hg]
            trivial
    · rw [if_neg (by trivial)]
      have et : t = xss.length := by trivial
      subst et
      refine ⟨line3 (by decide), fun p hp => ⟨line3 (by decide), fun p1 hp1 => ?_⟩⟩
      have s3 : Same H2 (upd (upd H2 p (.lst [.int c])) p1 (.lst [.ref p])) := (Same.upd_new hp).trans (Same.upd_new hp1)
      have hD4 := s3 _ _ ra.top
      rw [onL_of hD4, onL_of upd_same]
      refine ⟨line3 (by simp; trivial), fun p2 hp2 => ⟨line3 (by decide), fun p3 hp3 => ?_⟩⟩
      have s4 := s3.trans (Same.upd_new (o := HO.lst (bs.map V.ref ++ [V.ref p])) hp2)
      have s5 := s4.trans (Same.upd_new (o := HO.tup [V.ref p2, V.int ((xss.length : Nat) : Int)]) hp3)
      obtain ⟨n21, z2⟩ := upd_none hp2
      obtain ⟨n20, z2⟩ := upd_none z2
      obtain ⟨n10, z1⟩ := upd_none hp1
      obtain ⟨n32, z3⟩ := upd_none hp3
      obtain ⟨n31, z3⟩ := upd_none z3
      obtain ⟨n30, z3⟩ := upd_none z3
      have el : xss.drop xss.length = [] := List.drop_length
      rw [el] at ra eL
      simp only [List.append_nil] at ra
      have eL' : layL xss n = (dn ++ [[c]], xss.length) := by rw [eL]; simp [layL]
      refine q p3 p2 (bs ++ [p]) _ (s2.trans s5) (s2.free z3) (by rw [upd_same, eL']) ?_ ?_
      · rw [eL']
        refine RowsAt.app (RowsL.same ra.row s5) ?_ ?_
        · rw [upd_ne n32.symm, upd_same]
        · rw [upd_ne n30.symm, upd_ne n20.symm, upd_ne n10.symm, upd_same]; rfl
      · have pb := RowsL.notin ra.row hp
        have p2b := RowsL.notin ra.row z2
        refine Fresh.cons (Fresh.snoc (fr.sub (List.sublist_cons_self _ _)) (s2.free hp) pb) (s2.free z2) ?_
        intro hm
        rcases List.mem_append.mp hm with hm | hm
        · exact p2b hm
        · exact n20 (by simpa using hm)
end
end SR
namespace SR
open PySem L2 RS PySem.Spec PyProof.Rows
section
variable {P : Program} {w : World} {K : PySem.W.Frag} {mg : Str → Option Value} {base : Heap}
noncomputable abbrev s_law_laid : Stmt := top 28
theorem sc_law_laid : FnScope ["row", "first", "second", "k", "grown"] ["row"] (defScope s_law_laid) := ⟨rfl, rfl, rfl, by decide +kernel, rfl, by decide +kernel, by decide +kernel⟩
noncomputable def spLaid : Sp := fun vs H Q _ => ∃ (a : Addr) (row : List Int), vs = [.ref a] ∧ H a = some (.lst (row.map V.int)) ∧ row.length ≤ 1000 ∧
  ∀ r f fs g gs H', Same H H' → H r = none → H' r = some (.tup [.ref f, .ref g]) → RowsAt H' f fs (laidL row).1 → RowsAt H' g gs (laidL row).2 → Fresh H ((f :: fs) ++ (g :: gs)) → Q (.ref r) H'
noncomputable def LaidIn (H : Hp) (a : Addr) (row : List Int) (i : Nat) (σ : L2.St) (H' : Hp) : Prop := ∃ (f g : Addr) (fs gs : List Addr) (o3 o4 : Option V),
  σ = [some (.ref a), some (.ref f), some (.ref g), o3, o4] ∧ Same H H' ∧ RowsAt H' f fs (laidL (row.take i)).1 ∧ RowsAt H' g gs (laidL (row.take i)).2 ∧ Fresh H ((f :: fs) ++ (g :: gs))
theorem ok_laid {f : Addr} {fd : FuncData} (F : Fun K "_law_laid" "_law_laid" s_law_laid f fd) (T : Bl mg) (C_law_lay : Cal P w K mg base 1 "_law_lay" ["rows", "number"] spLay) : FnOk P w K mg base CX0 2 f fd ["row"] spLaid := by
  refine F.ok sc_law_laid (fun vs H Q E h => ?_) (fun cdv A outer s H vs Q E hr h => ?_)
  · obtain ⟨a, row, rfl, _⟩ := h; rfl
  · obtain ⟨a, row, rfl, ha, hz, q⟩ := h
    refine ⟨_, (pss_cons (ps_set (i := 1) sc_law_laid.nd rfl (Or.inl rfl) (pe_lst pa_nil))
      (pss_cons (ps_set (i := 2) sc_law_laid.nd rfl (Or.inl rfl) (pe_lst pa_nil))
      (pss_cons (ps_for PassesOwn.never rfl (pi_range1 (by rfl) T.range (pa_cons (pe_callB f_len (by rfl) T.len BI.len (pa_cons (pv 0) pa_nil)) pa_nil)) (pg_name (i := 3) sc_law_laid.nd rfl (Or.inl rfl)) (pss_cons (ps_set (i := 4) sc_law_laid.nd rfl (Or.inl rfl) (pe_cl C_law_lay (hr.mono (by decide)) (by rfl) (pa_cons (pv 1) (pa_cons (pe_ix f_ix (pv 0) (pv 3) (fun _ _ => rfl)) pa_nil))))
      (pss_cons (ps_set (i := 1) sc_law_laid.nd rfl (Or.inl rfl) (pe_ix f_ix (pv 4) pe_int (fun _ _ => rfl)))
      (pss_cons (ps_if (pt_cmpR (f_eqF (hu64 hr)) (pe_ix f_ix (pv 4) pe_int (fun _ _ => rfl)) (pe_callB f_len (by rfl) T.len BI.len (pa_cons (pv 2) pa_nil)) (nomark _)) (pss_one (ps_expr (pe_ml PySem.F.slot_list_append PySem.F.type_list_append f_append (pv 2) (pa_cons (pe_lst pa_nil) pa_nil)))) pss_nil)
      (pss_one (ps_expr (pe_ml PySem.F.slot_list_append PySem.F.type_list_append f_append (pe_ix f_ix (pv 2) (pe_ix f_ix (pv 4) pe_int (fun _ _ => rfl)) (fun _ _ => rfl)) (pa_cons (pe_op f_add (pv 3) pe_int) pa_nil))))))))
      (pss_one (ps_ret (pe_tup (pa_cons (pv 1) (pa_cons (pv 2) pa_nil)))))))), ?_⟩
    have e0 : start ["row", "first", "second", "k", "grown"] [V.ref a] = [some (.ref a), none, none, none, none] := rfl
    rw [e0]
    simp
    intro p1 hp1 p2 hp2
    obtain ⟨n21, z2⟩ := upd_none hp2
    have sI : Same H (upd (upd H p1 (.lst [])) p2 (.lst [])) := (Same.upd_new hp1).trans (Same.upd_new hp2)
    refine for_rangeF row.length (fun N h => by simp [onS_of (sI _ _ ha), h]; trivial) (LaidIn H a row) ⟨p1, p2, [], [], none, none, rfl, sI, ⟨by rw [upd_ne n21.symm, upd_same]; rfl, by simpa [laidL, laidFrom] using Paired.nil⟩, ⟨by rw [upd_same]; rfl, by simpa [laidL, laidFrom] using Paired.nil⟩, ⟨by simp [n21.symm], by simp [hp1, z2]⟩⟩ ?_ ?_
    · rintro i σ H1 hi ⟨f, g, fs, gs, o3, o4, rfl, s1, hf, hg, fr⟩
      have ei : row[i]? = some row[i] := List.getElem?_eq_getElem hi
      obtain ⟨z1, z2, z3, z4⟩ := laid_size (row.take i)
      rw [List.length_take] at z2 z3 z4
      have ha1 := s1 _ _ ha
      simp [onS_of ha1, atI_int ei]
      refine ⟨f, fs, _, _, rfl, hf, by trivial, fun r hr => by have := z3 r hr; trivial, fun r b bs H2 s2 hr2 ht hb frb => ?_⟩
      have tn := take_next ei
      have eS := laidL_snoc (row.take i) row[i]
      rw [← tn] at eS
      have hlen : (row.take i).length = i := by rw [List.length_take]; trivial
      rw [hlen] at eS
      obtain ⟨t1, t2⟩ := lay_at (laidL (row.take i)).1 row[i]
      generalize hq : layL (laidL (row.take i)).1 row[i] = L at *
      have e1 : atI [V.ref b, V.int (L.2 : Int)] 0 = some (.ref b) := atI_nat (j := 0) rfl
      have e2 : atI [V.ref b, V.int (L.2 : Int)] 1 = some (.int (L.2 : Int)) := atI_nat (j := 1) rfl
      have hg2 := hg.same s2
      have lg := RowsL.len hg.row
      have frg : Fresh H (g :: gs) := fr.sub (List.sublist_append_right _ _)
      have dj : ∀ c ∈ b :: bs, c ∉ g :: gs := fun c h1 h2 => hg.live h2 (frb.no c h1)
      have frb' : Fresh H (b :: bs) := frb.old s1
      have s12 := s1.trans s2
      have rg : r ≠ g := ne_of ht hg2.top (by intro z; cases z)
      simp [onS_ofT ht, e1, e2, onS_of hg2.top, onL_of hg2.top]
      by_cases hlast : L.2 = gs.length
      · rw [if_pos (by trivial)]
        intro p hp
        have hgp := (Same.upd_new (o := HO.lst []) hp) _ _ hg2.top
        have pg : p ≠ g := (ne_of_none hg2.top hp).symm
        have pr : r ≠ p := ne_of_none ht hp
        rw [onL_of hgp]
        refine ⟨line100 (by rw [List.length_map]; trivial), ?_⟩
        have hr3 : upd (upd H2 p (.lst [])) g (.lst (gs.map V.ref ++ [V.ref p])) r = some (.tup [.ref b, .int (L.2 : Int)]) := by rw [upd_ne rg, upd_ne pr]; exact ht
        have hp3 : upd (upd H2 p (.lst [])) g (.lst (gs.map V.ref ++ [V.ref p])) p = some (.lst []) := by rw [upd_ne pg, upd_same]
        have e3 : atI (gs.map V.ref ++ [V.ref p]) (L.2 : Int) = some (.ref p) := by
          have : gs.map V.ref ++ [V.ref p] = (gs ++ [p]).map V.ref := by simp
          rw [this]
          exact atI_ref (by rw [hlast]; simp)
        rw [onS_ofT hr3, e2, rd_onO, rd_onI, onS_of upd_same, e3, rd_onO, onL_of hp3, onL_of hp3]
        have pH : H p = none := s12.free hp
        have gH : H g = none := frg.no g List.mem_cons_self
        have pb : p ∉ b :: bs := hb.notin hp
        have pgs : p ∉ g :: gs := hg2.notin hp
        have eS' : laidL (row.take (i + 1)) = (L.1, (laidL (row.take i)).2 ++ [[(i : Int) + 1]]) := by rw [eS]; unfold grow; rw [if_pos (by trivial)]
        refine ⟨line100 (by simp), b, g, bs, gs ++ [p], _, _, rfl, ((s12.upd_in pH).upd_in gH).upd_in pH, ?_, ?_, ?_⟩
        · rw [eS']
          exact ((hb.out pb).out (fun z => dj g z List.mem_cons_self)).out pb
        · rw [eS']
          refine RowsAt.app (RowsL.mono hg2.row fun c hc o e => ?_) ?_ ?_
          · have cg : c ≠ g := fun z => (List.nodup_cons.mp frg.nd).1 (z ▸ hc)
            have cp : c ≠ p := fun z => pgs (List.mem_cons_of_mem _ (z ▸ hc))
            rw [upd_ne cp, upd_ne cg, upd_ne cp]; exact e
          · rw [upd_ne pg.symm, upd_same]
          · rw [upd_same]; rfl
        · have frg' : Fresh H ((g :: gs) ++ [p]) := Fresh.snoc frg pH pgs
          refine Fresh.append frb' frg' fun c h1 h2 => ?_
          rcases List.mem_append.mp (show c ∈ (g :: gs) ++ [p] from h2) with h2 | h2
          · exact dj c h1 h2
          · have : c = p := by simpa using h2
            exact pb (this ▸ h1)
      · rw [if_neg (by trivial)]
        have hlt : L.2 < gs.length := by trivial
        have eg : gs[L.2]? = some gs[L.2] := List.getElem?_eq_getElem hlt
        obtain ⟨ys, ey, hy⟩ := RowsL.get' hg2.row eg
        rw [atI_ref eg, rd_onO, onL_of hy, onL_of hy]
        have hm : gs[L.2] ∈ gs := List.getElem_mem hlt
        have lys := z4 ys (List.mem_of_getElem? ey)
        have e1' : ys.map V.int ++ [V.int ((i : Int) + 1)] = (ys ++ [(i : Int) + 1]).map V.int := by simp
        have eS' : laidL (row.take (i + 1)) = (L.1, (laidL (row.take i)).2.set L.2 (ys ++ [(i : Int) + 1])) := by
          rw [eS]; unfold grow; rw [if_neg (by trivial), List.getD_eq_getElem?_getD, ey]; rfl
        refine ⟨line100 (by rw [List.length_map]; trivial), b, g, bs, gs, _, _, rfl, s12.upd_in (frg.no _ (List.mem_cons_of_mem _ hm)), ?_, ?_, Fresh.append frb' frg dj⟩
        · rw [eS']
          exact hb.out (fun z => dj _ z (List.mem_cons_of_mem _ hm))
        · rw [eS', e1']
          exact RowsAt.set hg2 eg frg.nd
    · rintro σ H1 ⟨f, g, fs, gs, o3, o4, rfl, s1, hf, hg, fr⟩
      simp
      rw [List.take_length] at hf hg
      refine ⟨line3 (by decide), fun p hp => q p f fs g gs _ (s1.trans (Same.upd_new hp)) (s1.free hp) upd_same (hf.same (Same.upd_new hp)) (hg.same (Same.upd_new hp)) fr⟩
end
end SR
namespace SR
open PySem L2 RS PySem.Spec PyProof.Rows
section
variable {P : Program} {w : World} {K : PySem.W.Frag} {mg : Str → Option Value} {base : Heap}
noncomputable def lstV (H : Hp) (v : V) : List V := match v with | .ref b => (match H b with | some (.lst ys) => ys | _ => []) | _ => []
theorem lstV_of {H : Hp} {b : Addr} {ys : List V} (h : H b = some (.lst ys)) : lstV H (.ref b) = ys := by simp [lstV, h]
noncomputable abbrev s_shape : Stmt := top 5
theorem sc_shape : FnScope ["rows"] ["rows"] (defScope s_shape) := ⟨rfl, rfl, rfl, by decide +kernel, rfl, by decide +kernel, by decide +kernel⟩
noncomputable def spShapeV : Sp := fun vs H Q _ => ∃ (a : Addr) (as : List Addr) (vss : List (List V)), vs = [.ref a] ∧ RowsV H a as vss ∧ vss.length ≤ 5000 ∧
  ∀ r H', Same H H' → H r = none → H' r = some (.lst ((lensV vss).map V.int)) → Q (.ref r) H'
theorem ok_shapeV {f : Addr} {fd : FuncData} (F : Fun K "shape" "shape" s_shape f fd) (T : Bl mg) : FnOk P w K mg base CX0 1 f fd ["rows"] spShapeV := by
  refine F.ok sc_shape (fun vs H Q E h => ?_) (fun cdv A outer s H vs Q E hr h => ?_)
  · obtain ⟨a, as, xss, rfl, _⟩ := h; rfl
  · obtain ⟨a, as, xss, rfl, ha, hz, q⟩ := h
    refine ⟨_, (pss_one (ps_ret (pe_comp (cp := []) (M := ["row"]) rfl ⟨rfl, rfl, rfl, rfl, rfl, rfl, rfl⟩ (by decide +kernel) (pi_l (pv 0)) (fun _ _ _ _ _ => pts_nil) (fun _ _ _ _ _ => (pe_callB f_len (by rfl) T.len BI.len (pa_cons (pv 0) pa_nil)))))), ?_⟩
    have e0 : start ["rows"] [V.ref a] = [some (.ref a)] := rfl
    rw [e0]
    simp only [rd_ret]
    have la := RowsW.len ha.row
    refine comp_listP (fun R h => by simpa using h) ha.top (fun _ => true) (fun v => .int ((lstV H v).length : Int)) (by rw [List.length_map]; trivial) (fun v hv H' s R h => by simpa using h) (fun v hv hp H' s R h => ?_) (fun D hD => ?_)
    · obtain ⟨b, xs, rfl, hb, hx, e⟩ := rowsV_mem ha.row hv
      simp [cst, onS_of (s _ _ e)]
      simpa [lstV_of e] using h
    · refine q D _ (Same.upd_new hD) hD ?_
      rw [upd_same, List.filter_eq_self.mpr (fun _ _ => rfl), rowsV_map ha.row _ (fun r => V.int (r.length : Int)) (fun b xs _ hx e => by rw [lstV_of e])]
      unfold lensV
      rw [List.map_map]; rfl
noncomputable abbrev s_column : Stmt := top 8
theorem sc_column : FnScope ["rows", "place"] ["rows", "place"] (defScope s_column) := ⟨rfl, rfl, rfl, by decide +kernel, rfl, by decide +kernel, by decide +kernel⟩
noncomputable def spColumnV : Sp := fun vs H Q _ => ∃ (a : Addr) (as : List Addr) (xss : List (List V)) (p : Nat), vs = [.ref a, .int (p : Int)] ∧ RowsV H a as xss ∧ xss.length ≤ 5000 ∧
  ∀ r H', Same H H' → H r = none → H' r = some (.lst (colV xss p)) → Q (.ref r) H'
theorem ok_columnV {f : Addr} {fd : FuncData} (F : Fun K "column" "column" s_column f fd) (T : Bl mg) : FnOk P w K mg base CX0 1 f fd ["rows", "place"] spColumnV := by
  refine F.ok sc_column (fun vs H Q E h => ?_) (fun cdv A outer s H vs Q E hr h => ?_)
  · obtain ⟨a, as, xss, p, rfl, _⟩ := h; rfl
  · obtain ⟨a, as, xss, p, rfl, ha, hz, q⟩ := h
    refine ⟨_, (pss_one (ps_ret (pe_comp (cp := [1]) (M := ["row", "place"]) rfl ⟨rfl, rfl, rfl, rfl, rfl, rfl, rfl⟩ (by decide +kernel) (pi_l (pv 0)) (fun _ _ _ _ _ => (pts_one (pt_cmpR f_lt (pv 1) (pe_callB f_len (by rfl) T.len BI.len (pa_cons (pv 0) pa_nil)) (nomark _)))) (fun _ _ _ _ _ => (pe_ix f_ix (pv 0) (pv 1) (fun _ _ => rfl)))))), ?_⟩
    have e0 : start ["rows", "place"] [V.ref a, V.int (p : Int)] = [some (.ref a), some (.int (p : Int))] := rfl
    rw [e0]
    simp only [rd_ret]
    have la := RowsW.len ha.row
    refine comp_listP (fun R h => by simpa using h) ha.top (fun v => decide (p < (lstV H v).length)) (fun v => (lstV H v).getD p .non) (by rw [List.length_map]; trivial) (fun v hv H' s R h => ?_) (fun v hv hp H' s R h => ?_) (fun D hD => ?_)
    · obtain ⟨b, xs, rfl, hb, hx, e⟩ := rowsV_mem ha.row hv
      simp [cst, onS_of (s _ _ e)]
      simpa [lstV_of e] using h
    · obtain ⟨b, xs, rfl, hb, hx, e⟩ := rowsV_mem ha.row hv
      rw [lstV_of e] at hp
      have hp' := of_decide_eq_true hp
      have ex : xs[p]? = some xs[p] := List.getElem?_eq_getElem hp'
      simp [cst, onS_of (s _ _ e), atI_nat ex]
      simpa [lstV_of e, List.getD_eq_getElem?_getD, ex] using h
    · refine q D _ (Same.upd_new hD) hD ?_
      rw [upd_same]
      obtain ⟨bs, eb, hb⟩ := rowsV_filt ha.row (fun v => decide (p < (lstV H v).length)) (fun r => decide (p < r.length)) (fun b xs e => by rw [lstV_of e])
      rw [eb, rowsV_map hb _ (fun r => r.getD p .non) (fun b xs _ hx e => by rw [lstV_of e])]
      rfl
noncomputable abbrev s_turned : Stmt := top 7
theorem sc_turned : FnScope ["rows", "width"] ["rows"] (defScope s_turned) := ⟨rfl, rfl, rfl, by decide +kernel, rfl, by decide +kernel, by decide +kernel⟩
noncomputable def spTurnedV : Sp := fun vs H Q _ => ∃ (a : Addr) (as : List Addr) (xss : List (List V)), vs = [.ref a] ∧ RowsV H a as xss ∧ xss.length ≤ 5000 ∧ (∀ r ∈ xss, r.length ≤ 5000) ∧
  ∀ r rs H', Same H H' → RowsV H' r rs (turnV xss) → Fresh H (r :: rs) → Q (.ref r) H'
theorem ok_turnedV {f : Addr} {fd : FuncData} (F : Fun K "turned" "turned" s_turned f fd) (T : Bl mg) (C_column : Cal P w K mg base 1 "column" ["rows", "place"] spColumnV) : FnOk P w K mg base CX0 2 f fd ["rows"] spTurnedV := by
  refine F.ok sc_turned (fun vs H Q E h => ?_) (fun cdv A outer s H vs Q E hr h => ?_)
  · obtain ⟨a, as, xss, rfl, _⟩ := h; rfl
  · obtain ⟨a, as, xss, rfl, ha, hz, hz2, q⟩ := h
    refine ⟨_, (pss_cons (ps_set (i := 1) sc_turned.nd rfl (Or.inl rfl) (pe_ifExp (pt_tru (pv 0) (fun _ => rfl)) (pe_callB f_len (by rfl) T.len BI.len (pa_cons (pe_ix f_ix (pv 0) pe_int (fun _ _ => rfl)) pa_nil)) pe_int))
      (pss_one (ps_ret (pe_comp (cp := [0]) (M := ["place", "rows"]) rfl ⟨rfl, rfl, rfl, rfl, rfl, rfl, rfl⟩ (by decide +kernel) (pi_range1 (by rfl) T.range (pa_cons (pv 1) pa_nil)) (fun _ _ _ _ _ => pts_nil) (fun _ _ _ _ _ => (pe_cl C_column (hr.mono (by decide)) (by rfl) (pa_cons (pv 1) (pa_cons (pv 0) pa_nil)))))))), ?_⟩
    have e0 : start ["rows", "width"] [V.ref a] = [some (.ref a), none] := rfl
    rw [e0]
    have la := RowsW.len ha.row
    have hw : widthV xss ≤ 5000 := by
      unfold widthV
      cases xss with
      | nil => simp
      | cons r rs => exact hz2 r List.mem_cons_self
    refine cut1 (fun σ H' => σ = [some (.ref a), some (.int (widthV xss : Int))] ∧ H' = H) (fun R' h => ?_) ?_
    · simp [onL_of ha.top, onS_of ha.top]
      cases xss with
      | nil =>
        have : as = [] := List.length_eq_zero_iff.mp la
        subst this
        simp
        exact h _ _ ⟨by simp [widthV], rfl⟩
      | cons r rs =>
        obtain ⟨b, eb, hb⟩ := RowsW.get (i := 0) ha.row rfl
        have hne : as ≠ [] := fun z => by rw [z] at eb; cases eb
        have eb' : atI (as.map V.ref) 0 = some (.ref b) := atI_nat (j := 0) (map_get eb)
        simp [hne, eb', onS_of hb]
        exact h _ _ ⟨by simp [widthV], rfl⟩
    · rintro σ H' ⟨rfl, rfl⟩
      simp only [rd_ret, rd_comp]
      simp only [rd_rng1, rd_cons, rd_nil, rd_var1, rd_var0, rd_onO, rd_on1, rd_onI]
      refine ⟨⟨by trivial, by trivial⟩, ?_⟩
      refine comp_rowsTV yields_range (fun _ => true) (fun v => match v with | .int k => colV xss k.toNat | _ => []) (by simp; trivial) (fun v hv H1 s1 R k => by simpa using k H1 (fun _ _ e => e)) (fun v hv _ H1 s1 R k => ?_) (fun D bs H1 hD s1 ra fr => ?_)
      · obtain ⟨j, hj, rfl⟩ := List.mem_map.mp hv
        simp [cst]
        refine ⟨a, as, xss, j, rfl, ha.same s1, hz, fun r H2 s2 hr h2 => k r H2 s2 hr (by simpa using h2)⟩
      · rw [List.filter_eq_self.mpr (fun _ _ => rfl), List.map_map] at ra
        refine q D bs H1 s1 ?_ fr
        have : turnV xss = ((List.range (widthV xss)).map ((fun v => match v with | .int k => colV xss k.toNat | _ => []) ∘ fun (i : Nat) => V.int (0 + (i : Int)))) := by
          unfold turnV
          apply List.map_congr_left
          intro i _
          simp [Function.comp_def]
        rw [this]
        simpa using ra
noncomputable abbrev s_reading : Stmt := top 6
theorem sc_reading : FnScope ["rows", "numbers", "row"] ["rows"] (defScope s_reading) := ⟨rfl, rfl, rfl, by decide +kernel, rfl, by decide +kernel, by decide +kernel⟩
noncomputable def spReadingV : Sp := fun vs H Q _ => ∃ (a : Addr) (as : List Addr) (xss : List (List V)), vs = [.ref a] ∧ RowsV H a as xss ∧ xss.length ≤ 5000 ∧ (readV xss).length ≤ 5000 ∧ (∀ r ∈ xss, r.length ≤ 5000) ∧ (∀ r ∈ xss, r.all isLeaf = true) ∧
  ∀ r H', Same H H' → H r = none → H' r = some (.lst ((readV xss).map V.int)) → Q (.ref r) H'
noncomputable def ReadInV (H : Hp) (a : Addr) (n : Addr) (xss : List (List V)) (i : Nat) (σ : L2.St) (H' : Hp) : Prop := ∃ o, σ = [some (.ref a), some (.ref n), o] ∧ Same H H' ∧ H' n = some (.lst (((xss.reverse.take i).map intsOf).flatten.map V.int))
theorem readV_take (xss : List (List V)) (i : Nat) : ((xss.reverse.take i).map intsOf).flatten.length ≤ (readV xss).length := by
  unfold readV
  conv => rhs; rw [← List.take_append_drop i xss.reverse, List.map_append, List.flatten_append, List.length_append]
  trivial
theorem ok_readingV {f : Addr} {fd : FuncData} (F : Fun K "reading" "reading" s_reading f fd) (T : Bl mg) : FnOk P w K mg base CX0 1 f fd ["rows"] spReadingV := by
  refine F.ok sc_reading (fun vs H Q E h => ?_) (fun cdv A outer s H vs Q E hr h => ?_)
  · obtain ⟨a, as, xss, rfl, _⟩ := h; rfl
  · obtain ⟨a, as, xss, rfl, ha, hz, hz2, hz3, lf, q⟩ := h
    refine ⟨_, (pss_cons (ps_set (i := 1) sc_reading.nd rfl (Or.inl rfl) (pe_lst pa_nil))
      (pss_cons (ps_for PassesOwn.never rfl (pi_rev (by rfl) T.reversed (pa_cons (pv 0) pa_nil)) (pg_name (i := 2) sc_reading.nd rfl (Or.inl rfl)) (pss_one (ps_expr (pe_ml PySem.F.slot_list_extend PySem.F.type_list_extend f_extend (pv 1) (pa_cons (pe_comp (cp := []) (M := ["number"]) rfl ⟨rfl, rfl, rfl, rfl, rfl, rfl, rfl⟩ (by decide +kernel) (pi_l (pv 2)) (fun _ _ _ _ _ => (pts_one (pt_cmpR f_notN (pv 0) pe_non (nomark _)))) (fun _ _ _ _ _ => (pv 0))) pa_nil)))))
      (pss_one (ps_ret (pv 1))))), ?_⟩
    have e0 : start ["rows", "numbers", "row"] [V.ref a] = [some (.ref a), none, none] := rfl
    rw [e0]
    have la := RowsW.len ha.row
    simp
    intro n hn
    have s0 := Same.upd_new (o := HO.lst []) hn
    refine for_revF (K := K) a (as.map V.ref) (fun N h => by simp [onL_of (s0 _ _ ha.top)]; rw [List.length_map] at h; exact h) (ReadInV H a n xss) ⟨none, rfl, s0, by rw [upd_same]; rfl⟩ (fun i σ H' _ ⟨o, _, s1, _⟩ => s1 _ _ ha.top) ?_ ?_
    · rintro i v σ H1 ev ⟨o, rfl, s1, h1⟩
      have hi : i < as.length := by have := (List.getElem?_eq_some_iff.mp ev).1; simpa using this
      have ex : xss.reverse[i]? = some (xss.reverse[i]'(by simp; trivial)) := List.getElem?_eq_getElem _
      generalize hr' : xss.reverse[i]'(by simp; trivial) = r at *
      have hrm : r ∈ xss := List.mem_reverse.mp (List.mem_of_getElem? ex)
      have lr := hz3 r hrm
      have lfr := lf r hrm
      obtain ⟨b, rfl, hb⟩ : ∃ b, v = .ref b ∧ H b = some (.lst r) := by
        rw [List.getElem?_reverse (by simpa using hi), List.length_map, List.getElem?_map] at ev
        rw [List.getElem?_reverse (by trivial), ← la] at ex
        obtain ⟨b, eb, hb⟩ := RowsW.get ha.row ex
        rw [eb] at ev
        exact ⟨b, by simpa using ev.symm, hb⟩
      simp [onL_of h1]
      refine comp_listP (a := b) (xs := r) (fun R h => by simpa using h) (s1 _ _ hb) (fun v => !decide (v = V.non)) id (by trivial) (fun v hv H2 s2 R h => ?_) (fun v hv _ H2 s2 R h => by simpa [cst] using h) (fun D hD => ?_)
      · simpa [cst] using h
      · rw [List.map_id, leaf_filter lfr]
        have s2 := Same.upd_new (o := HO.lst ((intsOf r).map V.int)) hD
        have h1' := s2 _ _ h1
        have tn := take_next ex
        have tf : ((xss.reverse.take (i + 1)).map intsOf).flatten = ((xss.reverse.take i).map intsOf).flatten ++ intsOf r := by rw [tn, List.map_append, List.flatten_append]; simp
        have fl := readV_take xss (i + 1)
        unfold ReadInV
        rw [tf] at fl ⊢
        generalize ((xss.reverse.take i).map intsOf).flatten = Fl at *
        rw [List.length_append] at fl
        simp [onL_of upd_same, onL_of h1']
        exact ⟨line3 (by trivial), (s1.trans s2).upd_in hn, upd_same⟩
    · rintro σ H1 ⟨o, rfl, s1, h1⟩
      simp
      refine q n H1 s1 hn ?_
      rw [h1, List.length_map, la]
      have : xss.reverse.take xss.length = xss.reverse := List.take_of_length_le (by simp)
      rw [this]; rfl
noncomputable abbrev s_is_shape : Stmt := top 4
theorem sc_is_shape : FnScope ["lengths"] ["lengths"] (defScope s_is_shape) := ⟨rfl, rfl, rfl, by decide +kernel, rfl, by decide +kernel, by decide +kernel⟩
noncomputable def spIsShape : Sp := fun vs H Q _ => ∃ (a : Addr) (ls : List Int), vs = [.ref a] ∧ H a = some (.lst (ls.map V.int)) ∧ ls.length < 64 ∧ ∀ H', Same H H' → Q (.bl (shapeB ls)) H'
theorem ok_is_shape {f : Addr} {fd : FuncData} (F : Fun K "is_shape" "is_shape" s_is_shape f fd) (T : Bl mg) : FnOk P w K mg base CX0 1 f fd ["lengths"] spIsShape := by
  refine F.ok sc_is_shape (fun vs H Q E h => ?_) (fun cdv A outer s H vs Q E hr h => ?_)
  · obtain ⟨a, ls, rfl, _⟩ := h; rfl
  · obtain ⟨a, ls, rfl, ha, hz, q⟩ := h
    refine ⟨_, (pss_one (ps_ret (pe_and (pe_cmpR (f_eqF (hu64 hr)) (pv 0) (pe_sortedR (by rfl) T.sorted (pa_cons (pv 0) pa_nil)) (nomark _)) (pe_one (pe_callB (f_all rfl) (by rfl) T.all BI.all (pa_cons (pe_comp (cp := []) (M := ["length"]) rfl ⟨rfl, rfl, rfl, rfl, rfl, rfl, rfl⟩ (by decide +kernel) (pi_l (pv 0)) (fun _ _ _ _ _ => pts_nil) (fun _ _ _ _ _ => (pe_cmpR f_ge (pv 0) pe_int (nomark _)))) pa_nil)))))), ?_⟩
    have e0 : start ["lengths"] [V.ref a] = [some (.ref a)] := rfl
    rw [e0]
    simp [onL_of ha]
    refine ⟨ls, rfl, hz, fun p hp => ?_⟩
    have s1 := Same.upd_new (o := HO.lst ((sortR ls).map V.int)) hp
    refine eqF_ints (s1 _ _ ha) upd_same ?_
    rw [rd_onB]
    by_cases he : ls = sortR ls
    · rw [if_pos (by simpa using he)]
      refine comp_listP (a := a) (xs := ls.map V.int) (fun R h => by simpa using h) (s1 _ _ ha) (fun _ => true) (fun v => match v with | .int k => .bl (decide (1 ≤ k)) | _ => .non) (by rw [List.length_map]; trivial) (fun v hv H2 s2 R h => by simpa using h) (fun v hv _ H2 s2 R h => ?_) (fun D hD => ?_)
      · obtain ⟨k, hk, rfl⟩ := List.mem_map.mp hv
        simpa [cst] using h
      · rw [onL_of upd_same]
        refine ⟨ls.map fun k => decide (1 ≤ k), by rw [List.filter_eq_self.mpr (fun _ _ => rfl), List.map_map, List.map_map]; rfl, ?_⟩
        have : (ls.map fun k => decide (1 ≤ k)).all id = shapeB ls := by
          unfold shapeB
          rw [decide_eq_true he, Bool.true_and, List.all_map]; rfl
        rw [this]
        exact q _ (s1.trans (Same.upd_new hD))
    · rw [if_neg (by simpa using he)]
      have : shapeB ls = false := by unfold shapeB; rw [decide_eq_false he, Bool.false_and]
      have := q _ s1
      simpa [*] using this
noncomputable abbrev s_numbers_unlike : Stmt := top 11
theorem sc_numbers_unlike : FnScope ["rows", "numbers"] ["rows"] (defScope s_numbers_unlike) := ⟨rfl, rfl, rfl, by decide +kernel, rfl, by decide +kernel, by decide +kernel⟩
noncomputable def spUnlike : Sp := fun vs H Q _ => ∃ (a : Addr) (as : List Addr) (xss : List (List V)), vs = [.ref a] ∧ RowsV H a as xss ∧ xss.length ≤ 100 ∧ (readV xss).length ≤ 4000 ∧ (∀ r ∈ xss, r.length ≤ 5000) ∧ (∀ r ∈ xss, r.all isLeaf = true) ∧ ∀ H', Same H H' → Q (.bl (decide (readV xss).Nodup)) H'
theorem ok_unlike {f : Addr} {fd : FuncData} (F : Fun K "numbers_unlike" "numbers_unlike" s_numbers_unlike f fd) (T : Bl mg) (C_reading : Cal P w K mg base 1 "reading" ["rows"] spReadingV) : FnOk P w K mg base CX0 2 f fd ["rows"] spUnlike := by
  refine F.ok sc_numbers_unlike (fun vs H Q E h => ?_) (fun cdv A outer s H vs Q E hr h => ?_)
  · obtain ⟨a, as, xss, rfl, _⟩ := h; rfl
  · obtain ⟨a, as, xss, rfl, ha, hz, hz2, hz3, lf, q⟩ := h
    refine ⟨_, (pss_cons (ps_set (i := 1) sc_numbers_unlike.nd rfl (Or.inl rfl) (pe_cl C_reading (hr.mono (by decide)) (by rfl) (pa_cons (pv 0) pa_nil)))
      (pss_one (ps_ret (pe_cmpR (f_eqF (hu64 hr)) (pe_lenSet (by rfl) T.len (by rfl) T.set (pa_cons (pv 1) pa_nil) rfl) (pe_callB f_len (by rfl) T.len BI.len (pa_cons (pv 1) pa_nil)) (nomark _))))), ?_⟩
    have e0 : start ["rows", "numbers"] [V.ref a] = [some (.ref a), none] := rfl
    rw [e0]
    simp
    refine ⟨a, as, xss, rfl, ha, by trivial, by trivial, hz3, lf, fun r H1 s1 hr1 h1 => ?_⟩
    show onL _ _ _
    rw [onL_of h1]
    refine ⟨_, rfl, hz2, fun c hc1 hc2 => ?_⟩
    rw [onS_of h1]
    simp
    have : decide ((c : Int) = ((readV xss).length : Int)) = decide (readV xss).Nodup := by
      rw [decide_eq_decide, ← hc2]; trivial
    rw [this]
    exact q _ s1
noncomputable abbrev s_holes_in : Stmt := top 14
theorem sc_holes_in : FnScope ["line"] ["line"] (defScope s_holes_in) := ⟨rfl, rfl, rfl, by decide +kernel, rfl, by decide +kernel, by decide +kernel⟩
noncomputable def spHoles : Sp := fun vs H Q _ => ∃ (a : Addr) (l : List V), vs = [.ref a] ∧ H a = some (.lst l) ∧ l.all isLeaf = true ∧ Q (.int (holesV l : Int)) H
theorem ok_holes {f : Addr} {fd : FuncData} (F : Fun K "holes_in" "holes_in" s_holes_in f fd) (T : Bl mg) : FnOk P w K mg base CX0 1 f fd ["line"] spHoles := by
  refine F.ok sc_holes_in (fun vs H Q E h => ?_) (fun cdv A outer s H vs Q E hr h => ?_)
  · obtain ⟨a, l, rfl, _⟩ := h; rfl
  · obtain ⟨a, l, rfl, ha, lf, q⟩ := h
    refine ⟨_, (pss_one (ps_ret (pe_ml PySem.F.slot_list_count PySem.F.type_list_count f_count (pv 0) (pa_cons pe_non pa_nil)))), ?_⟩
    have e0 : start ["line"] [V.ref a] = [some (.ref a)] := rfl
    rw [e0]
    simp only [rd_ret, rd_ml, rd_var0, rd_onO, onL_of ha, rd_cons, rd_nil, rd_c, rd_count, rd_on1]
    exact ⟨rfl, leaf_flat lf, q⟩
noncomputable abbrev s_rises_behind_holes : Stmt := top 13
theorem sc_rises_behind_holes : FnScope ["line", "numbers"] ["line"] (defScope s_rises_behind_holes) := ⟨rfl, rfl, rfl, by decide +kernel, rfl, by decide +kernel, by decide +kernel⟩
noncomputable def spRises : Sp := fun vs H Q _ => ∃ (a : Addr) (l : List V), vs = [.ref a] ∧ H a = some (.lst l) ∧ l.all isLeaf = true ∧ l.length < 64 ∧ ∀ H', Same H H' → Q (.bl (riseV l)) H'
theorem ok_rises {f : Addr} {fd : FuncData} (F : Fun K "rises_behind_holes" "rises_behind_holes" s_rises_behind_holes f fd) (T : Bl mg) (C_holes_in : Cal P w K mg base 1 "holes_in" ["line"] spHoles) : FnOk P w K mg base CX0 2 f fd ["line"] spRises := by
  refine F.ok sc_rises_behind_holes (fun vs H Q E h => ?_) (fun cdv A outer s H vs Q E hr h => ?_)
  · obtain ⟨a, l, rfl, _⟩ := h; rfl
  · obtain ⟨a, l, rfl, ha, lf, hz, q⟩ := h
    refine ⟨_, (pss_cons (ps_comp (i := 1) sc_rises_behind_holes.nd rfl rfl (cp := []) (M := ["number"]) rfl ⟨rfl, rfl, rfl, rfl, rfl, rfl, rfl⟩ (by decide +kernel) (pi_l (pv 0)) (fun _ _ _ _ _ => (pts_one (pt_cmpR f_notN (pv 0) pe_non (nomark _)))) (fun _ _ _ _ _ => (pv 0)))
      (pss_one (ps_ret (pe_cmpR (f_eqF (hu64 hr)) (pv 0) (pe_op f_add (pe_op f_mulF (pe_lst (pa_cons pe_non pa_nil)) (pe_cl C_holes_in (hr.mono (by decide)) (by rfl) (pa_cons (pv 0) pa_nil))) (pe_callB f_sorted (by rfl) T.sorted BI.sorted (pa_cons (pv 1) pa_nil))) (nomark _))))), ?_⟩
    have e0 : start ["line", "numbers"] [V.ref a] = [some (.ref a), none] := rfl
    rw [e0]
    rw [rd_seq]
    have li := intsOf_len l
    have hl := holesV_le l
    refine comp_listP (a := a) (xs := l) (fun R h => by simpa using h) ha (fun v => !decide (v = V.non)) id (by trivial) (fun v hv H2 s2 R h => by simpa [cst] using h) (fun v hv _ H2 s2 R h => by simpa [cst] using h) (fun D hD => ?_)
    rw [List.map_id, leaf_filter lf]
    have s1 := Same.upd_new (o := HO.lst ((intsOf l).map V.int)) hD
    have hD1 : upd H D (HO.lst ((intsOf l).map V.int)) D = some (HO.lst ((intsOf l).map V.int)) := upd_same
    generalize upd H D (HO.lst ((intsOf l).map V.int)) = H1 at *
    simp
    refine ⟨line3 (by decide), fun p1 hp1 => ?_⟩
    have s2 := Same.upd_new (o := HO.lst [V.non]) hp1
    refine ⟨a, l, rfl, s2 _ _ (s1 _ _ ha), lf, ?_⟩
    show onI _ _
    rw [rd_onI, onL_of upd_same]
    refine ⟨⟨by trivial, by simp; trivial, by trivial⟩, fun p2 hp2 => ?_⟩
    have e1 : (List.replicate ((holesV l : Int)).toNat [V.non]).flatten = List.replicate (holesV l) V.non := by
      rw [Int.toNat_natCast]
      induction holesV l with
      | zero => rfl
      | succ n ih => rw [List.replicate_succ, List.flatten_cons, ih, List.replicate_succ]; rfl
    rw [e1]
    have s3 := Same.upd_new (o := HO.lst (List.replicate (holesV l) V.non)) hp2
    rw [onL_of ((s2.trans s3) _ _ hD1)]
    refine ⟨intsOf l, rfl, by trivial, fun p3 hp3 => ?_⟩
    have s4 := Same.upd_new (o := HO.lst ((sortZ (intsOf l)).map V.int)) hp3
    rw [onL_of (s4 _ _ upd_same), onL_of upd_same]
    refine ⟨line3 (by simp [sortZ_len]; trivial), fun p4 hp4 => ?_⟩
    have s5 := Same.upd_new (o := HO.lst (List.replicate (holesV l) V.non ++ (sortZ (intsOf l)).map V.int)) hp4
    have s15 := ((s1.trans s2).trans s3).trans (s4.trans s5)
    refine eqF_leaf (s15 _ _ ha) upd_same lf ?_ (q _ s15)
    rw [List.all_append, Bool.and_eq_true]
    exact ⟨by simp [List.all_replicate, isLeaf], leaf_ints _⟩
noncomputable abbrev s_all_rise : Stmt := top 12
theorem sc_all_rise : FnScope ["lines"] ["lines"] (defScope s_all_rise) := ⟨rfl, rfl, rfl, by decide +kernel, rfl, by decide +kernel, by decide +kernel⟩
noncomputable def spAllRise : Sp := fun vs H Q _ => ∃ (a : Addr) (as : List Addr) (xss : List (List V)), vs = [.ref a] ∧ RowsV H a as xss ∧ xss.length ≤ 5000 ∧ (∀ r ∈ xss, r.length < 64) ∧ (∀ r ∈ xss, r.all isLeaf = true) ∧ ∀ H', Same H H' → Q (.bl (xss.all riseV)) H'
theorem ok_all_rise {f : Addr} {fd : FuncData} (F : Fun K "all_rise" "all_rise" s_all_rise f fd) (T : Bl mg) (C_rises_behind_holes : Cal P w K mg base 2 "rises_behind_holes" ["line"] spRises) : FnOk P w K mg base CX0 3 f fd ["lines"] spAllRise := by
  refine F.ok sc_all_rise (fun vs H Q E h => ?_) (fun cdv A outer s H vs Q E hr h => ?_)
  · obtain ⟨a, as, xss, rfl, _⟩ := h; rfl
  · obtain ⟨a, as, xss, rfl, ha, hz, hz2, lf, q⟩ := h
    refine ⟨_, (pss_one (ps_ret (pe_callB (f_all rfl) (by rfl) T.all BI.all (pa_cons (pe_comp (cp := []) (M := ["line"]) rfl ⟨rfl, rfl, rfl, rfl, rfl, rfl, rfl⟩ (by decide +kernel) (pi_l (pv 0)) (fun _ _ _ _ _ => pts_nil) (fun _ _ _ _ _ => (pe_cl C_rises_behind_holes (hr.mono (by decide)) (by rfl) (pa_cons (pv 0) pa_nil)))) pa_nil)))), ?_⟩
    have e0 : start ["lines"] [V.ref a] = [some (.ref a)] := rfl
    rw [e0]
    have la := RowsW.len ha.row
    simp only [rd_ret, rd_cb, rd_cons]
    refine comp_listG (fun R h => by simpa using h) ha.top (fun _ => true) (fun v => .bl (riseV (lstV H v))) (by rw [List.length_map]; trivial) (fun v hv H' s R h => by simpa using h H' (fun _ _ e => e)) (fun v hv _ H' s R h => ?_) (fun D H' hD s1 hd => ?_)
    · obtain ⟨b, xs, rfl, hb, hx, e⟩ := rowsV_mem ha.row hv
      simp [cst]
      rw [lstV_of e] at h
      exact ⟨b, xs, rfl, s _ _ e, lf xs hx, hz2 xs hx, h⟩
    · rw [rd_nil, rd_all, rd_on1, onL_of hd]
      refine ⟨xss.map riseV, ?_, ?_⟩
      · rw [List.filter_eq_self.mpr (fun _ _ => rfl), rowsV_map ha.row _ (fun r => V.bl (riseV r)) (fun b xs _ hx e => by rw [lstV_of e]), List.map_map]; rfl
      · rw [List.all_map]
        exact q _ s1
noncomputable abbrev s_is_holed : Stmt := top 10
theorem sc_is_holed : FnScope ["rows"] ["rows"] (defScope s_is_holed) := ⟨rfl, rfl, rfl, by decide +kernel, rfl, by decide +kernel, by decide +kernel⟩
noncomputable def spHoled : Sp := fun vs H Q _ => ∃ (a : Addr) (as : List Addr) (xss : List (List V)), vs = [.ref a] ∧ RowsV H a as xss ∧ xss.length < 64 ∧ (readV xss).length ≤ 4000 ∧ (∀ r ∈ xss, r.length < 64) ∧ (∀ r ∈ xss, r.all isLeaf = true) ∧ ∀ H', Same H H' → Q (.bl (holedV xss)) H'
theorem ok_is_holed {f : Addr} {fd : FuncData} (F : Fun K "is_holed" "is_holed" s_is_holed f fd) (T : Bl mg) (C_shape : Cal P w K mg base 1 "shape" ["rows"] spShapeV) (C_is_shape : Cal P w K mg base 1 "is_shape" ["lengths"] spIsShape) (C_numbers_unlike : Cal P w K mg base 2 "numbers_unlike" ["rows"] spUnlike) (C_all_rise : Cal P w K mg base 3 "all_rise" ["lines"] spAllRise) (C_turned : Cal P w K mg base 2 "turned" ["rows"] spTurnedV) : FnOk P w K mg base CX0 4 f fd ["rows"] spHoled := by
  refine F.ok sc_is_holed (fun vs H Q E h => ?_) (fun cdv A outer s H vs Q E hr h => ?_)
  · obtain ⟨a, as, xss, rfl, _⟩ := h; rfl
  · obtain ⟨a, as, xss, rfl, ha, hz, hz2, hz3, lf, q⟩ := h
    refine ⟨_, (pss_one (ps_ret (pe_and (pe_cl C_is_shape (hr.mono (by decide)) (by rfl) (pa_cons (pe_cl C_shape (hr.mono (by decide)) (by rfl) (pa_cons (pv 0) pa_nil)) pa_nil)) (pe_and (pe_cl C_numbers_unlike (hr.mono (by decide)) (by rfl) (pa_cons (pv 0) pa_nil)) (pe_and (pe_cl C_all_rise (hr.mono (by decide)) (by rfl) (pa_cons (pv 0) pa_nil)) (pe_one (pe_cl C_all_rise (hr.mono (by decide)) (by rfl) (pa_cons (pe_cl C_turned (hr.mono (by decide)) (by rfl) (pa_cons (pv 0) pa_nil)) pa_nil)))))))), ?_⟩
    have e0 : start ["rows"] [V.ref a] = [some (.ref a)] := rfl
    rw [e0]
    unfold holedV at q
    simp
    refine ⟨a, as, xss, rfl, ha, by trivial, fun r H1 s1 hr1 h1 => ?_⟩
    refine ⟨r, _, rfl, h1, by simp [lensV]; trivial, fun H2 s2 => ?_⟩
    have s12 := s1.trans s2
    show if _ then _ else _
    by_cases c1 : shapeB (lensV xss) = true
    · rw [if_pos c1]
      rw [c1, Bool.true_and] at q
      refine ⟨a, as, xss, rfl, ha.same s12, by trivial, hz2, fun r hr => by have := hz3 r hr; trivial, lf, fun H3 s3 => ?_⟩
      have s13 := s12.trans s3
      show if _ then _ else _
      by_cases c2 : (readV xss).Nodup
      · rw [if_pos (by simpa using c2)]
        rw [decide_eq_true c2, Bool.true_and] at q
        refine ⟨a, as, xss, rfl, ha.same s13, by trivial, hz3, lf, fun H4 s4 => ?_⟩
        have s14 := s13.trans s4
        show if _ then _ else _
        by_cases c3 : xss.all riseV = true
        · rw [if_pos c3]
          rw [c3, Bool.true_and] at q
          refine ⟨a, as, xss, rfl, ha.same s14, by trivial, fun r hr => by have := hz3 r hr; trivial, fun t ts H5 s5 h5 fr5 => ?_⟩
          refine ⟨t, ts, turnV xss, rfl, h5, ?_, fun r hr => ?_, fun r hr => ?_, fun H6 s6 => q _ ((s14.trans s5).trans s6)⟩
          · simp [turnV, widthV]
            cases xss with
            | nil => simp
            | cons r0 R => have := hz3 r0 List.mem_cons_self; simp; trivial
          · obtain ⟨p, _, rfl⟩ := List.mem_map.mp hr
            have := colV_len xss p
            trivial
          · obtain ⟨p, _, rfl⟩ := List.mem_map.mp hr
            exact leaf_col lf p
        · rw [if_neg c3]
          simp only [Bool.not_eq_true] at c3
          rw [c3, Bool.false_and] at q
          exact q _ s14
      · rw [if_neg (by simpa using c2)]
        rw [decide_eq_false c2, Bool.false_and, Bool.false_and] at q
        exact q _ s13
    · rw [if_neg c1]
      simp only [Bool.not_eq_true] at c1
      rw [c1, Bool.false_and, Bool.false_and, Bool.false_and] at q
      exact q _ s12
end
end SR
namespace SR
open PySem L2 RS PySem.Spec PyProof.Rows
section
variable {P : Program} {w : World} {K : PySem.W.Frag} {mg : Str → Option Value} {base : Heap}
noncomputable abbrev s_law_number_or : Stmt := top 33
theorem sc_law_number_or : FnScope ["number", "low"] ["number", "low"] (defScope s_law_number_or) := ⟨rfl, rfl, rfl, by decide +kernel, rfl, by decide +kernel, by decide +kernel⟩
noncomputable def spNumOr : Sp := fun vs H Q _ => ∃ (n : Int) (a : Addr) (low : List Int), vs = [.int n, .ref a] ∧ H a = some (.lst (low.map V.int)) ∧ Q (hol low n) H
theorem ok_numor {f : Addr} {fd : FuncData} (F : Fun K "_law_number_or" "_law_number_or" s_law_number_or f fd) (T : Bl mg) : FnOk P w K mg base CX0 1 f fd ["number", "low"] spNumOr := by
  refine F.ok sc_law_number_or (fun vs H Q E h => ?_) (fun cdv A outer s H vs Q E hr h => ?_)
  · obtain ⟨n, a, low, rfl, _⟩ := h; rfl
  · obtain ⟨n, a, low, rfl, ha, q⟩ := h
    refine ⟨_, (pss_cons (ps_if (pt_cmpR f_in (pv 0) (pv 1) (by with_unfolding_all rfl)) (pss_one (ps_ret pe_non)) pss_nil)
      (pss_one (ps_ret (pv 0)))), ?_⟩
    have e0 : start ["number", "low"] [V.int n, V.ref a] = [some (.int n), some (.ref a)] := rfl
    rw [e0, rd_seq]
    refine ifS (decide (n ∈ low)) H (fun R h => ?_) ?_
    · simp only [rd_test, rd_op, rd_var0, rd_var1, rd_onO, rd_in, onS_of ha]
      exact ⟨rfl, flat_ints low, by rw [in_int]; exact h⟩
    · unfold hol at q
      by_cases hm : n ∈ low
      · rw [if_pos (by simpa using hm)]
        rw [if_pos hm] at q
        exact q
      · rw [if_neg (by simpa using hm), rd_next]
        rw [if_neg hm] at q
        dsimp only
        simpa using q
noncomputable abbrev s_law_holed_by : Stmt := top 32
theorem sc_law_holed_by : FnScope ["script", "rows", "numbers", "row", "low"] ["script", "rows"] (defScope s_law_holed_by) := ⟨rfl, rfl, rfl, by decide +kernel, rfl, by decide +kernel, by decide +kernel⟩
noncomputable def spHoledBy (K : PySem.W.Frag) : Sp := fun vs H Q _ => ∃ (a : Addr) (ns : List Int) (b : Addr) (bs : List Addr) (R : List (List Int)), vs = [.ref a, .ref b] ∧ SqL K H a (ns.map V.int) ∧ ns.length ≤ 63 ∧ RowsAt H b bs R ∧ R.length ≤ 60 ∧ R.flatten.length ≤ 60 ∧ (∀ r ∈ R, r.length ≤ 60) ∧
  ∀ r rs H' low, Same H H' → Down low R → RowsV H' r rs (holR low R) → Fresh H (r :: rs) → Q (.ref r) H'
noncomputable def HbIn (H : Hp) (a b : Addr) (R : List (List Int)) (i : Nat) (σ : L2.St) (H' : Hp) : Prop := ∃ (n : Addr) (o : Option V), σ = [some (.ref a), some (.ref b), some (.ref n), o, none] ∧ Same H H' ∧ H' n = some (.lst ((R.take i).flatten.map V.int))
theorem ok_holed_by {f : Addr} {fd : FuncData} (F : Fun K "_law_holed_by" "_law_holed_by" s_law_holed_by f fd) (T : Bl mg) (C_law_drawn : Cal P w K mg base 1 "_law_drawn" ["script", "k", "many"] (spDrawn K)) (C_law_number_or : Cal P w K mg base 1 "_law_number_or" ["number", "low"] spNumOr) : FnOk P w K mg base CX0 2 f fd ["script", "rows"] (spHoledBy K) := by
  refine F.ok sc_law_holed_by (fun vs H Q E h => ?_) (fun cdv A outer s H vs Q E hr h => ?_)
  · obtain ⟨a, ns, b, bs, R, rfl, _⟩ := h; rfl
  · obtain ⟨a, ns, b, bs, R, rfl, hS, hl, hb, hz, hz2, hz3, q⟩ := h
    refine ⟨_, (pss_cons (ps_set (i := 2) sc_law_holed_by.nd rfl (Or.inl rfl) (pe_lst pa_nil))
      (pss_cons (ps_for PassesOwn.never rfl (pi_l (pv 1)) (pg_name (i := 3) sc_law_holed_by.nd rfl (Or.inl rfl)) (pss_one (ps_set (i := 2) sc_law_holed_by.nd rfl (Or.inl rfl) (pe_op f_add (pv 2) (pv 3)))))
      (pss_cons (ps_set (i := 4) sc_law_holed_by.nd rfl (Or.inr rfl) (pe_slice f_sl (pe_callB f_sorted (by rfl) T.sorted BI.sorted (pa_cons (pv 2) pa_nil)) po_none (po_some (pe_cl C_law_drawn (hr.mono (by decide)) (by rfl) (pa_cons (pv 0) (pa_cons pe_int (pa_cons (pe_op f_add (pe_callB f_len (by rfl) T.len BI.len (pa_cons (pv 2) pa_nil)) pe_int) pa_nil)))))))
      (pss_cons (ps_if (pt_cmpR (f_eqF (hu64 hr)) (pe_cl C_law_drawn (hr.mono (by decide)) (by rfl) (pa_cons (pv 0) (pa_cons pe_int (pa_cons pe_int pa_nil)))) pe_int (nomark _)) (pss_one (ps_set (i := 4) sc_law_holed_by.nd rfl (Or.inr rfl) (pe_slice f_sl (pv 4) po_none (po_some pe_int)))) pss_nil)
      (pss_one (ps_ret (pe_comp (cp := [4]) (M := ["row", "low"]) rfl ⟨rfl, rfl, rfl, rfl, rfl, rfl, rfl⟩ (by decide +kernel) (pi_l (pv 1)) (fun _ _ _ _ _ => pts_nil) (fun _ _ _ _ _ => (pe_comp (cp := [1]) (M := ["number", "low"]) rfl ⟨rfl, rfl, rfl, rfl, rfl, rfl, rfl⟩ (by decide +kernel) (pi_lK (K := K) rfl (pv 0)) (fun _ _ _ _ _ => pts_nil) (fun _ _ _ _ _ => (pe_cl C_law_number_or (hr.mono (by decide)) (by rfl) (pa_cons (pv 0) (pa_cons (pv 1) pa_nil))))))))))))), ?_⟩
    have e0 : start ["script", "rows", "numbers", "row", "low"] [V.ref a, V.ref b] = [some (.ref a), some (.ref b), none, none, none] := rfl
    rw [e0]
    have lb := RowsL.len hb.row
    have ft : ∀ i, (R.take i).flatten.length ≤ 60 := fun i => by
      have : (R.take i).flatten.length ≤ R.flatten.length := by
        conv => rhs; rw [← List.take_append_drop i R, List.flatten_append, List.length_append]
        trivial
      trivial
    have fin : ∀ (n : Addr) (o : Option V) (lw : Addr) (H1 : Hp) (low : List Int), Same H H1 → Down low R → H1 lw = some (.lst (low.map V.int)) →
        tRet (tComp (iL K (tVar 1)) [4] tNoTest (tComp (iL K (tVar 0)) [1] tNoTest (tCl spNumOr (tCons (tVar 0) (tCons (tVar 1) tNil))))) { nx := fun x H' => Q V.non H', rt := Q } [some (.ref a), some (.ref b), some (.ref n), o, some (.ref lw)] H1 := fun n o lw H1 low s1 dn h1 => by
      rw [rd_ret]
      refine comp_listTV (a := b) (xs := bs.map V.ref) (fun R h => by simpa using h) (s1 _ _ hb.top) (fun _ => true) (fun v => match v with | .ref c => (match H c with | some (.lst ys) => (intsOf ys).map (hol low) | _ => []) | _ => []) (by rw [List.length_map]; trivial) (fun v hv H' s R h => by simpa using h H' (fun _ _ e => e)) (fun v hv _ H' s' Rr h => ?_) (fun D as H' hD s' ra fr => ?_)
      · obtain ⟨c, hc, rfl⟩ := List.mem_map.mp hv
        obtain ⟨i, hi⟩ := List.getElem?_of_mem hc
        obtain ⟨x, ex, hx⟩ := RowsL.get' hb.row hi
        have hx' := s' _ _ (s1 _ _ hx)
        simp only [hx, intsOf_ints] at h
        have lx := hz3 x (List.mem_of_getElem? ex)
        refine comp_listP (a := c) (xs := x.map V.int) (fun R h => by simpa [cst] using h) hx' (fun _ => true) (fun v => match v with | .int k => hol low k | _ => .non) (by rw [List.length_map]; trivial) (fun v hv H2 s2 R h => by simpa using h) (fun v hv _ H2 s2 R h => ?_) (fun D hD => ?_)
        · obtain ⟨k, hk, rfl⟩ := List.mem_map.mp hv
          simp [cst]
          exact ⟨k, lw, low, rfl, s2 _ _ (s' _ _ h1), h⟩
        · refine h D _ (Same.upd_new hD) hD ?_
          rw [upd_same, List.filter_eq_self.mpr (fun _ _ => rfl), List.map_map]; rfl
      · refine q D as H' low (s1.trans s') dn ?_ (fr.old s1)
        rw [List.filter_eq_self.mpr (fun _ _ => rfl)] at ra
        have : (bs.map V.ref).map (fun v => match v with | .ref c => (match H c with | some (.lst ys) => (intsOf ys).map (hol low) | _ => []) | _ => []) = holR low R := by
          have : ∀ {bs : List Addr} {R : List (List Int)}, RowsL H bs R → (bs.map V.ref).map (fun v => match v with | .ref c => (match H c with | some (.lst ys) => (intsOf ys).map (hol low) | _ => []) | _ => []) = holR low R := by
            intro bs R h
            induction h with
            | nil => rfl
            | cons r t ih =>
              rw [List.map_cons, List.map_cons, ih]
              simp [r, intsOf_ints, holR]
          exact this hb.row
        rw [this] at ra
        exact ra
    simp only [rd_seq, rd_asg, rd_lst, rd_nil, rd_name, List.set_cons_succ, List.set_cons_zero]
    refine ⟨line3 (by decide), fun n0 hn0 => ?_⟩
    have s0 := Same.upd_new (o := HO.lst []) hn0
    refine for_listF (K := K) b (bs.map V.ref) (fun N h => by simp [onL_of (s0 _ _ hb.top)]; exact h) (HbIn H a b R) ⟨n0, none, rfl, s0, by rw [upd_same]; rfl⟩ (fun i σ H' _ ⟨_, _, _, s1, _⟩ => s1 _ _ hb.top) ?_ ?_
    · rintro i v σ H1 ev ⟨n, o, rfl, s1, h1⟩
      rw [List.getElem?_map] at ev
      cases ea : bs[i]? with
      | none => rw [ea] at ev; cases ev
      | some p =>
        rw [ea] at ev
        have ev' : v = .ref p := by simpa using ev.symm
        subst ev'
        obtain ⟨r, er, hp⟩ := RowsL.get' hb.row ea
        have l1 := ft (i + 1)
        have tf : (R.take (i + 1)).flatten = (R.take i).flatten ++ r := by rw [take_next er, List.flatten_append]; simp
        unfold HbIn
        rw [tf] at l1 ⊢
        generalize (R.take i).flatten = Fl at *
        rw [List.length_append] at l1
        simp [onL_of h1, onL_of (s1 _ _ hp)]
        exact ⟨line3 (by trivial), fun p1 hp1 => ⟨s1.trans (Same.upd_new hp1), upd_same⟩⟩
    · rintro σ H1 ⟨n, o, rfl, s1, h1⟩
      rw [List.length_map, lb, List.take_length] at h1
      try dsimp only
      try rw [rd_seq]
      try rw [rd_asg]
      simp only [rd_sl, rd_cb, rd_cons, rd_nil, rd_var2, rd_var1, rd_var0, rd_onO, rd_sorted, rd_on1, onL_of h1, rd_nopart]
      refine ⟨R.flatten, rfl, by trivial, fun p1 hp1 => ?_⟩
      have s2 := Same.upd_new (o := HO.lst ((sortZ R.flatten).map V.int)) hp1
      simp only [rd_part, rd_cl, rd_cons, rd_nil, rd_var2, rd_var1, rd_var0, rd_onO, rd_c, rd_op, rd_cb, rd_len, rd_on1, onS_of (s2 _ _ h1), rd_plusI, rd_onI, List.length_map]
      refine ⟨a, ns, _, _, rfl, (s1.trans s2).seq hS, hl, by decide, by decide, by trivial, ?_⟩
      have d0 := drawn_lo ns 200 (m := (R.flatten.length : Int) + 1) (by trivial)
      have d1 := drawn_hi ns 200 (m := (R.flatten.length : Int) + 1) (by trivial)
      generalize drawnZ ns 200 ((R.flatten.length : Int) + 1) = d at *
      have ct : cutV ((sortZ R.flatten).map V.int) none (some d) = ((sortZ R.flatten).take d.toNat).map V.int := by
        have := cut_to (xs := (sortZ R.flatten).map V.int) (p := d.toNat) (by rw [List.length_map, sortZ_len]; trivial)
        rw [Int.toNat_of_nonneg d0] at this
        rw [this, List.map_take]
      simp only [rd_onI, rd_cut, onL_of upd_same, ct, rd_new]
      intro p2 hp2
      have s3 := Same.upd_new (o := HO.lst (((sortZ R.flatten).take d.toNat).map V.int)) hp2
      have h3 : upd (upd H1 p1 (HO.lst ((sortZ R.flatten).map V.int))) p2 (HO.lst (((sortZ R.flatten).take d.toNat).map V.int)) p2 = some (HO.lst (((sortZ R.flatten).take d.toNat).map V.int)) := upd_same
      have s13 := (s1.trans s2).trans s3
      generalize upd (upd H1 p1 (HO.lst ((sortZ R.flatten).map V.int))) p2 (HO.lst (((sortZ R.flatten).take d.toNat).map V.int)) = H3 at *
      refine ifS (decide (drawnZ ns 201 2 = 1)) H3 (fun Rr h => ?_) ?_
      · simp
        exact ⟨a, ns, _, _, rfl, s13.seq hS, hl, by decide, by decide, by decide, by simpa using h⟩
      by_cases h4 : drawnZ ns 201 2 = 1
      · rw [if_pos (by simpa using h4)]
        simp [onL_of h3]
        intro p4 hp4
        have c4 : cutV (((sortZ R.flatten).take d.toNat).map V.int) none (some 4) = (((sortZ R.flatten).take d.toNat).take 4).map V.int := by
          by_cases hlen : 4 ≤ (((sortZ R.flatten).take d.toNat).map V.int).length
          · have := cut_to (p := 4) hlen
            rw [← List.map_take] at this
            exact this
          · have : (((sortZ R.flatten).take d.toNat).take 4) = (sortZ R.flatten).take d.toNat := List.take_of_length_le (by rw [List.length_map] at hlen; trivial)
            rw [this]
            unfold cutV
            have e1 : HT.sIx (((sortZ R.flatten).take d.toNat).map V.int).length 0 none = 0 := rfl
            have e2 : HT.sIx (((sortZ R.flatten).take d.toNat).map V.int).length (((sortZ R.flatten).take d.toNat).map V.int).length (some 4) = min 4 (((sortZ R.flatten).take d.toNat).map V.int).length := HT.sIx_nat _ _ 4
            rw [e1, e2]
            simp only [List.drop_zero, Nat.sub_zero]
            exact List.take_of_length_le (by trivial)
        simp only [← List.map_take] at c4 ⊢
        rw [c4]
        exact fin n o p4 _ _ (s13.trans (Same.upd_new hp4)) (down_take2 d.toNat 4) upd_same
      · rw [if_neg (by simpa using h4), rd_next]
        exact fin n o p2 _ _ s13 (down_take d.toNat) h3
end
end SR
namespace SR
open PySem L2 RS PySem.Spec PyProof.Rows
section
variable {P : Program} {w : World} {K : PySem.W.Frag} {mg : Str → Option Value} {base : Heap}
noncomputable def wrd (v : V) : Str := match v with | .int n => Str.ofString (toString n) | _ => ⟨#[46]⟩
noncomputable def okN (v : V) : Prop := isLeaf v = true ∧ ∀ n, v = .int n → n.natAbs < 10 ^ 40
noncomputable def lin (r : List V) : Str := Txt.join ⟨#[32]⟩ (r.map wrd)
noncomputable def txt (X : List (List V)) : Str := Txt.join ⟨#[10]⟩ (X.map lin)
theorem okN_cases {v : V} (h : okN v) : v = .non ∨ ∃ n, v = .int n ∧ n.natAbs < 10 ^ 40 := by
  obtain ⟨h1, h2⟩ := h
  cases v with
  | non => exact .inl rfl
  | int n => exact .inr ⟨n, rfl, h2 n rfl⟩
  | _ => simp [isLeaf] at h1
theorem wrd_free {v : V} (h : okN v) {k : Nat} (hk : k ≠ 45 ∧ (k < 48 ∨ 57 < k)) (h46 : k ≠ 46) : k ∉ (wrd v).cps.toList := by
  rcases okN_cases h with rfl | ⟨n, rfl, _⟩
  · simp [wrd]; exact h46
  · exact num_free hk n
theorem wrd_len {v : V} (h : okN v) : 1 ≤ (wrd v).length ∧ (wrd v).length ≤ 41 := by
  rcases okN_cases h with rfl | ⟨n, rfl, hn⟩
  · exact ⟨by decide, by decide⟩
  · obtain ⟨e, hl⟩ := num_text hn
    refine ⟨?_, hl⟩
    apply Nat.pos_of_ne_zero
    intro z
    have : Str.ofString (toString n) = ⟨#[]⟩ := toList_inj (List.length_eq_zero_iff.mp (by simpa [wrd, Str.length] using z))
    rw [this, show intText? ⟨#[]⟩ = none by decide +kernel] at e
    cases e
theorem join_eq (c : Nat) (ws : List Str) : Txt.join ⟨#[c]⟩ ws = Str.join ⟨#[c]⟩ ws := StrLaws.glued_eq_join _ ws
theorem len_list (x : Str) : x.length = x.cps.toList.length := by simp [Str.length]
theorem glu_len (c : Nat) : ∀ A : List (List Nat), (glu c A).length ≤ (A.map List.length).sum + A.length ∧ ∀ a ∈ A, a.length ≤ (glu c A).length
  | [] => ⟨by simp [glu], fun a h => by cases h⟩
  | [a] => ⟨by simp [glu], fun b h => by simp at h; subst h; exact Nat.le_refl _⟩
  | a :: b :: r => by
    obtain ⟨h1, h2⟩ := glu_len c (b :: r)
    rw [glu_cons c a (by simp)]
    refine ⟨by simp at h1 ⊢; trivial, fun x hx => ?_⟩
    rcases List.mem_cons.mp hx with e | e
    · subst e; simp
    · have := h2 x e
      rw [List.length_append, List.length_cons]; trivial
theorem lin_list (r : List V) : (lin r).cps.toList = glu 32 ((r.map wrd).map fun w => w.cps.toList) := by
  unfold lin; rw [join_eq, join_list_of]
theorem txt_list (X : List (List V)) : (txt X).cps.toList = glu 10 ((X.map lin).map fun w => w.cps.toList) := by
  unfold txt; rw [join_eq, join_list_of]
theorem sum_le_mul {α : Type} (f : α → Nat) {B : Nat} : ∀ {l : List α}, (∀ a ∈ l, f a ≤ B) → (l.map f).sum ≤ l.length * B
  | [], _ => by simp
  | a :: l, h => by
    have := sum_le_mul f fun b hb => h b (List.mem_cons_of_mem _ hb)
    have := h a List.mem_cons_self
    rw [List.map_cons, List.sum_cons, List.length_cons, Nat.succ_mul]; trivial
theorem lin_len {r : List V} (h : ∀ v ∈ r, okN v) (hl : r.length ≤ 64) : (lin r).length ≤ 2700 ∧ (r ≠ [] → 1 ≤ (lin r).length) := by
  rw [len_list, lin_list]
  obtain ⟨h1, h2⟩ := glu_len 32 ((r.map wrd).map fun w => w.cps.toList)
  constructor
  · refine Nat.le_trans h1 ?_
    rw [List.map_map, List.map_map, List.length_map, List.length_map]
    have := sum_le_mul (List.length ∘ (fun w : Str => w.cps.toList) ∘ wrd) (B := 41) (l := r) fun v hv => by
      have := (wrd_len (h v hv)).2
      rw [len_list] at this
      exact this
    have h3 : r.length * 41 ≤ 64 * 41 := Nat.mul_le_mul_right _ hl
    exact Nat.le_trans (Nat.add_le_add_right this _) (by trivial)
  · intro hne
    cases r with
    | nil => exact absurd rfl hne
    | cons v r =>
      have := h2 (wrd v).cps.toList (by simp)
      have h3 := (wrd_len (h v List.mem_cons_self)).1
      rw [len_list] at h3
      trivial
theorem lin_free {r : List V} (h : ∀ v ∈ r, okN v) : 10 ∉ (lin r).cps.toList := by
  unfold lin
  rw [join_eq]
  intro hm
  rcases (mem_join _ _ _).mp hm with ⟨t, ht, hc⟩ | ⟨_, hc⟩
  · obtain ⟨v, hv, rfl⟩ := List.mem_map.mp ht
    exact wrd_free (h v hv) ⟨by decide, .inl (by decide)⟩ (by decide) hc
  · simp at hc
theorem lin_split {r : List V} (h : ∀ v ∈ r, okN v) (hne : r ≠ []) : Txt.split (lin r) ⟨#[32]⟩ = r.map wrd := by
  unfold lin
  refine split_join (by simpa using hne) fun t ht => ?_
  obtain ⟨v, hv, rfl⟩ := List.mem_map.mp ht
  exact wrd_free (h v hv) ⟨by decide, .inl (by decide)⟩ (by decide)
theorem txt_split {X : List (List V)} (h : ∀ r ∈ X, ∀ v ∈ r, okN v) (hne : X ≠ []) : Txt.split (txt X) ⟨#[10]⟩ = X.map lin := by
  unfold txt
  refine split_join (by simpa using hne) fun t ht => ?_
  obtain ⟨r, hr, rfl⟩ := List.mem_map.mp ht
  exact lin_free (h r hr)
theorem txt_len {X : List (List V)} (h : ∀ r ∈ X, ∀ v ∈ r, okN v) (hl : X.length ≤ 64) (hw : ∀ r ∈ X, r.length ≤ 64) (hp : ∀ r ∈ X, r ≠ []) : (txt X).length ≤ 200000 ∧ (X ≠ [] → 1 ≤ (txt X).length) := by
  rw [len_list, txt_list]
  obtain ⟨h1, h2⟩ := glu_len 10 ((X.map lin).map fun w => w.cps.toList)
  constructor
  · refine Nat.le_trans h1 ?_
    rw [List.map_map, List.map_map, List.length_map, List.length_map]
    have := sum_le_mul (List.length ∘ (fun w : Str => w.cps.toList) ∘ lin) (B := 2700) (l := X) fun r hr => by
      have := (lin_len (h r hr) (hw r hr)).1
      rw [len_list] at this
      exact this
    have h3 : X.length * 2700 ≤ 64 * 2700 := Nat.mul_le_mul_right _ hl
    exact Nat.le_trans (Nat.add_le_add_right this _) (by trivial)
  · intro hne
    cases X with
    | nil => exact absurd rfl hne
    | cons r X =>
      have := h2 (lin r).cps.toList (by simp)
      have h3 := (lin_len (h r List.mem_cons_self) (hw r List.mem_cons_self)).2 (hp r List.mem_cons_self)
      rw [len_list] at h3
      trivial
noncomputable abbrev s_word_of : Stmt := top 19
theorem sc_word_of : FnScope ["number"] ["number"] (defScope s_word_of) := ⟨rfl, rfl, rfl, by decide +kernel, rfl, by decide +kernel, by decide +kernel⟩
noncomputable def spWord : Sp := fun vs H Q _ => ∃ v, vs = [v] ∧ okN v ∧ Q (.str (wrd v)) H
theorem ok_word {f : Addr} {fd : FuncData} {th : Tok} (F : Fun K "word_of" "word_of" s_word_of f fd) (T : Bl mg) (HM : mg "HOLE" = some (.str ⟨#[46]⟩ th)) : FnOk P w K mg base CX0 1 f fd ["number"] spWord := by
  refine F.ok sc_word_of (fun vs H Q E h => ?_) (fun cdv A outer s H vs Q E hr h => ?_)
  · obtain ⟨v, rfl, _⟩ := h; rfl
  · obtain ⟨v, rfl, hv, q⟩ := h
    refine ⟨_, (pss_one (ps_ret (pe_ifExp (pt_cmpR f_isN (pv 0) pe_non (nomark _)) (pe_glob (v := .str _) (by rfl) HM ⟨_, rfl⟩) (pe_callTy f_strI (by rfl) T.str BI.str (pa_cons (pv 0) pa_nil))))), ?_⟩
    have e0 : start ["number"] [v] = [some v] := rfl
    rw [e0]
    rcases okN_cases hv with rfl | ⟨n, rfl, hn⟩
    · simp
      exact q
    · simp
      exact ⟨num_log hn, q⟩
noncomputable abbrev s_line_of : Stmt := top 18
theorem sc_line_of : FnScope ["row"] ["row"] (defScope s_line_of) := ⟨rfl, rfl, rfl, by decide +kernel, rfl, by decide +kernel, by decide +kernel⟩
noncomputable def spLine : Sp := fun vs H Q _ => ∃ (a : Addr) (r : List V), vs = [.ref a] ∧ H a = some (.lst r) ∧ (∀ v ∈ r, okN v) ∧ r.length ≤ 64 ∧ ∀ H', Same H H' → Q (.str (lin r)) H'
theorem ok_line {f : Addr} {fd : FuncData} (F : Fun K "line_of" "line_of" s_line_of f fd) (T : Bl mg) (C_word_of : Cal P w K mg base 1 "word_of" ["number"] spWord) : FnOk P w K mg base CX0 2 f fd ["row"] spLine := by
  refine F.ok sc_line_of (fun vs H Q E h => ?_) (fun cdv A outer s H vs Q E hr h => ?_)
  · obtain ⟨a, r, rfl, _⟩ := h; rfl
  · obtain ⟨a, r, rfl, ha, hk, hl, q⟩ := h
    refine ⟨_, (pss_one (ps_ret (pe_ms PySem.F.slot_str_join PySem.F.type_str_join f_join pe_str (pa_cons (pe_comp (cp := []) (M := ["number"]) rfl ⟨rfl, rfl, rfl, rfl, rfl, rfl, rfl⟩ (by decide +kernel) (pi_l (pv 0)) (fun _ _ _ _ _ => pts_nil) (fun _ _ _ _ _ => (pe_cl C_word_of (hr.mono (by decide)) (by rfl) (pa_cons (pv 0) pa_nil)))) pa_nil)))), ?_⟩
    have e0 : start ["row"] [V.ref a] = [some (.ref a)] := rfl
    rw [e0]
    simp only [rd_ret, rd_ms, rd_c, rd_onT, rd_cons]
    refine comp_listP (a := a) (xs := r) (fun R h => by simpa using h) ha (fun _ => true) (fun v => .str (wrd v)) (by trivial) (fun v hv H2 s2 R h => by simpa using h) (fun v hv _ H2 s2 R h => ?_) (fun D hD => ?_)
    · simp [cst]
      exact ⟨v, rfl, hk v hv, h⟩
    · rw [List.filter_eq_self.mpr (fun _ _ => rfl)]
      simp only [rd_nil, rd_join, rd_onT, rd_on1]
      rw [onL_of upd_same]
      refine ⟨r.map wrd, by rw [List.map_map]; rfl, ?_, ?_⟩
      · have := sum_le_mul (fun v => (wrd v).length) (B := 41) (l := r) fun v hv => (wrd_len (hk v hv)).2
        rw [List.map_map, List.length_map]
        have e : (⟨#[32]⟩ : Str).length = 1 := rfl
        have h3 : r.length * 41 ≤ 64 * 41 := Nat.mul_le_mul_right _ hl
        show ((r.map ((fun x : Str => x.length) ∘ wrd)).sum + r.length * 1) ≤ _
        have e2 : ((fun x : Str => x.length) ∘ wrd) = fun v => (wrd v).length := rfl
        rw [e2]
        trivial
      · exact q _ (Same.upd_new hD)
end
end SR
namespace SR
open PySem L2 RS PySem.Spec PyProof.Rows
section
variable {P : Program} {w : World} {K : PySem.W.Frag} {mg : Str → Option Value} {base : Heap}
structure Tx (X : List (List V)) : Prop where
  ok : ∀ r ∈ X, ∀ v ∈ r, okN v
  len : X.length < 64
  row : ∀ r ∈ X, r.length < 64
  pos : ∀ r ∈ X, r ≠ []
theorem Tx.leaf {X : List (List V)} (h : Tx X) : ∀ r ∈ X, r.all isLeaf = true := fun r hr => by
  rw [List.all_eq_true]
  exact fun v hv => (h.ok r hr v hv).1
noncomputable abbrev s_written : Stmt := top 17
theorem sc_written : FnScope ["rows"] ["rows"] (defScope s_written) := ⟨rfl, rfl, rfl, by decide +kernel, rfl, by decide +kernel, by decide +kernel⟩
noncomputable def spWritten : Sp := fun vs H Q _ => ∃ (a : Addr) (as : List Addr) (X : List (List V)), vs = [.ref a] ∧ RowsV H a as X ∧ Tx X ∧ ∀ H', Same H H' → Q (.str (txt X)) H'
theorem ok_written {f : Addr} {fd : FuncData} (F : Fun K "written" "written" s_written f fd) (T : Bl mg) (C_line_of : Cal P w K mg base 2 "line_of" ["row"] spLine) : FnOk P w K mg base CX0 3 f fd ["rows"] spWritten := by
  refine F.ok sc_written (fun vs H Q E h => ?_) (fun cdv A outer s H vs Q E hr h => ?_)
  · obtain ⟨a, as, X, rfl, _⟩ := h; rfl
  · obtain ⟨a, as, X, rfl, ha, tx, q⟩ := h
    refine ⟨_, (pss_one (ps_ret (pe_ms PySem.F.slot_str_join PySem.F.type_str_join f_join pe_str (pa_cons (pe_comp (cp := []) (M := ["row"]) rfl ⟨rfl, rfl, rfl, rfl, rfl, rfl, rfl⟩ (by decide +kernel) (pi_l (pv 0)) (fun _ _ _ _ _ => pts_nil) (fun _ _ _ _ _ => (pe_cl C_line_of (hr.mono (by decide)) (by rfl) (pa_cons (pv 0) pa_nil)))) pa_nil)))), ?_⟩
    have e0 : start ["rows"] [V.ref a] = [some (.ref a)] := rfl
    rw [e0]
    have la := RowsW.len ha.row
    have lX := tx.len
    simp only [rd_ret, rd_ms, rd_c, rd_onT, rd_cons]
    refine comp_listG (a := a) (xs := as.map V.ref) (fun R h => by simpa using h) ha.top (fun _ => true) (fun v => .str (lin (lstV H v))) (by rw [List.length_map]; trivial) (fun v hv H' s R h => by simpa using h H' (fun _ _ e => e)) (fun v hv _ H' s R h => ?_) (fun D H' hD s1 hd => ?_)
    · obtain ⟨b, xs, rfl, hb, hx, e⟩ := rowsV_mem ha.row hv
      rw [lstV_of e] at h
      simp [cst]
      have := tx.row xs hx
      exact ⟨b, xs, rfl, s _ _ e, tx.ok xs hx, by trivial, fun H2 s2 => h H2 s2⟩
    · rw [List.filter_eq_self.mpr (fun _ _ => rfl), rowsV_map ha.row _ (fun r => V.str (lin r)) (fun b xs _ _ e => by rw [lstV_of e])] at hd
      simp only [rd_nil, rd_join, rd_onT, rd_on1]
      rw [onL_of hd]
      refine ⟨X.map lin, by rw [List.map_map]; rfl, ?_, q _ s1⟩
      have := sum_le_mul (fun r => (lin r).length) (B := 2700) (l := X) fun r hr => (lin_len (tx.ok r hr) (by have := tx.row r hr; trivial)).1
      have h3 : X.length * 2700 ≤ 64 * 2700 := Nat.mul_le_mul_right _ (by trivial)
      rw [List.map_map, List.length_map]
      show ((X.map fun r => (lin r).length).sum + X.length * 1) ≤ _
      trivial
noncomputable abbrev s_number_of : Stmt := top 23
theorem sc_number_of : FnScope ["word", "number"] ["word"] (defScope s_number_of) := ⟨rfl, rfl, rfl, by decide +kernel, rfl, by decide +kernel, by decide +kernel⟩
noncomputable def spNum : Sp := fun vs H Q _ => ∃ v, vs = [.str (wrd v)] ∧ okN v ∧ Q v H
theorem ok_num {f : Addr} {fd : FuncData} {th : Tok} (F : Fun K "number_of" "number_of" s_number_of f fd) (T : Bl mg) (HM : mg "HOLE" = some (.str ⟨#[46]⟩ th)) (C_word_of : Cal P w K mg base 1 "word_of" ["number"] spWord) : FnOk P w K mg base CX0 2 f fd ["word"] spNum := by
  refine F.ok sc_number_of (fun vs H Q E h => ?_) (fun cdv A outer s H vs Q E hr h => ?_)
  · obtain ⟨v, rfl, _⟩ := h; rfl
  · obtain ⟨v, rfl, hv, q⟩ := h
    refine ⟨_, (pss_cons (ps_if (pt_cmpR (f_eqF (hu64 hr)) (pv 0) (pe_glob (v := .str _) (by rfl) HM ⟨_, rfl⟩) (nomark _)) (pss_one (ps_ret pe_non)) pss_nil)
      (pss_cons (ps_tryP (px_pe (fun _ _ z => z) (i := 1) sc_number_of.nd rfl (Or.inl rfl) (pe_callTy f_intT (by rfl) T.int BI.int (pa_cons (pv 0) pa_nil))))
      (pss_cons (ps_if (pt_cmpR (f_neF (hu64 hr)) (pe_cl C_word_of (hr.mono (by decide)) (by rfl) (pa_cons (pv 1) pa_nil)) (pv 0) (nomark _)) (pss_one ps_never) pss_nil)
      (pss_one (ps_ret (pv 1)))))), ?_⟩
    have e0 : start ["word", "number"] [V.str (wrd v)] = [some (.str (wrd v)), none] := rfl
    rw [e0]
    rcases okN_cases hv with rfl | ⟨n, rfl, hn⟩
    · have e1 : wrd V.non = ⟨#[46]⟩ := rfl
      rw [rd_seq]
      refine ifS true H (fun R h => by simp [e1]; exact h) ?_
      rw [if_pos rfl]
      simp
      exact q
    · have e1 : wrd (V.int n) ≠ ⟨#[46]⟩ := fun z => by
        have := num_free (k := 46) ⟨by decide, .inl (by decide)⟩ n
        have z' : Str.ofString (toString n) = ⟨#[46]⟩ := z
        rw [z'] at this
        simp at this
      rw [rd_seq]
      refine ifS false H (fun R h => by simp [e1]; exact h) ?_
      rw [if_neg (by simp), rd_next]
      dsimp only
      rw [rd_seq, rd_tryP]
      simp only [rd_cb, rd_cons, rd_nil, rd_var0, rd_onO, rd_intT, rd_on1, rd_onT]
      obtain ⟨t1, t2⟩ := num_text hn
      refine ⟨n, t1, by show (Str.ofString (toString n)).length ≤ 640; trivial, ?_⟩
      dsimp only [List.set_cons_succ, List.set_cons_zero]
      rw [rd_seq]
      refine ifS false H (fun R h => ?_) ?_
      · simp
        exact ⟨.int n, rfl, hv, by simpa using h⟩
      rw [if_neg (by simp), rd_next]
      simp
      exact q
noncomputable abbrev s_row_of : Stmt := top 22
theorem sc_row_of : FnScope ["line"] ["line"] (defScope s_row_of) := ⟨rfl, rfl, rfl, by decide +kernel, rfl, by decide +kernel, by decide +kernel⟩
noncomputable def spRowOf : Sp := fun vs H Q _ => ∃ r : List V, vs = [.str (lin r)] ∧ (∀ v ∈ r, okN v) ∧ r ≠ [] ∧ r.length ≤ 64 ∧ ∀ a H', Same H H' → H a = none → H' a = some (.lst r) → Q (.ref a) H'
theorem wrd_inj {v u : V} (hv : okN v) (hu : okN u) (h : wrd v = wrd u) : v = u := by
  rcases okN_cases hv with rfl | ⟨n, rfl, hn⟩ <;> rcases okN_cases hu with rfl | ⟨m, rfl, hm⟩
  · rfl
  · have := num_free (k := 46) ⟨by decide, .inl (by decide)⟩ m
    have z' : (⟨#[46]⟩ : Str) = Str.ofString (toString m) := h
    rw [← z'] at this
    simp at this
  · have := num_free (k := 46) ⟨by decide, .inl (by decide)⟩ n
    have z' : Str.ofString (toString n) = ⟨#[46]⟩ := h
    rw [z'] at this
    simp at this
  · have h' : Str.ofString (toString n) = Str.ofString (toString m) := h
    have a := (num_text hn).1
    have b := (num_text hm).1
    rw [h', b] at a
    injection a with a
    rw [a]
theorem ok_row_of {f : Addr} {fd : FuncData} (F : Fun K "row_of" "row_of" s_row_of f fd) (T : Bl mg) (C_number_of : Cal P w K mg base 2 "number_of" ["word"] spNum) : FnOk P w K mg base CX0 3 f fd ["line"] spRowOf := by
  refine F.ok sc_row_of (fun vs H Q E h => ?_) (fun cdv A outer s H vs Q E hr h => ?_)
  · obtain ⟨r, rfl, _⟩ := h; rfl
  · obtain ⟨r, rfl, hk, hne, hl, q⟩ := h
    refine ⟨_, (pss_one (ps_ret (pe_comp (cp := []) (M := ["word"]) rfl ⟨rfl, rfl, rfl, rfl, rfl, rfl, rfl⟩ (by decide +kernel) (pi_l (pe_ms PySem.F.slot_str_split PySem.F.type_str_split f_split (pv 0) (pa_cons pe_str pa_nil))) (fun _ _ _ _ _ => pts_nil) (fun _ _ _ _ _ => (pe_cl C_number_of (hr.mono (by decide)) (by rfl) (pa_cons (pv 0) pa_nil)))))), ?_⟩
    have e0 : start ["line"] [V.str (lin r)] = [some (.str (lin r))] := rfl
    rw [e0, rd_ret]
    have ll := (lin_len hk hl).1
    have sp := lin_split hk hne
    refine comp_new (o := .lst ((r.map wrd).map V.str)) (fun R h => ?_) (fun S hS => ?_)
    · simp only [rd_ms, rd_var0, rd_onO, rd_onT, rd_cons, rd_nil, rd_c, rd_split, rd_on1]
      rw [show Str.ofString " " = ⟨#[32]⟩ by decide, sp]
      exact ⟨rfl, by trivial, by rw [List.length_map]; trivial, h⟩
    have s1 := Same.upd_new (o := HO.lst ((r.map wrd).map V.str)) hS
    have h1 : upd H S (HO.lst ((r.map wrd).map V.str)) S = some (HO.lst ((r.map wrd).map V.str)) := upd_same
    generalize upd H S (HO.lst ((r.map wrd).map V.str)) = H1 at *
    let back : V → V := fun x => (r.find? fun v => decide (V.str (wrd v) = x)).getD .non
    have hb : ∀ v ∈ r, back (.str (wrd v)) = v := fun v hv => by
      show (r.find? fun u => decide (V.str (wrd u) = V.str (wrd v))).getD .non = v
      cases e : r.find? fun u => decide (V.str (wrd u) = V.str (wrd v)) with
      | none =>
        have := List.find?_eq_none.mp e v hv
        simp at this
      | some u =>
        have hu := List.mem_of_find?_eq_some e
        have := List.find?_some e
        simp at this
        exact wrd_inj (hk u hu) (hk v hv) this
    refine comp_listP (a := S) (xs := (r.map wrd).map V.str) (fun R h => by simpa using h) h1 (fun _ => true) back (by simp; trivial) (fun v hv H2 s2 R h => by simpa using h) (fun x hx _ H2 s2 R h => ?_) (fun D hD => ?_)
    · obtain ⟨t, ht, rfl⟩ := List.mem_map.mp hx
      obtain ⟨v, hv, rfl⟩ := List.mem_map.mp ht
      rw [hb v hv] at h
      simp [cst]
      exact ⟨v, rfl, hk v hv, h⟩
    · have eD : ((((r.map wrd).map V.str).filter fun _ => true).map back) = r := by
        rw [List.filter_eq_self.mpr (fun _ _ => rfl), List.map_map, List.map_map]
        conv => rhs; rw [← List.map_id r]
        apply List.map_congr_left
        intro v hv
        exact hb v hv
      rw [eD]
      exact q D _ (s1.trans (Same.upd_new hD)) (s1.free hD) upd_same
noncomputable abbrev s_lines_of : Stmt := top 21
theorem sc_lines_of : FnScope ["text"] ["text"] (defScope s_lines_of) := ⟨rfl, rfl, rfl, by decide +kernel, rfl, by decide +kernel, by decide +kernel⟩
noncomputable def spLines : Sp := fun vs H Q _ => ∃ X : List (List V), vs = [.str (txt X)] ∧ Tx X ∧ ∀ a H', Same H H' → H a = none → H' a = some (.lst ((X.map lin).map V.str)) → Q (.ref a) H'
theorem ok_lines {f : Addr} {fd : FuncData} (F : Fun K "lines_of" "lines_of" s_lines_of f fd) (T : Bl mg) : FnOk P w K mg base CX0 1 f fd ["text"] spLines := by
  refine F.ok sc_lines_of (fun vs H Q E h => ?_) (fun cdv A outer s H vs Q E hr h => ?_)
  · obtain ⟨X, rfl, _⟩ := h; rfl
  · obtain ⟨X, rfl, tx, q⟩ := h
    refine ⟨_, (pss_one (ps_ret (pe_ifExp (pt_truT (pv 0) (fun _ => rfl)) (pe_ms PySem.F.slot_str_split PySem.F.type_str_split f_split (pv 0) (pa_cons pe_str pa_nil)) (pe_lst pa_nil)))), ?_⟩
    have e0 : start ["text"] [V.str (txt X)] = [some (.str (txt X))] := rfl
    rw [e0]
    have lX := tx.len
    obtain ⟨l1, l2⟩ := txt_len tx.ok (by trivial) (fun r hr => by have := tx.row r hr; trivial) tx.pos
    have hs : sizeLine = 16777216 := sizeLine_eq
    simp only [rd_ret, rd_ifE, rd_truT, rd_var0, rd_onO, rd_onT]
    refine ⟨by trivial, ?_⟩
    by_cases hX : X = []
    · subst hX
      have e1 : (txt []).length = 0 := rfl
      rw [e1, if_neg (by decide)]
      simp
      intro p hp
      exact q p _ (Same.upd_new hp) hp upd_same
    · have l3 := l2 hX
      rw [if_pos (by simp; trivial)]
      have sp := txt_split tx.ok hX
      simp only [rd_ms, rd_var0, rd_onO, rd_onT, rd_cons, rd_nil, rd_c, rd_split, rd_on1]
      rw [show Str.ofString "\n" = ⟨#[10]⟩ by decide, sp]
      exact ⟨rfl, by trivial, by rw [List.length_map]; trivial, fun p hp => q p _ (Same.upd_new hp) hp upd_same⟩
noncomputable abbrev s_read : Stmt := top 20
theorem sc_read : FnScope ["text", "rows"] ["text"] (defScope s_read) := ⟨rfl, rfl, rfl, by decide +kernel, rfl, by decide +kernel, by decide +kernel⟩
noncomputable def spRead : Sp := fun vs H Q _ => ∃ X : List (List V), vs = [.str (txt X)] ∧ Tx X ∧ holedV X = true ∧ (readV X).length ≤ 4000 ∧ ∀ a as H', Same H H' → RowsV H' a as X → Q (.ref a) H'
theorem ok_read {f : Addr} {fd : FuncData} (F : Fun K "read" "read" s_read f fd) (T : Bl mg) (C_lines_of : Cal P w K mg base 1 "lines_of" ["text"] spLines) (C_row_of : Cal P w K mg base 3 "row_of" ["line"] spRowOf) (C_is_holed : Cal P w K mg base 4 "is_holed" ["rows"] spHoled) : FnOk P w K mg base CX0 5 f fd ["text"] spRead := by
  refine F.ok sc_read (fun vs H Q E h => ?_) (fun cdv A outer s H vs Q E hr h => ?_)
  · obtain ⟨X, rfl, _⟩ := h; rfl
  · obtain ⟨X, rfl, tx, ho, rl, q⟩ := h
    refine ⟨_, (pss_cons (ps_comp (i := 1) sc_read.nd rfl rfl (cp := []) (M := ["line"]) rfl ⟨rfl, rfl, rfl, rfl, rfl, rfl, rfl⟩ (by decide +kernel) (pi_l (pe_cl C_lines_of (hr.mono (by decide)) (by rfl) (pa_cons (pv 0) pa_nil))) (fun _ _ _ _ _ => pts_nil) (fun _ _ _ _ _ => (pe_cl C_row_of (hr.mono (by decide)) (by rfl) (pa_cons (pv 0) pa_nil))))
      (pss_cons (ps_if (pt_not (pt_val (pe_cl C_is_holed (hr.mono (by decide)) (by rfl) (pa_cons (pv 1) pa_nil)))) (pss_one ps_never) pss_nil)
      (pss_one (ps_ret (pv 1))))), ?_⟩
    have e0 : start ["text", "rows"] [V.str (txt X)] = [some (.str (txt X)), none] := rfl
    rw [e0, rd_seq, rd_asg]
    have lX := tx.len
    refine comp_ev (fun S H1 => H S = none ∧ Same H H1 ∧ H1 S = some (.lst ((X.map lin).map V.str))) (fun R h => ?_) (fun S H1 ⟨hS, s1, h1⟩ => ?_)
    · simp
      exact ⟨X, rfl, tx, fun a H1 s1 ha h1 => h a H1 ⟨ha, s1, h1⟩⟩
    refine comp_listRV (a := S) (fun R h => by simpa using h) h1 X (by simp) (by simp; trivial) (fun i v g ev eg H2 s2 R h => ?_) (fun D ds H2 hD s2 hd frd => ?_)
    · rw [List.map_map, List.getElem?_map, eg] at ev
      simp at ev
      subst ev
      have gm := List.mem_of_getElem? eg
      have := tx.row g gm
      simp [cst]
      exact ⟨g, rfl, tx.ok g gm, tx.pos g gm, by trivial, fun a H3 s3 ha h3 => h a H3 s3 ha h3⟩
    · rw [rd_name]
      dsimp only [List.set_cons_succ, List.set_cons_zero]
      rw [rd_seq]
      refine ifS' (fun H3 => Same H2 H3) false (fun R h => ?_) ?_
      · simp
        exact ⟨D, ds, X, rfl, hd, tx.len, rl, tx.row, tx.leaf, fun H3 s3 => by rw [ho]; simpa using h H3 s3⟩
      intro H3 s3
      rw [if_neg (by simp), rd_next]
      simp
      exact q D ds H3 ((s1.trans s2).trans s3) (hd.same s3)
end
end SR
namespace L2
open PySem
noncomputable def rIsiS : List V → Hp → VK → Prop := fun vs H Q => ∃ d, vs = [.str d, .ty "str"] ∧ Q (.bl true) H
theorem f_isiS {X : Cx} : CallR X (.builtin "isinstance") rIsiS := by
  intro pins s σ H xs us Q I r h
  obtain ⟨d, rfl, h3⟩ := h
  obtain ⟨u, v, rfl, ru, rv⟩ := r.two
  obtain rfl : v = Value.type "str" := rv
  exact isinst_ok I ru (.str d) (isiT_ok (t := "str") (c := "str") (b := true) (by simp [isiT])) fun tk => ⟨.bl true, H, I.tok tk, rfl, h3⟩
@[simp] theorem rd_isiS {d : Str} {H : Hp} {Q : VK} : rIsiS [.str d, .ty "str"] H Q = Q (.bl true) H := propext ⟨fun ⟨_, _, h⟩ => h, fun h => ⟨d, rfl, h⟩⟩
end L2
namespace SR
open PySem L2 RS PySem.Spec PyProof.Rows
section
variable {P : Program} {w : World} {K : PySem.W.Frag} {mg : Str → Option Value} {base : Heap}
noncomputable def spLaw (K : PySem.W.Frag) : Sp := fun vs H Q _ => ∃ (a : Addr) (ns : List Int), vs = [.ref a] ∧ SqL K H a (ns.map V.int) ∧ ns.length ≤ 63 ∧ ∀ H', Q (.bl true) H'
theorem drw {H : Hp} {a : Addr} {ns : List Int} {k m : Int} {Q : VK} {E : XK} (hS : SqL K H a (ns.map V.int)) (hl : ns.length ≤ 63) (hk0 : 0 ≤ k) (hk1 : k < 1000) (hm : 0 < m) (q : Q (.int (drawnZ ns k m)) H) : spDrawn K [.ref a, .int k, .int m] H Q E := ⟨a, ns, k, m, rfl, hS, hl, hk0, hk1, hm, q⟩
theorem numZ_bound (ns : List Int) {n0 g : Int} (h0 : -1000 ≤ n0 ∧ n0 ≤ 1000) (hg : 1 ≤ g ∧ g ≤ 10 ^ 27) : ∀ k : Nat, -1000 ≤ numZ ns n0 g k ∧ numZ ns n0 g k ≤ 1000 + (k : Int) * (1 + 2 * 10 ^ 27)
  | 0 => by
    have : numZ ns n0 g 0 = n0 := rfl
    rw [this]; trivial
  | k + 1 => by
    obtain ⟨a, b⟩ := numZ_bound ns h0 hg k
    have e : numZ ns n0 g (k + 1) = numZ ns n0 g k + 1 + drawnZ ns (11 + 2 * (k : Int)) 3 * g := rfl
    have d0 := drawn_lo ns (11 + 2 * (k : Int)) (m := 3) (by decide)
    have d1 := drawn_hi ns (11 + 2 * (k : Int)) (m := 3) (by decide)
    rw [e]
    have c : 0 ≤ drawnZ ns (11 + 2 * (k : Int)) 3 * g ∧ drawnZ ns (11 + 2 * (k : Int)) 3 * g ≤ 2 * 10 ^ 27 := by
      have : drawnZ ns (11 + 2 * (k : Int)) 3 = 0 ∨ drawnZ ns (11 + 2 * (k : Int)) 3 = 1 ∨ drawnZ ns (11 + 2 * (k : Int)) 3 = 2 := by trivial
      rcases this with z | z | z <;> rw [z] <;> trivial
    have e2 : ((k + 1 : Nat) : Int) * (1 + 2 * 10 ^ 27) = (k : Int) * (1 + 2 * 10 ^ 27) + (1 + 2 * 10 ^ 27) := by
      rw [show ((k + 1 : Nat) : Int) = (k : Int) + 1 by trivial, Int.add_mul, Int.one_mul]
    rw [e2]
    trivial
theorem rowZ_bound (ns : List Int) : ∀ x ∈ rowZ ns 40, x.natAbs < 10 ^ 40 := fun x hx => by
  have m0 := many_lo ns (bound := 40) (by decide)
  have m1 := many_hi ns (bound := 40) (by decide)
  have d0 := drawn_lo ns 3 (m := 2001) (by decide)
  have d1 := drawn_hi ns 3 (m := 2001) (by decide)
  have g : 1 ≤ greatZ ns ∧ greatZ ns ≤ 10 ^ 27 := by
    unfold greatZ
    split <;> decide
  unfold rowZ at hx
  obtain ⟨v, hv, rfl⟩ := List.mem_map.mp hx
  obtain ⟨v0, v1⟩ := ordZ_mem hv
  have hlt : v.toNat < (manyZ ns 40).toNat := by trivial
  have hg := numsZ_get ns (drawnZ ns 3 2001 - 1000) (greatZ ns) hlt
  have nb := numZ_bound ns (n0 := drawnZ ns 3 2001 - 1000) (by trivial) g (v.toNat + 1)
  rw [List.getD_eq_getElem?_getD, hg]
  show (numZ ns (drawnZ ns 3 2001 - 1000) (greatZ ns) (v.toNat + 1)).natAbs < 10 ^ 40
  have b2 : ((v.toNat + 1 : Nat) : Int) * (1 + 2 * 10 ^ 27) ≤ 40 * (1 + 2 * 10 ^ 27) := Int.mul_le_mul_of_nonneg_right (by trivial) (by decide)
  trivial
theorem glu_snoc (c : Nat) : ∀ (A : List (List Nat)) (b : List Nat), A ≠ [] → glu c (A ++ [b]) = glu c A ++ c :: b
  | [], _, h => absurd rfl h
  | [a], b, _ => rfl
  | a :: d :: A, b, _ => by
    rw [List.cons_append, glu_cons c a (by simp), glu_cons c a (by simp), glu_snoc c (d :: A) b (by simp)]
    simp
theorem lin_snoc (r : List V) (v : V) : (lin (r ++ [v])).cps.toList = (if r = [] then [] else (lin r).cps.toList ++ [32]) ++ (wrd v).cps.toList := by
  rw [lin_list, List.map_append, List.map_append]
  by_cases h : r = []
  · subst h; rw [if_pos rfl]; rfl
  · rw [if_neg h]
    show glu 32 (_ ++ [(wrd v).cps.toList]) = _
    rw [glu_snoc 32 _ _ (by simpa using h), ← lin_list]
    simp
theorem txt_snoc (X : List (List V)) (r : List V) : (txt (X ++ [r])).cps.toList = (if X = [] then [] else (txt X).cps.toList ++ [10]) ++ (lin r).cps.toList := by
  rw [txt_list, List.map_append, List.map_append]
  by_cases h : X = []
  · subst h; rw [if_pos rfl]; rfl
  · rw [if_neg h]
    show glu 10 (_ ++ [(lin r).cps.toList]) = _
    rw [glu_snoc 10 _ _ (by simpa using h), ← txt_list]
    simp
theorem app_len (a b : Str) : (a ++ b).length = a.length + b.length := by rw [len_list, str_app, List.length_append, len_list, len_list]
theorem Tx.take {X : List (List V)} (h : Tx X) (i : Nat) : Tx (X.take i) := ⟨fun r hr => h.ok r (List.mem_of_mem_take hr), by have := h.len; rw [List.length_take]; trivial, fun r hr => h.row r (List.mem_of_mem_take hr), fun r hr => h.pos r (List.mem_of_mem_take hr)⟩
theorem Tx.txtLen {X : List (List V)} (h : Tx X) : (txt X).length ≤ 200000 := (txt_len h.ok (Nat.le_of_lt h.len) (fun r hr => Nat.le_of_lt (h.row r hr)) h.pos).1
noncomputable def preT (X : List (List V)) (i : Nat) : List Nat := if X.take i = [] then [] else (txt (X.take i)).cps.toList ++ [10]
noncomputable def DuI (H : Hp) (a b : Addr) (X : List (List V)) (i : Nat) (σ : L2.St) (H' : Hp) : Prop := ∃ (d : Str) (o3 o4 : Option V), σ = [some (.ref a), some (.ref b), some (.str d), o3, o4, none, none] ∧ H' = H ∧ d = txt (X.take i)
noncomputable def DuJ (H : Hp) (a b : Addr) (X : List (List V)) (i : Nat) (r : List V) (j : Nat) (σ : L2.St) (H' : Hp) : Prop := ∃ (d : Str) (o4 : Option V), σ = [some (.ref a), some (.ref b), some (.str d), some (.int (i : Int)), o4, none, none] ∧ H' = H ∧ d.cps.toList = preT X i ++ (lin (r.take j)).cps.toList
noncomputable abbrev s_law : Stmt := top 34
theorem sc_law : FnScope ["script", "rows", "due", "at", "j", "handed", "found"] ["script"] (defScope s_law) := ⟨rfl, rfl, rfl, by decide +kernel, rfl, by decide +kernel, by decide +kernel⟩
theorem ok_law {f : Addr} {fd : FuncData} (F : Fun K "law" "law" s_law f fd) (T : Bl mg)
    (C_law_drawn : Cal P w K mg base 1 "_law_drawn" ["script", "k", "many"] (spDrawn K)) (C_law_row_by : Cal P w K mg base 2 "_law_row_by" ["script", "bound"] (spRowBy K)) (C_law_laid : Cal P w K mg base 2 "_law_laid" ["row"] spLaid) (C_law_holed_by : Cal P w K mg base 2 "_law_holed_by" ["script", "rows"] (spHoledBy K))
    (C_written : Cal P w K mg base 3 "written" ["rows"] spWritten) (C_law_rows : Cal P w K mg base 3 "_law_rows" ["found", "due"] spRowsV) (C_read : Cal P w K mg base 5 "read" ["text"] spRead) : FnOk P w K mg base CX0 8 f fd ["script"] (spLaw K) := by
  refine F.ok sc_law (fun vs H Q E h => ?_) (fun cdv A outer s H vs Q E hr h => ?_)
  · obtain ⟨a, ns, rfl, _⟩ := h; rfl
  · obtain ⟨a, ns, rfl, hS, hl, q⟩ := h
    refine ⟨_, (pss_cons (ps_set (i := 1) sc_law.nd rfl (Or.inl rfl) (pe_ix f_ix (pe_cl C_law_laid (hr.mono (by decide)) (by rfl) (pa_cons (pe_cl C_law_row_by (hr.mono (by decide)) (by rfl) (pa_cons (pv 0) (pa_cons pe_int pa_nil))) pa_nil)) pe_int (fun _ _ => rfl)))
      (pss_cons (ps_if (pt_cmpR (f_eqF (hu64 hr)) (pe_cl C_law_drawn (hr.mono (by decide)) (by rfl) (pa_cons (pv 0) (pa_cons pe_int (pa_cons pe_int pa_nil)))) pe_int (nomark _)) (pss_one (ps_set (i := 1) sc_law.nd rfl (Or.inl rfl) (pe_cl C_law_holed_by (hr.mono (by decide)) (by rfl) (pa_cons (pv 0) (pa_cons (pv 1) pa_nil))))) pss_nil)
      (pss_cons (ps_set (i := 2) sc_law.nd rfl (Or.inl rfl) pe_str)
      (pss_cons (ps_for PassesOwn.never rfl (pi_range1 (by rfl) T.range (pa_cons (pe_callB f_len (by rfl) T.len BI.len (pa_cons (pv 1) pa_nil)) pa_nil)) (pg_name (i := 3) sc_law.nd rfl (Or.inl rfl)) (pss_cons (ps_if (pt_cmpR f_gt (pv 3) pe_int (nomark _)) (pss_one (ps_set (i := 2) sc_law.nd rfl (Or.inl rfl) (pe_op f_addT (pv 2) pe_str))) pss_nil)
      (pss_one (ps_for PassesOwn.never rfl (pi_range1 (by rfl) T.range (pa_cons (pe_callB f_len (by rfl) T.len BI.len (pa_cons (pe_ix f_ix (pv 1) (pv 3) (fun _ _ => rfl)) pa_nil)) pa_nil)) (pg_name (i := 4) sc_law.nd rfl (Or.inl rfl)) (pss_cons (ps_if (pt_cmpR f_gt (pv 4) pe_int (nomark _)) (pss_one (ps_set (i := 2) sc_law.nd rfl (Or.inl rfl) (pe_op f_addT (pv 2) pe_str))) pss_nil)
      (pss_one (ps_if (pt_cmpR f_isN (pe_ix f_ix (pe_ix f_ix (pv 1) (pv 3) (fun _ _ => rfl)) (pv 4) (fun _ _ => rfl)) pe_non (nomark _)) (pss_one (ps_set (i := 2) sc_law.nd rfl (Or.inl rfl) (pe_op f_addT (pv 2) pe_str))) (pss_one (ps_set (i := 2) sc_law.nd rfl (Or.inl rfl) (pe_op f_addT (pv 2) (pe_callTy f_strI (by rfl) T.str BI.str (pa_cons (pe_ix f_ix (pe_ix f_ix (pv 1) (pv 3) (fun _ _ => rfl)) (pv 4) (fun _ _ => rfl)) pa_nil))))))))))))
      (pss_cons (ps_comp (i := 5) sc_law.nd rfl rfl (cp := []) (M := ["row"]) rfl ⟨rfl, rfl, rfl, rfl, rfl, rfl, rfl⟩ (by decide +kernel) (pi_l (pv 1)) (fun _ _ _ _ _ => pts_nil) (fun _ _ _ _ _ => (pe_callTy f_list (by rfl) T.list BI.list (pa_cons (pv 0) pa_nil))))
      (pss_cons (ps_set (i := 6) sc_law.nd rfl (Or.inl rfl) (pe_cl C_written (hr.mono (by decide)) (by rfl) (pa_cons (pv 5) pa_nil)))
      (pss_cons (ps_if (PW.pt (pw_or (pt_not (pt_val (pe_callB f_isiS (by rfl) T.isinstance BI.isinstance (pa_cons (pv 6) (pa_cons (pe_ty (by rfl) T.b_str) pa_nil))))) (pw_or (pt_cmpR (f_neF (hu64 hr)) (pv 6) (pv 2) (nomark _)) (pw_or1 (pt_not (pt_val (pe_cl C_law_rows (hr.mono (by decide)) (by rfl) (pa_cons (pv 5) (pa_cons (pv 1) pa_nil))))))))) (pss_one (ps_ret pe_bl)) pss_nil)
      (pss_one (ps_ret (pe_cl C_law_rows (hr.mono (by decide)) (by rfl) (pa_cons (pe_cl C_read (hr.mono (by decide)) (by rfl) (pa_cons (pv 2) pa_nil)) (pa_cons (pv 1) pa_nil)))))))))))), ?_⟩
    have e0 : start ["script", "rows", "due", "at", "j", "handed", "found"] [V.ref a] = [some (.ref a), none, none, none, none, none, none] := rfl
    rw [e0]
    refine cut2 (fun σ H1 => ∃ (b : Addr) (bs : List Addr) (X : List (List V)), σ = [some (.ref a), some (.ref b), none, none, none, none, none] ∧ RowsV H1 b bs X ∧ Tx X ∧ holedV X = true ∧ (readV X).length ≤ 4000) (fun R' h => ?_) ?_
    · have mh := many_hi ns (bound := 40) (by decide)
      have lr := rowZ_len ns (bound := 40) (by decide)
      have nd := rowZ_nodup ns 40
      have rb := rowZ_bound ns
      generalize hrow : rowZ ns 40 = row at *
      have st := layW_stairs nd
      have eL := laidL_layW nd
      obtain ⟨_, z1, z2, _⟩ := laid_size row
      rw [eL] at z1 z2
      have fin : ∀ low, Down low (layW [] row) → Tx (holR low (layW [] row)) ∧ holedV (holR low (layW [] row)) = true ∧ (readV (holR low (layW [] row))).length ≤ 4000 := fun low dn => by
        refine ⟨⟨fun r hr v hv => ?_, by simp [holR]; trivial, fun r hr => ?_, fun r hr z => ?_⟩, holed_ok nd dn, ?_⟩
        · obtain ⟨x, hx, rfl⟩ := List.mem_map.mp hr
          obtain ⟨n, hn, rfl⟩ := List.mem_map.mp hv
          have nb := rb n (st.2.mem_iff.mp (List.mem_flatten.mpr ⟨x, hx, hn⟩))
          refine ⟨hol_leaf low n, fun m e => ?_⟩
          unfold hol at e
          split at e
          · cases e
          · cases e; exact nb
        · obtain ⟨x, hx, rfl⟩ := List.mem_map.mp hr
          have := z2 x hx
          simp; trivial
        · obtain ⟨x, hx, rfl⟩ := List.mem_map.mp hr
          exact st.1.pos x hx (List.length_eq_zero_iff.mp (by have := congrArg List.length z; simpa using this))
        · rw [readV_hol]
          refine Nat.le_trans (List.length_filter_le _ _) ?_
          rw [places_flat, st.2.length_eq]; trivial
      simp
      refine ⟨a, ns, 40, rfl, hS, hl, by decide, by decide, fun r H1 s1 hr1 h1 => ?_⟩
      rw [hrow] at h1
      refine ⟨r, row, rfl, h1, by trivial, fun t b bs g gs H2 s2 ht2 h2 hb hg fr => ?_⟩
      have a0 : atI [V.ref b, V.ref g] 0 = some (.ref b) := atI_nat (j := 0) rfl
      rw [eL] at hb
      simp [onS_ofT h2, a0]
      have S2 := s1.trans s2
      refine drw (S2.seq hS) hl (by decide) (by decide) (by decide) ?_
      simp
      by_cases hd : drawnZ ns 400 2 = 1
      · rw [if_pos hd]
        refine ⟨a, ns, b, bs, _, rfl, S2.seq hS, hl, hb, by trivial, by rw [st.2.length_eq]; trivial, fun r hr => by have := z2 r hr; trivial, fun c cs H3 low s3 dn hc frc => ?_⟩
        obtain ⟨f1, f2, f3⟩ := fin low dn
        exact h _ _ ⟨c, cs, _, rfl, hc, f1, f2, f3⟩
      · rw [if_neg hd]
        obtain ⟨f1, f2, f3⟩ := fin [] (fun x _ y _ _ hy => by cases hy)
        have e1 : holR [] (layW [] row) = (layW [] row).map fun r => r.map V.int := by
          unfold holR
          apply List.map_congr_left
          intro x _
          apply List.map_congr_left
          intro n _
          unfold hol; simp
        rw [e1] at f1 f2 f3
        exact h _ _ ⟨b, bs, _, rfl, hb.toV, f1, f2, f3⟩
    rintro σ H1 ⟨b, bs, X, rfl, hb, tx, ho, rl⟩
    have lb := RowsW.len hb.row
    have lX := tx.len
    have hsz : sizeLine = 16777216 := sizeLine_eq
    have n1 : (Str.ofString "\n").length = 1 := by decide
    have n2 : (Str.ofString " ").length = 1 := by decide
    have n3 : (Str.ofString ".").length = 1 := by decide
    refine cut2 (fun σ H2 => ∃ (o3 o4 : Option V), σ = [some (.ref a), some (.ref b), some (.str (txt X)), o3, o4, none, none] ∧ H2 = H1) (fun R' h => ?_) ?_
    · rw [rd_seq, rd_asg, rd_c, rd_name]
      dsimp only [List.set_cons_succ, List.set_cons_zero]
      rw [rd_seq]
      refine for_rangeF X.length (fun N h => by simp [onS_of hb.top, lb]; exact ⟨by trivial, h⟩) (DuI H1 a b X) ⟨_, none, none, rfl, rfl, rfl⟩ ?_ ?_
      · rintro i σ H2 hi ⟨d, o3, o4, rfl, rfl, rfl⟩
        have ei : X[i]? = some X[i] := List.getElem?_eq_getElem hi
        have rok := tx.ok _ (List.mem_of_getElem? ei)
        have lr := tx.row _ (List.mem_of_getElem? ei)
        generalize hri : X[i] = r at *
        obtain ⟨c, ec, hc⟩ := RowsW.get hb.row ei
        have ac : atI (bs.map V.ref) (i : Int) = some (.ref c) := atI_ref ec
        have tl := (tx.take i).txtLen
        simp only [rd_name, List.set_cons_succ, List.set_cons_zero]
        have pe : X.take i = [] ↔ i = 0 := by
          constructor
          · intro z
            have := congrArg List.length z
            rw [List.length_take, List.length_nil] at this
            trivial
          · intro z; rw [z]; rfl
        refine cut1 (fun σ H3 => ∃ d : Str, σ = [some (.ref a), some (.ref b), some (.str d), some (.int (i : Int)), o4, none, none] ∧ H3 = H2 ∧ d.cps.toList = preT X i ∧ d.length ≤ 200001) (fun R' h => ?_) ?_
        · rw [rd_seq]
          by_cases i0 : i = 0
          · refine ifS false H2 (fun R h => by simp [i0]; simpa using h) ?_
            rw [if_neg (by simp), rd_next]
            refine h _ _ ⟨_, rfl, rfl, ?_, by trivial⟩
            unfold preT
            rw [if_pos (pe.mpr i0), pe.mpr i0]; rfl
          · refine ifS true H2 (fun R h => by simp; rw [decide_eq_true (by trivial)]; exact h) ?_
            rw [if_pos rfl]
            simp
            refine ⟨by trivial, ?_⟩
            refine h _ _ ⟨_, rfl, rfl, ?_, by rw [app_len, n1]; trivial⟩
            unfold preT
            rw [if_neg (fun z => i0 (pe.mp z)), str_app]; rfl
        rintro σ H3 ⟨d, rfl, rfl, ed, dl⟩
        refine for_rangeF r.length (fun N h => by simp [onS_of hb.top, ac, onS_of hc]; exact ⟨by trivial, h⟩) (DuJ H3 a b X i r) ⟨d, o4, rfl, rfl, by rw [ed]; simp [lin_list, glu]⟩ ?_ ?_
        · rintro j σ H4 hj ⟨d, o4, rfl, rfl, ed⟩
          have ej : r[j]? = some r[j] := List.getElem?_eq_getElem hj
          have vok := rok _ (List.mem_of_getElem? ej)
          generalize hv : r[j] = v at *
          have av : atI r (j : Int) = some v := atI_nat ej
          have tn := take_next ej
          have ll := (lin_len (r := r.take j) (fun v hv => rok v (List.mem_of_mem_take hv)) (by rw [List.length_take]; trivial)).1
          have wl := (wrd_len vok).2
          have pl : (preT X i).length ≤ 200001 := by
            rw [len_list] at tl
            unfold preT
            split <;> simp <;> trivial
          have dl : d.length ≤ 202701 := by
            rw [len_list, ed, List.length_append]
            rw [len_list] at ll
            trivial
          have fin : ∀ d2 : Str, d2.cps.toList = d.cps.toList ++ (if j = 0 then [] else [32]) ++ (wrd v).cps.toList → DuJ H4 a b X i r (j + 1) [some (.ref a), some (.ref b), some (.str d2), some (.int (i : Int)), some (.int (j : Int)), none, none] H4 := fun d2 e2 => by
            refine ⟨d2, _, rfl, rfl, ?_⟩
            rw [e2, ed, tn, lin_snoc]
            by_cases j0 : j = 0
            · subst j0
              simp [lin_list, glu]
            · have : r.take j ≠ [] := fun z => by
                have := congrArg List.length z
                rw [List.length_take, List.length_nil] at this
                trivial
              rw [if_neg this, if_neg j0]
              simp
          simp only [rd_name, List.set_cons_succ, List.set_cons_zero]
          refine cut1 (fun σ H5 => ∃ d1 : Str, σ = [some (.ref a), some (.ref b), some (.str d1), some (.int (i : Int)), some (.int (j : Int)), none, none] ∧ H5 = H4 ∧ d1.cps.toList = d.cps.toList ++ (if j = 0 then [] else [32]) ∧ d1.length ≤ 202702) (fun R' h => ?_) ?_
          · rw [rd_seq]
            by_cases j0 : j = 0
            · refine ifS false H4 (fun R h => by simp [j0]; simpa using h) ?_
              rw [if_neg (by simp), rd_next]
              exact h _ _ ⟨d, rfl, rfl, by rw [if_pos j0, List.append_nil], by trivial⟩
            · refine ifS true H4 (fun R h => by simp; rw [decide_eq_true (by trivial)]; exact h) ?_
              rw [if_pos rfl]
              simp
              refine ⟨by trivial, ?_⟩
              exact h _ _ ⟨_, rfl, rfl, by rw [if_neg j0, str_app]; rfl, by rw [app_len, n2]; trivial⟩
          rintro σ H5 ⟨d1, rfl, rfl, e1, d1l⟩
          refine ifS (decide (v = .non)) H5 (fun R h => by simp [onS_of hb.top, ac, onS_of hc, av]; exact h) ?_
          rcases okN_cases vok with rfl | ⟨n, rfl, hn⟩
          · rw [if_pos (by simp)]
            simp
            refine ⟨by trivial, ?_⟩
            exact fin _ (by rw [str_app, e1]; rfl)
          · rw [if_neg (by simp)]
            simp [onS_of hb.top, ac, onS_of hc, av]
            refine ⟨num_log hn, by have wl2 : (Str.ofString n.repr).length ≤ 41 := wl; trivial, ?_⟩
            exact fin _ (by rw [str_app, e1]; rfl)
        · rintro σ H4 ⟨d, o4, rfl, rfl, ed⟩
          refine ⟨d, _, _, rfl, rfl, toList_inj ?_⟩
          rw [ed, take_next ei, txt_snoc, List.take_length]; rfl
      · rintro σ H2 ⟨d, o3, o4, rfl, rfl, rfl⟩
        rw [List.take_length]
        exact h _ _ ⟨o3, o4, rfl, rfl⟩
    rintro σ H2 ⟨o3, o4, rfl, rfl⟩
    rw [rd_seq, rd_asg]
    refine comp_copyV (a := b) (fun R h => by simpa using h) hb (by trivial) (fun c cs H3 hc s3 hcR frc => ?_)
    rw [rd_name]
    dsimp only [List.set_cons_succ, List.set_cons_zero]
    rw [rd_seq, rd_asg]
    simp only [rd_cl, rd_cons, rd_nil, rd_var5, rd_var4, rd_var3, rd_var2, rd_var1, rd_var0, rd_onO]
    refine ⟨c, cs, X, rfl, hcR, tx, fun H4 s4 => ?_⟩
    simp only [rd_name, List.set_cons_succ, List.set_cons_zero]
    have hb4 := (hb.same s3).same s4
    have hc4 := hcR.same s4
    rw [rd_seq]
    refine ifS false H4 (fun R h => ?_) ?_
    · simp
      refine ⟨c, b, cs, bs, X, X, rfl, hc4, hb4, tx.leaf, tx.leaf, by trivial, fun r hr => by have := tx.row r hr; trivial, ?_⟩
      simpa using h
    rw [if_neg (by simp), rd_next]
    simp
    refine ⟨X, rfl, tx, ho, rl, fun e es H5 s5 he => ?_⟩
    refine ⟨e, b, es, bs, X, X, rfl, he, hb4.same s5, tx.leaf, tx.leaf, by trivial, fun r hr => by have := tx.row r hr; trivial, ?_⟩
    simpa using q _
end
end SR
namespace SR
open PySem L2 RS PySem.Spec PyProof.Rows
theorem bnd1 {p : List Value → Prop} (h : ∀ a, p [a]) : ∀ us : List Value, us.length = 1 → p us
  | [a], _ => h a
theorem bnd2 {p : List Value → Prop} (h : ∀ a b, p [a, b]) : ∀ us : List Value, us.length = 2 → p us
  | [a, b], _ => h a b
theorem bnd3 {p : List Value → Prop} (h : ∀ a b c, p [a, b, c]) : ∀ us : List Value, us.length = 3 → p us
  | [a, b, c], _ => h a b c
theorem all_mk {l : PySem.W.OpenLaw} {w : World} {K : PySem.W.Frag} {h : Heap} {mg : Str → Option Value} {fa f0 f1 f2 f3 f4 f5 f6 f7 f8 f9 f10 f11 f12 f13 f14 f15 f16 f17 f18 f19 f20 f21 f22 f23 f24 f25 f26 : Addr} (X : K.In h) (G : h.Ns mainGlobals mg) (hfa : mg "law" = some (.ref fa))
    {od0 an0 od1 an1 od2 an2 od3 an3 od4 an4 od5 an5 od6 an6 od7 an7 od8 an8 od9 an9 od10 an10 od11 an11 od12 an12 od13 an13 od14 an14 od15 an15 od16 an16 od17 an17 od18 an18 od19 an19 od20 an20 od21 an21 od22 an22 od23 an23 od24 an24 od25 an25 od26 an26 : Option Addr} {sl0 sl1 sl2 sl3 sl4 sl5 sl6 sl7 sl8 sl9 sl10 sl11 sl12 sl13 sl14 sl15 sl16 sl17 sl18 sl19 sl20 sl21 sl22 sl23 sl24 sl25 sl26 : Array (Option Value)} {oc0 kV0 dc0 pm0 cd0 ct0 oc1 kV1 dc1 pm1 cd1 ct1 oc2 kV2 dc2 pm2 cd2 ct2 oc3 kV3 dc3 pm3 cd3 ct3 oc4 kV4 dc4 pm4 cd4 ct4 oc5 kV5 dc5 pm5 cd5 ct5 oc6 kV6 dc6 pm6 cd6 ct6 oc7 kV7 dc7 pm7 cd7 ct7 oc8 kV8 dc8 pm8 cd8 ct8 oc9 kV9 dc9 pm9 cd9 ct9 oc10 kV10 dc10 pm10 cd10 ct10 oc11 kV11 dc11 pm11 cd11 ct11 oc12 kV12 dc12 pm12 cd12 ct12 oc13 kV13 dc13 pm13 cd13 ct13 oc14 kV14 dc14 pm14 cd14 ct14 oc15 kV15 dc15 pm15 cd15 ct15 oc16 kV16 dc16 pm16 cd16 ct16 oc17 kV17 dc17 pm17 cd17 ct17 oc18 kV18 dc18 pm18 cd18 ct18 oc19 kV19 dc19 pm19 cd19 ct19 oc20 kV20 dc20 pm20 cd20 ct20 oc21 kV21 dc21 pm21 cd21 ct21 oc22 kV22 dc22 pm22 cd22 ct22 oc23 kV23 dc23 pm23 cd23 ct23 oc24 kV24 dc24 pm24 cd24 ct24 oc25 kV25 dc25 pm25 cd25 ct25 oc26 kV26 dc26 pm26 cd26 ct26 : Value}
    (a0 : PySem.W.nsIn K mainGlobals "_law_drawn" = some (some (.ref f0))) (l0 : K.lookup f0 = some ⟨oc0, od0, .func (PySem.W.fnOf "_law_drawn" "_law_drawn" (defArgs s_law_drawn) (defBody s_law_drawn) (defScope s_law_drawn) .none kV0 dc0 pm0 an0 cd0 ct0), sl0⟩) (c0 : PySem.W.codeIn K cd0 "_law_drawn" = true) (k0 : PySem.W.keepIn K (.ref f0) = true)
    (a1 : PySem.W.nsIn K mainGlobals "_law_row_by" = some (some (.ref f1))) (l1 : K.lookup f1 = some ⟨oc1, od1, .func (PySem.W.fnOf "_law_row_by" "_law_row_by" (defArgs s_law_row_by) (defBody s_law_row_by) (defScope s_law_row_by) .none kV1 dc1 pm1 an1 cd1 ct1), sl1⟩) (c1 : PySem.W.codeIn K cd1 "_law_row_by" = true) (k1 : PySem.W.keepIn K (.ref f1) = true)
    (a2 : PySem.W.nsIn K mainGlobals "_law_lay" = some (some (.ref f2))) (l2 : K.lookup f2 = some ⟨oc2, od2, .func (PySem.W.fnOf "_law_lay" "_law_lay" (defArgs s_law_lay) (defBody s_law_lay) (defScope s_law_lay) .none kV2 dc2 pm2 an2 cd2 ct2), sl2⟩) (c2 : PySem.W.codeIn K cd2 "_law_lay" = true) (k2 : PySem.W.keepIn K (.ref f2) = true)
    (a3 : PySem.W.nsIn K mainGlobals "_law_laid" = some (some (.ref f3))) (l3 : K.lookup f3 = some ⟨oc3, od3, .func (PySem.W.fnOf "_law_laid" "_law_laid" (defArgs s_law_laid) (defBody s_law_laid) (defScope s_law_laid) .none kV3 dc3 pm3 an3 cd3 ct3), sl3⟩) (c3 : PySem.W.codeIn K cd3 "_law_laid" = true) (k3 : PySem.W.keepIn K (.ref f3) = true)
    (a4 : PySem.W.nsIn K mainGlobals "_law_whole" = some (some (.ref f4))) (l4 : K.lookup f4 = some ⟨oc4, od4, .func (PySem.W.fnOf "_law_whole" "_law_whole" (defArgs s_law_whole) (defBody s_law_whole) (defScope s_law_whole) .none kV4 dc4 pm4 an4 cd4 ct4), sl4⟩) (c4 : PySem.W.codeIn K cd4 "_law_whole" = true) (k4 : PySem.W.keepIn K (.ref f4) = true)
    (a5 : PySem.W.nsIn K mainGlobals "_law_row" = some (some (.ref f5))) (l5 : K.lookup f5 = some ⟨oc5, od5, .func (PySem.W.fnOf "_law_row" "_law_row" (defArgs s_law_row) (defBody s_law_row) (defScope s_law_row) .none kV5 dc5 pm5 an5 cd5 ct5), sl5⟩) (c5 : PySem.W.codeIn K cd5 "_law_row" = true) (k5 : PySem.W.keepIn K (.ref f5) = true)
    (a6 : PySem.W.nsIn K mainGlobals "_law_rows" = some (some (.ref f6))) (l6 : K.lookup f6 = some ⟨oc6, od6, .func (PySem.W.fnOf "_law_rows" "_law_rows" (defArgs s_law_rows) (defBody s_law_rows) (defScope s_law_rows) .none kV6 dc6 pm6 an6 cd6 ct6), sl6⟩) (c6 : PySem.W.codeIn K cd6 "_law_rows" = true) (k6 : PySem.W.keepIn K (.ref f6) = true)
    (a7 : PySem.W.nsIn K mainGlobals "shape" = some (some (.ref f7))) (l7 : K.lookup f7 = some ⟨oc7, od7, .func (PySem.W.fnOf "shape" "shape" (defArgs s_shape) (defBody s_shape) (defScope s_shape) .none kV7 dc7 pm7 an7 cd7 ct7), sl7⟩) (c7 : PySem.W.codeIn K cd7 "shape" = true) (k7 : PySem.W.keepIn K (.ref f7) = true)
    (a8 : PySem.W.nsIn K mainGlobals "column" = some (some (.ref f8))) (l8 : K.lookup f8 = some ⟨oc8, od8, .func (PySem.W.fnOf "column" "column" (defArgs s_column) (defBody s_column) (defScope s_column) .none kV8 dc8 pm8 an8 cd8 ct8), sl8⟩) (c8 : PySem.W.codeIn K cd8 "column" = true) (k8 : PySem.W.keepIn K (.ref f8) = true)
    (a9 : PySem.W.nsIn K mainGlobals "turned" = some (some (.ref f9))) (l9 : K.lookup f9 = some ⟨oc9, od9, .func (PySem.W.fnOf "turned" "turned" (defArgs s_turned) (defBody s_turned) (defScope s_turned) .none kV9 dc9 pm9 an9 cd9 ct9), sl9⟩) (c9 : PySem.W.codeIn K cd9 "turned" = true) (k9 : PySem.W.keepIn K (.ref f9) = true)
    (a10 : PySem.W.nsIn K mainGlobals "reading" = some (some (.ref f10))) (l10 : K.lookup f10 = some ⟨oc10, od10, .func (PySem.W.fnOf "reading" "reading" (defArgs s_reading) (defBody s_reading) (defScope s_reading) .none kV10 dc10 pm10 an10 cd10 ct10), sl10⟩) (c10 : PySem.W.codeIn K cd10 "reading" = true) (k10 : PySem.W.keepIn K (.ref f10) = true)
    (a11 : PySem.W.nsIn K mainGlobals "is_shape" = some (some (.ref f11))) (l11 : K.lookup f11 = some ⟨oc11, od11, .func (PySem.W.fnOf "is_shape" "is_shape" (defArgs s_is_shape) (defBody s_is_shape) (defScope s_is_shape) .none kV11 dc11 pm11 an11 cd11 ct11), sl11⟩) (c11 : PySem.W.codeIn K cd11 "is_shape" = true) (k11 : PySem.W.keepIn K (.ref f11) = true)
    (a12 : PySem.W.nsIn K mainGlobals "numbers_unlike" = some (some (.ref f12))) (l12 : K.lookup f12 = some ⟨oc12, od12, .func (PySem.W.fnOf "numbers_unlike" "numbers_unlike" (defArgs s_numbers_unlike) (defBody s_numbers_unlike) (defScope s_numbers_unlike) .none kV12 dc12 pm12 an12 cd12 ct12), sl12⟩) (c12 : PySem.W.codeIn K cd12 "numbers_unlike" = true) (k12 : PySem.W.keepIn K (.ref f12) = true)
    (a13 : PySem.W.nsIn K mainGlobals "holes_in" = some (some (.ref f13))) (l13 : K.lookup f13 = some ⟨oc13, od13, .func (PySem.W.fnOf "holes_in" "holes_in" (defArgs s_holes_in) (defBody s_holes_in) (defScope s_holes_in) .none kV13 dc13 pm13 an13 cd13 ct13), sl13⟩) (c13 : PySem.W.codeIn K cd13 "holes_in" = true) (k13 : PySem.W.keepIn K (.ref f13) = true)
    (a14 : PySem.W.nsIn K mainGlobals "rises_behind_holes" = some (some (.ref f14))) (l14 : K.lookup f14 = some ⟨oc14, od14, .func (PySem.W.fnOf "rises_behind_holes" "rises_behind_holes" (defArgs s_rises_behind_holes) (defBody s_rises_behind_holes) (defScope s_rises_behind_holes) .none kV14 dc14 pm14 an14 cd14 ct14), sl14⟩) (c14 : PySem.W.codeIn K cd14 "rises_behind_holes" = true) (k14 : PySem.W.keepIn K (.ref f14) = true)
    (a15 : PySem.W.nsIn K mainGlobals "all_rise" = some (some (.ref f15))) (l15 : K.lookup f15 = some ⟨oc15, od15, .func (PySem.W.fnOf "all_rise" "all_rise" (defArgs s_all_rise) (defBody s_all_rise) (defScope s_all_rise) .none kV15 dc15 pm15 an15 cd15 ct15), sl15⟩) (c15 : PySem.W.codeIn K cd15 "all_rise" = true) (k15 : PySem.W.keepIn K (.ref f15) = true)
    (a16 : PySem.W.nsIn K mainGlobals "is_holed" = some (some (.ref f16))) (l16 : K.lookup f16 = some ⟨oc16, od16, .func (PySem.W.fnOf "is_holed" "is_holed" (defArgs s_is_holed) (defBody s_is_holed) (defScope s_is_holed) .none kV16 dc16 pm16 an16 cd16 ct16), sl16⟩) (c16 : PySem.W.codeIn K cd16 "is_holed" = true) (k16 : PySem.W.keepIn K (.ref f16) = true)
    (a17 : PySem.W.nsIn K mainGlobals "_law_number_or" = some (some (.ref f17))) (l17 : K.lookup f17 = some ⟨oc17, od17, .func (PySem.W.fnOf "_law_number_or" "_law_number_or" (defArgs s_law_number_or) (defBody s_law_number_or) (defScope s_law_number_or) .none kV17 dc17 pm17 an17 cd17 ct17), sl17⟩) (c17 : PySem.W.codeIn K cd17 "_law_number_or" = true) (k17 : PySem.W.keepIn K (.ref f17) = true)
    (a18 : PySem.W.nsIn K mainGlobals "_law_holed_by" = some (some (.ref f18))) (l18 : K.lookup f18 = some ⟨oc18, od18, .func (PySem.W.fnOf "_law_holed_by" "_law_holed_by" (defArgs s_law_holed_by) (defBody s_law_holed_by) (defScope s_law_holed_by) .none kV18 dc18 pm18 an18 cd18 ct18), sl18⟩) (c18 : PySem.W.codeIn K cd18 "_law_holed_by" = true) (k18 : PySem.W.keepIn K (.ref f18) = true)
    (a19 : PySem.W.nsIn K mainGlobals "word_of" = some (some (.ref f19))) (l19 : K.lookup f19 = some ⟨oc19, od19, .func (PySem.W.fnOf "word_of" "word_of" (defArgs s_word_of) (defBody s_word_of) (defScope s_word_of) .none kV19 dc19 pm19 an19 cd19 ct19), sl19⟩) (c19 : PySem.W.codeIn K cd19 "word_of" = true) (k19 : PySem.W.keepIn K (.ref f19) = true)
    (a20 : PySem.W.nsIn K mainGlobals "line_of" = some (some (.ref f20))) (l20 : K.lookup f20 = some ⟨oc20, od20, .func (PySem.W.fnOf "line_of" "line_of" (defArgs s_line_of) (defBody s_line_of) (defScope s_line_of) .none kV20 dc20 pm20 an20 cd20 ct20), sl20⟩) (c20 : PySem.W.codeIn K cd20 "line_of" = true) (k20 : PySem.W.keepIn K (.ref f20) = true)
    (a21 : PySem.W.nsIn K mainGlobals "written" = some (some (.ref f21))) (l21 : K.lookup f21 = some ⟨oc21, od21, .func (PySem.W.fnOf "written" "written" (defArgs s_written) (defBody s_written) (defScope s_written) .none kV21 dc21 pm21 an21 cd21 ct21), sl21⟩) (c21 : PySem.W.codeIn K cd21 "written" = true) (k21 : PySem.W.keepIn K (.ref f21) = true)
    (a22 : PySem.W.nsIn K mainGlobals "number_of" = some (some (.ref f22))) (l22 : K.lookup f22 = some ⟨oc22, od22, .func (PySem.W.fnOf "number_of" "number_of" (defArgs s_number_of) (defBody s_number_of) (defScope s_number_of) .none kV22 dc22 pm22 an22 cd22 ct22), sl22⟩) (c22 : PySem.W.codeIn K cd22 "number_of" = true) (k22 : PySem.W.keepIn K (.ref f22) = true)
    (a23 : PySem.W.nsIn K mainGlobals "row_of" = some (some (.ref f23))) (l23 : K.lookup f23 = some ⟨oc23, od23, .func (PySem.W.fnOf "row_of" "row_of" (defArgs s_row_of) (defBody s_row_of) (defScope s_row_of) .none kV23 dc23 pm23 an23 cd23 ct23), sl23⟩) (c23 : PySem.W.codeIn K cd23 "row_of" = true) (k23 : PySem.W.keepIn K (.ref f23) = true)
    (a24 : PySem.W.nsIn K mainGlobals "lines_of" = some (some (.ref f24))) (l24 : K.lookup f24 = some ⟨oc24, od24, .func (PySem.W.fnOf "lines_of" "lines_of" (defArgs s_lines_of) (defBody s_lines_of) (defScope s_lines_of) .none kV24 dc24 pm24 an24 cd24 ct24), sl24⟩) (c24 : PySem.W.codeIn K cd24 "lines_of" = true) (k24 : PySem.W.keepIn K (.ref f24) = true)
    (a25 : PySem.W.nsIn K mainGlobals "read" = some (some (.ref f25))) (l25 : K.lookup f25 = some ⟨oc25, od25, .func (PySem.W.fnOf "read" "read" (defArgs s_read) (defBody s_read) (defScope s_read) .none kV25 dc25 pm25 an25 cd25 ct25), sl25⟩) (c25 : PySem.W.codeIn K cd25 "read" = true) (k25 : PySem.W.keepIn K (.ref f25) = true)
    (a26 : PySem.W.nsIn K mainGlobals "law" = some (some (.ref f26))) (l26 : K.lookup f26 = some ⟨oc26, od26, .func (PySem.W.fnOf "law" "law" (defArgs s_law) (defBody s_law) (defScope s_law) .none kV26 dc26 pm26 an26 cd26 ct26), sl26⟩) (c26 : PySem.W.codeIn K cd26 "law" = true) (k26 : PySem.W.keepIn K (.ref f26) = true)
    {th : Tok} (x_HOLE : PySem.W.nsIn K mainGlobals "HOLE" = some (some (.str ⟨#[46]⟩ th)))
    (z_len : PySem.W.nsIn K mainGlobals "len" = some none) (z_range : PySem.W.nsIn K mainGlobals "range" = some none) (z_list : PySem.W.nsIn K mainGlobals "list" = some none) (z_isinstance : PySem.W.nsIn K mainGlobals "isinstance" = some none) (z_min : PySem.W.nsIn K mainGlobals "min" = some none) (z_max : PySem.W.nsIn K mainGlobals "max" = some none) (z_sum : PySem.W.nsIn K mainGlobals "sum" = some none) (z_all : PySem.W.nsIn K mainGlobals "all" = some none) (z_set : PySem.W.nsIn K mainGlobals "set" = some none) (z_sorted : PySem.W.nsIn K mainGlobals "sorted" = some none) (z_enumerate : PySem.W.nsIn K mainGlobals "enumerate" = some none) (z_reversed : PySem.W.nsIn K mainGlobals "reversed" = some none) (z_int : PySem.W.nsIn K mainGlobals "int" = some none) (z_bool : PySem.W.nsIn K mainGlobals "bool" = some none) (z_tuple : PySem.W.nsIn K mainGlobals "tuple" = some none) (z_any : PySem.W.nsIn K mainGlobals "any" = some none) (z_str : PySem.W.nsIn K mainGlobals "str" = some none) :
    ∃ fd : FuncData, (∀ (s : Shared) (v : Value), BindsTo s fd ⟨[v], []⟩ [("script", v)]) ∧ ∀ base : Heap, K.In base → base.Ns mainGlobals mg → FnOk l.prog w K mg base CX0 8 fa fd ["script"] (spLaw K) := by
  have e := hfa.symm.trans (PySem.W.mg_of X G a26)
  cases e
  have T : Bl mg := ⟨PySem.W.mg_none_of X G z_len, PySem.W.mg_none_of X G z_range, PySem.W.mg_none_of X G z_list, PySem.W.mg_none_of X G z_isinstance, PySem.W.mg_none_of X G z_min, PySem.W.mg_none_of X G z_max, PySem.W.mg_none_of X G z_sum, PySem.W.mg_none_of X G z_all, PySem.W.mg_none_of X G z_set, PySem.W.mg_none_of X G z_sorted, PySem.W.mg_none_of X G z_enumerate, PySem.W.mg_none_of X G z_reversed, PySem.W.mg_none_of X G z_int, PySem.W.mg_none_of X G z_bool, PySem.W.mg_none_of X G z_tuple, PySem.W.mg_none_of X G z_any, PySem.W.mg_none_of X G z_str⟩
  have HM := PySem.W.mg_of X G x_HOLE
  have F0 := fun_mk (st := s_law_drawn) l0 c0 k0
  have b0 := F0.binds (ps := ["script", "k", "many"]) fun _ _ _ _ _ _ us hl => bnd3 (p := fun us => bindArgs _ ⟨us, []⟩ = pure (List.zip _ us)) (by intros; rfl) us hl
  have F1 := fun_mk (st := s_law_row_by) l1 c1 k1
  have b1 := F1.binds (ps := ["script", "bound"]) fun _ _ _ _ _ _ us hl => bnd2 (p := fun us => bindArgs _ ⟨us, []⟩ = pure (List.zip _ us)) (by intros; rfl) us hl
  have F2 := fun_mk (st := s_law_lay) l2 c2 k2
  have b2 := F2.binds (ps := ["rows", "number"]) fun _ _ _ _ _ _ us hl => bnd2 (p := fun us => bindArgs _ ⟨us, []⟩ = pure (List.zip _ us)) (by intros; rfl) us hl
  have F3 := fun_mk (st := s_law_laid) l3 c3 k3
  have b3 := F3.binds (ps := ["row"]) fun _ _ _ _ _ _ us hl => bnd1 (p := fun us => bindArgs _ ⟨us, []⟩ = pure (List.zip _ us)) (by intros; rfl) us hl
  have F4 := fun_mk (st := s_law_whole) l4 c4 k4
  have b4 := F4.binds (ps := ["found"]) fun _ _ _ _ _ _ us hl => bnd1 (p := fun us => bindArgs _ ⟨us, []⟩ = pure (List.zip _ us)) (by intros; rfl) us hl
  have F5 := fun_mk (st := s_law_row) l5 c5 k5
  have b5 := F5.binds (ps := ["found", "due"]) fun _ _ _ _ _ _ us hl => bnd2 (p := fun us => bindArgs _ ⟨us, []⟩ = pure (List.zip _ us)) (by intros; rfl) us hl
  have F6 := fun_mk (st := s_law_rows) l6 c6 k6
  have b6 := F6.binds (ps := ["found", "due"]) fun _ _ _ _ _ _ us hl => bnd2 (p := fun us => bindArgs _ ⟨us, []⟩ = pure (List.zip _ us)) (by intros; rfl) us hl
  have F7 := fun_mk (st := s_shape) l7 c7 k7
  have b7 := F7.binds (ps := ["rows"]) fun _ _ _ _ _ _ us hl => bnd1 (p := fun us => bindArgs _ ⟨us, []⟩ = pure (List.zip _ us)) (by intros; rfl) us hl
  have F8 := fun_mk (st := s_column) l8 c8 k8
  have b8 := F8.binds (ps := ["rows", "place"]) fun _ _ _ _ _ _ us hl => bnd2 (p := fun us => bindArgs _ ⟨us, []⟩ = pure (List.zip _ us)) (by intros; rfl) us hl
  have F9 := fun_mk (st := s_turned) l9 c9 k9
  have b9 := F9.binds (ps := ["rows"]) fun _ _ _ _ _ _ us hl => bnd1 (p := fun us => bindArgs _ ⟨us, []⟩ = pure (List.zip _ us)) (by intros; rfl) us hl
  have F10 := fun_mk (st := s_reading) l10 c10 k10
  have b10 := F10.binds (ps := ["rows"]) fun _ _ _ _ _ _ us hl => bnd1 (p := fun us => bindArgs _ ⟨us, []⟩ = pure (List.zip _ us)) (by intros; rfl) us hl
  have F11 := fun_mk (st := s_is_shape) l11 c11 k11
  have b11 := F11.binds (ps := ["lengths"]) fun _ _ _ _ _ _ us hl => bnd1 (p := fun us => bindArgs _ ⟨us, []⟩ = pure (List.zip _ us)) (by intros; rfl) us hl
  have F12 := fun_mk (st := s_numbers_unlike) l12 c12 k12
  have b12 := F12.binds (ps := ["rows"]) fun _ _ _ _ _ _ us hl => bnd1 (p := fun us => bindArgs _ ⟨us, []⟩ = pure (List.zip _ us)) (by intros; rfl) us hl
  have F13 := fun_mk (st := s_holes_in) l13 c13 k13
  have b13 := F13.binds (ps := ["line"]) fun _ _ _ _ _ _ us hl => bnd1 (p := fun us => bindArgs _ ⟨us, []⟩ = pure (List.zip _ us)) (by intros; rfl) us hl
  have F14 := fun_mk (st := s_rises_behind_holes) l14 c14 k14
  have b14 := F14.binds (ps := ["line"]) fun _ _ _ _ _ _ us hl => bnd1 (p := fun us => bindArgs _ ⟨us, []⟩ = pure (List.zip _ us)) (by intros; rfl) us hl
  have F15 := fun_mk (st := s_all_rise) l15 c15 k15
  have b15 := F15.binds (ps := ["lines"]) fun _ _ _ _ _ _ us hl => bnd1 (p := fun us => bindArgs _ ⟨us, []⟩ = pure (List.zip _ us)) (by intros; rfl) us hl
  have F16 := fun_mk (st := s_is_holed) l16 c16 k16
  have b16 := F16.binds (ps := ["rows"]) fun _ _ _ _ _ _ us hl => bnd1 (p := fun us => bindArgs _ ⟨us, []⟩ = pure (List.zip _ us)) (by intros; rfl) us hl
  have F17 := fun_mk (st := s_law_number_or) l17 c17 k17
  have b17 := F17.binds (ps := ["number", "low"]) fun _ _ _ _ _ _ us hl => bnd2 (p := fun us => bindArgs _ ⟨us, []⟩ = pure (List.zip _ us)) (by intros; rfl) us hl
  have F18 := fun_mk (st := s_law_holed_by) l18 c18 k18
  have b18 := F18.binds (ps := ["script", "rows"]) fun _ _ _ _ _ _ us hl => bnd2 (p := fun us => bindArgs _ ⟨us, []⟩ = pure (List.zip _ us)) (by intros; rfl) us hl
  have F19 := fun_mk (st := s_word_of) l19 c19 k19
  have b19 := F19.binds (ps := ["number"]) fun _ _ _ _ _ _ us hl => bnd1 (p := fun us => bindArgs _ ⟨us, []⟩ = pure (List.zip _ us)) (by intros; rfl) us hl
  have F20 := fun_mk (st := s_line_of) l20 c20 k20
  have b20 := F20.binds (ps := ["row"]) fun _ _ _ _ _ _ us hl => bnd1 (p := fun us => bindArgs _ ⟨us, []⟩ = pure (List.zip _ us)) (by intros; rfl) us hl
  have F21 := fun_mk (st := s_written) l21 c21 k21
  have b21 := F21.binds (ps := ["rows"]) fun _ _ _ _ _ _ us hl => bnd1 (p := fun us => bindArgs _ ⟨us, []⟩ = pure (List.zip _ us)) (by intros; rfl) us hl
  have F22 := fun_mk (st := s_number_of) l22 c22 k22
  have b22 := F22.binds (ps := ["word"]) fun _ _ _ _ _ _ us hl => bnd1 (p := fun us => bindArgs _ ⟨us, []⟩ = pure (List.zip _ us)) (by intros; rfl) us hl
  have F23 := fun_mk (st := s_row_of) l23 c23 k23
  have b23 := F23.binds (ps := ["line"]) fun _ _ _ _ _ _ us hl => bnd1 (p := fun us => bindArgs _ ⟨us, []⟩ = pure (List.zip _ us)) (by intros; rfl) us hl
  have F24 := fun_mk (st := s_lines_of) l24 c24 k24
  have b24 := F24.binds (ps := ["text"]) fun _ _ _ _ _ _ us hl => bnd1 (p := fun us => bindArgs _ ⟨us, []⟩ = pure (List.zip _ us)) (by intros; rfl) us hl
  have F25 := fun_mk (st := s_read) l25 c25 k25
  have b25 := F25.binds (ps := ["text"]) fun _ _ _ _ _ _ us hl => bnd1 (p := fun us => bindArgs _ ⟨us, []⟩ = pure (List.zip _ us)) (by intros; rfl) us hl
  have F26 := fun_mk (st := s_law) l26 c26 k26
  have C0 : ∀ base : Heap, Cal l.prog w K mg base 1 "_law_drawn" ["script", "k", "many"] (spDrawn K) := fun base => ⟨_, _, ok_drawn F0 T , PySem.W.mg_of X G a0, k0, b0⟩
  have C1 : ∀ base : Heap, Cal l.prog w K mg base 2 "_law_row_by" ["script", "bound"] (spRowBy K) := fun base => ⟨_, _, ok_row_by F1 T (C0 base), PySem.W.mg_of X G a1, k1, b1⟩
  have C2 : ∀ base : Heap, Cal l.prog w K mg base 1 "_law_lay" ["rows", "number"] (spLay) := fun base => ⟨_, _, ok_lay F2 T , PySem.W.mg_of X G a2, k2, b2⟩
  have C3 : ∀ base : Heap, Cal l.prog w K mg base 2 "_law_laid" ["row"] (spLaid) := fun base => ⟨_, _, ok_laid F3 T (C2 base), PySem.W.mg_of X G a3, k3, b3⟩
  have C4 : ∀ base : Heap, Cal l.prog w K mg base 1 "_law_whole" ["found"] (spWhole) := fun base => ⟨_, _, ok_whole F4 T , PySem.W.mg_of X G a4, k4, b4⟩
  have C5 : ∀ base : Heap, Cal l.prog w K mg base 2 "_law_row" ["found", "due"] (spRowV) := fun base => ⟨_, _, ok_rowV F5 T (C4 base), PySem.W.mg_of X G a5, k5, b5⟩
  have C6 : ∀ base : Heap, Cal l.prog w K mg base 3 "_law_rows" ["found", "due"] (spRowsV) := fun base => ⟨_, _, ok_rowsV F6 T (C5 base), PySem.W.mg_of X G a6, k6, b6⟩
  have C7 : ∀ base : Heap, Cal l.prog w K mg base 1 "shape" ["rows"] (spShapeV) := fun base => ⟨_, _, ok_shapeV F7 T , PySem.W.mg_of X G a7, k7, b7⟩
  have C8 : ∀ base : Heap, Cal l.prog w K mg base 1 "column" ["rows", "place"] (spColumnV) := fun base => ⟨_, _, ok_columnV F8 T , PySem.W.mg_of X G a8, k8, b8⟩
  have C9 : ∀ base : Heap, Cal l.prog w K mg base 2 "turned" ["rows"] (spTurnedV) := fun base => ⟨_, _, ok_turnedV F9 T (C8 base), PySem.W.mg_of X G a9, k9, b9⟩
  have C10 : ∀ base : Heap, Cal l.prog w K mg base 1 "reading" ["rows"] (spReadingV) := fun base => ⟨_, _, ok_readingV F10 T , PySem.W.mg_of X G a10, k10, b10⟩
  have C11 : ∀ base : Heap, Cal l.prog w K mg base 1 "is_shape" ["lengths"] (spIsShape) := fun base => ⟨_, _, ok_is_shape F11 T , PySem.W.mg_of X G a11, k11, b11⟩
  have C12 : ∀ base : Heap, Cal l.prog w K mg base 2 "numbers_unlike" ["rows"] (spUnlike) := fun base => ⟨_, _, ok_unlike F12 T (C10 base), PySem.W.mg_of X G a12, k12, b12⟩
  have C13 : ∀ base : Heap, Cal l.prog w K mg base 1 "holes_in" ["line"] (spHoles) := fun base => ⟨_, _, ok_holes F13 T , PySem.W.mg_of X G a13, k13, b13⟩
  have C14 : ∀ base : Heap, Cal l.prog w K mg base 2 "rises_behind_holes" ["line"] (spRises) := fun base => ⟨_, _, ok_rises F14 T (C13 base), PySem.W.mg_of X G a14, k14, b14⟩
  have C15 : ∀ base : Heap, Cal l.prog w K mg base 3 "all_rise" ["lines"] (spAllRise) := fun base => ⟨_, _, ok_all_rise F15 T (C14 base), PySem.W.mg_of X G a15, k15, b15⟩
  have C16 : ∀ base : Heap, Cal l.prog w K mg base 4 "is_holed" ["rows"] (spHoled) := fun base => ⟨_, _, ok_is_holed F16 T (C7 base) (C11 base) (C12 base) (C15 base) (C9 base), PySem.W.mg_of X G a16, k16, b16⟩
  have C17 : ∀ base : Heap, Cal l.prog w K mg base 1 "_law_number_or" ["number", "low"] (spNumOr) := fun base => ⟨_, _, ok_numor F17 T , PySem.W.mg_of X G a17, k17, b17⟩
  have C18 : ∀ base : Heap, Cal l.prog w K mg base 2 "_law_holed_by" ["script", "rows"] (spHoledBy K) := fun base => ⟨_, _, ok_holed_by F18 T (C0 base) (C17 base), PySem.W.mg_of X G a18, k18, b18⟩
  have C19 : ∀ base : Heap, Cal l.prog w K mg base 1 "word_of" ["number"] (spWord) := fun base => ⟨_, _, ok_word F19 T HM , PySem.W.mg_of X G a19, k19, b19⟩
  have C20 : ∀ base : Heap, Cal l.prog w K mg base 2 "line_of" ["row"] (spLine) := fun base => ⟨_, _, ok_line F20 T (C19 base), PySem.W.mg_of X G a20, k20, b20⟩
  have C21 : ∀ base : Heap, Cal l.prog w K mg base 3 "written" ["rows"] (spWritten) := fun base => ⟨_, _, ok_written F21 T (C20 base), PySem.W.mg_of X G a21, k21, b21⟩
  have C22 : ∀ base : Heap, Cal l.prog w K mg base 2 "number_of" ["word"] (spNum) := fun base => ⟨_, _, ok_num F22 T HM (C19 base), PySem.W.mg_of X G a22, k22, b22⟩
  have C23 : ∀ base : Heap, Cal l.prog w K mg base 3 "row_of" ["line"] (spRowOf) := fun base => ⟨_, _, ok_row_of F23 T (C22 base), PySem.W.mg_of X G a23, k23, b23⟩
  have C24 : ∀ base : Heap, Cal l.prog w K mg base 1 "lines_of" ["text"] (spLines) := fun base => ⟨_, _, ok_lines F24 T , PySem.W.mg_of X G a24, k24, b24⟩
  have C25 : ∀ base : Heap, Cal l.prog w K mg base 5 "read" ["text"] (spRead) := fun base => ⟨_, _, ok_read F25 T (C24 base) (C23 base) (C16 base), PySem.W.mg_of X G a25, k25, b25⟩
  exact ⟨PySem.W.fnOf "law" "law" (defArgs s_law) (defBody s_law) (defScope s_law) .none kV26 dc26 pm26 an26 cd26 ct26, fun s v => .of_eq rfl, fun base _ _ => ok_law F26 T (C0 base) (C1 base) (C3 base) (C18 base) (C21 base) (C6 base) (C25 base)⟩
theorem walk {l : PySem.W.OpenLaw} {q : Program} {loose : List Str} {XP : (Str → Option Value) → Heap → Prop} {YP : World → Heap → Prop} {d : DefRec} {K : Params → PySem.W.Frag} (hn : l.most = some 63) (hdf : d.params.defaults = [])
    (hY : ∀ (w : World) (h : Heap), YP w h → (K w.params).In h)
    (F : ∀ (w : World) (mg : Str → Option Value) (fa : Addr) (h : Heap), (K w.params).In h → h.Ns mainGlobals mg → mg d.name = some (.ref fa) →
      ∃ fd : FuncData, (∀ (s : Shared) (u : Value), BindsTo s fd ⟨[u], []⟩ [("script", u)]) ∧ ∀ base : Heap, (K w.params).In base → base.Ns mainGlobals mg → FnOk l.prog w (K w.params) mg base CX0 8 fa fd ["script"] (spLaw (K w.params))) :
    PySem.W.WalkO q loose XP YP l.row.toRowW d [] (fun f vs => PySem.call f vs) :=
  L2.walk_of (n := 63) (k := 8) (x := "script") (CX := fun _ => CX0) (sp := fun w => spLaw (K w.params)) hn (by decide) hdf ⟨rfl, by decide, by decide⟩ hY F (fun _ _ a ns hl _ hS => ⟨a, ns, rfl, hS, hl, fun _ => rfl⟩) fun _ _ _ _ _ z => z
end SR
open PySem PySem.W PyProof.Rows
set_option maxRecDepth 100000 in
set_option maxHeartbeats 0 in
theorem PySem.Challenge.cw_stairrows_k25_written_and_read_holds : PySem.Challenge.rw_stairrows_k25_written_and_read.Holds := by
  w_on; o_law; k_head; (case hw => w_witness2)
  k_fill
  refine SR.walk (l := PySem.Challenge.rw_stairrows_k25_written_and_read) rfl rfl (fun w h Y => PySem.W.kIn_of Y) ?F
  case F =>
    intro w mg fa h KX G hmg
    refine' SR.all_mk KX G hmg ?a0 ?l0 ?c0 ?k0 ?a1 ?l1 ?c1 ?k1 ?a2 ?l2 ?c2 ?k2 ?a3 ?l3 ?c3 ?k3 ?a4 ?l4 ?c4 ?k4 ?a5 ?l5 ?c5 ?k5 ?a6 ?l6 ?c6 ?k6 ?a7 ?l7 ?c7 ?k7 ?a8 ?l8 ?c8 ?k8 ?a9 ?l9 ?c9 ?k9 ?a10 ?l10 ?c10 ?k10 ?a11 ?l11 ?c11 ?k11 ?a12 ?l12 ?c12 ?k12 ?a13 ?l13 ?c13 ?k13 ?a14 ?l14 ?c14 ?k14 ?a15 ?l15 ?c15 ?k15 ?a16 ?l16 ?c16 ?k16 ?a17 ?l17 ?c17 ?k17 ?a18 ?l18 ?c18 ?k18 ?a19 ?l19 ?c19 ?k19 ?a20 ?l20 ?c20 ?k20 ?a21 ?l21 ?c21 ?k21 ?a22 ?l22 ?c22 ?k22 ?a23 ?l23 ?c23 ?k23 ?a24 ?l24 ?c24 ?k24 ?a25 ?l25 ?c25 ?k25 ?a26 ?l26 ?c26 ?k26 ?x_HOLE ?z_len ?z_range ?z_list ?z_isinstance ?z_min ?z_max ?z_sum ?z_all ?z_set ?z_sorted ?z_enumerate ?z_reversed ?z_int ?z_bool ?z_tuple ?z_any ?z_str
    (case a0 => k_is)
    (case l0 => k_is)
    (case c0 => k_is)
    (case k0 => k_is)
    (case a1 => k_is)
    (case l1 => k_is)
    (case c1 => k_is)
    (case k1 => k_is)
    (case a2 => k_is)
    (case l2 => k_is)
    (case c2 => k_is)
    (case k2 => k_is)
    (case a3 => k_is)
    (case l3 => k_is)
    (case c3 => k_is)
    (case k3 => k_is)
    (case a4 => k_is)
    (case l4 => k_is)
    (case c4 => k_is)
    (case k4 => k_is)
    (case a5 => k_is)
    (case l5 => k_is)
    (case c5 => k_is)
    (case k5 => k_is)
    (case a6 => k_is)
    (case l6 => k_is)
    (case c6 => k_is)
    (case k6 => k_is)
    (case a7 => k_is)
    (case l7 => k_is)
    (case c7 => k_is)
    (case k7 => k_is)
    (case a8 => k_is)
    (case l8 => k_is)
    (case c8 => k_is)
    (case k8 => k_is)
    (case a9 => k_is)
    (case l9 => k_is)
    (case c9 => k_is)
    (case k9 => k_is)
    (case a10 => k_is)
    (case l10 => k_is)
    (case c10 => k_is)
    (case k10 => k_is)
    (case a11 => k_is)
    (case l11 => k_is)
    (case c11 => k_is)
    (case k11 => k_is)
    (case a12 => k_is)
    (case l12 => k_is)
    (case c12 => k_is)
    (case k12 => k_is)
    (case a13 => k_is)
    (case l13 => k_is)
    (case c13 => k_is)
    (case k13 => k_is)
    (case a14 => k_is)
    (case l14 => k_is)
    (case c14 => k_is)
    (case k14 => k_is)
    (case a15 => k_is)
    (case l15 => k_is)
    (case c15 => k_is)
    (case k15 => k_is)
    (case a16 => k_is)
    (case l16 => k_is)
    (case c16 => k_is)
    (case k16 => k_is)
    (case a17 => k_is)
    (case l17 => k_is)
    (case c17 => k_is)
    (case k17 => k_is)
    (case a18 => k_is)
    (case l18 => k_is)
    (case c18 => k_is)
    (case k18 => k_is)
    (case a19 => k_is)
    (case l19 => k_is)
    (case c19 => k_is)
    (case k19 => k_is)
    (case a20 => k_is)
    (case l20 => k_is)
    (case c20 => k_is)
    (case k20 => k_is)
    (case a21 => k_is)
    (case l21 => k_is)
    (case c21 => k_is)
    (case k21 => k_is)
    (case a22 => k_is)
    (case l22 => k_is)
    (case c22 => k_is)
    (case k22 => k_is)
    (case a23 => k_is)
    (case l23 => k_is)
    (case c23 => k_is)
    (case k23 => k_is)
    (case a24 => k_is)
    (case l24 => k_is)
    (case c24 => k_is)
    (case k24 => k_is)
    (case a25 => k_is)
    (case l25 => k_is)
    (case c25 => k_is)
    (case k25 => k_is)
    (case a26 => k_is)
    (case l26 => k_is)
    (case c26 => k_is)
    (case k26 => k_is)
    (case x_HOLE => k_is)
    (case z_len => k_is)
    (case z_range => k_is)
    (case z_list => k_is)
    (case z_isinstance => k_is)
    (case z_min => k_is)
    (case z_max => k_is)
    (case z_sum => k_is)
    (case z_all => k_is)
    (case z_set => k_is)
    (case z_sorted => k_is)
    (case z_enumerate => k_is)
    (case z_reversed => k_is)
    (case z_int => k_is)
    (case z_bool => k_is)
    (case z_tuple => k_is)
    (case z_any => k_is)
    (case z_str => k_is)
