import PyProof.Rows.All
import Wide.All
import OpenK.AllK
import Wide.FinOn
import Lean
import PyProof.EqAt
import PyProof.EqKinds
import PyProof.TupleCall
import KE.KDictSum
import PyProof.ExcArgs
import PyProof.Cells
import PySem.Challenge.RW_stairrows_k08_pairs_refused
set_option Elab.async false
set_option linter.all false
set_option maxRecDepth 100000
/-! THE HAND LAYER, for ints, bools, texts, own classes, LISTS and tuples (index, slices, in, append, pop ..), calls, loops. Paste it whole ahead of your own text; what your proof does not reach may be deleted. -/
namespace L2
open PySem PySem.Spec PyProof.Rows

/-- a key: an int or a str -/
abbrev Key := Sum Int Str
def keyIs : Key → Value → Bool
  | .inl k, v => Value.isInt k v
  | .inr x, v => Value.isStrOf x v
def keyH (w : World) : Key → Int
  | .inl k => hashInt k
  | .inr x => hashStr w x
theorem keyIs_shape : ∀ {k : Key} {v : Value}, keyIs k v = true → (∃ i t, k = Sum.inl i ∧ v = Value.int i t) ∨ (∃ x t, k = Sum.inr x ∧ v = Value.str x t)
  | .inl i, v, h => by
    obtain ⟨t, e⟩ := Value.isInt_shape (k := i) (v := v) h
    exact .inl ⟨i, t, rfl, e⟩
  | .inr x, v, h => by
    obtain ⟨t, e⟩ := Value.isStrOf_shape (x := x) (v := v) h
    exact .inr ⟨x, t, rfl, e⟩
theorem keyIs_int (i : Int) (t : Tok) : keyIs (.inl i) (.int i t) = true := by simp [keyIs, Value.isInt]
theorem keyIs_str (x : Str) (t : Tok) : keyIs (.inr x) (.str x t) = true := by simp [keyIs, Value.isStrOf]
theorem key_ll (a b : Int) : decide ((Sum.inl a : Key) = Sum.inl b) = (a == b) := by
  by_cases e : a = b
  · subst e; simp
  · have h : ¬ (Sum.inl a : Key) = Sum.inl b := fun q => e (Sum.inl.inj q)
    rw [decide_eq_false h]
    exact (beq_eq_false_iff_ne.mpr e).symm
theorem key_rr (a b : Str) : decide ((Sum.inr a : Key) = Sum.inr b) = decide (a = b) := by
  by_cases e : a = b
  · subst e; simp
  · have h : ¬ (Sum.inr a : Key) = Sum.inr b := fun q => e (Sum.inr.inj q)
    rw [decide_eq_false h, decide_eq_false e]
theorem key_lr (a : Int) (b : Str) : decide ((Sum.inl a : Key) = Sum.inr b) = false := decide_eq_false (fun q => nomatch q)
theorem key_rl (a : Str) (b : Int) : decide ((Sum.inr a : Key) = Sum.inl b) = false := decide_eq_false (fun q => nomatch q)

def mixKind (prog : Program) (w : World) : PySem.KeyKind prog w Key where
  is := keyIs
  hash := keyH w
  inj := fun v a b ha hb => by
    rcases keyIs_shape ha with ⟨i, t, rfl, rfl⟩ | ⟨x, t, rfl, rfl⟩
    · rcases keyIs_shape hb with ⟨j, u, rfl, e⟩ | ⟨y, u, rfl, e⟩
      · injection e with e1 _; rw [e1]
      · exact nomatch e
    · rcases keyIs_shape hb with ⟨j, u, rfl, e⟩ | ⟨y, u, rfl, e⟩
      · exact nomatch e
      · injection e with e1 _; rw [e1]
  byValue := fun k v h => by
    rcases keyIs_shape h with ⟨i, t, rfl, rfl⟩ | ⟨x, t, rfl, rfl⟩ <;> rfl
  pyHash := fun hv h => by
    rcases keyIs_shape hv with ⟨i, t, rfl, rfl⟩ | ⟨x, t, rfl, rfl⟩
    · exact wpAny_pyHash_int h
    · exact wpAny_pyHash_str h
  eqBool := fun hu hv h => by
    rcases keyIs_shape hu with ⟨i, t, rfl, rfl⟩ | ⟨x, t, rfl, rfl⟩
    · rcases keyIs_shape hv with ⟨j, u, rfl, rfl⟩ | ⟨y, u, rfl, rfl⟩
      · rw [key_ll] at h; exact wpAny_eqBool_int h
      · rw [key_lr] at h; exact SeqAt.EqAt.int_str i t y u _ _ _ _ h
    · rcases keyIs_shape hv with ⟨j, u, rfl, rfl⟩ | ⟨y, u, rfl, rfl⟩
      · rw [key_rl] at h; exact SeqAt.EqAt.str_int x t j u _ _ _ _ h
      · rw [key_rr] at h; exact wpAny_eqBool_str h
  «strs» := fun k x t v h => by
    rcases keyIs_shape h with ⟨i, u, rfl, e⟩ | ⟨y, u, rfl, e⟩
    · exact nomatch e
    · injection e with e1 _
      subst e1
      cases v <;> rfl

theorem mixKind_int (prog : Program) (w : World) (i : Int) (t : Tok) : (mixKind prog w).is (.inl i) (.int i t) = true := keyIs_int i t
theorem mixKind_str (prog : Program) (w : World) (x : Str) (t : Tok) : (mixKind prog w).is (.inr x) (.str x t) = true := keyIs_str x t
end L2

namespace L2
open PySem PySem.Spec PyProof.Rows

/-- a value, without the heap -/
inductive V where
  | non | bl (b : Bool) | int (i : Int) | str (x : Str) | byt (b : Array UInt8) | flt (b : UInt64) | ref (a : Addr) | ty (n : String)
  deriving DecidableEq

def RelV : V → Value → Prop
  | .non, u => u = Value.none
  | .bl b, u => u = Value.bool b
  | .int i, u => ∃ t, u = Value.int i t
  | .str x, u => ∃ t, u = Value.str x t
  | .byt b, u => ∃ t, u = Value.bytes b t
  | .flt b, u => ∃ t, u = Value.float b t
  | .ref a, u => u = Value.ref a
  | .ty n, u => u = Value.type n

abbrev Vals : List V → List Value → Prop := Paired RelV
theorem Vals.length {xs : List V} {us : List Value} (r : Vals xs us) : xs.length = us.length := Paired.length r
theorem Vals.get : ∀ {xs : List V} {us : List Value} {i : Nat} {x : V}, Vals xs us → xs[i]? = some x → ∃ u, us[i]? = some u ∧ RelV x u
  | _, _, _, _, .nil, e => by simp at e
  | _, _, 0, _, .cons r _, e => by simp at e; subst e; exact ⟨_, rfl, r⟩
  | _, _, i + 1, x, .cons _ t, e => by
    obtain ⟨u, h1, h2⟩ := Vals.get (i := i) (x := x) t (by simpa using e)
    exact ⟨u, by simpa using h1, h2⟩
theorem Vals.set {x : V} {u : Value} (r : RelV x u) : ∀ {xs : List V} {us : List Value} (i : Nat), Vals xs us → Vals (xs.set i x) (us.set i u)
  | _, _, _, .nil => .nil
  | _, _, 0, .cons _ t => .cons r t
  | _, _, i + 1, .cons q t => .cons q (Vals.set r i t)
theorem Vals.append : ∀ {xs ys : List V} {us ws : List Value}, Vals xs us → Vals ys ws → Vals (xs ++ ys) (us ++ ws)
  | _, _, _, _, .nil, s => s
  | _, _, _, _, .cons r t, s => .cons r (Vals.append t s)
theorem Vals.take : ∀ {xs : List V} {us : List Value} (n : Nat), Vals xs us → Vals (xs.take n) (us.take n)
  | _, _, 0, _ => .nil
  | _, _, _ + 1, .nil => .nil
  | _, _, n + 1, .cons r t => .cons r (Vals.take n t)
theorem Vals.drop : ∀ {xs : List V} {us : List Value} (n : Nat), Vals xs us → Vals (xs.drop n) (us.drop n)
  | _, _, 0, r => r
  | _, _, _ + 1, .nil => .nil
  | _, _, n + 1, .cons _ t => Vals.drop n t
theorem Vals.none_of : ∀ {xs : List V} {us : List Value} {i : Nat}, Vals xs us → xs[i]? = none → us[i]? = none := fun {xs us i} r e => by
  have h1 := r.length
  have h2 : xs.length ≤ i := List.getElem?_eq_none_iff.mp e
  exact List.getElem?_eq_none_iff.mpr (by omega)

def RelO : Option V → Option Value → Prop
  | some v, some u => RelV v u
  | none, none => True
  | _, _ => False
def KV {κ : Type} : List (κ × V) → List (κ × Value) → Prop := Paired fun (p : κ × V) (q : κ × Value) => p.1 = q.1 ∧ RelV p.2 q.2

/-- a key of a dict (00_mix): an int or a text -/
def kV : Key → V
  | .inl i => .int i
  | .inr x => .str x

/-- what stands at a tracked address -/
inductive HO where
  /-- a list -/
  | lst (xs : List V)
  /-- a tuple (never changes) -/
  | tup (xs : List V)
  /-- a dict whose keys are ints and texts; one whose keys are tuples of ints and texts (the empty one is both) -/
  | dK (kvs : List (Key × V)) | dT (kvs : List (List Key × V))
  /-- a set of ints: its members, its size -/
  | set (S : Int → Bool) (n : Nat)
  /-- an instance of the class at C, its dict at dx, its attributes -/
  | ins (C dx : Addr) (fs : List (Str × V))
  /-- the dict of the instance at x -/
  | own (x : Addr)
  /-- the dict of an exception -/
  | xd (fs : List (Str × V))
  /-- a bound method, f of x -/
  | met (f x : Addr)
  /-- a range object lo, lo + 1, .. below hi -/
  | rng (lo hi : Int)
  /-- a thing that is known to the object (the script; a dict while a loop walks it): read, never written while it is so -/
  | frz (o : Obj) (u : HO)
  /-- a code object's table -/
  | tbl (ps : Array Value)
  /-- any other thing, by what is true of its one object (a def of one's own: SetO a S n := HO.ext fun h => ..) -/
  | ext (φ : Heap → Prop)

abbrev Hp := Addr → Option HO
def upd (H : Hp) (a : Addr) (o : HO) : Hp := fun b => if b = a then some o else H b
theorem upd_same {H : Hp} {a : Addr} {o : HO} : upd H a o a = some o := by unfold upd; rw [if_pos rfl]
theorem upd_ne {H : Hp} {a b : Addr} {o : HO} (h : b ≠ a) : upd H a o b = H b := by unfold upd; rw [if_neg h]
theorem upd_upd {H : Hp} {a : Addr} {o u : HO} : upd (upd H a o) a u = upd H a u := by
  funext b; unfold upd; split <;> rfl
/-- two objects of different content stand apart -/
theorem ne_of {H : Hp} {a b : Addr} {o u : HO} (h : H a = some o) (h' : H b = some u) (d : o ≠ u) : a ≠ b := by
  intro e; subst e; rw [h] at h'; exact d (Option.some.inj h')
theorem ne_of_none {H : Hp} {a b : Addr} {o : HO} (h : H a = some o) (h' : H b = none) : a ≠ b := by
  intro e; subst e; rw [h] at h'; cases h'

section
variable (P : Program) (w : World)
def ObjOk (H : Hp) (h : Heap) (a : Addr) : HO → Prop
  | .lst xs => xs.length ≤ sizeLine ∧ ∃ (its : List Value) (n : Nat), Vals xs its ∧ h.get? a = some { cls := .type "list", data := .seq its.toArray n }
  | .tup xs => xs.length ≤ sizeLine ∧ ∃ its : List Value, Vals xs its ∧ IsTup h a its.toArray
  | .dK kvs => kvs.length ≤ sizeLine ∧ (a == sysModules) = false ∧ ∃ vs, KV kvs vs ∧ h.DictOf (mixKind P w) a vs
  | .dT kvs => kvs.length ≤ sizeLine ∧ (a == sysModules) = false ∧ ∃ xs : List (List Key × Addr × Value),
      Paired (fun (p : List Key × V) (q : List Key × Addr × Value) => p.1 = q.1 ∧ H q.2.1 = some (.tup (p.1.map kV)) ∧ RelV p.2 q.2.2) kvs xs ∧
      ∃ o es ep, h.get? a = some o ∧ o.ExactDict ∧ o.data = .dict es ep ∧ es.toList = xs.map (entryOfKey (tupleKind (mixKind P w))) ∧ (xs.map (·.1)).Nodup
  | .set S n => h.SetOf (intKind P w) a S n
  | .ins C dx fs => H dx = some (.own a) ∧ fs.length ≤ 1000 ∧ dx ≠ a ∧ h.get? a = some (PySem.W.instObj C dx) ∧
      ∃ mA, h.Ns1 dx mA ∧ (∀ f, RelO (fs.lookup f) (mA f)) ∧ PySem.Within mA (fs.map (·.1))
  | .own _ => ∃ o, h.get? a = some o
  | .xd fs => ∃ mA, h.Ns1 a mA ∧ ∀ f, RelO (fs.lookup f) (mA f)
  | .rng lo hi => ∃ t u v, h.get? a = some { cls := .type "range", data := .fields #[.int lo t, .int hi u, .int 1 v] }
  | .frz o u => h.get? a = some o ∧ ObjOk H h a u
  | .tbl ps => h.get? a = some { cls := .none, data := .fields ps }
  | .met f x => h.get? a = some (PySem.W.methodObj (.ref f) (.ref x))
  | .ext φ => φ h ∧ (∃ o, h.get? a = some o) ∧ ∀ h1 h2 : Heap, φ h1 → (∀ o, h1.get? a = some o → h2.get? a = some o) → φ h2
/-- the abstract heap is held -/
def HOk (H : Hp) (h : Heap) : Prop := ∀ a o, H a = some o → ObjOk P w H h a o
end

section
variable {P : Program} {w : World} {H H' : Hp} {h h' : Heap} {a : Addr} {o : HO}
theorem ObjOk.lt (x : ObjOk P w H h a o) : a < h.objs.size := by
  cases o with
  | lst xs => obtain ⟨_, _, _, _, e⟩ := x; exact Heap.lt_size e
  | tup xs => obtain ⟨_, _, _, p⟩ := x; exact p.lt
  | dK kvs => obtain ⟨_, _, _, _, o, _, _, e, _⟩ := x; exact Heap.lt_size e
  | dT kvs => obtain ⟨_, _, _, _, o, _, _, e, _⟩ := x; exact Heap.lt_size e
  | set S n => obtain ⟨o, _, _, _, e, _⟩ := x; exact Heap.lt_size e
  | ins C dx fs => obtain ⟨_, _, _, e, _⟩ := x; exact Heap.lt_size e
  | own y => obtain ⟨_, e⟩ := x; exact Heap.lt_size e
  | xd fs => obtain ⟨_, ⟨_, _, _, e, _⟩, _⟩ := x; exact Heap.lt_size e
  | rng lo hi => obtain ⟨_, _, _, e⟩ := x; exact Heap.lt_size e
  | frz ob u => obtain ⟨e, _⟩ := x; exact Heap.lt_size e
  | tbl ps => exact Heap.lt_size (show h.get? a = some _ from x)
  | met f y => exact Heap.lt_size (show h.get? a = some _ from x)
  | ext φ => obtain ⟨_, ⟨_, e⟩, _⟩ := x; exact Heap.lt_size e
theorem Paired.mapP {α β : Type} {F G : α → β → Prop} : ∀ {l₁ : List α} {l₂ : List β}, Paired F l₁ l₂ → (∀ a b, F a b → G a b) → Paired G l₁ l₂
  | _, _, .nil, _ => .nil
  | _, _, .cons r t, f => .cons (f _ _ r) (Paired.mapP t f)
/-- what an object's description leans on: its own object, its own dict, the tuples -/
theorem ObjOk.stay (x : ObjOk P w H h a o) (k : ∀ b u, (b = a ∨ H b = some (.own a)) → h.get? b = some u → h'.get? b = some u)
    (ho : ∀ b, H b = some (.own a) → H' b = some (.own a)) (ht : ∀ b xs, H b = some (.tup xs) → H' b = some (.tup xs)) : ObjOk P w H' h' a o := by
  induction o with
  | lst xs => obtain ⟨z, its, n, r, e⟩ := x; exact ⟨z, its, n, r, k _ _ (.inl rfl) e⟩
  | tup xs => obtain ⟨z, its, r, ob, e, c⟩ := x; exact ⟨z, its, r, ob, k _ _ (.inl rfl) e, c⟩
  | dK kvs => obtain ⟨z, y, vs, r, ob, es, ep, e, c⟩ := x; exact ⟨z, y, vs, r, ob, es, ep, k _ _ (.inl rfl) e, c⟩
  | dT kvs =>
    obtain ⟨z, y, xs, r, ob, es, ep, e, c⟩ := x
    exact ⟨z, y, xs, Paired.mapP r fun p q z => ⟨z.1, ht _ _ z.2.1, z.2.2⟩, ob, es, ep, k _ _ (.inl rfl) e, c⟩
  | set S n => obtain ⟨ob, es, ep, t, e, c⟩ := x; exact ⟨ob, es, ep, t, k _ _ (.inl rfl) e, c⟩
  | ins C dx fs =>
    obtain ⟨d, z, ne, e, mA, ⟨od, es, ep, e2, c⟩, r⟩ := x
    exact ⟨ho _ d, z, ne, k _ _ (.inl rfl) e, mA, ⟨od, es, ep, k _ _ (.inr d) e2, c⟩, r⟩
  | own y => obtain ⟨ob, e⟩ := x; exact ⟨ob, k _ _ (.inl rfl) e⟩
  | xd fs => obtain ⟨mA, ⟨od, es, ep, e, c⟩, r⟩ := x; exact ⟨mA, ⟨od, es, ep, k _ _ (.inl rfl) e, c⟩, r⟩
  | rng lo hi => obtain ⟨t, u, v, e⟩ := x; exact ⟨t, u, v, k _ _ (.inl rfl) e⟩
  | frz ob u ih => obtain ⟨e, q⟩ := x; exact ⟨k _ _ (.inl rfl) e, ih q⟩
  | tbl ps =>
    have e : h.get? a = some { cls := .none, data := .fields ps } := x
    show h'.get? a = some { cls := .none, data := .fields ps }
    exact k a _ (.inl rfl) e
  | met f y =>
    have e : h.get? a = some (PySem.W.methodObj (.ref f) (.ref y)) := x
    show h'.get? a = some (PySem.W.methodObj (.ref f) (.ref y))
    exact k a _ (.inl rfl) e
  | ext φ => obtain ⟨p, ⟨o, e⟩, st⟩ := x; exact ⟨st _ _ p fun o q => k _ _ (.inl rfl) q, ⟨o, k _ _ (.inl rfl) e⟩, st⟩
theorem HOk.lt (x : HOk P w H h) (e : H a = some o) : a < h.objs.size := (x a o e).lt
theorem HOk.fresh (x : HOk P w H h) (e : h.objs.size ≤ a) : H a = none := by
  cases q : H a with
  | none => rfl
  | some u => exact absurd (Nat.lt_of_lt_of_le (x.lt q) e) (Nat.lt_irrefl _)
/-- every object of the heap is kept -/
theorem HOk.kept (x : HOk P w H h) (k : ∀ b u, h.get? b = some u → h'.get? b = some u) : HOk P w H h' := fun a o e =>
  (x a o e).stay (fun b u _ q => k b u q) (fun _ q => q) fun _ _ q => q
/-- a new object is laid and tracked -/
theorem HOk.laid (x : HOk P w H h) (k : ∀ b u, h.get? b = some u → h'.get? b = some u) (hp : h.objs.size ≤ a) (new : ObjOk P w (upd H a o) h' a o) : HOk P w (upd H a o) h' := fun b u e => by
  have hn := x.fresh hp
  by_cases hb : b = a
  · subst hb; rw [upd_same] at e; cases e; exact new
  · rw [upd_ne hb] at e
    exact (x b u e).stay (fun c v _ q => k c v q) (fun c q => by rw [upd_ne (ne_of_none q hn)]; exact q) fun c xs q => by rw [upd_ne (ne_of_none q hn)]; exact q
end

/-- what may be read as u: it is u, or a known u -/
def Rd (H : Hp) (a : Addr) (u : HO) : Prop := H a = some u ∨ ∃ o, H a = some (.frz o u)
theorem Rd.of {H : Hp} {a : Addr} {u : HO} (h : H a = some u) : Rd H a u := .inl h
theorem Rd.ok {P : Program} {w : World} {H : Hp} {h : Heap} {a : Addr} {u : HO} (r : Rd H a u) (x : HOk P w H h) : ObjOk P w H h a u := by
  rcases r with r | ⟨o, r⟩
  · exact x a u r
  · obtain ⟨_, q⟩ := x a _ r
    exact q
/-- what may be written -/
def Mut : Option HO → Prop
  | some (.lst _) => True
  | some (.dK _) => True
  | some (.dT _) => True
  | some (.set _ _) => True
  | some (.ins _ _ _) => True
  | some (.ext _) => True
  | _ => False
section
variable {P : Program} {w : World} {H : Hp} {h h' : Heap} {x e : Addr} {o' : HO}
/-- the object at e is changed: x itself, or the dict of the instance x -/
theorem HOk.write (ok : HOk P w H h) (mu : Mut (H x)) (he : e = x ∨ H e = some (.own x)) (k : ∀ b u, b ≠ e → h.get? b = some u → h'.get? b = some u) (heo : ∃ u, h'.get? e = some u)
    (new : ObjOk P w (upd H x o') h' x o') : HOk P w (upd H x o') h' := fun b u q => by
  have nown : ∀ c y, H c = some (.own y) → c ≠ x := fun c y r z => by subst z; rw [r] at mu; exact mu
  have ntup : ∀ c xs, H c = some (.tup xs) → c ≠ x := fun c xs r z => by subst z; rw [r] at mu; exact mu
  by_cases hb : b = x
  · subst hb; rw [upd_same] at q; cases q; exact new
  · rw [upd_ne hb] at q
    by_cases hbe : b = e
    · have q' : H b = some (.own x) := by
        rcases he with z | z
        · exact absurd (hbe.trans z) hb
        · rw [hbe]; exact z
      rw [q] at q'; cases q'
      obtain ⟨v, hv⟩ := heo
      exact ⟨v, by rw [hbe]; exact hv⟩
    · refine (ok b u q).stay (fun c v hc r => k c v ?_ r) (fun c r => by rw [upd_ne (nown c b r)]; exact r) fun c xs r => by rw [upd_ne (ntup c xs r)]; exact r
      rcases hc with rfl | hc
      · exact hbe
      · rintro rfl
        rcases he with z | z
        · exact nown c b hc z
        · rw [hc] at z; cases z; exact hb rfl
end

/-! ### kept unless tracked; of the frames at fs (the callers') the slots may change (an exception that passes writes there); of the records at ex (iterators) nothing is said -/
structure Un (fs ex : List Addr) (H H' : Hp) (h h' : Heap) : Prop where
  keep : ∀ b o, h.get? b = some o → H b = none → b ∉ fs → b ∉ ex → h'.get? b = some o
  slot : ∀ b o, h.get? b = some o → H b = none → b ∈ fs → b ∉ ex → ∃ sl, h'.get? b = some { o with slots := sl }
  free : ∀ b o, h.get? b = some o → H b = none → b ∉ ex → H' b = none
  there : ∀ b o, h.get? b = some o → b ∉ ex → ∃ o', h'.get? b = some o'
  tups : ∀ b xs, H b = some (.tup xs) → H' b = some (.tup xs)
  frzs : ∀ b o u, H b = some (.frz o u) → H' b = some (.frz o u)
  tbls : ∀ b ps, H b = some (.tbl ps) → ∃ more, H' b = some (.tbl (ps ++ more))
section
variable {fs fs' ex ex' : List Addr} {H H1 H2 : Hp} {h h1 h2 h' : Heap} {a x e : Addr} {o : HO}
theorem Un.any (u : Un fs ex H H1 h h1) {b : Addr} {ob : Obj} (q : h.get? b = some ob) (n : H b = none) (hx : b ∉ ex) : ∃ sl, h1.get? b = some { ob with slots := sl } := by
  by_cases hb : b ∈ fs
  · exact u.slot b ob q n hb hx
  · exact ⟨ob.slots, u.keep b ob q n hb hx⟩
theorem Un.trans (a : Un fs ex H H1 h h1) (b : Un fs ex H1 H2 h1 h2) : Un fs ex H H2 h h2 where
  keep := fun c ob q n hc hx => b.keep c ob (a.keep c ob q n hc hx) (a.free c ob q n hx) hc hx
  slot := fun c ob q n hc hx => by
    obtain ⟨sl, e1⟩ := a.slot c ob q n hc hx
    obtain ⟨sl', e2⟩ := b.slot c _ e1 (a.free c ob q n hx) hc hx
    exact ⟨sl', e2⟩
  free := fun c ob q n hx => by
    obtain ⟨o', e1⟩ := a.there c ob q hx
    exact b.free c o' e1 (a.free c ob q n hx) hx
  there := fun c ob q hx => by
    obtain ⟨o', e1⟩ := a.there c ob q hx
    exact b.there c o' e1 hx
  tups := fun c xs q => b.tups c xs (a.tups c xs q)
  frzs := fun c ob xs q => b.frzs c ob xs (a.frzs c ob xs q)
  tbls := fun c ps q => by
    obtain ⟨m1, e1⟩ := a.tbls c ps q
    obtain ⟨m2, e2⟩ := b.tbls c _ e1
    exact ⟨m1 ++ m2, by rw [e2, Array.append_assoc]⟩
theorem Un.kept (k : ∀ b u, h.get? b = some u → h'.get? b = some u) : Un fs ex H H h h' :=
  ⟨fun b ob q _ _ _ => k b ob q, fun b ob q _ _ _ => ⟨ob.slots, k b ob q⟩, fun _ _ _ n _ => n, fun b ob q _ => ⟨ob, k b ob q⟩, fun _ _ q => q, fun _ _ _ q => q, fun _ ps q => ⟨#[], by rw [q]; simp⟩⟩
theorem Un.refl : Un fs ex H H h h := Un.kept fun _ _ q => q
theorem Un.laid (k : ∀ b u, h.get? b = some u → h'.get? b = some u) (hp : h.objs.size ≤ a) (hn : H a = none) : Un fs ex H (upd H a o) h h' where
  keep := fun b u q _ _ _ => k b u q
  slot := fun b u q _ _ _ => ⟨u.slots, k b u q⟩
  free := fun b u q n _ => by rw [upd_ne (Nat.ne_of_lt (Nat.lt_of_lt_of_le (Heap.lt_size q) hp))]; exact n
  there := fun b u q _ => ⟨u, k b u q⟩
  tups := fun b xs q => by rw [upd_ne (ne_of_none q hn)]; exact q
  frzs := fun b u xs q => by rw [upd_ne (ne_of_none q hn)]; exact q
  tbls := fun b ps q => ⟨#[], by rw [upd_ne (ne_of_none q hn), q]; simp⟩
theorem Un.write (mu : Mut (H x)) (he : e = x ∨ H e = some (.own x)) (k : ∀ b u, b ≠ e → h.get? b = some u → h'.get? b = some u) (heo : ∃ u, h'.get? e = some u) : Un fs ex H (upd H x o) h h' := by
  have hx : ∀ b, H b = none → b ≠ x := fun b n z => by subst z; rw [n] at mu; exact mu
  have hb : ∀ b, H b = none → b ≠ e := fun b n z => by
    subst z
    rcases he with r | r
    · exact hx b n r
    · rw [n] at r; cases r
  have hm : ∀ b u, H b = some u → ¬ Mut (some u) → b ≠ x := fun b u q nm z => by subst z; rw [q] at mu; exact nm mu
  refine ⟨fun b u q n _ _ => k b u (hb b n) q, fun b u q n _ _ => ⟨u.slots, k b u (hb b n) q⟩, fun b u q n _ => by rw [upd_ne (hx b n)]; exact n, fun b u q _ => ?_,
    fun b xs q => by rw [upd_ne (hm b _ q fun z => z)]; exact q, fun b u xs q => by rw [upd_ne (hm b _ q fun z => z)]; exact q, fun b ps q => ⟨#[], by rw [upd_ne (hm b _ q fun z => z), q]; simp⟩⟩
  by_cases hbe : b = e
  · subst hbe; exact heo
  · exact ⟨u, k b u hbe q⟩
theorem Un.mono (u : Un fs ex H H1 h h1) (hs : ∀ b ∈ fs, b ∈ fs') (hx : ∀ b ∈ ex, b ∈ ex') : Un fs' ex' H H1 h h1 :=
  ⟨fun b ob q n hb he => u.keep b ob q n (fun z => hb (hs b z)) fun z => he (hx b z), fun _ _ q n _ he => u.any q n fun z => he (hx _ z), fun b ob q n he => u.free b ob q n fun z => he (hx b z), fun b ob q he => u.there b ob q fun z => he (hx b z), u.tups, u.frzs, u.tbls⟩
end

/-! ### the heap without what is tracked -/
def trk (h : Heap) (H : Hp) : List Addr := (List.range h.objs.size).filter fun a => (H a).isSome
def hidT (h : Heap) (H : Hp) : Heap := PySem.W.hideAll h (trk h H)
theorem hidT_size (h : Heap) (H : Hp) : (hidT h H).objs.size = h.objs.size := PySem.W.hideAll_size _ _
theorem hidT_get {h : Heap} {H : Hp} {b : Addr} {o : Obj} (e : h.get? b = some o) (n : H b = none) : (hidT h H).get? b = some o :=
  PySem.W.hideAll_get _ e fun hm => by
    have q : (H b).isSome = true := (List.mem_filter.mp hm).2
    rw [n] at q; simp at q
theorem of_hidT {h : Heap} {H : Hp} {b : Addr} {o : Obj} (e : (hidT h H).get? b = some o) : h.get? b = some o ∧ H b = none := by
  have e' : h.get? b = some o := PySem.W.of_hideAll (trk h H) e
  refine ⟨e', ?_⟩
  cases q : H b with
  | none => rfl
  | some x =>
    have hm : b ∈ trk h H := List.mem_filter.mpr ⟨List.mem_range.mpr (Heap.lt_size e'), by simp [q]⟩
    have z : (hidT h H).get? b = none := PySem.W.hideAll_none (trk h H) hm
    rw [z] at e; cases e

/-! ### OpenK's ledger, filled with every new object but one -/
def allNews (g h : Heap) (L : Addr) : List (Addr × Obj) := (List.range h.objs.size).filterMap fun a => if a = L ∨ (g.get? a).isSome = true then none else (h.get? a).map fun o => (a, o)
def rest (g h : Heap) (L d : Addr) : List (Addr × Obj) := (allNews g h L).filter fun p => decide (p.1 ≠ d)
end L2

namespace L2
open PySem PySem.Spec PyProof.Rows

/-- the module's facts, over the base: the heap at the law's entry without what is tracked there -/
structure Mod (K : PySem.W.Frag) (mg : Str → Option Value) (base : Heap) : Prop where
  kin : K.In base
  glob : base.Ns mainGlobals mg
  blt : ∃ mb, base.Ns builtinsNs mb ∧ ∀ x : Str, x ≠ "__name__" → mb x = bootBuiltins x
  nolimit : base.NoLimit

/-- the context: a def's body (or a comprehension's block) running. base: fixed through the whole law; s₀, H₀: the entry; outer: the frames whose slots others may change (a def's callers); stack: all frames that run;
   ex: iterators that were made ahead of the entry and are walked here (a comprehension's); fn: the names whose cells were made at the entry (a def: all; a comprehension's block: its own); calm: not within an except suite; pn: pins that every state bears; xe: what is wanted of an exception that leaves the code -/
structure Cx where
  prog : Program
  w : World
  K : PySem.W.Frag
  mg : Str → Option Value
  base : Heap
  A : Around
  N : List Str
  s₀ : Shared
  H₀ : Hp
  env : Env
  outer : List Env
  stack : List Env
  ex : List Addr
  fn : Str → Bool
  calm : Bool
  pn : List (Addr × Obj)
  xe : Value → Shared → Prop
/-- the callers' frames -/
def frs (l : List Env) : List Addr := l.filterMap (·.frame)
abbrev Cx.fs (X : Cx) : List Addr := frs X.outer

def Vis (sc : Scope) (x : Str) : Prop := sc.names.lookup x = some .local ∨ sc.names.lookup x = some .cell ∨ sc.names.lookup x = some .free
def Loc (sc : Scope) (x : Str) : Prop := sc.names.lookup x = some .local ∨ sc.names.lookup x = some .cell
def Look (env : Env) (h : Heap) (m : Str → Option Value) (x : Str) (u : Value) : Prop :=
  (env.kindOf x = some .local ∧ m x = some u) ∨ ((env.kindOf x = some .cell ∨ env.kindOf x = some .free) ∧ ∃ c, env.cells.lookup x = some c ∧ h.IsCell c (some u))

structure Cx.Ok (X : Cx) : Prop where
  mod : Mod X.K X.mg X.base
  kind : X.env.scope.kind = .function
  glob : X.env.globals = mainGlobals
  blt : X.env.builtins = builtinsNs
  above : X.s₀.heap.objs.size ≤ X.env.locals
  inj : ∀ x y c, X.env.cells.lookup x = some c → X.env.cells.lookup y = some c → x = y
  has : ∀ x, (X.env.kindOf x = some .cell ∨ X.env.kindOf x = some .free) → ∃ c, X.env.cells.lookup x = some c
  cab : ∀ x c, X.fn x = true → X.env.cells.lookup x = some c → X.s₀.heap.objs.size ≤ c
  hd : X.calm = true → X.A.handled = none
  frames : X.A.frames = some X.stack
  stk : X.stack = X.outer ∨ (X.stack = X.env :: X.outer ∧ X.env.frame = some X.env.locals)
  exf : ∀ b ∈ X.ex, b ≠ X.env.locals ∧ ∀ x c, X.env.cells.lookup x = some c → c ≠ b
  bs : ∀ b o, X.base.get? b = some o → X.s₀.heap.get? b = some o ∧ X.H₀ b = none
  bsz : X.base.objs.size ≤ X.s₀.heap.objs.size
  noex : ∀ b o, X.base.get? b = some o → b ∉ X.ex
  exfs : ∀ b ∈ X.ex, b ∉ X.fs
  funs : X.s₀.heap.FunFrames X.base X.outer
  frf : ∀ b ∈ X.fs, X.H₀ b = none

structure Inv (X : Cx) (pins : List (Addr × Obj)) (σ : List (Option V)) (H : Hp) (s : Shared) : Prop where
  ok : X.Ok
  os : s.os = X.s₀.os
  bare : AllBare s.gens
  base : Un X.fs X.ex X.H₀ H X.s₀.heap s.heap
  loc : ∃ m, s.heap.Ns X.env.locals m ∧ ∀ (i : Nat) (x : Str) (v : V), X.N[i]? = some x → σ[i]? = some (some v) → Vis X.env.scope x → ∃ u, RelV v u ∧ Look X.env s.heap m x u
  cell : ∀ x c, X.env.cells.lookup x = some c → ∃ v, s.heap.IsCell c v
  free : H X.env.locals = none
  freeC : ∀ x c, X.env.cells.lookup x = some c → H c = none
  pin : ∀ p ∈ X.pn ++ pins, s.heap.get? p.1 = some p.2 ∧ H p.1 = none ∧ p.1 ≠ X.env.locals ∧ p.1 ∉ X.fs ∧ ∀ v, p.2.data ≠ .cell v
  hok : HOk X.prog X.w H s.heap
  len : σ.length = X.N.length

section
variable {X : Cx} {pins : List (Addr × Obj)} {σ : List (Option V)} {H H' : Hp} {s : Shared} {h' : Heap}

theorem Cx.Ok.nofr (ok : X.Ok) {b : Addr} {o : Obj} (e : X.base.get? b = some o) : b ∉ X.fs := fun hb => by
  have := (ok.funs.mem hb).1
  rw [e] at this; cases this
theorem Inv.bs (I : Inv X pins σ H s) : ∀ b o, X.base.get? b = some o → s.heap.get? b = some o ∧ H b = none := fun b o e =>
  ⟨I.base.keep b o (I.ok.bs b o e).1 (I.ok.bs b o e).2 (I.ok.nofr e) (I.ok.noex b o e), I.base.free b o (I.ok.bs b o e).1 (I.ok.bs b o e).2 (I.ok.noex b o e)⟩
theorem Inv.bk (I : Inv X pins σ H s) : ∀ b o, X.base.get? b = some o → s.heap.get? b = some o := fun b o e => (I.bs b o e).1
theorem Inv.mod (I : Inv X pins σ H s) : Mod X.K X.mg X.base := I.ok.mod
theorem Inv.kIn (I : Inv X pins σ H s) : X.K.In s.heap := I.ok.mod.kin.keeps I.bk
theorem Inv.nolimit (I : Inv X pins σ H s) : s.heap.NoLimit := I.ok.mod.nolimit.keeps I.bk
/-- the frame over the base: for OpenK's rules (K.In X.base is I.mod.kin) -/
theorem Inv.fr (I : Inv X pins σ H s) : ∃ m, Fr X.base X.env.locals s.heap m :=
  let ⟨m, hn, _⟩ := I.loc
  ⟨m, hn, I.bk, Nat.le_trans I.ok.bsz I.ok.above⟩
theorem Inv.lt (I : Inv X pins σ H s) : X.env.locals < s.heap.objs.size := let ⟨_, hn, _⟩ := I.loc; hn.lt
theorem Inv.sz (I : Inv X pins σ H s) : X.s₀.heap.objs.size ≤ s.heap.objs.size := Nat.le_trans I.ok.above (Nat.le_of_lt I.lt)
theorem Inv.nofs (I : Inv X pins σ H s) {a : Addr} (h : s.heap.objs.size ≤ a) : a ∉ X.fs := fun hb => by
  obtain ⟨_, o, ho, _⟩ := I.ok.funs.mem hb
  exact absurd (Nat.lt_of_lt_of_le (Heap.lt_size ho) (Nat.le_trans I.sz h)) (Nat.lt_irrefl _)
theorem Inv.cne (I : Inv X pins σ H s) : ∀ x c, X.env.cells.lookup x = some c → c ≠ X.env.locals := fun x c e z => by
  obtain ⟨v, o, ho, hd⟩ := I.cell x c e
  obtain ⟨m, ⟨o', es, ep, ho', hd', _⟩, _⟩ := I.loc
  rw [z, ho'] at ho; cases ho; rw [hd'] at hd; cases hd
theorem Inv.funs (I : Inv X pins σ H s) : s.heap.FunFrames X.base X.outer := by
  have all : ∀ (l : List Env), (∀ b ∈ frs l, b ∈ X.fs) → X.s₀.heap.FunFrames X.base l → s.heap.FunFrames X.base l := by
    intro l
    induction l with
    | nil => intro _ _; trivial
    | cons env r ih =>
      intro hs hl
      obtain ⟨hk, ⟨L, o, hf, hn, ho, hd⟩, hr⟩ := hl
      have hL : L ∈ X.fs := hs L (by unfold frs; rw [List.filterMap_cons, hf]; exact List.mem_cons_self)
      obtain ⟨sl, e⟩ := I.base.slot L o ho (I.ok.frf L hL) hL fun z => I.ok.exfs L z hL
      exact ⟨hk, ⟨L, _, hf, hn, e, hd⟩, ih (fun b hb => hs b (by unfold frs; rw [List.filterMap_cons, hf]; exact List.mem_cons_of_mem _ hb)) hr⟩
  exact all X.outer (fun _ hb => hb) I.ok.funs

/-- the frames that run, for a call -/
theorem Inv.stack (I : Inv X pins σ H s) : s.heap.FunFrames X.base X.stack := by
  rcases I.ok.stk with e | ⟨e, hf⟩
  · rw [e]; exact I.funs
  · rw [e]
    obtain ⟨m, hn, _⟩ := I.loc
    refine .cons (by rw [I.ok.kind]; decide) hf hn ?_ I.funs
    exact Heap.get?_none_of_le (Nat.le_trans I.ok.bsz I.ok.above)
theorem Inv.stkSub (I : Inv X pins σ H s) : ∀ b ∈ frs X.stack, b ∈ X.env.locals :: X.fs := fun b hb => by
  rcases I.ok.stk with e | ⟨e, hf⟩
  · rw [e] at hb; exact List.mem_cons_of_mem _ hb
  · rw [e] at hb
    unfold frs at hb
    rw [List.filterMap_cons, hf] at hb
    exact hb
theorem Inv.stkFree (I : Inv X pins σ H s) : ∀ b ∈ frs X.stack, H b = none := fun b hb => by
  rcases List.mem_cons.mp (I.stkSub b hb) with e | hb
  · rw [e]; exact I.free
  · obtain ⟨_, o, ho, _⟩ := I.ok.funs.mem hb
    exact I.base.free b o ho (I.ok.frf b hb) fun z => I.ok.exfs b z hb

/-- THE STEP: the untracked objects but the frame and the records at ch are kept (the callers' frames up to slots), the frame's map is kept, the new abstract heap is held -/
theorem Inv.step {g' : Array GenState} {t' : Nat} {d' : Drawn} {ch : List Addr} (I : Inv X pins σ H s)
    (hch : ∀ b ∈ ch, (b ∈ X.ex ∨ X.s₀.heap.objs.size ≤ b) ∧ b ≠ X.env.locals ∧ (∀ x c, X.env.cells.lookup x = some c → c ≠ b) ∧ ∀ p ∈ X.pn ++ pins, p.1 ≠ b)
    (keep : ∀ b o, b ≠ X.env.locals → b ∉ X.fs → b ∉ ch → s.heap.get? b = some o → H b = none → h'.get? b = some o)
    (slot : ∀ b o, b ≠ X.env.locals → b ∈ X.fs → b ∉ ch → s.heap.get? b = some o → H b = none → ∃ sl, h'.get? b = some { o with slots := sl }) (free : ∀ b o, b ∉ ch → s.heap.get? b = some o → H b = none → H' b = none)
    (there : ∀ b o, b ∉ ch → s.heap.get? b = some o → ∃ o', h'.get? b = some o')
    (tups : ∀ b xs, H b = some (.tup xs) → H' b = some (.tup xs)) (frzs : ∀ b o u, H b = some (.frz o u) → H' b = some (.frz o u)) (tbls : ∀ b ps, H b = some (.tbl ps) → ∃ more, H' b = some (.tbl (ps ++ more)))
    (ns : ∀ m, s.heap.Ns X.env.locals m → h'.Ns X.env.locals m) (hok : HOk X.prog X.w H' h') (hg : AllBare g') :
    Inv X pins σ H' { s with heap := h', gens := g', drawn := d', toks := t' } := by
  have neL : ∀ b o, X.s₀.heap.get? b = some o → b ≠ X.env.locals := fun b o e => Nat.ne_of_lt (Nat.lt_of_lt_of_le (Heap.lt_size e) I.ok.above)
  have neC : ∀ b o, X.s₀.heap.get? b = some o → b ∉ X.ex → b ∉ ch := fun b o e hx hb => by
    rcases (hch b hb).1 with z | z
    · exact hx z
    · exact absurd (Nat.lt_of_lt_of_le (Heap.lt_size e) z) (Nat.lt_irrefl _)
  have cellK : ∀ x c, X.env.cells.lookup x = some c → ∀ v, s.heap.IsCell c v → h'.IsCell c v := fun x c e v ⟨o, ho, hd⟩ => by
    have nch : c ∉ ch := fun z => (hch c z).2.2.1 x c e rfl
    by_cases hc : c ∈ X.fs
    · obtain ⟨sl, q⟩ := slot c o (I.cne x c e) hc nch ho (I.freeC x c e)
      exact ⟨_, q, hd⟩
    · exact ⟨o, keep c o (I.cne x c e) hc nch ho (I.freeC x c e), hd⟩
  refine ⟨I.ok, I.os, hg, ⟨fun b o e n hb hx => ?_, fun b o e n hb hx => ?_, fun b o e n hx => ?_, fun b o e hx => ?_, fun b xs e => tups b xs (I.base.tups b xs e), fun b o xs e => frzs b o xs (I.base.frzs b o xs e), fun b ps e => ?_⟩, ?_, fun x c e => ?_, ?_, fun x c e => ?_, fun p hp => ?_, hok, I.len⟩
  · exact keep b o (neL b o e) hb (neC b o e hx) (I.base.keep b o e n hb hx) (I.base.free b o e n hx)
  · obtain ⟨sl, e1⟩ := I.base.slot b o e n hb hx
    obtain ⟨sl', e2⟩ := slot b _ (neL b o e) hb (neC b o e hx) e1 (I.base.free b o e n hx)
    exact ⟨sl', e2⟩
  · obtain ⟨o', e1⟩ := I.base.there b o e hx
    exact free b o' (neC b o e hx) e1 (I.base.free b o e n hx)
  · obtain ⟨o', e1⟩ := I.base.there b o e hx
    exact there b o' (neC b o e hx) e1
  · obtain ⟨m1, e1⟩ := I.base.tbls b ps e
    obtain ⟨m2, e2⟩ := tbls b _ e1
    exact ⟨m1 ++ m2, by rw [e2, Array.append_assoc]⟩
  · obtain ⟨m, hn, hl⟩ := I.loc
    refine ⟨m, ns m hn, fun i x v e1 e2 e3 => ?_⟩
    obtain ⟨u, r, l⟩ := hl i x v e1 e2 e3
    refine ⟨u, r, ?_⟩
    rcases l with l | ⟨k, c, e, z⟩
    · exact .inl l
    · exact .inr ⟨k, c, e, cellK x c e _ z⟩
  · obtain ⟨v, z⟩ := I.cell x c e
    exact ⟨v, cellK x c e v z⟩
  · obtain ⟨m, ⟨o, _, _, ho, _⟩, _⟩ := I.loc
    exact free _ o (fun z => (hch _ z).2.1 rfl) ho I.free
  · obtain ⟨v, o, ho, hd⟩ := I.cell x c e
    exact free c o (fun z => (hch c z).2.2.1 x c e rfl) ho (I.freeC x c e)
  · obtain ⟨e, n, ne, nf, d⟩ := I.pin p hp
    have nch : p.1 ∉ ch := fun z => (hch p.1 z).2.2.2 p hp rfl
    exact ⟨keep p.1 p.2 ne nf nch e n, free p.1 p.2 nch e n, ne, nf, d⟩
/-- .. where the frame's own object is kept too -/
theorem Inv.un {t' : Nat} (I : Inv X pins σ H s) (u : Un X.fs [] H H' s.heap h') (hok : HOk X.prog X.w H' h') : Inv X pins σ H' { s with heap := h', toks := t' } := by
  obtain ⟨m, ⟨o, es, ep, ho, r⟩, _⟩ := id I.loc
  obtain ⟨sl, hL⟩ := u.any ho I.free (by simp)
  exact I.step (g' := s.gens) (d' := s.drawn) (ch := []) (fun _ z => nomatch z) (fun b o _ hb _ e n => u.keep b o e n hb (by simp)) (fun b o _ hb _ e n => u.slot b o e n hb (by simp)) (fun b o _ e n => u.free b o e n (by simp)) (fun b o _ e => u.there b o e (by simp)) u.tups u.frzs u.tbls (fun m' hm => by
    obtain ⟨o', es', ep', ho', r'⟩ := hm
    rw [ho] at ho'; cases ho'
    exact ⟨_, es', ep', hL, r'⟩) hok I.bare
/-- behind a call (or a comprehension's block): the slots of this frame may have changed too, the records at ch may have turned -/
theorem Inv.call {g' : Array GenState} {t' : Nat} {d' : Drawn} {ch : List Addr} (I : Inv X pins σ H s) (u : Un (frs X.stack) ch H H' s.heap h') (hok : HOk X.prog X.w H' h') (hg : AllBare g')
    (hch : ∀ b ∈ ch, (b ∈ X.ex ∨ X.s₀.heap.objs.size ≤ b) ∧ b ≠ X.env.locals ∧ (∀ x c, X.env.cells.lookup x = some c → c ≠ b) ∧ ∀ p ∈ X.pn ++ pins, p.1 ≠ b) :
    Inv X pins σ H' { s with heap := h', gens := g', drawn := d', toks := t' } := by
  obtain ⟨m, ⟨o, es, ep, ho, r⟩, _⟩ := id I.loc
  obtain ⟨sl, hL⟩ := u.any ho I.free fun z => (hch _ z).2.1 rfl
  exact I.step (ch := ch) hch (fun b o hL hb hc e n => u.keep b o e n (fun z => (List.mem_cons.mp (I.stkSub b z)).elim hL hb) hc) (fun b o _ _ hc e n => u.any e n hc) (fun b o hc e n => u.free b o e n hc) (fun b o hc e => u.there b o e hc) u.tups u.frzs u.tbls (fun m' hm => by
    obtain ⟨o', es', ep', ho', r'⟩ := hm
    rw [ho] at ho'; cases ho'
    exact ⟨_, es', ep', hL, r'⟩) hok hg
/-- an untracked record of ours (an iterator) has turned -/
theorem Inv.turned {t' : Nat} {it : Addr} (I : Inv X pins σ H s) (k : ∀ b o, b ≠ it → s.heap.get? b = some o → h'.get? b = some o) (hn : H it = none) (hL : it ≠ X.env.locals)
    (h1 : it ∈ X.ex ∨ X.s₀.heap.objs.size ≤ it) (h2 : ∀ x c, X.env.cells.lookup x = some c → c ≠ it) (h3 : ∀ p ∈ X.pn ++ pins, p.1 ≠ it) : Inv X pins σ H { s with heap := h', toks := t' } := by
  have nit : ∀ b u, H b = some u → b ≠ it := fun b u e z => by rw [z, hn] at e; cases e
  refine I.step (g' := s.gens) (d' := s.drawn) (ch := [it]) (fun b hb => ?_) (fun b o _ _ hc e _ => k b o (fun z => hc (by simp [z])) e) (fun b o _ _ hc e _ => ⟨o.slots, k b o (fun z => hc (by simp [z])) e⟩) (fun _ _ _ _ n => n)
    (fun b o hc e => ⟨o, k b o (fun z => hc (by simp [z])) e⟩) (fun _ _ e => e) (fun _ _ _ e => e) (fun b ps e => ⟨#[], by rw [e]; simp⟩) (fun m hm => ?_) (fun b u e => ?_) I.bare
  · have e : b = it := by simpa using hb
    subst e
    exact ⟨h1, hL, h2, h3⟩
  · obtain ⟨o, es, ep, ho, r⟩ := hm
    exact ⟨o, es, ep, k _ o (Ne.symm hL) ho, r⟩
  · refine (I.hok b u e).stay (fun c v hc q => k c v ?_ q) (fun _ q => q) fun _ _ q => q
    rcases hc with z | z
    · rw [z]; exact nit b u e
    · exact nit c _ z
theorem Inv.tok (I : Inv X pins σ H s) (t : Nat) : Inv X pins σ H { s with toks := t } := I.un (h' := s.heap) (t' := t) Un.refl I.hok
/-- all objects kept -/
theorem Inv.kept {t' : Nat} (I : Inv X pins σ H s) (k : ∀ b u, s.heap.get? b = some u → h'.get? b = some u) : Inv X pins σ H { s with heap := h', toks := t' } := I.un (Un.kept k) (I.hok.kept k)
/-- a new object laid and tracked -/
theorem Inv.laid {a : Addr} {o : HO} {t' : Nat} (I : Inv X pins σ H s) (k : ∀ b u, s.heap.get? b = some u → h'.get? b = some u) (hp : s.heap.objs.size ≤ a) (new : ObjOk X.prog X.w (upd H a o) h' a o) :
    Inv X pins σ (upd H a o) { s with heap := h', toks := t' } := I.un (Un.laid k hp (I.hok.fresh hp)) (I.hok.laid k hp new)
/-- an object written -/
theorem Inv.write {x e : Addr} {o : HO} {t' : Nat} (I : Inv X pins σ H s) (mu : Mut (H x)) (he : e = x ∨ H e = some (.own x)) (k : ∀ b u, b ≠ e → s.heap.get? b = some u → h'.get? b = some u) (heo : ∃ u, h'.get? e = some u)
    (new : ObjOk X.prog X.w (upd H x o) h' x o) : Inv X pins σ (upd H x o) { s with heap := h', toks := t' } := I.un (Un.write mu he k heo) (I.hok.write mu he k heo new)
theorem Inv.pins_of {pins' : List (Addr × Obj)} (I : Inv X pins σ H s) (h : ∀ p ∈ pins', s.heap.get? p.1 = some p.2 ∧ H p.1 = none ∧ p.1 ≠ X.env.locals ∧ p.1 ∉ X.fs ∧ ∀ v, p.2.data ≠ .cell v) : Inv X pins' σ H s :=
  ⟨I.ok, I.os, I.bare, I.base, I.loc, I.cell, I.free, I.freeC, fun p hp => (List.mem_append.mp hp).elim (fun z => I.pin p (List.mem_append_left _ z)) (h p), I.hok, I.len⟩

theorem nodup_ix {N : List Str} (hN : N.Nodup) {i j : Nat} {x : Str} (a : N[i]? = some x) (b : N[j]? = some x) : i = j := by
  obtain ⟨h1, e1⟩ := List.getElem?_eq_some_iff.mp a
  obtain ⟨h2, e2⟩ := List.getElem?_eq_some_iff.mp b
  exact (List.getElem_inj hN).mp (e1.trans e2.symm)

/-- a name is stored; what changed -/
theorem store_ok2 {M : Model} {A : Around} {E : Value → Shared → Prop} {i : Nat} {x : Str} {v : V} {u : Value} {Q : Unit → Shared → Prop} (I : Inv X pins σ H s) (hN : X.N.Nodup) (hi : X.N[i]? = some x) (hx : Loc X.env.scope x) (r : RelV v u)
    (h : ∀ s', Inv X pins (σ.set i (some v)) H s' → (∃ a, Heap.SameBut a s.heap s'.heap ∧ (a = X.env.locals ∨ X.env.cells.lookup x = some a)) → Q () s') (hf : X.fn x = true ∨ X.env.scope.names.lookup x = some .local := by first | exact .inl rfl | exact .inr rfl | assumption) : wpAny M A (storeName X.env x u) Q E s := by
  obtain ⟨m, hn, hl⟩ := id I.loc
  have hcls : (X.env.scope.kind == .class || (X.env.scope.kind == .module && X.env.locals != X.env.globals)) = false := by rw [I.ok.kind]; rfl
  have hiσ : i < σ.length := by rw [I.len]; exact (List.getElem?_eq_some_iff.mp hi).1
  have cne := I.cne
  have tracked : ∀ {a : Addr} {h' : Heap}, (∃ o, s.heap.get? a = some o ∧ H a = none) → Heap.SameBut a s.heap h' → HOk X.prog X.w H h' := fun {a h'} ha hs b ob e => by
    obtain ⟨_, _, hfree⟩ := ha
    refine (I.hok b ob e).stay (fun c w' hc q => (hs.2 c ?_).trans q) (fun _ q => q) fun _ _ q => q
    rintro rfl
    rcases hc with rfl | hc
    · rw [hfree] at e; cases e
    · rw [hfree] at hc; cases hc
  rcases hx with hk | hk
  · refine wpAny_storeName_local hk hn (fun h' hn' hs => ?_) hcls
    obtain ⟨oL, _, _, hoL, _⟩ := id hn
    refine h _ ⟨I.ok, I.os, I.bare, ⟨fun b o e n hb hx => ?_, fun b o e n hb hx => ?_, I.base.free, fun b o e hx => ?_, I.base.tups, I.base.frzs, I.base.tbls⟩, ⟨_, hn', fun j y v' e1 e2 e3 => ?_⟩, fun y c e => ?_, I.free, I.freeC, fun p hp => ?_, tracked ⟨oL, hoL, I.free⟩ hs, by simpa using I.len⟩ ⟨_, hs, .inl rfl⟩
    · exact (hs.2 b (Nat.ne_of_lt (Nat.lt_of_lt_of_le (Heap.lt_size e) I.ok.above))).trans (I.base.keep b o e n hb hx)
    · obtain ⟨sl, e1⟩ := I.base.slot b o e n hb hx
      exact ⟨sl, (hs.2 b (Nat.ne_of_lt (Nat.lt_of_lt_of_le (Heap.lt_size e) I.ok.above))).trans e1⟩
    · obtain ⟨o', e1⟩ := I.base.there b o e hx
      exact ⟨o', (hs.2 b (Nat.ne_of_lt (Nat.lt_of_lt_of_le (Heap.lt_size e) I.ok.above))).trans e1⟩
    · by_cases hj : j = i
      · subst hj
        rw [hi] at e1; cases e1
        rw [List.getElem?_set_self hiσ] at e2
        cases e2
        exact ⟨u, r, .inl ⟨hk, by simp⟩⟩
      · rw [List.getElem?_set_ne (Ne.symm hj)] at e2
        obtain ⟨u', r', q⟩ := hl j y v' e1 e2 e3
        refine ⟨u', r', ?_⟩
        rcases q with ⟨k, e⟩ | ⟨k, c, e, z⟩
        · refine .inl ⟨k, ?_⟩
          have : y ≠ x := fun e => hj (nodup_ix hN e1 (e ▸ hi))
          simp [this, e]
        · exact .inr ⟨k, c, e, z.sameBut hs (cne y c e)⟩
    · obtain ⟨w', z⟩ := I.cell y c e
      exact ⟨w', z.sameBut hs (cne y c e)⟩
    · obtain ⟨e, n, ne, nf, d⟩ := I.pin p hp
      exact ⟨(hs.2 p.1 ne).trans e, n, ne, nf, d⟩
  · have hfn : X.fn x = true := by
      rcases hf with z | z
      · exact z
      · rw [z] at hk; cases hk
    obtain ⟨c, hc⟩ := I.ok.has x (.inl hk)
    obtain ⟨w', z⟩ := I.cell x c hc
    refine wpAny_storeName_cell I.ok.kind hk hc z (fun h' hc' hs => ?_)
    obtain ⟨oc, hoc, hocd⟩ := id z
    refine h { s with heap := h' } ⟨I.ok, I.os, I.bare, ⟨fun b o e n hb hx => ?_, fun b o e n hb hx => ?_, I.base.free, fun b o e hx => ?_, I.base.tups, I.base.frzs, I.base.tbls⟩, ⟨m, hn.sameBut hs (Ne.symm (cne x c hc)), fun j y v' e1 e2 e3 => ?_⟩, fun y c' e => ?_, I.free, I.freeC, fun p hp => ?_, tracked ⟨oc, hoc, I.freeC x c hc⟩ hs, by simpa using I.len⟩ ⟨c, hs, .inr hc⟩
    · exact (hs.2 b (Nat.ne_of_lt (Nat.lt_of_lt_of_le (Heap.lt_size e) (I.ok.cab x c hfn hc)))).trans (I.base.keep b o e n hb hx)
    · obtain ⟨sl, e1⟩ := I.base.slot b o e n hb hx
      exact ⟨sl, (hs.2 b (Nat.ne_of_lt (Nat.lt_of_lt_of_le (Heap.lt_size e) (I.ok.cab x c hfn hc)))).trans e1⟩
    · obtain ⟨o', e1⟩ := I.base.there b o e hx
      exact ⟨o', (hs.2 b (Nat.ne_of_lt (Nat.lt_of_lt_of_le (Heap.lt_size e) (I.ok.cab x c hfn hc)))).trans e1⟩
    · by_cases hj : j = i
      · subst hj
        rw [hi] at e1; cases e1
        rw [List.getElem?_set_self hiσ] at e2
        cases e2
        exact ⟨u, r, .inr ⟨.inl hk, c, hc, hc'⟩⟩
      · rw [List.getElem?_set_ne (Ne.symm hj)] at e2
        obtain ⟨u', r', q⟩ := hl j y v' e1 e2 e3
        refine ⟨u', r', ?_⟩
        rcases q with q | ⟨k, c', e, z'⟩
        · exact .inl q
        · refine .inr ⟨k, c', e, z'.sameBut hs ?_⟩
          rintro rfl
          exact hj (nodup_ix hN e1 (I.ok.inj _ _ _ e hc ▸ hi))
    · by_cases hcc : c' = c
      · subst hcc; exact ⟨_, hc'⟩
      · obtain ⟨w2, z2⟩ := I.cell y c' e
        exact ⟨w2, z2.sameBut hs hcc⟩
    · obtain ⟨e, n, ne, nf, d⟩ := I.pin p hp
      refine ⟨(hs.2 p.1 ?_).trans e, n, ne, nf, d⟩
      intro q
      rw [q, hoc] at e
      have q' : oc = p.2 := Option.some.inj e
      exact d w' (by rw [← q']; exact hocd)
theorem store_ok {M : Model} {A : Around} {E : Value → Shared → Prop} {i : Nat} {x : Str} {v : V} {u : Value} {Q : Unit → Shared → Prop} (I : Inv X pins σ H s) (hN : X.N.Nodup) (hi : X.N[i]? = some x) (hx : Loc X.env.scope x) (r : RelV v u)
    (h : ∀ s', Inv X pins (σ.set i (some v)) H s' → Q () s') (hf : X.fn x = true ∨ X.env.scope.names.lookup x = some .local := by first | exact .inl rfl | exact .inr rfl | assumption) : wpAny M A (storeName X.env x u) Q E s :=
  store_ok2 I hN hi hx r (fun s' I' _ => h s' I') hf
/-- behind a call or a block, the state as it is -/
theorem Inv.call' {s' : Shared} {ch : List Addr} (I : Inv X pins σ H s) (ho : s'.os = s.os) (u : Un (frs X.stack) ch H H' s.heap s'.heap) (hok : HOk X.prog X.w H' s'.heap) (hg : AllBare s'.gens)
    (hch : ∀ b ∈ ch, (b ∈ X.ex ∨ X.s₀.heap.objs.size ≤ b) ∧ b ≠ X.env.locals ∧ (∀ x c, X.env.cells.lookup x = some c → c ≠ b) ∧ ∀ p ∈ X.pn ++ pins, p.1 ≠ b) : Inv X pins σ H' s' := by
  obtain ⟨h', g', d', t', o'⟩ := s'
  have e : o' = s.os := ho
  subst e
  exact I.call (g' := g') (t' := t') (d' := d') u hok hg hch
end

/-! ### the judgements -/
/-- an exception: its class, its own dict's address (where it has one), the abstract heap behind it -/
abbrev XK := Value → Option Addr → Hp → Prop
abbrev St := List (Option V)
abbrev VK := V → Hp → Prop
/-- an expression's reading; a test's; an argument list's -/
abbrev TE := St → Hp → VK → Prop
abbrev TT := St → Hp → (Bool → Hp → Prop) → Prop
abbrev TA := St → Hp → (List V → Hp → Prop) → Prop
/-- what is wanted behind a statement -/
structure Ends where
  nx : St → Hp → Prop
  rt : VK
  bk : St → Hp → Prop := fun _ _ => False
  ct : St → Hp → Prop := fun _ _ => False
abbrev TS := Ends → St → Hp → Prop

def EP (X : Cx) (pins : List (Addr × Obj)) (σ : St) (Q : VK) (u : Value) (s' : Shared) : Prop := ∃ v H', Inv X pins σ H' s' ∧ RelV v u ∧ Q v H'
def TP (X : Cx) (pins : List (Addr × Obj)) (σ : St) (Q : Bool → Hp → Prop) (b : Bool) (s' : Shared) : Prop := ∃ H', Inv X pins σ H' s' ∧ Q b H'
def AP (X : Cx) (pins : List (Addr × Obj)) (σ : St) (Q : List V → Hp → Prop) (us : List Value) (s' : Shared) : Prop := ∃ vs H', Inv X pins σ H' s' ∧ Vals vs us ∧ Q vs H'
def SP (X : Cx) (pins : List (Addr × Obj)) (D : Ends) (f : Flow) (s' : Shared) : Prop :=
  match f with
  | .next => ∃ σ' H', Inv X pins σ' H' s' ∧ D.nx σ' H'
  | .brk => ∃ σ' H', Inv X pins σ' H' s' ∧ D.bk σ' H'
  | .cont => ∃ σ' H', Inv X pins σ' H' s' ∧ D.ct σ' H'
  | .ret u => ∃ v σ' H', Inv X pins σ' H' s' ∧ RelV v u ∧ D.rt v H'

def PE (X : Cx) (e : Expr) (t : TE) : Prop :=
  ∀ (pins : List (Addr × Obj)) (s : Shared) (σ : St) (H : Hp) (Q : VK), Inv X pins σ H s → t σ H Q → wpAny (model X.prog X.w) X.A (eval e X.env) (EP X pins σ Q) X.xe s
def PT (X : Cx) (e : Expr) (t : TT) : Prop :=
  ∀ (pins : List (Addr × Obj)) (s : Shared) (σ : St) (H : Hp) (Q : Bool → Hp → Prop), Inv X pins σ H s → t σ H Q → wpAny (model X.prog X.w) X.A (isTrue e X.env (eval e X.env)) (TP X pins σ Q) X.xe s
/-- a test whatever its 'whole' is (and, or) -/
def PW (X : Cx) (e : Expr) (t : TT) : Prop :=
  ∀ (whole : Sem Value) (pins : List (Addr × Obj)) (s : Shared) (σ : St) (H : Hp) (Q : Bool → Hp → Prop), Inv X pins σ H s → t σ H Q → wpAny (model X.prog X.w) X.A (isTrue e X.env whole) (TP X pins σ Q) X.xe s
theorem PW.pt {X : Cx} {e : Expr} {t : TT} (h : PW X e t) : PT X e t := h _
/-- an argument list (no star), from the left -/
def PA (X : Cx) (es : List Expr) (t : TA) : Prop :=
  ∀ (pos : Pos) (pins : List (Addr × Obj)) (s : Shared) (σ : St) (H : Hp) (Q : List V → Hp → Prop), Inv X pins σ H s → t σ H Q → wpAny (model X.prog X.w) X.A (spliced (backTo pos (starEach es X.env))) (AP X pins σ Q) X.xe s
def PS (X : Cx) (st : Stmt) (t : TS) : Prop :=
  ∀ (pins : List (Addr × Obj)) (s : Shared) (σ : St) (H : Hp) (D : Ends), Inv X pins σ H s → t D σ H → wpAny (model X.prog X.w) X.A (exec st X.env) (SP X pins D) X.xe s
def PSs (X : Cx) (st : List Stmt) (t : TS) : Prop :=
  ∀ (pins : List (Addr × Obj)) (s : Shared) (σ : St) (H : Hp) (D : Ends), Inv X pins σ H s → t D σ H → wpAny (model X.prog X.w) X.A (execs st X.env) (SP X pins D) X.xe s
/-- weaken the end -/
theorem thn {α : Type} {t : Sem α} {Q Q' : α → Shared → Prop} {M : Model} {A : Around} {E : Value → Shared → Prop} {s : Shared} (h : wpAny M A t Q E s) (hQ : ∀ a s, Q a s → Q' a s) : wpAny M A t Q' E s := wpAny_mono h hQ fun _ _ x => x
end L2

namespace L2
open PySem PySem.Spec PyProof.Rows
section
variable {X : Cx}

/-! ### names and constants -/
def tVar (i : Nat) : TE := fun σ H Q => ∃ v, σ[i]? = some (some v) ∧ Q v H
def tC (v : V) : TE := fun _ H Q => Q v H
theorem pe_var {i : Nat} {x : Str} {pos : Pos} (hN : X.N[i]? = some x) (hv : Vis X.env.scope x) (hd : (x == ("__debug__" : Str)) = false := by decide) (hcd : (x == ("__classdict__" : Str)) = false := by decide) : PE X (.Name x pos) (tVar i) := by
  intro pins s σ H Q I h
  obtain ⟨v, e, h⟩ := h
  obtain ⟨m, hn, hl⟩ := I.loc
  obtain ⟨u, r, l⟩ := hl i x v hN e hv
  have fin : EP X pins σ Q u s := ⟨v, H, I, r, h⟩
  rcases l with ⟨hk, hm⟩ | ⟨hk, c, hc, hcell⟩
  · exact wpAny_Name (wpAny_loadName_local I.ok.kind hk hn hm fin) hd
  · rcases hk with hk | hk
    · exact wpAny_Name (wpAny_loadName_cell I.ok.kind hk hc hcell fin) hd
    · exact wpAny_Name (wpAny_loadName_free I.ok.kind hk hc hcell fin hcd) hd
theorem pe_int {i j pos} : PE X (.Constant (.int i) j pos) (tC (.int i)) := fun _ _ _ H _ I h => wpAny_Constant_int ⟨.int i, H, I.tok _, ⟨_, rfl⟩, h⟩
theorem pe_bl {b j pos} : PE X (.Constant (.bool b) j pos) (tC (.bl b)) := fun _ _ _ H _ I h => Constant_bool ⟨.bl b, H, I, rfl, h⟩
theorem pe_non {j pos} : PE X (.Constant .none j pos) (tC .non) := fun _ _ _ H _ I h => Constant_none ⟨.non, H, I, rfl, h⟩
theorem pe_str {x j pos} : PE X (.Constant (.str x) j pos) (tC (.str x)) := fun _ _ _ H _ I h => Calls.Constant_str ⟨.str x, H, I.tok _, ⟨_, rfl⟩, h⟩

/-- a global name of the def -/
def Gl (X : Cx) (x : Str) : Prop := X.env.kindOf x = some .globalImplicit
theorem ld_glob {E : Value → Shared → Prop} {pins : List (Addr × Obj)} {s : Shared} {σ : St} {H : Hp} {x : Str} {u : Value} {pos : Pos} {Q : Value → Shared → Prop} (I : Inv X pins σ H s) (hg : Gl X x) (hm : X.mg x = some u) (h : Q u s)
    (hd : (x == ("__debug__" : Str)) = false := by decide) : wpAny (model X.prog X.w) X.A (eval (.Name x pos) X.env) Q E s :=
  Calls.Name_function_global I.ok.kind hg (Calls.loadGlobal_global (by rw [I.ok.glob]; exact I.mod.glob.keeps I.bk) hm h) hd
theorem ld_blt {E : Value → Shared → Prop} {pins : List (Addr × Obj)} {s : Shared} {σ : St} {H : Hp} {x : Str} {u : Value} {pos : Pos} {Q : Value → Shared → Prop} (I : Inv X pins σ H s) (hg : Gl X x) (hm : X.mg x = none) (hv : bootBuiltins x = some u) (h : Q u s)
    (hn : x ≠ "__name__" := by decide) (hd : (x == ("__debug__" : Str)) = false := by decide) : wpAny (model X.prog X.w) X.A (eval (.Name x pos) X.env) Q E s := by
  obtain ⟨mb, h1, h2⟩ := I.mod.blt
  exact Calls.Name_function_global I.ok.kind hg (Calls.loadGlobal_builtin (by rw [I.ok.glob]; exact I.mod.glob.keeps I.bk) hm (by rw [I.ok.blt]; exact h1.keeps I.bk) ((h2 x hn).trans hv) h) hd
/-- a module's constant, a class, a function, as a value -/
theorem pe_glob {x : Str} {v : V} {u : Value} {pos : Pos} (hg : Gl X x) (hm : X.mg x = some u) (r : RelV v u) (hd : (x == ("__debug__" : Str)) = false := by decide) : PE X (.Name x pos) (tC v) :=
  fun _ _ _ H _ I h => ld_glob I hg hm ⟨v, H, I, r, h⟩ hd
theorem pe_bltn {x : Str} {v : V} {u : Value} {pos : Pos} (hg : Gl X x) (hm : X.mg x = none) (hv : bootBuiltins x = some u) (r : RelV v u) (hn : x ≠ "__name__" := by decide) (hd : (x == ("__debug__" : Str)) = false := by decide) : PE X (.Name x pos) (tC v) :=
  fun _ _ _ H _ I h => ld_blt I hg hm hv ⟨v, H, I, r, h⟩ hn hd

/-! ### arithmetic -/
/-- two ints -/
def t2I (ta tb : TE) (k : Int → Int → Hp → Prop) : St → Hp → Prop := fun σ H => ta σ H fun x H1 => tb σ H1 fun y H2 => ∃ i j, x = .int i ∧ y = .int j ∧ k i j H2
def tAdd (ta tb : TE) : TE := fun σ H Q => t2I ta tb (fun i j H2 => Q (.int (i + j)) H2) σ H
def tSub (ta tb : TE) : TE := fun σ H Q => t2I ta tb (fun i j H2 => Q (.int (i - j)) H2) σ H
/-- the left factor below 2^64 -/
def tMul (ta tb : TE) : TE := fun σ H Q => t2I ta tb (fun i j H2 => (-(2 ^ 64) < i ∧ i < 2 ^ 64) ∧ Q (.int (i * j)) H2) σ H
variable {a b : Expr} {ta tb : TE} {pos : Pos}
/-! ### comparisons -/
def PC (X : Cx) (op : CmpOp) (a b : Expr) (t : TE) : Prop :=
  ∀ (pins : List (Addr × Obj)) (s : Shared) (σ : St) (H : Hp) (Q : VK), Inv X pins σ H s → t σ H Q →
    wpAny (model X.prog X.w) X.A (eval a X.env) (fun v s₁ => wpAny (model X.prog X.w) X.A (eval b X.env) (fun u s₂ => wpAny (model X.prog X.w) X.A (compareOp op v u) (EP X pins σ Q) X.xe s₂) X.xe s₁) X.xe s
def tCmp (p : Int → Int → Bool) (ta tb : TE) : TE := fun σ H Q => t2I ta tb (fun i j H2 => Q (.bl (p i j)) H2) σ H
abbrev tLt : TE → TE → TE := tCmp fun i j => decide (i < j)
abbrev tLe : TE → TE → TE := tCmp fun i j => decide (i ≤ j)
abbrev tGt : TE → TE → TE := tCmp fun i j => decide (j < i)
abbrev tGe : TE → TE → TE := tCmp fun i j => decide (j ≤ i)
abbrev tEqI : TE → TE → TE := tCmp fun i j => decide (i = j)
abbrev tNeI : TE → TE → TE := tCmp fun i j => !decide (i = j)
/-- is None -/
def tIsN (ta : TE) : TE := fun σ H Q => ta σ H fun x H1 => Q (.bl (decide (x = .non))) H1
def tNotN (ta : TE) : TE := fun σ H Q => ta σ H fun x H1 => Q (.bl (!decide (x = .non))) H1
/-- a comparison as a value, as a test -/
def tB (t : TE) : TT := fun σ H Q => t σ H fun x H1 => ∃ c, x = .bl c ∧ Q c H1
/-- an expression whose value is a bool, as a test -/
theorem pt_val {e : Expr} {t : TE} (h : PE X e t) (he : ∀ whole, isTrue e X.env whole = (do let v ← whole; standAt e.pos; holding [v] (truthy v)) := by intro _; rfl) : PT X e (tB t) := by
  intro pins s σ H Q I hw
  refine isTrue_plain (thn (h pins s σ H _ I hw) fun v s1 ⟨x, H1, I1, r1, q1⟩ => ?_) (he _)
  obtain ⟨d, rfl, q⟩ := q1
  cases r1
  exact wpAny_truthy_bool ⟨H1, I1, q⟩

/-! ### and, or, not -/
variable {tA tB' : TT} {rest : List Expr}
def tAnd (t u : TT) : TT := fun σ H Q => t σ H fun c H1 => if c = true then u σ H1 Q else Q false H1
def tOr (t u : TT) : TT := fun σ H Q => t σ H fun c H1 => if c = true then Q true H1 else u σ H1 Q
def tNot (t : TT) : TT := fun σ H Q => t σ H fun c H1 => Q (!c) H1
theorem pw_and1 (ha : PT X a tA) : PW X (.BoolOp .And [a] pos) tA := by
  intro wh pins s σ H Q I h
  refine isTrue_and (thn (ha pins s σ H Q I h) fun c s1 e => ?_)
  cases c with
  | true => exact isTrue_and_nil e
  | false => exact e
theorem pw_or1 (ha : PT X a tA) : PW X (.BoolOp .Or [a] pos) tA := by
  intro wh pins s σ H Q I h
  refine isTrue_or (thn (ha pins s σ H Q I h) fun c s1 e => ?_)
  cases c with
  | false => exact isTrue_or_nil e
  | true => exact e
theorem pw_and (ha : PT X a tA) (hb : PW X (.BoolOp .And (b :: rest) pos) tB') : PW X (.BoolOp .And (a :: b :: rest) pos) (tAnd tA tB') := by
  intro wh pins s σ H Q I h
  refine isTrue_and (thn (ha pins s σ H _ I h) fun c s1 ⟨H1, I1, q1⟩ => ?_)
  cases c with
  | true => exact hb wh pins s1 σ H1 Q I1 q1
  | false => exact ⟨H1, I1, q1⟩
theorem pw_or (ha : PT X a tA) (hb : PW X (.BoolOp .Or (b :: rest) pos) tB') : PW X (.BoolOp .Or (a :: b :: rest) pos) (tOr tA tB') := by
  intro wh pins s σ H Q I h
  refine isTrue_or (thn (ha pins s σ H _ I h) fun c s1 ⟨H1, I1, q1⟩ => ?_)
  cases c with
  | true => exact ⟨H1, I1, q1⟩
  | false => exact hb wh pins s1 σ H1 Q I1 q1
theorem pt_not (ha : PT X a tA) : PT X (.UnaryOp .Not a pos) (tNot tA) := by
  intro pins s σ H Q I h
  exact isTrue_not (ha pins s σ H (fun c H1 => Q (!c) H1) I h)
/-- .. as values (bools) -/
def tAndV (ta tb : TE) : TE := fun σ H Q => ta σ H fun x H1 => ∃ c, x = .bl c ∧ if c = true then tb σ H1 Q else Q (.bl false) H1
def tOrV (ta tb : TE) : TE := fun σ H Q => ta σ H fun x H1 => ∃ c, x = .bl c ∧ if c = true then Q (.bl true) H1 else tb σ H1 Q
def tNotV (ta : TE) : TE := fun σ H Q => ta σ H fun x H1 => ∃ c, x = .bl c ∧ Q (.bl (!c)) H1
theorem pe_one {op} {t : TE} (h : PE X a t) : PE X (.BoolOp op [a] pos) t := fun pins s σ H Q I hw => BoolOp_one (h pins s σ H Q I hw)
theorem pe_and (ha : PE X a ta) (hb : PE X (.BoolOp .And (b :: rest) pos) tb) : PE X (.BoolOp .And (a :: b :: rest) pos) (tAndV ta tb) := by
  intro pins s σ H Q I h
  refine BoolOp_and (thn (ha pins s σ H _ I h) fun v s1 ⟨x, H1, I1, r1, q1⟩ => ?_)
  obtain ⟨c, rfl, q1⟩ := q1
  cases r1
  refine wpAny_truthy_bool ?_
  cases c with
  | true => exact hb pins s1 σ H1 Q I1 q1
  | false => exact ⟨.bl false, H1, I1, rfl, q1⟩
theorem pe_or (ha : PE X a ta) (hb : PE X (.BoolOp .Or (b :: rest) pos) tb) : PE X (.BoolOp .Or (a :: b :: rest) pos) (tOrV ta tb) := by
  intro pins s σ H Q I h
  refine BoolOp_or (thn (ha pins s σ H _ I h) fun v s1 ⟨x, H1, I1, r1, q1⟩ => ?_)
  obtain ⟨c, rfl, q1⟩ := q1
  cases r1
  refine wpAny_truthy_bool ?_
  cases c with
  | false => exact hb pins s1 σ H1 Q I1 q1
  | true => exact ⟨.bl true, H1, I1, rfl, q1⟩
/-- a if t else b -/
def tIf (t : TT) (ta tb : TE) : TE := fun σ H Q => t σ H fun c H1 => if c = true then ta σ H1 Q else tb σ H1 Q
theorem pe_ifExp {c : Expr} (hc : PT X c tA) (ha : PE X a ta) (hb : PE X b tb) : PE X (.IfExp c a b pos) (tIf tA ta tb) := by
  intro pins s σ H Q I h
  refine wpAny_IfExp (thn (hc pins s σ H _ I h) fun d s1 ⟨H1, I1, q1⟩ => ?_)
  cases d with
  | true => exact ha pins s1 σ H1 Q I1 q1
  | false => exact hb pins s1 σ H1 Q I1 q1
end
end L2

namespace L2
open PySem PySem.Spec PyProof.Rows

/-! ### a list, a tuple that is read: tracked, frozen, or an object of the module -/
def SqL (K : PySem.W.Frag) (H : Hp) (a : Addr) (xs : List V) : Prop :=
  Rd H a (.lst xs) ∨
    ∃ (o : Obj) (its : Array Value) (n : Nat), K.lookup a = some o ∧ o.cls = .type "list" ∧ o.dict = none ∧ o.data = .seq its n ∧ its.size ≤ sizeLine ∧ Vals xs its.toList
def SqT (K : PySem.W.Frag) (H : Hp) (a : Addr) (xs : List V) : Prop :=
  Rd H a (.tup xs) ∨
    ∃ (o : Obj) (its : Array Value) (n : Nat), K.lookup a = some o ∧ o.cls = .type "tuple" ∧ o.data = .seq its n ∧ its.size ≤ sizeLine ∧ Vals xs its.toList
def absV : Value → Option V
  | .none => some .non
  | .bool b => some (.bl b)
  | .int i _ => some (.int i)
  | .str x _ => some (.str x)
  | .bytes b _ => some (.byt b)
  | .float b _ => some (.flt b)
  | .ref a => some (.ref a)
  | .type n => some (.ty n)
  | _ => none
theorem RelV.abs {x : V} {u : Value} (r : RelV x u) : absV u = some x := by
  cases x with
  | non => cases r; rfl
  | bl _ => cases r; rfl
  | int _ => obtain ⟨t, rfl⟩ := r; rfl
  | str _ => obtain ⟨t, rfl⟩ := r; rfl
  | byt _ => obtain ⟨t, rfl⟩ := r; rfl
  | flt _ => obtain ⟨t, rfl⟩ := r; rfl
  | ref _ => cases r; rfl
  | ty _ => cases r; rfl
theorem RelV.inj {x y : V} {u : Value} (r : RelV x u) (q : RelV y u) : x = y := Option.some.inj (r.abs.symm.trans q.abs)
theorem Vals.inj : ∀ {xs ys : List V} {us : List Value}, Vals xs us → Vals ys us → xs = ys
  | _, _, _, .nil, .nil => rfl
  | _, _, _, .cons r t, .cons r' t' => by rw [r.inj r', Vals.inj t t']
section
variable {X : Cx} {pins : List (Addr × Obj)} {σ : St} {H : Hp} {s : Shared} {a : Addr} {xs ys : List V}
theorem SqL.of {K : PySem.W.Frag} (h : H a = some (.lst xs)) : SqL K H a xs := .inl (.inl h)
theorem SqT.of {K : PySem.W.Frag} (h : H a = some (.tup xs)) : SqT K H a xs := .inl (.inl h)
theorem Inv.list (I : Inv X pins σ H s) (h : SqL X.K H a xs) : ∃ its : List Value, Vals xs its ∧ PlainL s.heap a its.toArray ∧ xs.length ≤ sizeLine := by
  rcases h with h | ⟨o, its, n, hk, hc, hd, hs, hz, r⟩
  · obtain ⟨z, its, n, r, e⟩ := h.ok I.hok
    exact ⟨its, r, ⟨_, n, e, rfl, rfl, rfl⟩, z⟩
  · refine ⟨its.toList, r, ⟨o, n, I.kIn a o hk, hc, hd, by simpa using hs⟩, ?_⟩
    have e := r.length
    simp only [Array.length_toList] at e
    omega
theorem Inv.tuple (I : Inv X pins σ H s) (h : SqT X.K H a xs) : ∃ its : List Value, Vals xs its ∧ IsTup s.heap a its.toArray ∧ xs.length ≤ sizeLine := by
  rcases h with h | ⟨o, its, n, hk, hc, hs, hz, r⟩
  · obtain ⟨z, its, r, p⟩ := h.ok I.hok
    exact ⟨its, r, p, z⟩
  · refine ⟨its.toList, r, ⟨o, I.kIn a o hk, hc, n, by simpa using hs⟩, ?_⟩
    have e := r.length
    simp only [Array.length_toList] at e
    omega
theorem Inv.list_inj (I : Inv X pins σ H s) (h : SqL X.K H a xs) (h' : SqL X.K H a ys) : xs = ys := by
  obtain ⟨its, r, ⟨o, n, e, _, _, d⟩, _⟩ := I.list h
  obtain ⟨its', r', ⟨o', n', e', _, _, d'⟩, _⟩ := I.list h'
  rw [e] at e'; cases e'
  rw [d] at d'
  injection d' with d1 _
  have : its = its' := by simpa using congrArg Array.toList d1
  subst this
  exact r.inj r'
end

/-! ### another wish about exceptions -/
abbrev Cx.wish (X : Cx) (E : Value → Shared → Prop) : Cx := { X with xe := E }
/-- no exception leaves -/
abbrev Cx.nox (X : Cx) : Cx := X.wish fun _ _ => False
theorem Cx.Ok.wish {X : Cx} (ok : X.Ok) (E : Value → Shared → Prop) : (X.wish E).Ok :=
  ⟨ok.mod, ok.kind, ok.glob, ok.blt, ok.above, ok.inj, ok.has, ok.cab, ok.hd, ok.frames, ok.stk, ok.exf, ok.bs, ok.bsz, ok.noex, ok.exfs, ok.funs, ok.frf⟩
theorem Cx.Ok.unwish {X : Cx} {E : Value → Shared → Prop} (ok : (X.wish E).Ok) : X.Ok :=
  ⟨ok.mod, ok.kind, ok.glob, ok.blt, ok.above, ok.inj, ok.has, ok.cab, ok.hd, ok.frames, ok.stk, ok.exf, ok.bs, ok.bsz, ok.noex, ok.exfs, ok.funs, ok.frf⟩
section
variable {X : Cx} {pins : List (Addr × Obj)} {σ : St} {H : Hp} {s : Shared} {E : Value → Shared → Prop}
theorem Inv.wish (I : Inv X pins σ H s) (E : Value → Shared → Prop) : Inv (X.wish E) pins σ H s := ⟨I.ok.wish E, I.os, I.bare, I.base, I.loc, I.cell, I.free, I.freeC, I.pin, I.hok, I.len⟩
theorem Inv.unwish (I : Inv (X.wish E) pins σ H s) : Inv X pins σ H s := ⟨I.ok.unwish, I.os, I.bare, I.base, I.loc, I.cell, I.free, I.freeC, I.pin, I.hok, I.len⟩
theorem SP.unwish {D : Ends} {f : Flow} {s' : Shared} (h : SP (X.wish E) pins D f s') : SP X pins D f s' := by
  cases f with
  | next => obtain ⟨σ', H', I, q⟩ := h; exact ⟨σ', H', I.unwish, q⟩
  | brk => obtain ⟨σ', H', I, q⟩ := h; exact ⟨σ', H', I.unwish, q⟩
  | cont => obtain ⟨σ', H', I, q⟩ := h; exact ⟨σ', H', I.unwish, q⟩
  | ret u => obtain ⟨v, σ', H', I, r, q⟩ := h; exact ⟨v, σ', H', I.unwish, r, q⟩
theorem PE.nox {e : Expr} {t : TE} (h : PE X.nox e t) : PE X e t := fun pins s σ H Q I hw =>
  wpAny_mono (h pins s σ H Q (I.wish _) hw) (fun _ _ ⟨v, H', I', r, q⟩ => ⟨v, H', I'.unwish, r, q⟩) fun _ _ z => False.elim z
theorem PT.nox {e : Expr} {t : TT} (h : PT X.nox e t) : PT X e t := fun pins s σ H Q I hw =>
  wpAny_mono (h pins s σ H Q (I.wish _) hw) (fun _ _ ⟨H', I', q⟩ => ⟨H', I'.unwish, q⟩) fun _ _ z => False.elim z
theorem PSs.nox {st : List Stmt} {t : TS} (h : PSs X.nox st t) : PSs X st t := fun pins s σ H D I hw =>
  wpAny_mono (h pins s σ H D (I.wish _) hw) (fun _ _ q => q.unwish) fun _ _ z => False.elim z
end

/-! ### blocks and small statements -/
section
variable {X : Cx} {st : Stmt} {rest : List Stmt} {t u : TS} {e : Expr} {te : TE} {pos : Pos}
def tNext : TS := fun D σ H => D.nx σ H
def tSeq (t u : TS) : TS := fun D σ H => t { D with nx := u D } σ H
theorem pss_nil : PSs X [] tNext := fun _ _ σ H _ I h => wpAny_execs_nil ⟨σ, H, I, h⟩
theorem pss_cons (h1 : PS X st t) (h2 : PSs X rest u) : PSs X (st :: rest) (tSeq t u) := by
  intro pins s σ H D I h
  refine wpAny_execs_cons (thn (h1 pins s σ H { D with nx := u D } I h) fun f s1 q => ?_)
  cases f with
  | next =>
    obtain ⟨σ', H', I', q⟩ := q
    exact h2 pins s1 σ' H' D I' q
  | ret v => exact q
  | brk => exact q
  | cont => exact q
theorem pss_one (h1 : PS X st t) : PSs X [st] t := by
  intro pins s σ H D I h
  refine wpAny_execs_cons (thn (h1 pins s σ H D I h) fun f s1 q => ?_)
  cases f with
  | next => exact wpAny_execs_nil q
  | ret v => exact q
  | brk => exact q
  | cont => exact q
def tBreak : TS := fun D σ H => D.bk σ H
def tCont : TS := fun D σ H => D.ct σ H
/-- in a def's body nothing is shown -/
theorem Inv.quiet {pins : List (Addr × Obj)} {σ : St} {H : Hp} {s : Shared} (I : Inv X pins σ H s) : interactive X.env = false := by simp [interactive, I.ok.kind]
/-- an expression whose value is dropped -/
def tDrop (te : TE) : TS := fun D σ H => te σ H fun _ H1 => D.nx σ H1
theorem ps_expr (he : PE X e te) (hs : swapsWith e none pos.line X.env = pure false := by rfl) : PS X (.Expr e pos) (tDrop te) := by
  intro pins s σ H D I h
  exact wpAny_Expr_any (thn (he pins s σ H _ I h) fun v s1 ⟨x, H1, I1, r1, q1⟩ => ⟨σ, H1, I1, q1⟩) I.quiet hs
def tRet (te : TE) : TS := fun D σ H => te σ H D.rt
theorem ps_ret (he : PE X e te) : PS X (.Return (some e) pos) (tRet te) := by
  intro pins s σ H D I h
  exact wpAny_Return_some (thn (he pins s σ H _ I h) fun v s1 ⟨x, H1, I1, r1, q1⟩ => ⟨x, σ, H1, I1, r1, q1⟩)
def tRetN : TS := fun D _ H => D.rt .non H
def tIfS (c : TT) (t u : TS) : TS := fun D σ H => c σ H fun b H1 => if b = true then t D σ H1 else u D σ H1
theorem ps_if {c : Expr} {a b : List Stmt} {tc : TT} (hc : PT X c tc) (ha : PSs X a t) (hb : PSs X b u) : PS X (.If c a b pos) (tIfS tc t u) := by
  intro pins s σ H D I h
  refine wpAny_If (thn (hc pins s σ H _ I h) fun d s1 ⟨H1, I1, q1⟩ => ?_)
  cases d with
  | true => exact ha pins s1 σ H1 D I1 q1
  | false => exact hb pins s1 σ H1 D I1 q1
/-- code that the proof never comes to -/
def tNever : TS := fun _ _ _ => False
theorem ps_never : PS X st tNever := fun _ _ _ _ _ _ h => h.elim
end

/-! ### targets -/
abbrev TG := V → St → Hp → (St → Hp → Prop) → Prop
abbrev TGs := List V → St → Hp → (St → Hp → Prop) → Prop
def PG (X : Cx) (target : Expr) (t : TG) : Prop :=
  ∀ (pins : List (Addr × Obj)) (s : Shared) (σ : St) (H : Hp) (v : V) (u : Value) (Q : St → Hp → Prop), Inv X pins σ H s → RelV v u → t v σ H Q →
    wpAny (model X.prog X.w) X.A (assign target X.env u) (fun _ s' => ∃ σ' H', Inv X pins σ' H' s' ∧ Q σ' H') X.xe s
/-- several targets, one after another -/
def PGs (X : Cx) (ts : List Expr) (t : TGs) : Prop :=
  ∀ (pins : List (Addr × Obj)) (s : Shared) (σ : St) (H : Hp) (vs : List V) (us : List Value) (Q : St → Hp → Prop), Inv X pins σ H s → Vals vs us → t vs σ H Q →
    wpAny (model X.prog X.w) X.A (assignInOrder ((assignEach ts X.env).map (·.2)) us) (fun _ s' => ∃ σ' H', Inv X pins σ' H' s' ∧ Q σ' H') X.xe s
/-- o[i] = v, by values -/
abbrev TSet := V → V → V → Hp → (Hp → Prop) → Prop
def PSet (X : Cx) (t : TSet) : Prop :=
  ∀ (pins : List (Addr × Obj)) (s : Shared) (σ : St) (H : Hp) (o i v : V) (ov iv u : Value) (Q : Hp → Prop), Inv X pins σ H s → RelV o ov → RelV i iv → RelV v u → t o i v H Q →
    wpAny (model X.prog X.w) X.A (setItem ov iv u) (fun _ s' => ∃ H', Inv X pins σ H' s' ∧ Q H') X.xe s
/-- a op= b, by values -/
abbrev TIp := V → V → Hp → VK → Prop
def PIp (X : Cx) (op : Operator) (t : TIp) : Prop :=
  ∀ (pins : List (Addr × Obj)) (s : Shared) (σ : St) (H : Hp) (x y : V) (v u : Value) (Q : VK), Inv X pins σ H s → RelV x v → RelV y u → t x y H Q →
    wpAny (model X.prog X.w) X.A (inplaceOp op v u) (EP X pins σ Q) X.xe s
section
variable {X : Cx} {pos : Pos}
def gName (i : Nat) : TG := fun v σ H Q => Q (σ.set i (some v)) H
theorem pg_name {i : Nat} {x : Str} (hN : X.N.Nodup) (hi : X.N[i]? = some x) (hx : Loc X.env.scope x) (hf : X.fn x = true ∨ X.env.scope.names.lookup x = some .local := by first | exact .inl rfl | exact .inr rfl | assumption) : PG X (.Name x pos) (gName i) := by
  intro pins s σ H v u Q I r h
  exact wpAny_assign_Name (store_ok I hN hi hx r (fun s' I' => ⟨_, H, I', h⟩) hf)
def gNil : TGs := fun vs σ H Q => vs = [] ∧ Q σ H
def gCons (t : TG) (u : TGs) : TGs := fun vs σ H Q => ∃ v r, vs = v :: r ∧ t v σ H fun σ' H' => u r σ' H' Q
theorem pgs_nil : PGs X [] gNil := by
  intro pins s σ H vs us Q I r h
  obtain ⟨e, h⟩ := h
  subst e
  cases r
  exact assignInOrder_nil ⟨σ, H, I, h⟩
theorem pgs_cons {e : Expr} {es : List Expr} {t : TG} {u : TGs} (h1 : PG X e t) (h2 : PGs X es u)
    (hs : (assignEach (e :: es) X.env).map (·.2) = assign e X.env :: (assignEach es X.env).map (·.2) := by rfl) : PGs X (e :: es) (gCons t u) := by
  intro pins s σ H vs us Q I r h
  obtain ⟨v, vr, e1, h⟩ := h
  subst e1
  cases r with
  | cons r rr =>
    rw [hs]
    refine assignInOrder_cons (thn (h1 pins s σ H _ _ _ I r h) fun _ s1 ⟨σ1, H1, I1, q1⟩ => ?_)
    exact h2 pins s1 σ1 H1 _ _ Q I1 rr q1
/-- (a, b, ..) = a tuple of that length -/
def gTup (K : PySem.W.Frag) (n : Nat) (t : TGs) : TG := fun v σ H Q => ∃ a xs, v = .ref a ∧ SqT K H a xs ∧ xs.length = n ∧ t xs σ H Q
theorem pg_tup {es : List Expr} {k : Nat} {t : TGs} {n : Nat} (hc : X.calm = true) (h : PGs X es t)
    (hn : (assignEach es X.env).length = n := by rfl) (hst : (assignEach es X.env).findIdx? (·.1) = none := by rfl) : PG X (.Tuple es k pos) (gTup X.K n t) := by
  intro pins s σ H v u Q I r hw
  obtain ⟨a, xs, e1, hq, hl, hw⟩ := hw
  subst e1
  cases r
  obtain ⟨its, rv, ht, hz⟩ := I.tuple hq
  refine assign_Tuple_tuple (I.ok.hd hc) ht (by simp [hn, ← hl, rv.length]) hst fun h' hx => ?_
  have I1 : Inv X pins σ H { s with heap := h' } := I.kept (t' := s.toks) fun b o e => hx b o (Nat.ne_of_lt (Heap.lt_size e)) e
  exact h pins _ σ H xs _ Q I1 (by simpa using rv) hw
/-- o[i] = .. -/
def gSub (to ti : TE) (t : TSet) : TG := fun v σ H Q => to σ H fun o H1 => ti σ H1 fun i H2 => t o i v H2 fun H3 => Q σ H3
theorem pg_sub {o i : Expr} {to ti : TE} {t : TSet} (ho : PE X o to) (hi : PE X i ti) (hs : PSet X t)
    (ha : ∀ v, assign (.Subscript o i pos) X.env v = (do
      let ov ← holding [v] (eval o X.env)
      let iv ← holding [v, ov] (eval i X.env)
      standAt pos
      holding [v, ov, iv] (setItem ov iv v)
      release [v, ov, iv] []) := by intro _; rfl) : PG X (.Subscript o i pos) (gSub to ti t) := by
  intro pins s σ H v u Q I r h
  rw [ha]
  refine wpAny_bind (wpAny_holding (thn (ho pins s σ H _ I h) fun ov s1 ⟨x, H1, I1, r1, q1⟩ => ?_))
  refine wpAny_bind (wpAny_holding (thn (hi pins s1 σ H1 _ I1 q1) fun iv s2 ⟨y, H2, I2, r2, q2⟩ => ?_))
  refine wpAny_bind (wpAny_standAt (wpAny_bind (wpAny_holding (thn (hs pins s2 σ H2 x y v ov iv u _ I2 r1 r2 r q2) fun _ s3 ⟨H3, I3, q3⟩ => ?_))))
  exact wpAny_release ⟨σ, H3, I3, q3⟩
/-- target = value -/
def tAsg (te : TE) (g : TG) : TS := fun D σ H => te σ H fun x H1 => g x σ H1 D.nx
theorem ps_asg {tg e : Expr} {te : TE} {g : TG} (he : PE X e te) (hg : PG X tg g) (hs : swapsWithSole [tg] e pos.line X.env = pure false := by rfl) (hw : swappedStores [tg] e X.env = pure none := by rfl)
    (h1 : (assignEach [tg] X.env).map (·.2) = [assign tg X.env] := by rfl) : PS X (.Assign [tg] e pos) (tAsg te g) := by
  intro pins s σ H D I h
  refine wpAny_Assign_stores (thn (he pins s σ H _ I h) fun v s1 ⟨x, H1, I1, r1, q1⟩ => ?_) hs hw
  rw [h1]
  exact thn (hg pins s1 σ H1 x v _ I1 r1 q1) fun _ s2 q => q
/-- name = value -/
theorem ps_set {i : Nat} {x : Str} {e : Expr} {te : TE} {pos' : Pos} (hN : X.N.Nodup) (hi : X.N[i]? = some x) (hx : Loc X.env.scope x) (he : PE X e te) (hs : swapsWith e (some (.Name x pos')) pos.line X.env = pure false := by rfl) (hf : X.fn x = true ∨ X.env.scope.names.lookup x = some .local := by first | exact .inl rfl | exact .inr rfl | assumption) :
    PS X (.Assign [.Name x pos'] e pos) (tAsg te (gName i)) := by
  intro pins s σ H D I h
  refine wpAny_Assign_Name (thn (he pins s σ H _ I h) fun v s1 ⟨y, H1, I1, r1, q1⟩ => ?_) hs
  exact store_ok I1 hN hi hx r1 (fun s2 I2 => ⟨_, H1, I2, q1⟩) hf
/-- a, b = x, y with plain local names: stored from the right; the pair itself is not tracked (the opening rows as in PyProof/Rows/TupAssign.lean:23) -/
def tPar (i j : Nat) (ta : TA) : TS := fun D σ H => ta σ H fun vs H1 => ∃ v w, vs = [v, w] ∧ D.nx ((σ.set i (some v)).set j (some w)) H1
/-- name op= e -/
def tAug (i : Nat) (te : TE) (ti : TIp) : TS := fun D σ H => ∃ x, σ[i]? = some (some x) ∧ te σ H fun y H1 => ti x y H1 fun z H2 => D.nx (σ.set i (some z)) H2
/-- o[i] op= e -/
def tAugS (to ti te : TE) (tget : V → V → Hp → VK → Prop) (tip : TIp) (tset : TSet) : TS := fun D σ H => to σ H fun o H1 => ti σ H1 fun i H2 => tget o i H2 fun x H3 => te σ H3 fun y H4 => tip x y H4 fun z H5 => tset o i z H5 fun H6 => D.nx σ H6
/-- o[i], by values -/
def PGet (X : Cx) (t : V → V → Hp → VK → Prop) : Prop :=
  ∀ (pins : List (Addr × Obj)) (s : Shared) (σ : St) (H : Hp) (o i : V) (ov iv : Value) (Q : VK), Inv X pins σ H s → RelV o ov → RelV i iv → t o i H Q →
    wpAny (model X.prog X.w) X.A (getItem ov iv) (EP X pins σ Q) X.xe s
/-- ints -/
def ipI (f : Int → Int → Int) : TIp := fun x y H Q => ∃ i j, x = .int i ∧ y = .int j ∧ Q (.int (f i j)) H
end

/-! ### while -/
section
variable {X : Cx} {pos : Pos}
/-- the invariant W with its measure -/
def tWhile (c : TT) (tb : TS) : TS := fun D σ H => ∃ W : Nat → St → Hp → Prop, (∃ m, W m σ H) ∧ ∀ m σ H, W m σ H →
  c σ H fun b H1 => if b = true then ∃ N : St → Hp → Prop, (∀ σ' H', N σ' H' → ∃ m', m' < m ∧ W m' σ' H') ∧ tb { D with nx := N, ct := N, bk := D.nx } σ H1 else D.nx σ H1
theorem ps_while {c : Expr} {body : List Stmt} {tc : TT} {tb : TS} (hp : PassesOwn (model X.prog X.w) X.A X.env X.xe) (hc : PT X c tc) (hb : PSs X body tb) : PS X (.While c body [] pos) (tWhile tc tb) := by
  intro pins s σ H D I h
  obtain ⟨W, ⟨m0, w0⟩, turn⟩ := h
  refine wpAny_While (codeAny_whileLoop (fun n s' => ∃ σ' H', Inv X pins σ' H' s' ∧ W n σ' H') ?_ m0 ⟨σ, H, I, w0⟩)
  rintro n s1 ⟨σ1, H1, I1, w1⟩
  refine wpAny_passesOwn hp (thn (hc pins s1 σ1 H1 _ I1 (turn n σ1 H1 w1)) fun b s2 ⟨H2, I2, q2⟩ => ?_)
  cases b with
  | true =>
    obtain ⟨N, hN, q2⟩ := q2
    rw [if_pos rfl]
    refine wpAny_passesOwn hp (thn (hb pins s2 σ1 H2 _ I2 q2) fun f s3 q3 => ?_)
    cases f with
    | next =>
      obtain ⟨σ3, H3, I3, n3⟩ := q3
      obtain ⟨m', hm, w3⟩ := hN σ3 H3 n3
      exact ⟨m', hm, σ3, H3, I3, w3⟩
    | cont =>
      obtain ⟨σ3, H3, I3, n3⟩ := q3
      obtain ⟨m', hm, w3⟩ := hN σ3 H3 n3
      exact ⟨m', hm, σ3, H3, I3, w3⟩
    | brk => exact q3
    | ret v => exact q3
  | false =>
    rw [if_neg Bool.false_ne_true]
    exact wpAny_execs_nil ⟨σ1, H2, I2, q2⟩
end

/-! ### what a loop or a comprehension walks -/
/-- at turn i: it yields x (the heap may grow), or it stops -/
structure It where
  go : Nat → Hp → Prop
  yld : Nat → Hp → V → Hp → Prop
  stop : Nat → Hp → Prop
/-- the iterator's own objects may turn: they are not the frame's, not pinned, younger than the entry (or a comprehension's own) -/
def FpOk (X : Cx) (pins : List (Addr × Obj)) (H : Hp) (b : Addr) : Prop :=
  H b = none ∧ b ≠ X.env.locals ∧ b ∉ X.fs ∧ (b ∈ X.ex ∨ X.s₀.heap.objs.size ≤ b) ∧ (∀ x c, X.env.cells.lookup x = some c → c ≠ b) ∧ ∀ p ∈ X.pn ++ pins, p.1 ≠ b
theorem Inv.fpOk {X : Cx} {pins : List (Addr × Obj)} {σ : St} {H H' : Hp} {s : Shared} {b : Addr} (I : Inv X pins σ H s) (hb : s.heap.objs.size ≤ b) (hn : H' b = none) : FpOk X pins H' b := by
  refine ⟨hn, Nat.ne_of_gt (Nat.lt_of_lt_of_le I.lt hb), I.nofs hb, .inr (Nat.le_trans I.sz hb), fun x c e z => ?_, fun p hp z => ?_⟩
  · obtain ⟨v, q⟩ := I.cell x c e
    exact absurd (Nat.lt_of_lt_of_le q.lt (by rw [z]; exact hb)) (Nat.lt_irrefl _)
  · exact absurd (Nat.lt_of_lt_of_le (Heap.lt_size (I.pin p hp).1) (by rw [z]; exact hb)) (Nat.lt_irrefl _)
structure Turn (P : Program) (w : World) (K : PySem.W.Frag) (tg : Expr) (J : It) (fp : List Addr) (it : Addr) (tn : Nat → Heap → Prop) : Prop where
  mem : it ∈ fp
  obj : ∀ i h, tn i h → ∀ b ∈ fp, ∃ o, h.get? b = some o ∧ ∀ v, o.data ≠ .cell v
  keep : ∀ i h h', tn i h → (∀ b ∈ fp, ∀ o, h.get? b = some o → h'.get? b = some o) → tn i h'
  item : ∀ (X : Cx), X.prog = P → X.w = w → X.K = K → X.calm = true → ∀ (i : Nat) (pins : List (Addr × Obj)) (s : Shared) (σ : St) (H : Hp) (E : Value → Shared → Prop), Inv X pins σ H s → (∀ b ∈ fp, FpOk X pins H b) → tn i s.heap → J.go i H →
    wpAny (model P w) X.A (pyNext (.ref it)) (fun r s1 => ∃ u, r = some u ∧
      wpAny (model P w) X.A (letOwnedTupleGo tg (.ref it) u) (fun _ s2 => ∃ x H', Inv X pins σ H' s2 ∧ RelV x u ∧ J.yld i H x H' ∧ tn (i + 1) s2.heap ∧ ∀ b ∈ fp, H' b = none) E s1) E s
  done : ∀ (X : Cx), X.prog = P → X.w = w → X.K = K → X.calm = true → ∀ (i : Nat) (pins : List (Addr × Obj)) (s : Shared) (σ : St) (H : Hp) (E : Value → Shared → Prop), Inv X pins σ H s → (∀ b ∈ fp, FpOk X pins H b) → tn i s.heap → J.stop i H →
    wpAny (model P w) X.A (pyNext (.ref it)) (fun r s1 => r = none ∧ Inv X pins σ H s1) E s
  self : ∀ (A : Around) (i : Nat) (s : Shared) (Q : Value → Shared → Prop) (E : Value → Shared → Prop), tn i s.heap → Q (.ref it) s → wpAny (model P w) A (pyIter (.ref it)) Q E s
abbrev TI := St → Hp → (It → Hp → Prop) → Prop
/-- an iterator has come -/
def PIE (X : Cx) (pins : List (Addr × Obj)) (σ : St) (tg : Expr) (R : It → Hp → Prop) (itv : Value) (s2 : Shared) : Prop :=
  ∃ (it : Addr) (fp : List Addr) (tn : Nat → Heap → Prop) (J : It) (H' : Hp), itv = .ref it ∧ Inv X pins σ H' s2 ∧ Turn X.prog X.w X.K tg J fp it tn ∧ tn 0 s2.heap ∧ (∀ b ∈ fp, FpOk X pins H' b) ∧ R J H'
def PI (X : Cx) (tg iter : Expr) (wi : TI) : Prop :=
  ∀ (pins : List (Addr × Obj)) (s : Shared) (σ : St) (H : Hp) (R : It → Hp → Prop), Inv X pins σ H s → wi σ H R →
    wpAny (model X.prog X.w) X.A (eval iter X.env) (fun v s1 => wpAny (model X.prog X.w) X.A (pyIter v) (PIE X pins σ tg R) X.xe s1) X.xe s

/-- the step ahead of the store is nothing for an iterator that keeps no tuple -/
theorem go_of {M : Model} {A : Around} {E : Value → Shared → Prop} {s : Shared} {tg : Expr} {it : Addr} {u : Value} {o : Obj} {n : String} {vs : Array Value} {Q : Unit → Shared → Prop} (ho : s.heap.get? it = some o) (hc : o.cls = .type n) (hd : o.data = .fields vs)
    (hn : ["enumerate", "zip", "dict_itemiterator", "dict_reverseitemiterator", "odict_iterator", "itertools.zip_longest", "itertools.pairwise"].contains n = false) (hQ : Q () s) : wpAny M A (letOwnedTupleGo tg (.ref it) u) Q E s := by
  unfold letOwnedTupleGo
  cases tg <;> first
    | exact wpAny_pure hQ
    | (cases u <;> first
        | exact wpAny_pure hQ
        | (refine wpAny_bind (wpAny_load ho ?_)
           rw [hc, hd]
           show wpAny M A (if (["enumerate", "zip", "dict_itemiterator", "dict_reverseitemiterator", "odict_iterator", "itertools.zip_longest", "itertools.pairwise"].contains n && vs[0]? == some (rawInt _)) = true then _ else _) Q E s
           rw [if_neg (by intro h; rw [hn, Bool.false_and] at h; cases h)]
           exact wpAny_pure hQ))

/-- the list at a, as it stands at each turn (a loop may append to it) -/
def Itl (K : PySem.W.Frag) (a : Addr) : It :=
  ⟨fun i H => ∃ xs x, SqL K H a xs ∧ xs[i]? = some x, fun i H x H' => H' = H ∧ ∀ xs, SqL K H a xs → xs[i]? = some x, fun i H => ∃ xs, SqL K H a xs ∧ xs.length ≤ i⟩
def Itt (K : PySem.W.Frag) (a : Addr) : It :=
  ⟨fun i H => ∃ xs x, SqT K H a xs ∧ xs[i]? = some x, fun i H x H' => H' = H ∧ ∀ xs, SqT K H a xs → xs[i]? = some x, fun i H => ∃ xs, SqT K H a xs ∧ xs.length ≤ i⟩
/-- lo, lo + 1, .. (n of them) -/
def Itr (lo : Int) (n : Nat) : It := ⟨fun i _ => i < n, fun i H x H' => H' = H ∧ x = .int (lo + i), fun i _ => n ≤ i⟩
theorem turn_list {P : Program} {w : World} {K : PySem.W.Frag} {tg : Expr} (a it : Addr) : Turn P w K tg (Itl K a) [it] it (fun i h => h.IsListIter it a i) where
  mem := by simp
  obj := fun i h st b hb => by
    have e : b = it := by simpa using hb
    subst e
    obtain ⟨o, e, c, d⟩ := st
    exact ⟨o, e, fun v z => by rw [d] at z; cases z⟩
  keep := fun i h h' st k => st.at fun o e => k it (by simp) o e
  item := by
    intro X hP hw hK hc i pins s σ H E I hf st hg
    subst hP hw hK
    obtain ⟨xs, x, hq, hx⟩ := hg
    obtain ⟨its, rv, p, hz⟩ := I.list hq
    obtain ⟨u, hu, ru⟩ := rv.get hx
    obtain ⟨f0, f1, f2, f3, f4, f5⟩ := hf it (by simp)
    refine wpAny_pyNext_list_item st p.isList (x := u) (by simpa using hu) fun h' st' sb => ?_
    have I1 : Inv X pins σ H { s with heap := h' } := I.turned (t' := s.toks) (fun b o hb e => (sb.2 b hb).trans e) f0 f1 f3 f4 f5
    obtain ⟨o, e, c, d⟩ := id st'
    exact ⟨u, rfl, go_of (s := { s with heap := h' }) e c d (by decide) ⟨x, H, I1, ru, ⟨rfl, fun ys hy => by rw [I.list_inj hy hq]; exact hx⟩, st', fun b hb => (hf b hb).1⟩⟩
  done := by
    intro X hP hw hK hc i pins s σ H E I hf st hg
    subst hP hw hK
    obtain ⟨xs, hq, hx⟩ := hg
    obtain ⟨its, rv, p, hz⟩ := I.list hq
    obtain ⟨f0, f1, f2, f3, f4, f5⟩ := hf it (by simp)
    have hl := rv.length
    exact wpAny_pyNext_list_end (I.ok.hd hc) st p.isList (by simp; omega) fun h' eb => ⟨rfl, I.turned (t' := s.toks) (fun b o hb e => eb b o hb e) f0 f1 f3 f4 f5⟩
  self := fun _ _ _ _ _ st h => wpAny_pyIter_listiter st h
theorem turn_range {P : Program} {w : World} {K : PySem.W.Frag} {tg : Expr} (it : Addr) (lo : Int) (n : Nat) : Turn P w K tg (Itr lo n) [it] it (fun i h => IsRangeIter h it (lo + (i : Nat) * 1) ((n : Int) - (i : Nat)) 1) where
  mem := by simp
  obj := fun i h st b hb => by
    have e : b = it := by simpa using hb
    subst e
    exact ⟨_, st, fun v z => by
      have z' : Data.fields _ = Data.cell v := z
      cases z'⟩
  keep := fun i h h' st k => k it (by simp) _ st
  item := by
    intro X hP hw hK hc i pins s σ H E I hf st hg
    subst hP hw hK
    obtain ⟨f0, f1, f2, f3, f4, f5⟩ := hf it (by simp)
    have W := Walks.range (prog := X.prog) (w := X.w) (I.ok.hd hc) it lo 1 n
    refine W.item i s _ _ hg st fun v h' tk hv st' kk => ?_
    obtain ⟨t, rfl⟩ := hv
    have I1 : Inv X pins σ H { s with heap := h', toks := tk } := I.turned (fun b o hb e => kk b o (by simpa using hb) e) f0 f1 f3 f4 f5
    refine ⟨_, rfl, go_of (s := { s with heap := h', toks := tk }) (n := "range_iterator") st' rfl rfl (by decide) ⟨.int (lo + i), H, I1, ⟨t, ?_⟩, ⟨rfl, rfl⟩, st', fun b hb => (hf b hb).1⟩⟩
    rw [Int.mul_one]
  done := by
    intro X hP hw hK hc i pins s σ H E I hf st hg
    subst hP hw hK
    obtain ⟨f0, f1, f2, f3, f4, f5⟩ := hf it (by simp)
    exact wpAny_pyNext_range_end (I.ok.hd hc) st (by have : n ≤ i := hg; omega) fun h' eb => ⟨rfl, I.turned (t' := s.toks) (fun b o hb e => eb b o hb e) f0 f1 f3 f4 f5⟩
  self := fun _ _ _ _ _ st h => wpAny_pyIter_rangeiter st h
end L2

namespace L2
open PySem PySem.Spec PyProof.Rows
section
variable {X : Cx} {tg : Expr}
def iList (K : PySem.W.Frag) (tl : TE) : TI := fun σ H R => tl σ H fun x H1 => ∃ a, x = .ref a ∧ (∃ xs, SqL K H1 a xs) ∧ R (Itl K a) H1
def iTup (K : PySem.W.Frag) (tl : TE) : TI := fun σ H R => tl σ H fun x H1 => ∃ a, x = .ref a ∧ (∃ xs, SqT K H1 a xs) ∧ R (Itt K a) H1
/-- a range object just made, walked -/
theorem range_it {pins : List (Addr × Obj)} {σ : St} {H : Hp} {s : Shared} {R : It → Hp → Prop} {E : Value → Shared → Prop} {lo hi : Int} {t u v : Tok} {tk : Nat} (I : Inv X pins σ H s) (h1 : -(2 ^ 62) ≤ lo) (h2 : lo < 2 ^ 62) (h3 : -(2 ^ 62) ≤ hi) (h4 : hi < 2 ^ 62)
    (q : R (Itr lo (hi - lo).toNat) H) : wpAny (model X.prog X.w) X.A (pyIter (.ref s.heap.objs.size)) (PIE X pins σ tg R) E { s with heap := s.heap.push { cls := .type "range", data := .fields #[.int lo t, .int hi u, .int 1 v] }, toks := tk } := by
  refine wpAny_pyIter_range (IsRange.new ..) (small_one h1 h2 h3 h4) ?_
  have I1 : Inv X pins σ H { s with heap := s.heap.push { cls := .type "range", data := .fields #[.int lo t, .int hi u, .int 1 v] }, toks := tk } := I.kept fun b o e => Heap.get?_push_of_some _ e
  refine ⟨(s.heap.push { cls := .type "range", data := .fields #[.int lo t, .int hi u, .int 1 v] }).objs.size, [(s.heap.push { cls := .type "range", data := .fields #[.int lo t, .int hi u, .int 1 v] }).objs.size], _, _, H, rfl,
    I1.kept (t' := tk) fun b o e => Heap.get?_push_of_some _ e, turn_range _ lo (hi - lo).toNat, ?_, fun b hb => ?_, q⟩
  · have e1 : lo + ((0 : Nat) : Int) * 1 = lo := by simp
    have e2 : (((hi - lo).toNat : Nat) : Int) - ((0 : Nat) : Int) = Builtin.Range.rangeSize lo hi 1 := by rw [rangeSize_one]; split <;> omega
    show IsRangeIter _ _ (lo + ((0 : Nat) : Int) * 1) ((((hi - lo).toNat : Nat) : Int) - ((0 : Nat) : Int)) 1
    rw [e1, e2]
    exact Heap.get?_push_size _ rfl
  · have e : b = (s.heap.push { cls := .type "range", data := .fields #[.int lo t, .int hi u, .int 1 v] }).objs.size := by simpa using hb
    subst e
    exact I1.fpOk (Nat.le_refl _) (I1.hok.fresh (Nat.le_refl _))
def iRng1 (ta : TA) : TI := fun σ H R => ta σ H fun vs H1 => ∃ j : Int, vs = [.int j] ∧ -(2 ^ 62) ≤ j ∧ j < 2 ^ 62 ∧ R (Itr 0 j.toNat) H1
def iRng2 (ta : TA) : TI := fun σ H R => ta σ H fun vs H1 => ∃ i j : Int, vs = [.int i, .int j] ∧ (-(2 ^ 62) ≤ i ∧ i < 2 ^ 62 ∧ -(2 ^ 62) ≤ j ∧ j < 2 ^ 62) ∧ R (Itr i (j - i).toNat) H1
theorem pi_range1 {a : Expr} {ta : TA} {p pos : Pos} (hg : Gl X "range") (hm : X.mg "range" = none) (ha : PA X [a] ta) (hs : starEach [a] X.env = [(false, eval a X.env)] := by rfl) : PI X tg (.Call (.Name "range" p) [a] [] pos) (iRng1 ta) := by
  intro pins s σ H R I h
  refine Call_ (ld_blt I hg hm boot_range (PyProof.Rows.callWith_type1 (thn (ha pos pins s σ H _ I h) fun us s1 ⟨vs, H1, I1, r1, q1⟩ => ?_) hs rfl))
  obtain ⟨j, e, q1, q2, q⟩ := q1
  subst e
  cases r1 with
  | cons r rr =>
    cases rr
    obtain ⟨t, rfl⟩ := r
    exact call_range_1 (range_it I1 (by omega) (by omega) q1 q2 (by simpa using q))
/-! ### for -/
/-- W: the invariant by the turn and a measure; N: what the body is to reach -/
def tFor (wi : TI) (g : TG) (tb : TS) : TS := fun D σ H => wi σ H fun J H1 => ∃ W : Nat → Nat → St → Hp → Prop, (∃ m, W 0 m σ H1) ∧ ∀ i m σ H, W i m σ H →
  (J.stop i H ∧ D.nx σ H) ∨ (J.go i H ∧ ∃ N : St → Hp → Prop, (∀ σ' H', N σ' H' → ∃ m', m' < m ∧ W (i + 1) m' σ' H') ∧ ∀ x H', J.yld i H x H' → g x σ H' fun σ2 H2 => tb { D with nx := N, ct := N, bk := D.nx } σ2 H2)
/-- the records at fp as they stand -/
def pinsAt (fp : List Addr) (h : Heap) : List (Addr × Obj) := fp.filterMap fun b => (h.get? b).map fun o => (b, o)
theorem mem_pinsAt {fp : List Addr} {h : Heap} {b : Addr} {o : Obj} (hb : b ∈ fp) (e : h.get? b = some o) : (b, o) ∈ pinsAt fp h := List.mem_filterMap.mpr ⟨b, hb, by rw [e]; rfl⟩
theorem of_pinsAt {fp : List Addr} {h : Heap} {p : Addr × Obj} (hp : p ∈ pinsAt fp h) : p.1 ∈ fp ∧ h.get? p.1 = some p.2 := by
  obtain ⟨b, hb, e⟩ := List.mem_filterMap.mp hp
  cases q : h.get? b with
  | none => rw [q] at e; cases e
  | some o =>
    rw [q] at e
    have e' : (b, o) = p := Option.some.inj e
    subst e'
    exact ⟨hb, q⟩
theorem Inv.pinned {pins : List (Addr × Obj)} {σ : St} {H : Hp} {s : Shared} {fp : List Addr} (I : Inv X pins σ H s) (hf : ∀ b ∈ fp, FpOk X pins H b) (ho : ∀ b ∈ fp, ∃ o, s.heap.get? b = some o ∧ ∀ v, o.data ≠ .cell v) : Inv X (pins ++ pinsAt fp s.heap) σ H s :=
  I.pins_of fun p hp => (List.mem_append.mp hp).elim (fun z => I.pin p (List.mem_append_right _ z)) fun z => by
    obtain ⟨hb, e⟩ := of_pinsAt z
    obtain ⟨f0, f1, f2, _⟩ := hf p.1 hb
    obtain ⟨o, e', d⟩ := ho p.1 hb
    rw [e] at e'; cases e'
    exact ⟨e, f0, f1, f2, d⟩
theorem Inv.unpinned {pins pl : List (Addr × Obj)} {σ : St} {H : Hp} {s : Shared} (I : Inv X (pins ++ pl) σ H s) : Inv X pins σ H s := I.pins_of fun p hp => I.pin p (List.mem_append_right _ (List.mem_append_left _ hp))
theorem ps_for {iter : Expr} {body : List Stmt} {wi : TI} {g : TG} {tb : TS} {pos : Pos} (hp : PassesOwn (model X.prog X.w) X.A X.env X.xe) (hc : X.calm = true) (hi : PI X tg iter wi) (hg : PG X tg g) (hb : PSs X body tb)
    (hs : ∀ x, foldedSetIterable iter X.env x = pure x := by intro _; rfl) : PS X (.For tg iter body [] pos) (tFor wi g tb) := by
  intro pins s σ H D I h
  refine wpAny_For (thn (hi pins s σ H _ I h) fun v s1 h1 => thn h1 fun itv s2 h2 => ?_) hs
  obtain ⟨it, fp, tn, J, H2, e, I2, T, st2, f2, W, ⟨m0, w0⟩, turn⟩ := h2
  subst e
  -- what stays true of the iterator's objects through the loop
  have stat : ∀ {H' : Hp}, (∀ b ∈ fp, H' b = none) → ∀ b ∈ fp, FpOk X pins H' b := fun hn b hb => ⟨hn b hb, (f2 b hb).2⟩
  refine codeAny_forLoop_any (fun n s' => ∃ i σ' H', Inv X pins σ' H' s' ∧ tn i s'.heap ∧ (∀ b ∈ fp, H' b = none) ∧ W i n σ' H') ?_ m0 ⟨0, σ, H2, I2, st2, fun b hb => (f2 b hb).1, w0⟩
  rintro n s3 ⟨i, σ3, H3, I3, st3, fr3, w3⟩
  rcases turn i n σ3 H3 w3 with ⟨stop, qn⟩ | ⟨go, N, hN, step⟩
  · refine wpAny_passesOwn hp (thn (T.done X rfl rfl rfl hc i pins s3 σ3 H3 X.xe I3 (stat fr3) st3 stop) fun r s4 ⟨hr, I4⟩ => ?_)
    subst hr
    exact wpAny_execs_nil ⟨σ3, H3, I4, qn⟩
  · refine wpAny_passesOwn hp (thn (T.item X rfl rfl rfl hc i pins s3 σ3 H3 X.xe I3 (stat fr3) st3 go) fun r s4 ⟨u, hr, h4⟩ => ?_)
    subst hr
    refine wpAny_passesOwn hp (thn h4 fun _ s5 ⟨x, H5, I5, r5, y5, st5, fr5⟩ => ?_)
    have I5' := I5.pinned (stat fr5) (T.obj _ _ st5)
    refine wpAny_passesOwn hp (thn (hg _ s5 σ3 H5 x u _ I5' r5 (step x H5 y5)) fun _ s6 ⟨σ6, H6, I6, q6⟩ => ?_)
    refine wpAny_passesOwn hp (thn (hb _ s6 σ6 H6 _ I6 q6) fun f s7 q7 => ?_)
    have again : ∀ {σ7 : St} {H7 : Hp}, Inv X (pins ++ pinsAt fp s5.heap) σ7 H7 s7 → N σ7 H7 → ∃ m, m < n ∧ ∃ i σ' H', Inv X pins σ' H' s7 ∧ tn i s7.heap ∧ (∀ b ∈ fp, H' b = none) ∧ W i m σ' H' := fun {σ7 H7} I7 n7 => by
      obtain ⟨m', hm, w7⟩ := hN σ7 H7 n7
      refine ⟨m', hm, i + 1, σ7, H7, I7.unpinned, T.keep _ _ _ st5 fun b hb o e => (I7.pin (b, o) (List.mem_append_right _ (List.mem_append_right _ (mem_pinsAt hb e)))).1, fun b hb => ?_, w7⟩
      obtain ⟨o, e, d⟩ := T.obj _ _ st5 b hb
      exact (I7.pin (b, o) (List.mem_append_right _ (List.mem_append_right _ (mem_pinsAt hb e)))).2.1
    cases f with
    | next => obtain ⟨σ7, H7, I7, n7⟩ := q7; exact again I7 n7
    | cont => obtain ⟨σ7, H7, I7, n7⟩ := q7; exact again I7 n7
    | brk => obtain ⟨σ7, H7, I7, q7⟩ := q7; exact ⟨σ7, H7, I7.unpinned, q7⟩
    | ret v => obtain ⟨x7, σ7, H7, I7, r7, q7⟩ := q7; exact ⟨x7, σ7, H7, I7.unpinned, r7, q7⟩
end

/-! ### the forms one uses -/
/-- over a list that the body leaves as it is -/
theorem for_list {K : PySem.W.Frag} {a : Addr} {xs : List V} {g : TG} {tb : TS} {D : Ends} {σ : St} {H : Hp} (Pv : Nat → St → Hp → Prop) (h0 : Pv 0 σ H) (hl : ∀ i σ H, i ≤ xs.length → Pv i σ H → SqL K H a xs)
    (hs : ∀ i x σ H, xs[i]? = some x → Pv i σ H → g x σ H fun σ2 H2 => tb { D with nx := Pv (i + 1), ct := Pv (i + 1), bk := D.nx } σ2 H2) (hd : ∀ σ H, Pv xs.length σ H → D.nx σ H) :
    ∃ W : Nat → Nat → St → Hp → Prop, (∃ m, W 0 m σ H) ∧ ∀ i m σ H, W i m σ H →
      ((Itl K a).stop i H ∧ D.nx σ H) ∨ ((Itl K a).go i H ∧ ∃ N : St → Hp → Prop, (∀ σ' H', N σ' H' → ∃ m', m' < m ∧ W (i + 1) m' σ' H') ∧ ∀ x H', (Itl K a).yld i H x H' → g x σ H' fun σ2 H2 => tb { D with nx := N, ct := N, bk := D.nx } σ2 H2) := by
  refine ⟨fun i m σ H => m = xs.length - i ∧ i ≤ xs.length ∧ Pv i σ H, ⟨xs.length, by simp, Nat.zero_le _, h0⟩, ?_⟩
  rintro i m σ H ⟨rfl, hi, p⟩
  have q := hl i σ H hi p
  by_cases hlt : i < xs.length
  · refine .inr ⟨⟨xs, xs[i], q, by simp [hlt]⟩, Pv (i + 1), fun σ' H' p' => ⟨xs.length - (i + 1), by omega, rfl, hlt, p'⟩, fun x H' y => ?_⟩
    obtain ⟨e, y⟩ := y
    subst e
    exact hs i x σ _ (y xs q) p
  · have e : i = xs.length := by omega
    subst e
    exact .inl ⟨⟨xs, q, Nat.le_refl _⟩, hd σ H p⟩
theorem for_range {lo : Int} {n : Nat} {g : TG} {tb : TS} {D : Ends} {σ : St} {H : Hp} (Pv : Nat → St → Hp → Prop) (h0 : Pv 0 σ H)
    (hs : ∀ i σ H, i < n → Pv i σ H → g (.int (lo + i)) σ H fun σ2 H2 => tb { D with nx := Pv (i + 1), ct := Pv (i + 1), bk := D.nx } σ2 H2) (hd : ∀ σ H, Pv n σ H → D.nx σ H) :
    ∃ W : Nat → Nat → St → Hp → Prop, (∃ m, W 0 m σ H) ∧ ∀ i m σ H, W i m σ H →
      ((Itr lo n).stop i H ∧ D.nx σ H) ∨ ((Itr lo n).go i H ∧ ∃ N : St → Hp → Prop, (∀ σ' H', N σ' H' → ∃ m', m' < m ∧ W (i + 1) m' σ' H') ∧ ∀ x H', (Itr lo n).yld i H x H' → g x σ H' fun σ2 H2 => tb { D with nx := N, ct := N, bk := D.nx } σ2 H2) := by
  refine ⟨fun i m σ H => m = n - i ∧ i ≤ n ∧ Pv i σ H, ⟨n, by simp, Nat.zero_le _, h0⟩, ?_⟩
  rintro i m σ H ⟨rfl, hi, p⟩
  by_cases hlt : i < n
  · refine .inr ⟨hlt, Pv (i + 1), fun σ' H' p' => ⟨n - (i + 1), by omega, rfl, hlt, p'⟩, fun x H' y => ?_⟩
    obtain ⟨e, y⟩ := y
    subst e y
    exact hs i σ _ hlt p
  · have e : i = n := by omega
    subst e
    exact .inl ⟨Nat.le_refl _, hd σ H p⟩
end L2

namespace L2
open PySem PySem.Spec PyProof.Rows

abbrev R2 := V → V → Hp → VK → Prop
/-- a two-place operation on values: f is binaryOp op, inplaceOp op or compareOp op -/
def OpR (X : Cx) (f : Value → Value → Sem Value) (r : R2) : Prop :=
  ∀ (pins : List (Addr × Obj)) (s : Shared) (σ : St) (H : Hp) (x y : V) (v u : Value) (Q : VK), Inv X pins σ H s → RelV x v → RelV y u → r x y H Q →
    wpAny (model X.prog X.w) X.A (f v u) (EP X pins σ Q) X.xe s
/-- a one-place operation -/
def UnR (X : Cx) (f : Value → Sem Value) (r : V → Hp → VK → Prop) : Prop :=
  ∀ (pins : List (Addr × Obj)) (s : Shared) (σ : St) (H : Hp) (x : V) (v : Value) (Q : VK), Inv X pins σ H s → RelV x v → r x H Q →
    wpAny (model X.prog X.w) X.A (f v) (EP X pins σ Q) X.xe s
/-- a call of a value that is known (a builtin, a type) with values -/
def CallR (X : Cx) (f : Value) (r : List V → Hp → VK → Prop) : Prop :=
  ∀ (pins : List (Addr × Obj)) (s : Shared) (σ : St) (H : Hp) (xs : List V) (us : List Value) (Q : VK), Inv X pins σ H s → Vals xs us → r xs H Q →
    wpAny (model X.prog X.w) X.A (call f us) (EP X pins σ Q) X.xe s
/-- a value's truth -/
def TruR (X : Cx) (r : V → Hp → (Bool → Hp → Prop) → Prop) : Prop :=
  ∀ (pins : List (Addr × Obj)) (s : Shared) (σ : St) (H : Hp) (x : V) (v : Value) (Q : Bool → Hp → Prop), Inv X pins σ H s → RelV x v → r x H Q →
    wpAny (model X.prog X.w) X.A (truthy v) (TP X pins σ Q) X.xe s

def tOp (r : R2) (ta tb : TE) : TE := fun σ H Q => ta σ H fun x H1 => tb σ H1 fun y H2 => r x y H2 Q
def tUn (r : V → Hp → VK → Prop) (ta : TE) : TE := fun σ H Q => ta σ H fun x H1 => r x H1 Q
/-- ints in, under C, and a value out -/
def rI (C : Int → Int → Prop) (g : Int → Int → V) : R2 := fun x y H Q => ∃ i j, x = .int i ∧ y = .int j ∧ C i j ∧ Q (g i j) H
def rI0 (g : Int → Int → V) : R2 := fun x y H Q => ∃ i j, x = .int i ∧ y = .int j ∧ Q (g i j) H
def rU (g : Int → V) : V → Hp → VK → Prop := fun x H Q => ∃ i, x = .int i ∧ Q (g i) H

section
variable {X : Cx} {a b c : Expr} {ta tb tc : TE} {pos : Pos}

theorem binT (ha : PE X a ta) (hb : PE X b tb) {pins : List (Addr × Obj)} {s : Shared} {σ : St} {H : Hp} {R : V → V → Hp → Prop} (I : Inv X pins σ H s)
    (h : ta σ H fun x H1 => tb σ H1 fun y H2 => R x y H2) {Q : Value → Shared → Prop} {f : Value → Value → Sem Value}
    (hf : ∀ v u s2 x y H2, Inv X pins σ H2 s2 → RelV x v → RelV y u → R x y H2 → wpAny (model X.prog X.w) X.A (f v u) Q X.xe s2) :
    wpAny (model X.prog X.w) X.A (eval a X.env) (fun v s₁ => wpAny (model X.prog X.w) X.A (eval b X.env) (fun u s₂ => wpAny (model X.prog X.w) X.A (f v u) Q X.xe s₂) X.xe s₁) X.xe s := by
  refine thn (ha pins s σ H _ I h) fun v s1 ⟨x, H1, I1, r1, q1⟩ => ?_
  refine thn (hb pins s1 σ H1 _ I1 q1) fun u s2 ⟨y, H2, I2, r2, q2⟩ => ?_
  exact hf v u s2 x y H2 I2 r1 r2 q2

theorem pe_op {op : Operator} {r : R2} (ho : OpR X (binaryOp op) r) (ha : PE X a ta) (hb : PE X b tb) : PE X (.BinOp a op b pos) (tOp r ta tb) := by
  intro pins s σ H Q I h
  exact wpAny_BinOp (binT ha hb I h fun v u s2 x y H2 I2 rx ry q => ho pins s2 σ H2 x y v u Q I2 rx ry q)
theorem pe_un {op : UnaryOp} {r : V → Hp → VK → Prop} (ho : UnR X (unaryOp op) r) (ha : PE X a ta) : PE X (.UnaryOp op a pos) (tUn r ta) := by
  intro pins s σ H Q I h
  exact UnaryOp_ (thn (ha pins s σ H _ I h) fun v s1 ⟨x, H1, I1, r1, q1⟩ => ho pins s1 σ H1 x v Q I1 r1 q1)
/-! ### ints -/
theorem opI {f : Value → Value → Sem Value} {C : Int → Int → Prop} {g : Int → Int → Int}
    (rule : ∀ (i j : Int) (t u : Tok) (s : Shared) (Q : Value → Shared → Prop) (E : Value → Shared → Prop), C i j → Q (.int (g i j) s.toks) { s with toks := s.toks + 1 } → wpAny (model X.prog X.w) X.A (f (.int i t) (.int j u)) Q E s) :
    OpR X f (rI C fun i j => .int (g i j)) := by
  intro pins s σ H x y v u Q I rx ry h
  obtain ⟨i, j, rfl, rfl, hc, q⟩ := h
  obtain ⟨t, rfl⟩ := rx
  obtain ⟨t', rfl⟩ := ry
  exact rule i j t t' s _ _ hc ⟨.int (g i j), H, I.tok _, ⟨_, rfl⟩, q⟩
theorem opI0 {f : Value → Value → Sem Value} {g : Int → Int → Int}
    (rule : ∀ (i j : Int) (t u : Tok) (s : Shared) (Q : Value → Shared → Prop) (E : Value → Shared → Prop), Q (.int (g i j) s.toks) { s with toks := s.toks + 1 } → wpAny (model X.prog X.w) X.A (f (.int i t) (.int j u)) Q E s) :
    OpR X f (rI0 fun i j => .int (g i j)) := by
  intro pins s σ H x y v u Q I rx ry h
  obtain ⟨i, j, rfl, rfl, q⟩ := h
  obtain ⟨t, rfl⟩ := rx
  obtain ⟨t', rfl⟩ := ry
  exact rule i j t t' s _ _ ⟨.int (g i j), H, I.tok _, ⟨_, rfl⟩, q⟩
theorem opB0 {f : Value → Value → Sem Value} {g : Int → Int → Bool}
    (rule : ∀ (i j : Int) (t u : Tok) (s : Shared) (Q : Value → Shared → Prop) (E : Value → Shared → Prop), Q (.bool (g i j)) s → wpAny (model X.prog X.w) X.A (f (.int i t) (.int j u)) Q E s) :
    OpR X f (rI0 fun i j => .bl (g i j)) := by
  intro pins s σ H x y v u Q I rx ry h
  obtain ⟨i, j, rfl, rfl, q⟩ := h
  obtain ⟨t, rfl⟩ := rx
  obtain ⟨t', rfl⟩ := ry
  exact rule i j t t' s _ _ ⟨.bl (g i j), H, I, rfl, q⟩

def CDiv (i j : Int) : Prop := 0 < j ∧ j < 1073741824
def CDivN (i j : Int) : Prop := j ≠ 0 ∧ j.natAbs < 1073741824
def CPow (i j : Int) : Prop := 0 ≤ j ∧ j ≤ 1000000 ∧ i.natAbs < 2 ^ 64
def CMul (i j : Int) : Prop := (-(2 ^ 64) < i ∧ i < 2 ^ 64) ∨ (-(2 ^ 64) < j ∧ j < 2 ^ 64)
theorem CMul.ok {i j : Int} (h : CMul i j) : IntMulOk i j := by
  rcases h with ⟨h1, h2⟩ | ⟨h1, h2⟩
  · exact .of_left (intBits_le_64 h1 h2)
  · exact .of_right (intBits_le_64 h1 h2)
theorem op_add : OpR X (binaryOp .Add) (rI0 fun i j => .int (i + j)) := opI0 fun _ _ _ _ _ _ _ q => add_int q
theorem op_sub : OpR X (binaryOp .Sub) (rI0 fun i j => .int (i - j)) := opI0 fun _ _ _ _ _ _ _ q => sub_int q
theorem op_mul : OpR X (binaryOp .Mult) (rI CMul fun i j => .int (i * j)) := opI fun _ _ _ _ _ _ _ hc q => mul_int q hc.ok
/-- // by a positive divisor -/
theorem op_fdiv : OpR X (binaryOp .FloorDiv) (rI CDiv fun i j => .int (i / j)) := opI fun i j _ _ _ _ _ hc q => by
  have h1 : (0 : Int) < j := hc.1
  have h2 : j < 1073741824 := hc.2
  exact floordiv_int (by omega) (by rw [Int.fdiv_eq_ediv_of_nonneg i (by omega)]; exact q) (.inl (PyProof.noPylong_small (by omega)))
/-- % by a positive divisor of any size -/
theorem op_mod : OpR X (binaryOp .Mod) (rI (fun _ j => 0 < j) fun i j => .int (i % j)) := opI fun i j _ _ _ _ _ hc q => by
  have h1 : (0 : Int) < j := hc
  exact mod_int' (by omega) (by rw [Int.fmod_eq_emod_of_nonneg i (by omega)]; exact q)
theorem op_pow : OpR X (binaryOp .Pow) (rI CPow fun i j => .int (i ^ j.toNat)) := opI fun _ _ _ _ _ _ _ hc q => pow_int_small hc.1 hc.2.1 hc.2.2 q
theorem unI {f : Value → Sem Value} {g : Int → Int}
    (rule : ∀ (i : Int) (t : Tok) (s : Shared) (Q : Value → Shared → Prop) (E : Value → Shared → Prop), Q (.int (g i) s.toks) { s with toks := s.toks + 1 } → wpAny (model X.prog X.w) X.A (f (.int i t)) Q E s) :
    UnR X f (rU fun i => .int (g i)) := by
  intro pins s σ H x v Q I rx h
  obtain ⟨i, rfl, q⟩ := h
  obtain ⟨t, rfl⟩ := rx
  exact rule i t s _ _ ⟨.int (g i), H, I.tok _, ⟨_, rfl⟩, q⟩
theorem un_neg : UnR X (unaryOp .USub) (rU fun i => .int (-i)) := unI fun _ _ _ _ _ q => neg_int q
/-! ### bools among ints: n += (a < b) -/
end

/-! ### comparisons -/
/-- the scalars that == tells apart as data does -/
def scal : V → V → Bool
  | .non, .non => true | .non, .int _ => true | .int _, .non => true | .non, .bl _ => true | .bl _, .non => true | .non, .str _ => true | .str _, .non => true
  | .int _, .int _ => true | .bl _, .bl _ => true | .str _, .str _ => true | .byt _, .byt _ => true
  | .int _, .str _ => true | .str _, .int _ => true | .bl _, .str _ => true | .str _, .bl _ => true
  | _, _ => false
def rEq : R2 := fun x y H Q => scal x y = true ∧ Q (.bl (decide (x = y))) H
def rNe : R2 := fun x y H Q => scal x y = true ∧ Q (.bl (!decide (x = y))) H

theorem dec_int {i j : Int} : decide (V.int i = V.int j) = (i == j) := by
  rw [Bool.eq_iff_iff]
  simp
theorem dec_bl {i j : Bool} : decide (V.bl i = V.bl j) = (i == j) := by
  rw [Bool.eq_iff_iff]
  simp
theorem dec_str {i j : Str} : decide (V.str i = V.str j) = (i == j) := by
  rw [Bool.eq_iff_iff]
  simp
theorem dec_byt {i j : Array UInt8} : decide (V.byt i = V.byt j) = (i.toList == j.toList) := by
  rw [Bool.eq_iff_iff]
  cases i
  cases j
  simp

section
variable {X : Cx} {a b c : Expr} {ta tb tc : TE} {pos : Pos}
theorem fin_bl {pins : List (Addr × Obj)} {σ : St} {H : Hp} {s : Shared} {Q : VK} {k k' : Bool} (I : Inv X pins σ H s) (q : Q (.bl k) H) (e : k = k') : EP X pins σ Q (.bool k') s := by
  subst e
  exact ⟨.bl k, H, I, rfl, q⟩
theorem op_eq : OpR X (compareOp .Eq) rEq := by
  intro pins s σ H x y v u Q I rx ry h
  obtain ⟨hs, q⟩ := h
  cases x with
  | non =>
    cases rx
    cases y with
    | non => cases ry; exact PySem.EqNone.eq_none_none (fin_bl I q (by simp))
    | bl j => cases ry; exact PySem.EqNone.eq_none_bool (fin_bl I q (by simp))
    | int j => obtain ⟨t', rfl⟩ := ry; exact PySem.EqNone.eq_none_int (fin_bl I q (by simp))
    | str j => obtain ⟨t', rfl⟩ := ry; exact PySem.EqNone.eq_none_str (fin_bl I q (by simp))
    | _ => exact absurd (show false = true from hs) Bool.false_ne_true
  | bl i =>
    cases rx
    cases y with
    | non => cases ry; exact PySem.EqNone.eq_bool_none (fin_bl I q (by simp))
    | bl j => cases ry; exact eq_bool (fin_bl I q dec_bl)
    | str j => obtain ⟨t', rfl⟩ := ry; exact PySem.EqMixed.eq_bool_str (fin_bl I q (by simp))
    | _ => exact absurd (show false = true from hs) Bool.false_ne_true
  | int i =>
    obtain ⟨t, rfl⟩ := rx
    cases y with
    | non => cases ry; exact PySem.EqNone.eq_int_none (fin_bl I q (by simp))
    | int j => obtain ⟨t', rfl⟩ := ry; exact eq_int (fin_bl I q dec_int)
    | str j => obtain ⟨t', rfl⟩ := ry; exact PySem.EqMixed.eq_int_str (fin_bl I q (by simp))
    | _ => exact absurd (show false = true from hs) Bool.false_ne_true
  | str i =>
    obtain ⟨t, rfl⟩ := rx
    cases y with
    | non => cases ry; exact PySem.EqNone.eq_str_none (fin_bl I q (by simp))
    | bl j => cases ry; exact PySem.EqMixed.eq_str_bool (fin_bl I q (by simp))
    | int j => obtain ⟨t', rfl⟩ := ry; exact PySem.EqMixed.eq_str_int (fin_bl I q (by simp))
    | str j => obtain ⟨t', rfl⟩ := ry; exact eq_str (fin_bl I q dec_str)
    | _ => exact absurd (show false = true from hs) Bool.false_ne_true
  | byt i =>
    obtain ⟨t, rfl⟩ := rx
    cases y with
    | byt j => obtain ⟨t', rfl⟩ := ry; exact PySem.W.eq_bytes (fin_bl I q dec_byt)
    | _ => exact absurd (show false = true from hs) Bool.false_ne_true
  | _ => cases y <;> exact absurd (show false = true from hs) Bool.false_ne_true
theorem op_ne : OpR X (compareOp .NotEq) rNe := by
  intro pins s σ H x y v u Q I rx ry h
  obtain ⟨hs, q⟩ := h
  cases x with
  | non =>
    cases rx
    cases y with
    | non => cases ry; exact PySem.EqNone.ne_none_none (fin_bl I q (by simp))
    | bl j => cases ry; exact PySem.EqNone.ne_none_bool (fin_bl I q (by simp))
    | int j => obtain ⟨t', rfl⟩ := ry; exact PySem.EqNone.ne_none_int (fin_bl I q (by simp))
    | str j => obtain ⟨t', rfl⟩ := ry; exact PySem.EqNone.ne_none_str (fin_bl I q (by simp))
    | _ => exact absurd (show false = true from hs) Bool.false_ne_true
  | bl i =>
    cases rx
    cases y with
    | non => cases ry; exact PySem.EqNone.ne_bool_none (fin_bl I q (by simp))
    | bl j => cases ry; exact ne_bool (fin_bl I q (congrArg not dec_bl))
    | str j => obtain ⟨t', rfl⟩ := ry; exact PySem.EqMixed.ne_bool_str (fin_bl I q (by simp))
    | _ => exact absurd (show false = true from hs) Bool.false_ne_true
  | int i =>
    obtain ⟨t, rfl⟩ := rx
    cases y with
    | non => cases ry; exact PySem.EqNone.ne_int_none (fin_bl I q (by simp))
    | int j => obtain ⟨t', rfl⟩ := ry; exact ne_int (fin_bl I q (congrArg not dec_int))
    | str j => obtain ⟨t', rfl⟩ := ry; exact PySem.EqMixed.ne_int_str (fin_bl I q (by simp))
    | _ => exact absurd (show false = true from hs) Bool.false_ne_true
  | str i =>
    obtain ⟨t, rfl⟩ := rx
    cases y with
    | non => cases ry; exact PySem.EqNone.ne_str_none (fin_bl I q (by simp))
    | bl j => cases ry; exact PySem.EqMixed.ne_str_bool (fin_bl I q (by simp))
    | int j => obtain ⟨t', rfl⟩ := ry; exact PySem.EqMixed.ne_str_int (fin_bl I q (by simp))
    | str j => obtain ⟨t', rfl⟩ := ry; exact ne_str (fin_bl I q (congrArg not dec_str))
    | _ => exact absurd (show false = true from hs) Bool.false_ne_true
  | byt i =>
    obtain ⟨t, rfl⟩ := rx
    cases y with
    | byt j => obtain ⟨t', rfl⟩ := ry; exact PySem.W.ne_bytes (fin_bl I q (congrArg not dec_byt))
    | _ => exact absurd (show false = true from hs) Bool.false_ne_true
  | _ => cases y <;> exact absurd (show false = true from hs) Bool.false_ne_true

theorem op_lt : OpR X (compareOp .Lt) (rI0 fun i j => .bl (decide (i < j))) := opB0 fun _ _ _ _ _ _ _ q => lt_int q
theorem op_gt : OpR X (compareOp .Gt) (rI0 fun i j => .bl (decide (j < i))) := opB0 fun _ _ _ _ _ _ _ q => gt_int q
theorem op_ge : OpR X (compareOp .GtE) (rI0 fun i j => .bl (decide (j ≤ i))) := opB0 fun _ _ _ _ _ _ _ q => ge_int q
theorem op_notN : OpR X (compareOp .IsNot) (fun x y H Q => y = .non ∧ Q (.bl (!decide (x = .non))) H) := by
  intro pins s σ H x y v u Q I rx ry h
  obtain ⟨rfl, q⟩ := h
  cases ry
  refine isnot_none_gen (fin_bl I q ?_)
  cases x <;> first
    | (cases rx; rfl)
    | (obtain ⟨t, rfl⟩ := rx; rfl)

/-- is, is not of two objects that are tracked lists or instances -/
def isObj : HO → Bool
  | .lst _ => true
  | .ins _ _ _ => true
  | _ => false
/-- two rules for one operation: by cases -/
theorem OpR.or {f : Value → Value → Sem Value} {r r' : R2} (h : OpR X f r) (h' : OpR X f r') : OpR X f (fun x y H Q => r x y H Q ∨ r' x y H Q) := by
  intro pins s σ H x y v u Q I rx ry q
  rcases q with q | q
  · exact h pins s σ H x y v u Q I rx ry q
  · exact h' pins s σ H x y v u Q I rx ry q

theorem nomark (b : Expr) {op : CmpOp} (h : op ≠ .In := by decide) (h2 : op ≠ .NotIn := by decide) : behindInMarks op b = false := by
  have e1 : (op == CmpOp.In) = false := by cases op <;> first | rfl | exact absurd rfl h
  have e2 : (op == CmpOp.NotIn) = false := by cases op <;> first | rfl | exact absurd rfl h2
  cases b <;> simp [behindInMarks, e1, e2]
/-- a comparison as a value; hm: nomark b, or (for in, not in) by with_unfolding_all rfl -/
theorem pe_cmpR {op : CmpOp} {r : R2} (ho : OpR X (compareOp op) r) (ha : PE X a ta) (hb : PE X b tb) (hm : behindInMarks op b = false) : PE X (.Compare a [op] [b] pos) (tOp r ta tb) := by
  intro pins s σ H Q I h
  exact wpAny_Compare1 (binT ha hb I h fun v u s2 x y H2 I2 rx ry q => ho pins s2 σ H2 x y v u Q I2 rx ry q) hm
/-- a reading of a value as a test -/
def tTest (t : TE) : TT := fun σ H Q => t σ H fun x H' => ∃ k, x = .bl k ∧ Q k H'
theorem pt_cmpR {op : CmpOp} {r : R2} (ho : OpR X (compareOp op) r) (ha : PE X a ta) (hb : PE X b tb) (hm : behindInMarks op b = false) : PT X (.Compare a [op] [b] pos) (tTest (tOp r ta tb)) := by
  intro pins s σ H Q I h
  refine wpAny_isTrue_Compare1 (thn (ha pins s σ H _ I h) fun v s1 ⟨x, H1, I1, r1, q1⟩ => thn (hb pins s1 σ H1 _ I1 q1) fun u s2 ⟨y, H2, I2, r2, q2⟩ =>
    thn (ho pins s2 σ H2 x y v u _ I2 r1 r2 q2) fun c s3 ⟨z, H3, I3, r3, k, e, q3⟩ => ?_) hm
  subst e
  cases r3
  exact wpAny_truthy_bool ⟨H3, I3, q3⟩
/-- a op1 b op2 c -/
def tChain (r r' : R2) (ta tb tc : TE) : TE := fun σ H Q => ta σ H fun x H1 => tb σ H1 fun y H2 => r x y H2 fun z H3 => ∃ k, z = .bl k ∧
  (if k = true then tc σ H3 fun w' H4 => r' y w' H4 Q else Q (.bl false) H3)
/-! ### truth -/
/-- a value's truth by the abstract heap -/
def TruV (K : PySem.W.Frag) (x : V) (H : Hp) (k : Bool) : Prop :=
  match x with
  | .non => k = false
  | .bl b => k = b
  | .int i => k = (i != 0)
  | .str y => y.length ≤ sizeLine ∧ k = ((y.length : Int) != 0)
  | .byt y => y.size ≤ sizeLine ∧ k = ((y.size : Int) != 0)
  | .ref p => (∃ xs, SqL K H p xs ∧ k = !xs.isEmpty) ∨ (∃ xs, SqT K H p xs ∧ k = !xs.isEmpty) ∨ ∃ kvs, H p = some (.dK kvs) ∧ k = !kvs.isEmpty
  | _ => False
theorem isEmpty_kv {κ : Type} {kvs : List (κ × V)} {vs : List (κ × Value)} (r : KV kvs vs) : (!vs.isEmpty) = !kvs.isEmpty := by
  cases r <;> rfl
theorem isEmpty_of {xs : List V} {its : List Value} (r : Vals xs its) : (!its.toArray.isEmpty) = !xs.isEmpty := by
  cases r <;> simp
theorem line63 : (sizeLine : Nat) < 2 ^ 63 := by rw [sizeLine_eq]; decide
theorem tru_ok : TruR X (fun x H Q => ∃ k, TruV X.K x H k ∧ Q k H) := by
  intro pins s σ H x v Q I rx h
  obtain ⟨k, e, q⟩ := h
  have hl := line63
  have hs : sizeLine = 16777216 := sizeLine_eq
  cases x with
  | non =>
    cases rx
    have e' : k = false := e
    subst e'
    exact truthy_none ⟨H, I, q⟩
  | bl b =>
    cases rx
    have e' : k = b := e
    subst e'
    exact wpAny_truthy_bool ⟨H, I, q⟩
  | int i =>
    obtain ⟨t, rfl⟩ := rx
    have e' : k = (i != 0) := e
    subst e'
    exact PySem.P.truthy_int ⟨H, I, q⟩
  | str y =>
    obtain ⟨t, rfl⟩ := rx
    obtain ⟨hy, e'⟩ : y.length ≤ sizeLine ∧ k = ((y.length : Int) != 0) := e
    subst e'
    exact PySem.P.truthy_str (by omega) ⟨H, I.tok _, q⟩
  | byt y =>
    obtain ⟨t, rfl⟩ := rx
    obtain ⟨hy, e'⟩ : y.size ≤ sizeLine ∧ k = ((y.size : Int) != 0) := e
    subst e'
    exact PySem.W.truthy_bytes (by omega) ⟨H, I.tok _, q⟩
  | ref p =>
    cases rx
    have e' : (∃ xs, SqL X.K H p xs ∧ k = !xs.isEmpty) ∨ (∃ xs, SqT X.K H p xs ∧ k = !xs.isEmpty) ∨ ∃ kvs, H p = some (.dK kvs) ∧ k = !kvs.isEmpty := e
    rcases e' with ⟨xs, hx, e'⟩ | ⟨xs, hx, e'⟩ | ⟨kvs, hx, e'⟩
    · subst e'
      obtain ⟨its, r, pl, hz⟩ := I.list hx
      have hlen := r.length
      exact wpAny_truthy_list pl.isList (by simp only [List.size_toArray]; omega) ⟨H, I.tok _, by rw [isEmpty_of r]; exact q⟩
    · subst e'
      obtain ⟨its, r, pl, hz⟩ := I.tuple hx
      have hlen := r.length
      exact truthy_tuple pl (by simp only [List.size_toArray]; omega) ⟨H, I.tok _, by rw [isEmpty_of r]; exact q⟩
    · subst e'
      obtain ⟨hz, hS, vs, r, m⟩ : kvs.length ≤ sizeLine ∧ (p == sysModules) = false ∧ ∃ vs, KV kvs vs ∧ s.heap.DictOf (mixKind X.prog X.w) p vs := I.hok p _ hx
      have hlen : kvs.length = vs.length := Paired.length r
      exact wpAny_truthy_dict hS m (by omega) ⟨H, I.tok _, by rw [isEmpty_kv r]; exact q⟩
  | _ => exact (show False from e).elim
/-! ### strs and bytes -/
def PlainIxT (b : Expr) : Prop := ∀ o i, subscripted b false o i = operate [o, i] (getItem o i)
/-! ### scalar builtins, by CallR -/
theorem vals1 {x : V} {us : List Value} (r : Vals [x] us) : ∃ u, us = [u] ∧ RelV x u := by
  cases r with
  | cons r1 r2 => cases r2; exact ⟨_, rfl, r1⟩
theorem vals2 {x y : V} {us : List Value} (r : Vals [x, y] us) : ∃ u w', us = [u, w'] ∧ RelV x u ∧ RelV y w' := by
  cases r with
  | cons r1 r2 =>
    cases r2 with
    | cons r3 r4 => cases r4; exact ⟨_, _, rfl, r1, r3⟩
theorem call_min2 (hc : X.calm = true) : CallR X (.builtin "min") (fun xs H Q => ∃ i j, xs = [.int i, .int j] ∧ Q (.int (if j < i then j else i)) H) := by
  intro pins s σ H xs us Q I r h
  obtain ⟨i, j, rfl, q⟩ := h
  obtain ⟨u, w', rfl, ⟨t, rfl⟩, ⟨t', rfl⟩⟩ := vals2 r
  refine min_two_ints (I.ok.hd hc) fun h' tk k => ⟨_, H, I.kept k, ?_, q⟩
  by_cases hj : j < i
  · rw [if_pos hj, if_pos hj]; exact ⟨_, rfl⟩
  · rw [if_neg hj, if_neg hj]; exact ⟨_, rfl⟩
/-- len of a str, a bytes, a list, a tuple -/
def LenV (K : PySem.W.Frag) (x : V) (H : Hp) (n : Nat) : Prop :=
  match x with
  | .str y => y.length ≤ sizeLine ∧ n = y.length
  | .byt y => y.size ≤ sizeLine ∧ n = y.size
  | .ref p => (∃ xs, SqL K H p xs ∧ n = xs.length) ∨ ∃ xs, SqT K H p xs ∧ n = xs.length
  | _ => False
end
end L2

namespace L2
open PySem PySem.Spec PyProof.Rows

/-! ### an instance, its attributes a map -/
structure ObjM (h : Heap) (x dx C : Addr) (mA : Str → Option Value) : Prop where
  obj : h.get? x = some (PySem.W.instObj C dx)
  ns : h.Ns1 dx mA
  ne : dx ≠ x

section
variable {prog : Program} {w : World} {A : Around} {E : Value → Shared → Prop} {s : Shared} {K : PySem.W.Frag} {x dx C f : Addr} {mA : Str → Option Value} {name : Str} {v : Value}

end

/-! ### the attributes as a list of pairs -/
def putF (f : Str) (v : V) : List (Str × V) → List (Str × V)
  | [] => [(f, v)]
  | (g, x) :: r => if g = f then (g, v) :: r else (g, x) :: putF f v r
theorem RelO.some_of {v : V} {o : Option Value} (r : RelO (some v) o) : ∃ u, o = some u ∧ RelV v u := by
  cases o with
  | none => exact (show False from r).elim
  | some u => exact ⟨u, rfl, r⟩
theorem RelO.none_of {o : Option Value} (r : RelO none o) : o = none := by
  cases o with
  | none => rfl
  | some u => exact (show False from r).elim
section
variable {P : Program} {w : World} {H H' : Hp} {h h' : Heap} {a C dx : Addr} {fs fs' : List (Str × V)}
end

/-! ### what of the text a class must have -/
structure Cls (K : PySem.W.Frag) (C : Addr) : Prop where
  pg : PySem.W.plainGet K C Str.empty = true
  hd : PySem.W.hasDictIn K C = true
  po : PySem.W.plainOver K C = true
  sa : PySem.W.findIn K (.ref C) "__setattr__" = some (some (.builtin "object.__setattr__"))
theorem Cls.get {K : PySem.W.Frag} {C : Addr} (c : Cls K C) (f : Str) : PySem.W.plainGet K C f = true := c.pg
/-- no class of it has the name -/
def NoAttr (K : PySem.W.Frag) (C : Addr) (f : Str) : Prop := PySem.W.findIn K (.ref C) f = some none
/-- a constant of the class -/
structure Con (K : PySem.W.Frag) (C : Addr) (f : Str) (v : V) (u : Value) : Prop where
  at_ : PySem.W.findIn K (.ref C) f = some (some u)
  rel : RelV v u
  get : PySem.W.specialIn K u "__get__" = some none
  cp : PySem.W.copiedNames.contains f = false
/-- a method: a plain def of the class or of one above it -/
structure Meth (K : PySem.W.Frag) (C : Addr) (m : Str) (f : Addr) : Prop where
  at_ : PySem.W.findIn K (.ref C) m = some (some (.ref f))
  fn : PySem.W.isFn K (.ref f) = true
  kp : PySem.W.keepIn K (.ref f) = true

section
variable {X : Cx} {pins : List (Addr × Obj)} {σ : St} {H : Hp} {s : Shared} {a C dx : Addr} {fs : List (Str × V)} {f : Str} {v : V} {A : Around} {E : Value → Shared → Prop}

/-- a new instance, tracked, without attributes -/
theorem Inv.made (I : Inv X pins σ H s) : Inv X pins σ (upd (upd H s.heap.objs.size (.own (s.heap.objs.size + 1))) (s.heap.objs.size + 1) (.ins C s.heap.objs.size []))
    { s with heap := (s.heap.push PySem.W.emptyDict).push (PySem.W.instObj C s.heap.objs.size) } := by
  have e1 : (s.heap.push PySem.W.emptyDict).get? s.heap.objs.size = some PySem.W.emptyDict := Heap.get?_push_size s.heap rfl
  have e2 : ((s.heap.push PySem.W.emptyDict).push (PySem.W.instObj C s.heap.objs.size)).get? (s.heap.objs.size + 1) = some (PySem.W.instObj C s.heap.objs.size) := by
    have := Heap.get?_push_size (s.heap.push PySem.W.emptyDict) (o := PySem.W.instObj C s.heap.objs.size) rfl
    rwa [Heap.size_push] at this
  have e3 : (s.heap.push PySem.W.emptyDict).Ns s.heap.objs.size (fun _ => none) := ⟨PySem.W.emptyDict, #[], _, e1, rfl, (fun e he => absurd he (by simp)), fun _ => rfl⟩
  have I1 := I.laid (a := s.heap.objs.size) (o := .own (s.heap.objs.size + 1)) (h' := s.heap.push PySem.W.emptyDict) (t' := s.toks) (fun b u q => Heap.get?_push_of_some _ q) (Nat.le_refl _) ⟨_, e1⟩
  refine I1.laid (a := s.heap.objs.size + 1) (o := .ins C s.heap.objs.size []) (t' := s.toks) (fun b u q => Heap.get?_push_of_some _ q) (Nat.le_of_eq (Heap.size_push _ _)) ?_
  have ne : s.heap.objs.size ≠ s.heap.objs.size + 1 := Nat.ne_of_lt (Nat.lt_succ_self _)
  refine ⟨by rw [upd_ne ne, upd_same], Nat.zero_le _, ne, e2, fun _ => none, (Heap.Ns1.of_empty e3).at fun o q => Heap.get?_push_of_some _ q, fun _ => True.intro, fun y hy => absurd rfl hy⟩

end

/-! ### readings and rules -/
/-- e.f, an attribute of the instance -/
def tFld (K : PySem.W.Frag) (ta : TE) (f : Str) : TE := fun σ H Q => ta σ H fun x H1 => ∃ a C dx fs v, x = .ref a ∧ H1 a = some (.ins C dx fs) ∧ Cls K C ∧ NoAttr K C f ∧ fs.lookup f = some v ∧ Q v H1
/-- e.f, a constant of the class -/
def tCon (K : PySem.W.Frag) (ta : TE) (f : Str) : TE := fun σ H Q => ta σ H fun x H1 => ∃ a C dx fs v u, x = .ref a ∧ H1 a = some (.ins C dx fs) ∧ Cls K C ∧ Con K C f v u ∧ fs.lookup f = none ∧ Q v H1
/-- e.f = value -/
def sFld (K : PySem.W.Frag) (ta tv : TE) (f : Str) : TS := fun D σ H => tv σ H fun y H1 => ta σ H1 fun x H2 => ∃ a C dx fs, x = .ref a ∧ H2 a = some (.ins C dx fs) ∧ Cls K C ∧ NoAttr K C f ∧ fs.length < 1000 ∧
  D.nx σ (upd H2 a (.ins C dx (putF f y fs)))
/-- an augmented operator on two values -/
def InOp (X : Cx) (op : Operator) (rd : V → V → Hp → VK → Prop) : Prop :=
  ∀ (pins : List (Addr × Obj)) (s : Shared) (σ : St) (H : Hp) (x y : V) (u v : Value) (Q : VK), Inv X pins σ H s → RelV x u → RelV y v → rd x y H Q → wpAny (model X.prog X.w) X.A (inplaceOp op u v) (EP X pins σ Q) X.xe s
/-- e.f op= value -/
def sFldAug (K : PySem.W.Frag) (ta tv : TE) (rd : V → V → Hp → VK → Prop) (f : Str) : TS := fun D σ H => ta σ H fun x H1 => ∃ a C dx fs v, x = .ref a ∧ H1 a = some (.ins C dx fs) ∧ Cls K C ∧ NoAttr K C f ∧ fs.lookup f = some v ∧
  tv σ H1 fun y H2 => rd v y H2 fun z H3 => ∃ dx' fs', H3 a = some (.ins C dx' fs') ∧ fs'.length < 1000 ∧ D.nx σ (upd H3 a (.ins C dx' (putF f z fs')))

section
variable {X : Cx} {o e value : Expr} {f : Str} {pos pos' tpos : Pos} {ta tv : TE}
def rAdd : V → V → Hp → VK → Prop := fun x y H Q => ∃ i j, x = .int i ∧ y = .int j ∧ Q (.int (i + j)) H
def rSub : V → V → Hp → VK → Prop := fun x y H Q => ∃ i j, x = .int i ∧ y = .int j ∧ Q (.int (i - j)) H
end

/-! ### isinstance -/
section
variable {X : Cx} {pins : List (Addr × Obj)} {σ : St} {H : Hp} {s : Shared} {A : Around} {E : Value → Shared → Prop} {Q : Value → Shared → Prop} {c : Value} {b : Bool}
/-- the type of a value, as the fragment's deciders take it; for an instance its class -/
inductive TyOf (K : PySem.W.Frag) (H : Hp) : V → Value → Prop where
  | non : TyOf K H .non (.type "NoneType")
  | bl (x : Bool) : TyOf K H (.bl x) (.type "bool")
  | int (i : Int) : TyOf K H (.int i) (.type "int")
  | str (x : Str) : TyOf K H (.str x) (.type "str")
  | flt (x : UInt64) : TyOf K H (.flt x) (.type "float")
  | lst {a : Addr} {xs : List V} (e : H a = some (.lst xs)) : TyOf K H (.ref a) (.type "list")
  | frz {a : Addr} {o : Obj} {xs : List V} (e : H a = some (.frz o (.lst xs))) : TyOf K H (.ref a) (.type "list")
  | tup {a : Addr} {xs : List V} (e : H a = some (.tup xs)) : TyOf K H (.ref a) (.type "tuple")
  | dK {a : Addr} {kvs : List (Key × V)} (e : H a = some (.dK kvs)) : TyOf K H (.ref a) (.type "dict")
  | dT {a : Addr} {kvs : List (List Key × V)} (e : H a = some (.dT kvs)) : TyOf K H (.ref a) (.type "dict")
  | ins {a C dx : Addr} {fs : List (Str × V)} (e : H a = some (.ins C dx fs)) (cl : Cls K C) (ha : PySem.W.findIn K (.ref C) "__class__" = some (some (.builtin "object.__class__")))
      (hn : PySem.W.specialIn K (.builtin "object.__class__") "__get__" = some (some (.builtin "getset_descriptor.__get__"))) (htk : PySem.W.takesIn K (.builtin "object.__class__") = some true)
      (hm : PySem.W.mroIn K C (.type "object") = some true) : TyOf K H (.ref a) (.ref C)
end
end L2

namespace L2
open PySem PySem.Spec PyProof.Rows

/-! ### room -/
structure Room (k : Nat) (A : Around) : Prop where
  hd : A.handled = none
  dp : A.depth + 3 * k + 5 < recursionLimit
  un : A.units + 16 * k + 200 < cLine
theorem Room.mono {j k : Nat} {A : Around} (r : Room k A) (h : j ≤ k) : Room j A := ⟨r.hd, by have := r.dp; omega, by have := r.un; omega⟩
theorem Room.deeper {k : Nat} {A : Around} (r : Room (k + 1) A) (env : Env) : Room k (A.deeper env) :=
  ⟨r.hd, by have := r.dp; show A.depth + 1 + 3 * k + 5 < _; omega, by have := r.un; show A.units + 3 + 16 * k + 200 < _; omega⟩
theorem Room.in1 {k : Nat} {A : Around} (r : Room (k + 1) A) : Room k A.in1 :=
  ⟨r.hd, by have := r.dp; show A.depth + 3 * k + 5 < _; omega, by have := r.un; show A.units + 1 + 16 * k + 200 < _; omega⟩
theorem make_depth {A : Around} {C : Addr} {us : List Value} {kw : List (Str × Value)} : (A.under (.builtin "type.__call__" ⟨.ref C :: us, kw⟩)).depth = A.depth + 1 := by
  first | rfl | simp [Around.under, Code.weight, Code.isCreation, Code.isGuard, Code.isCaller, Code.frames, Code.isFrame, guardIds]
theorem make_units {A : Around} {C : Addr} {us : List Value} {kw : List (Str × Value)} : (A.under (.builtin "type.__call__" ⟨.ref C :: us, kw⟩)).units = A.units + 1 := by
  first | rfl | simp [Around.under, Code.cUnits, Code.frames, Code.isFrame]
theorem Room.make {k : Nat} {A : Around} (r : Room (k + 1) A) (C : Addr) (us : List Value) (kw : List (Str × Value)) : Room k (A.under (.builtin "type.__call__" ⟨.ref C :: us, kw⟩)) :=
  ⟨r.hd, by have := r.dp; rw [make_depth]; omega, by have := r.un; rw [make_units]; omega⟩
theorem Room.depth {k : Nat} {A : Around} (r : Room k A) : A.depth < recursionLimit := by have := r.dp; omega
theorem Room.units {k : Nat} {A : Around} (r : Room k A) : A.units + 64 < cLine := by have := r.un; omega
/-! ### argument lists and displays -/
def tNil : TA := fun _ H Q => Q [] H
def tCons (ta : TE) (tr : TA) : TA := fun σ H Q => ta σ H fun x H1 => tr σ H1 fun xs H2 => Q (x :: xs) H2
section
variable {X : Cx} {e : Expr} {es : List Expr} {te : TE} {t : TA} {pos : Pos}
theorem pa_nil : PA X [] tNil := fun _ _ _ _ H Q I h => Calls.spliced_nil ⟨[], H, I, .nil, h⟩
theorem pa_cons (ha : PE X e te) (hr : PA X es t) (hs : starEach (e :: es) X.env = (false, eval e X.env) :: starEach es X.env := by rfl) : PA X (e :: es) (tCons te t) := by
  intro pos pins s σ H Q I h
  rw [hs]
  show wpAny _ _ (spliced ((false, eval e X.env) :: backTo pos (starEach es X.env))) _ _ s
  refine Calls.spliced_cons (thn (ha pins s σ H _ I h) fun u s1 ⟨x, H1, I1, r1, q1⟩ => ?_)
  exact thn (hr pos pins s1 σ H1 _ I1 q1) fun us s2 ⟨xs, H2, I2, r2, q2⟩ => ⟨x :: xs, H2, I2, .cons r1 r2, q2⟩

/-- a tuple, a list of written items -/
def tTup (t : TA) : TE := fun σ H Q => t σ H fun xs H1 => xs.length ≤ sizeLine ∧ ∀ p, H1 p = none → Q (.ref p) (upd H1 p (.tup xs))
def tLst (t : TA) : TE := fun σ H Q => t σ H fun xs H1 => xs.length ≤ sizeLine ∧ ∀ p, H1 p = none → Q (.ref p) (upd H1 p (.lst xs))
theorem pe_tup {x1} (h : PA X es t) : PE X (.Tuple es x1 pos) (tTup t) := by
  intro pins s σ H Q I hq
  refine wpAny_Tuple_spliced (thn (h pos pins s σ H _ I hq) fun us s1 ⟨xs, H1, I1, r, z, q⟩ => ⟨by rw [← r.length]; exact z, ?_⟩)
  have hf : H1 s1.heap.objs.size = none := I1.hok.fresh (Nat.le_refl _)
  refine ⟨.ref s1.heap.objs.size, upd H1 s1.heap.objs.size (.tup xs), I1.laid (t' := s1.toks) (fun b u e => Heap.get?_push_of_some _ e) (Nat.le_refl _) ?_, rfl, q _ hf⟩
  exact ⟨z, us, r, ⟨_, Heap.get?_push_size _ rfl, rfl, _, rfl⟩⟩
theorem pe_lst (h : PA X es t) : PE X (.List es pos) (tLst t) := by
  intro pins s σ H Q I hq
  refine wpAny_List_spliced (thn (h pos pins s σ H _ I hq) fun us s1 ⟨xs, H1, I1, r, z, q⟩ => ⟨by rw [← r.length]; exact z, ?_⟩)
  have hf : H1 s1.heap.objs.size = none := I1.hok.fresh (Nat.le_refl _)
  refine ⟨.ref s1.heap.objs.size, upd H1 s1.heap.objs.size (.lst xs), I1.laid (t' := s1.toks) (fun b u e => Heap.get?_push_of_some _ e) (Nat.le_refl _) ?_, rfl, q _ hf⟩
  exact ⟨z, us, 0, r, Heap.get?_push_size _ rfl⟩
end

/-! ### what a def promises -/
/-- a def's promise: the bound arguments in the parameters' order, the heap, the wanted end, the wanted exception -/
abbrev Sp := List V → Hp → VK → XK → Prop
/-- how an exception lies behind a call (file 08 gives it): the callers' frames, abstract heap and state ahead of the call, the wish, the exception, the state -/
abbrev CXT := List Env → Hp → Shared → XK → Value → Shared → Prop

/-- the state at a call -/
structure Env0 (P : Program) (w : World) (K : PySem.W.Frag) (mg : Str → Option Value) (base : Heap) (A : Around) (outer : List Env) (s : Shared) (H : Hp) : Prop where
  frames : A.frames = some outer
  mod : Mod K mg base
  bs : ∀ b o, base.get? b = some o → s.heap.get? b = some o ∧ H b = none
  bsz : base.objs.size ≤ s.heap.objs.size
  funs : s.heap.FunFrames base outer
  frf : ∀ b ∈ frs outer, H b = none
  hok : HOk P w H s.heap
  bare : AllBare s.gens
/-- a call's end -/
def CE (outer : List Env) (P : Program) (w : World) (H : Hp) (s : Shared) (Q : VK) (u : Value) (s' : Shared) : Prop :=
  ∃ v H', s'.os = s.os ∧ AllBare s'.gens ∧ Un (frs outer) [] H H' s.heap s'.heap ∧ HOk P w H' s'.heap ∧ RelV v u ∧ Q v H'
def CR (CX : CXT) (outer : List Env) (P : Program) (w : World) (H : Hp) (s : Shared) (Q : VK) (E : XK) (r : Result) (s' : Shared) : Prop :=
  match r with
  | .ok (.ret u) => CE outer P w H s Q u s'
  | .ok _ => False
  | .error e => CX outer H s E e s'
structure FnOk (P : Program) (w : World) (K : PySem.W.Frag) (mg : Str → Option Value) (base : Heap) (CX : CXT) (k : Nat) (f : Addr) (fd : FuncData) (ps : List Str) (sp : Sp) : Prop where
  len : ∀ vs H Q E, sp vs H Q E → vs.length = ps.length
  run : ∀ (A : Around) (outer : List Env) (s : Shared) (H : Hp) (args : Args) (us : List Value) (vs : List V) (Q : VK) (E : XK), Room k A → Env0 P w K mg base A outer s H → BindsTo s fd args (ps.zip us) → Vals vs us → sp vs H Q E →
    codeAny (model P w) A (.call (.ref f) args) (CR CX outer P w H s Q E) s
theorem FnOk.mono {P : Program} {w : World} {K : PySem.W.Frag} {mg : Str → Option Value} {base : Heap} {CX : CXT} {j k : Nat} {f : Addr} {fd : FuncData} {ps : List Str} {sp : Sp} (F : FnOk P w K mg base CX j f fd ps sp) (h : j ≤ k) :
    FnOk P w K mg base CX k f fd ps sp := ⟨F.len, fun A outer s H args us vs Q E hr => F.run A outer s H args us vs Q E (hr.mono h)⟩
/-- a weaker promise -/
theorem FnOk.imp {P : Program} {w : World} {K : PySem.W.Frag} {mg : Str → Option Value} {base : Heap} {CX : CXT} {k : Nat} {f : Addr} {fd : FuncData} {ps : List Str} {sp sp' : Sp} (F : FnOk P w K mg base CX k f fd ps sp)
    (h : ∀ vs H Q E, sp' vs H Q E → sp vs H Q E) : FnOk P w K mg base CX k f fd ps sp' :=
  ⟨fun vs H Q E q => F.len vs H Q E (h _ _ _ _ q), fun A outer s H args us vs Q E hr he hb hv hs => F.run A outer s H args us vs Q E hr he hb hv (h _ _ _ _ hs)⟩

theorem Env0.make {P : Program} {w : World} {K : PySem.W.Frag} {mg : Str → Option Value} {base : Heap} {A : Around} {outer : List Env} {s : Shared} {H : Hp} (e : Env0 P w K mg base A outer s H) (C : Addr) (us : List Value) (kw : List (Str × Value)) :
    Env0 P w K mg base (A.under (.builtin "type.__call__" ⟨.ref C :: us, kw⟩)) outer s H := ⟨by first | exact e.frames | (simpa [Around.under, Code.envs, Code.isFrame, pushEnvs] using e.frames), e.mod, e.bs, e.bsz, e.funs, e.frf, e.hok, e.bare⟩
theorem Env0.in1 {P : Program} {w : World} {K : PySem.W.Frag} {mg : Str → Option Value} {base : Heap} {A : Around} {outer : List Env} {s : Shared} {H : Hp} (e : Env0 P w K mg base A outer s H) :
    Env0 P w K mg base A.in1 outer s H := ⟨e.frames, e.mod, e.bs, e.bsz, e.funs, e.frf, e.hok, e.bare⟩

section
variable {X : Cx} {pins : List (Addr × Obj)} {σ : St} {H : Hp} {s s' : Shared}
/-- from a body: what a callee wants -/
theorem Inv.env0 (I : Inv X pins σ H s) : Env0 X.prog X.w X.K X.mg X.base X.A X.stack s H :=
  ⟨I.ok.frames, I.ok.mod, I.bs, Nat.le_trans I.ok.bsz I.sz, I.stack, I.stkFree, I.hok, I.bare⟩
/-- behind a call -/
theorem Inv.after {Q : VK} {u : Value} (I : Inv X pins σ H s) (h : CE X.stack X.prog X.w H s Q u s') : EP X pins σ Q u s' := by
  obtain ⟨v, H', os, bare, un, hok, r, q⟩ := h
  obtain ⟨hh, g, d, t, os'⟩ := s'
  obtain rfl : os' = s.os := os
  exact ⟨v, H', I.call (h' := hh) (g' := g) (d' := d) (t' := t) (ch := []) un hok bare (fun b z => absurd z (by simp)), r, q⟩
end

/-! ### calls -/
/-- f(..): the written arguments, then the defaults dvs; E: what is wanted of an exception -/
def tCall (sp : Sp) (dvs : List V) (E : XK) (t : TA) : TE := fun σ H Q => t σ H fun vs H1 => sp (vs ++ dvs) H1 Q E
/-- o.m(..) of an instance of the class at C -/
def tMeth (C : Addr) (m : Str) (sp : Sp) (dvs : List V) (E : XK) (ta : TE) (t : TA) : TE := fun σ H Q => ta σ H fun x H1 => ∃ a dx fs, x = .ref a ∧ H1 a = some (.ins C dx fs) ∧ fs.lookup m = none ∧
  t σ H1 fun vs H2 => sp (x :: (vs ++ dvs)) H2 Q E
/-- C(..): a new instance and its dict, then __init__ -/
def tMake (C : Addr) (sp : Sp) (dvs : List V) (E : XK) (t : TA) : TE := fun σ H Q => t σ H fun vs H1 => ∀ x dx, H1 x = none → H1 dx = none → dx ≠ x →
  sp (.ref x :: (vs ++ dvs)) (upd (upd H1 dx (.own x)) x (.ins C dx [])) (fun v H2 => v = .non ∧ Q (.ref x) H2) E

/-- how the parameters are bound: us the positional arguments, kw the keywords' values by name, ds the defaults that fill up -/
def Binds (K : PySem.W.Frag) (fd : FuncData) (ps : List Str) (ds : List Value) : Prop :=
  ∀ (s : Shared) (us : List Value), K.In s.heap → (us ++ ds).length = ps.length → BindsTo s fd ⟨us, []⟩ (ps.zip (us ++ ds))
/-- every parameter is given -/
theorem Binds.all {K : PySem.W.Frag} {fd : FuncData} {ps : List Str} (h : ∀ us : List Value, us.length = ps.length → bindArgs fd ⟨us, []⟩ = pure (ps.zip us)) : Binds K fd ps [] := fun s us _ hl => by
  rw [List.append_nil] at hl ⊢
  exact .of_eq (h us hl)

/-- an exception of a callee reaches what this body wants of exceptions -/
def Passes (CX : CXT) (X : Cx) (E : XK) : Prop := ∀ (pins : List (Addr × Obj)) (σ : St) (H : Hp) (s : Shared) (e : Value) (s' : Shared), Inv X pins σ H s → CX X.stack H s E e s' → X.xe e s'

section
variable {X : Cx} {CX : CXT} {k : Nat} {f C : Addr} {fd : FuncData} {ps : List Str} {sp : Sp} {dvs : List V} {ds : List Value} {E : XK} {x m : Str} {p pos apos : Pos} {e o : Expr} {es : List Expr} {ta : TE} {t : TA}

/-- the callee runs -/
theorem run_fn {pins : List (Addr × Obj)} {σ : St} {H : Hp} {s : Shared} {Q : VK} {us : List Value} {vs : List V} (F : FnOk X.prog X.w X.K X.mg X.base CX k f fd ps sp) (hr : Room k X.A) (hb : Binds X.K fd ps ds) (hd : Vals dvs ds) (hx : Passes CX X E)
    (I : Inv X pins σ H s) (r : Vals vs us) (h : sp (vs ++ dvs) H Q E) : wpAny (model X.prog X.w) X.A (call (.ref f) us) (EP X pins σ Q) X.xe s := by
  have r2 : Vals (vs ++ dvs) (us ++ ds) := r.append hd
  have hl : (us ++ ds).length = ps.length := by rw [← r2.length]; exact F.len _ _ _ _ h
  refine wpAny_call (codeAny_mono (F.run X.A X.stack s H ⟨us, []⟩ (us ++ ds) (vs ++ dvs) Q E hr I.env0 (hb s us I.kIn hl) r2 h) fun r s' hq => ?_)
  cases r with
  | error e => exact hx pins σ H s e s' I hq
  | ok fl =>
    cases fl with
    | ret u => exact I.after hq
    | next => exact False.elim hq
    | brk => exact False.elim hq
    | cont => exact False.elim hq

theorem pe_call (F : FnOk X.prog X.w X.K X.mg X.base CX k f fd ps sp) (hr : Room k X.A) (hg : Gl X x) (hm : X.mg x = some (.ref f)) (hk : PySem.W.keepIn X.K (.ref f) = true) (hb : Binds X.K fd ps ds) (hd : Vals dvs ds) (hx : Passes CX X E)
    (ha : PA X (e :: es) t) (hdb : (x == ("__debug__" : Str)) = false := by decide) (he : starEach (e :: es) X.env = (false, eval e X.env) :: starEach es X.env := by rfl) (hpl : (backTo pos (starEach es X.env)).any (·.1) = false := by rfl) :
    PE X (.Call (.Name x p) (e :: es) [] pos) (tCall sp dvs E t) := by
  intro pins s σ H Q I h
  refine wpAny_Call_Name_kw (ld_glob I hg hm ?_ hdb)
  refine PySem.W.callWith_K (h₀ := X.base) I.ok.mod.kin hk (thn (ha pos pins s σ H _ I h) fun us s1 ⟨vs, H1, I1, r, q⟩ => ⟨I1.kIn, ?_⟩) he hpl
  exact run_fn F hr hb hd hx I1 r q
/-- what a class must have to be made -/
structure Mk (K : PySem.W.Frag) (C f : Addr) : Prop where
  makes : PySem.W.makesIn K C = true
  init : PySem.W.findIn K (.ref C) "__init__" = some (some (.ref f))
  fn : PySem.W.isFn K (.ref f) = true
  kp : PySem.W.keepIn K (.ref C) = true

end

/-! ### keywords -/
/-- the values of the keywords, from the left -/
def PK (X : Cx) (kws : List Keyword) (t : TA) : Prop :=
  ∀ (pos : Pos) (pins : List (Addr × Obj)) (s : Shared) (σ : St) (H : Hp) (Q : List V → Hp → Prop), Inv X pins σ H s → t σ H Q → wpAny (model X.prog X.w) X.A (evalAll ((backToKw pos (keywordEach kws X.env)).map (·.2))) (AP X pins σ Q) X.xe s
section
variable {X : Cx} {CX : CXT} {k : Nat} {f C : Addr} {fd : FuncData} {ps ks : List Str} {sp : Sp} {E : XK} {x m : Str} {p pos apos kpos : Pos} {e o : Expr} {es : List Expr} {kws : List Keyword} {te ta : TE} {t tk : TA} {nm : Option Str}
/-- how a call with keywords binds: g puts the positional values us and the keywords' values ws (names ks) in the parameters' order, defaults among them -/
structure KBinds (K : PySem.W.Frag) (fd : FuncData) (ps ks : List Str) (g : List Value → List Value → List Value) (gV : List V → List V → List V) : Prop where
  to : ∀ (s : Shared) (us ws : List Value), K.In s.heap → (g us ws).length = ps.length → BindsTo s fd ⟨us, ks.zip ws⟩ (ps.zip (g us ws))
  rel : ∀ {vs : List V} {us : List Value} {zs : List V} {ws : List Value}, Vals vs us → Vals zs ws → Vals (gV vs zs) (g us ws)
def tCallK (sp : Sp) (gV : List V → List V → List V) (E : XK) (t tk : TA) : TE := fun σ H Q => t σ H fun vs H1 => tk σ H1 fun zs H2 => sp (gV vs zs) H2 Q E
variable {g : List Value → List Value → List Value} {gV : List V → List V → List V}
end

/-! ### a def's body keeps its promise -/
/-- names: the parameters first -/
structure FnScope (N P : List Str) (sc : Scope) : Prop where
  kind : sc.kind = .function
  co : sc.isCoroutine = false
  gen : sc.isGenerator = false
  nd : N.Nodup
  pre : N.take P.length = P
  par : ∀ x ∈ P, sc.names.lookup x = some .local ∨ sc.names.lookup x = some .cell
  nofree : ∀ y ∈ sc.names, y.2 ≠ .free

theorem bindL_out {kindOf : Str → Option NameKind} {x : Str} : ∀ {binds : List (Str × Value)} {m : Str → Option Value}, (∀ v, (x, v) ∉ binds) → bindL kindOf binds m x = m x
  | [], _, _ => rfl
  | (n, v) :: r, m, h => by
    unfold bindL
    rw [bindL_out fun w hw => h w (List.mem_cons_of_mem _ hw)]
    split
    · have : x ≠ n := by rintro rfl; exact h v List.mem_cons_self
      simp [this]
    · rfl
theorem bindC_out {kindOf : Str → Option NameKind} {x : Str} : ∀ {binds : List (Str × Value)} {m : Str → Option Value}, (∀ v, (x, v) ∉ binds) → bindC kindOf binds m x = m x
  | [], _, _ => rfl
  | (n, v) :: r, m, h => by
    unfold bindC
    rw [bindC_out fun w hw => h w (List.mem_cons_of_mem _ hw)]
    split
    · rfl
    · have : x ≠ n := by rintro rfl; exact h v List.mem_cons_self
      simp [this]
theorem bindL_get {kindOf : Str → Option NameKind} {x : Str} {v : Value} : ∀ {P : List Str} {vs : List Value} {i : Nat} {m : Str → Option Value}, P.Nodup → P[i]? = some x → vs[i]? = some v → kindOf x = some .local →
    bindL kindOf (P.zip vs) m x = some v
  | [], _, _, _, _, h, _, _ => by simp at h
  | _ :: _, [], _, _, _, _, h, _ => by simp at h
  | p :: P, w :: vs, 0, m, nd, h1, h2, hk => by
    simp at h1 h2; subst h1; subst h2
    show bindL kindOf ((p, w) :: P.zip vs) m p = _
    unfold bindL
    rw [bindL_out fun v hv => (List.nodup_cons.mp nd).1 (List.of_mem_zip hv).1, if_pos hk]
    simp
  | p :: P, w :: vs, i + 1, m, nd, h1, h2, hk => by
    show bindL kindOf ((p, w) :: P.zip vs) m x = _
    unfold bindL
    exact bindL_get (i := i) (List.nodup_cons.mp nd).2 (by simpa using h1) (by simpa using h2) hk
theorem bindC_get {kindOf : Str → Option NameKind} {x : Str} {v : Value} : ∀ {P : List Str} {vs : List Value} {i : Nat} {m : Str → Option Value}, P.Nodup → P[i]? = some x → vs[i]? = some v → kindOf x ≠ some .local →
    bindC kindOf (P.zip vs) m x = some v
  | [], _, _, _, _, h, _, _ => by simp at h
  | _ :: _, [], _, _, _, _, h, _ => by simp at h
  | p :: P, w :: vs, 0, m, nd, h1, h2, hk => by
    simp at h1 h2; subst h1; subst h2
    show bindC kindOf ((p, w) :: P.zip vs) m p = _
    unfold bindC
    rw [bindC_out fun v hv => (List.nodup_cons.mp nd).1 (List.of_mem_zip hv).1, if_neg hk]
    simp
  | p :: P, w :: vs, i + 1, m, nd, h1, h2, hk => by
    show bindC kindOf ((p, w) :: P.zip vs) m x = _
    unfold bindC
    exact bindC_get (i := i) (List.nodup_cons.mp nd).2 (by simpa using h1) (by simpa using h2) hk

/-- the names' values at the entry -/
def start (N : List Str) (vs : List V) : St := vs.map some ++ List.replicate (N.length - vs.length) none

/-- the context of a def's body, at its entry; an exception leaves the frame, then lies as CX says -/
def cxOf (CX : CXT) (P : Program) (w : World) (K : PySem.W.Frag) (mg : Str → Option Value) (base : Heap) (N : List Str) (qual : Str) (scope : Scope) (f : Addr) (cd : Value) (A : Around) (outer : List Env) (s : Shared) (H : Hp) (E : XK) : Cx where
  prog := P
  w := w
  K := K
  mg := mg
  base := base
  A := A.deeper (envOfC qual scope s.heap.objs.size f cd)
  N := N
  s₀ := s
  H₀ := H
  env := envOfC qual scope s.heap.objs.size f cd
  outer := outer
  stack := envOfC qual scope s.heap.objs.size f cd :: outer
  ex := []
  calm := true
  fn := fun _ => true
  pn := []
  xe := fun e s' => wpAny (model P w) (A.deeper (envOfC qual scope s.heap.objs.size f cd)) (leaving (envOfC qual scope s.heap.objs.size f cd) e) (fun _ s'' => CX outer H s E e s'') (fun e' s'' => CX outer H s E e' s'') s'

theorem cell_has {sc : Scope} {n : Nat} {x : Str} (h : sc.names.lookup x = some .cell) : ∃ c, (cellsFrom n sc.names []).lookup x = some c := by
  have q := PySem.W.cellsFrom_some sc.names n [] (.inl h)
  exact Option.isSome_iff_exists.mp q

theorem inv_start {CX : CXT} {P : Program} {w : World} {K : PySem.W.Frag} {mg : Str → Option Value} {base : Heap} {N ps : List Str} {qual : Str} {scope : Scope} {f : Addr} {cd : Value} {A : Around} {outer : List Env} {s s1 : Shared} {H : Hp} {E : XK} {us : List Value} {vs : List V}
    (S : FnScope N ps scope) (hd : A.handled = none) (e0 : Env0 P w K mg base A outer s H) (hl : vs.length = ps.length) (r : Vals vs us)
    (x : InCallC s s.heap.objs.size (bindL (envOfC qual scope s.heap.objs.size f cd).kindOf (ps.zip us) fun _ => none) (cellsFrom (s.heap.objs.size + 1) scope.names []) (bindC (envOfC qual scope s.heap.objs.size f cd).kindOf (ps.zip us) fun _ => none) s1) :
    Inv (cxOf CX P w K mg base N qual scope f cd A outer s H E) [] (start N vs) H s1 := by
  have hpl : ps.length ≤ N.length := by have := congrArg List.length S.pre; rw [List.length_take] at this; omega
  obtain ⟨h1, tk, rfl, hk⟩ := x.done
  have noA : ∀ b : Addr, b ∉ (cxOf CX P w K mg base N qual scope f cd A outer s H E).ex := fun b z => absurd (show b ∈ ([] : List Addr) from z) (by simp)
  refine ⟨⟨e0.mod, S.kind, rfl, rfl, Nat.le_refl _, fun y z c h1 h2 => ?_, fun y hy => ?_, fun y c _ h => ?_, fun _ => hd, Around.frames_deeper e0.frames, .inr ⟨rfl, rfl⟩, fun b z => absurd z (noA b), e0.bs, e0.bsz, fun b _ _ => noA b, fun b z => absurd z (noA b), e0.funs, e0.frf⟩,
    rfl, e0.bare, Un.kept hk, ⟨_, x.toInCall.ns, fun i y v h1 h2 h3 => ?_⟩, fun y c h => ⟨_, x.cell y c h⟩, e0.hok.fresh (Nat.le_refl _), fun y c h => ?_, fun p hp => absurd (show p ∈ ([] : List (Addr × Obj)) from hp) (by simp), e0.hok.kept hk, ?_⟩
  · exact name_of_addr x.apart (PySem.mem_of_lookup h1) (PySem.mem_of_lookup h2)
  · have hy : scope.names.lookup y = some .cell ∨ scope.names.lookup y = some .free := hy
    rcases hy with hy | hy
    · exact cell_has hy
    · exact absurd rfl (S.nofree _ (PySem.mem_of_lookup hy))
  · exact Nat.le_of_lt (x.above y c (PySem.mem_of_lookup h))
  · have hi : i < vs.length := by
      unfold start at h2
      by_cases hi : i < vs.length
      · exact hi
      · rw [List.getElem?_append_right (by simpa using hi)] at h2
        rw [List.getElem?_replicate] at h2
        split at h2 <;> cases h2
    have ha : vs[i]? = some v := by
      unfold start at h2
      rw [List.getElem?_append_left (by simpa using hi), List.getElem?_map] at h2
      cases e : vs[i]? with
      | none => rw [e] at h2; cases h2
      | some a => rw [e] at h2; cases h2; rfl
    obtain ⟨u, hu, rv⟩ := r.get ha
    have hp : ps[i]? = some y := by
      rw [← S.pre, List.getElem?_take_of_lt (by omega)]; exact h1
    have ndP : ps.Nodup := by rw [← S.pre]; exact S.nd.sublist (List.take_sublist _ _)
    refine ⟨u, rv, ?_⟩
    rcases S.par y (List.mem_of_getElem? hp) with k | k
    · exact .inl ⟨k, bindL_get ndP hp hu k⟩
    · obtain ⟨c, e⟩ := cell_has (n := s.heap.objs.size + 1) k
      refine .inr ⟨.inl k, c, e, ?_⟩
      have q := x.cell y c e
      rw [bindC_get ndP hp hu (by show scope.names.lookup y ≠ _; rw [k]; decide)] at q
      exact q
  · exact e0.hok.fresh (Nat.le_of_lt (x.above y c (PySem.mem_of_lookup h)))
  · unfold start
    show _ = N.length
    rw [List.length_append, List.length_map, List.length_replicate]
    omega

/-- THE RULE: a def (or a method) of the text, by its body. The body's reading t is chosen for each entry; it is run at the parameters' values -/
theorem fn_of {CX : CXT} {P : Program} {w : World} {K : PySem.W.Frag} {mg : Str → Option Value} {base : Heap} {k : Nat} {f : Addr} {name qual : Str} {params : Arguments} {body : List Stmt} {scope : Scope} {dV kV doc pm cdv ct oc : Value} {an od : Option Addr}
    {osl : Array (Option Value)} {N ps : List Str} {sp : Sp} (lk : K.lookup f = some ⟨oc, od, .func (PySem.W.fnOf name qual params body scope dV kV doc pm an cdv ct), osl⟩) (hcd : PySem.W.codeIn K cdv qual = true) (S : FnScope N ps scope)
    (len : ∀ vs H Q E, sp vs H Q E → vs.length = ps.length)
    (hbody : ∀ (A : Around) (outer : List Env) (s : Shared) (H : Hp) (vs : List V) (Q : VK) (E : XK), Room k (A.deeper (envOfC qual scope s.heap.objs.size f cdv)) → sp vs H Q E →
      ∃ t, PSs (cxOf CX P w K mg base N qual scope f cdv A outer s H E) body t ∧ t { nx := fun _ H' => Q .non H', rt := Q } (start N vs) H) :
    FnOk P w K mg base CX (k + 1) f (PySem.W.fnOf name qual params body scope dV kV doc pm an cdv ct) ps sp := by
  refine ⟨len, fun A outer s H args us vs Q E hr e0 hb r hsp => ?_⟩
  have hl := len _ _ _ _ hsp
  have KX : K.In s.heap := e0.mod.kin.keeps fun b o e => (e0.bs b o e).1
  have lim : s.heap.NoLimit := e0.mod.nolimit.keeps fun b o e => (e0.bs b o e).1
  have hkind : ∀ y ∈ ps.zip us, scope.names.lookup y.1 = some .local ∨ (scope.names.lookup y.1 = some .cell ∧ ((cellsFrom (s.heap.objs.size + 1) scope.names []).lookup y.1).isSome = true) := fun ⟨n, v⟩ hy => by
    rcases S.par n (List.of_mem_zip hy).1 with q | q
    · exact .inl q
    · exact .inr ⟨q, PySem.W.cellsFrom_some _ _ _ (.inl q)⟩
  refine codeAny_call_function hr.depth (KX _ _ lk) rfl S.co S.gen rfl (PySem.W.codeRec_of KX hcd) (hb _ _ _ _ ?_)
  refine wpAny_newFunctionEnv_cells S.kind hkind fun env he s1 x => ?_
  subst he
  refine ⟨lim.keeps x.toInCall.keep, codeAny_func ?_⟩
  obtain ⟨t, ht, hq⟩ := hbody A outer s H vs Q E (hr.deeper _) hsp
  have I : Inv (cxOf CX P w K mg base N qual scope f cdv A outer s H E) [] (start N vs) H s1 := inv_start S hr.hd e0 hl r x
  refine wpAny_mono (ht [] s1 (start N vs) H _ I hq) (fun fl s' hs => ?_) fun e s' hs => hs
  have fin : ∀ {σ' : St} {H' : Hp} {v : V} {u : Value}, Inv (cxOf CX P w K mg base N qual scope f cdv A outer s H E) [] σ' H' s' → RelV v u → Q v H' → CE outer P w H s Q u s' :=
    fun {σ' H' v u} J rv q => ⟨v, H', J.os, J.bare, J.base, J.hok, rv, q⟩
  cases fl with
  | ret u =>
    obtain ⟨v, σ', H', J, rv, q⟩ := hs
    exact fin J rv q
  | next =>
    obtain ⟨σ', H', J, q⟩ := hs
    exact fin (v := V.non) (u := Value.none) J rfl q
  | brk =>
    obtain ⟨_, _, _, q⟩ := hs
    exact False.elim q
  | cont =>
    obtain ⟨_, _, _, q⟩ := hs
    exact False.elim q
end L2

namespace L2
open PySem PySem.Spec PyProof.Rows
section
variable {X : Cx} {x : Str} {p pos : Pos} {e : Expr} {es : List Expr} {t : TA} {id T : String} {r : List V → Hp → VK → Prop}

def tCB (r : List V → Hp → VK → Prop) (t : TA) : TE := fun σ H Q => t σ H fun vs H1 => r vs H1 Q
/-- f(e, ..), f a built-in function -/
theorem pe_callB (hc : CallR X (.builtin id) r) (hg : Gl X x) (hm : X.mg x = none) (hv : bootBuiltins x = some (.builtin id)) (ha : PA X (e :: es) t) (hn : x ≠ "__name__" := by decide) (hdb : (x == ("__debug__" : Str)) = false := by decide)
    (he : starEach (e :: es) X.env = (false, eval e X.env) :: starEach es X.env := by rfl) (hpl : (backTo pos (starEach es X.env)).any (·.1) = false := by rfl) : PE X (.Call (.Name x p) (e :: es) [] pos) (tCB r t) := by
  intro pins s σ H Q I h
  refine wpAny_Call_Name_kw (ld_blt I hg hm hv ?_ hn hdb)
  exact PyProof.Rows.callWith_builtin1 (thn (ha pos pins s σ H _ I h) fun us s1 ⟨vs, H1, I1, r1, q1⟩ => hc pins s1 σ H1 vs us Q I1 r1 q1) he hpl
/-- T(e, ..), T a built-in type -/
theorem pe_callTy (hc : CallR X (.type T) r) (hg : Gl X x) (hm : X.mg x = none) (hv : bootBuiltins x = some (.type T)) (ha : PA X (e :: es) t) (hn : x ≠ "__name__" := by decide) (hdb : (x == ("__debug__" : Str)) = false := by decide)
    (he : starEach (e :: es) X.env = (false, eval e X.env) :: starEach es X.env := by rfl) (hpl : (backTo pos (starEach es X.env)).any (·.1) = false := by rfl) : PE X (.Call (.Name x p) (e :: es) [] pos) (tCB r t) := by
  intro pins s σ H Q I h
  refine wpAny_Call_Name_kw (ld_blt I hg hm hv ?_ hn hdb)
  exact PyProof.Rows.callWith_type1 (thn (ha pos pins s σ H _ I h) fun us s1 ⟨vs, H1, I1, r1, q1⟩ => hc pins s1 σ H1 vs us Q I1 r1 q1) he hpl
end
end L2

namespace HT
open PySem PyProof.Rows

/-- t < u of tuples of ints -/
def lexLt : List Int → List Int → Bool
  | [], [] => false
  | [], _ :: _ => true
  | _ :: _, [] => false
  | x :: xs, y :: ys => if x = y then lexLt xs ys else decide (x < y)
section
open PySem.SeqAt
open PySem.AutoSeq1 (wpAny_loadPart')
open PySem.MeetsSeq PySem.MeetsSeq2 PySem.MeetsSeq3

end

section
variable {prog : Program} {w : World} {A : Around} {E : Value → Shared → Prop} {s : Shared}

/-! ### t[a:b], not the whole -/
/-- a slice's bound as a place among n (d where it is left out) -/
def sIx (n d : Nat) : Option Int → Nat
  | none => d
  | some v => if v < 0 then (v + (n : Int)).toNat else min v.toNat n
theorem sIx_nat (n d k : Nat) : sIx n d (some (k : Int)) = min k n := by
  show (if (k : Int) < 0 then ((k : Int) + (n : Int)).toNat else min (k : Int).toNat n) = min k n
  rw [if_neg (by omega), Int.toNat_natCast]
end
end HT

namespace L2
open PySem PySem.Spec PyProof.Rows

/-! ### the parts of a slice -/
abbrev TO := St → Hp → (Option Int → Hp → Prop) → Prop
/-- a slice's part (left out, or an int) -/
def PO (X : Cx) (e : Option Expr) (t : TO) : Prop :=
  ∀ (pins : List (Addr × Obj)) (s : Shared) (σ : St) (H : Hp) (Q : Option Int → Hp → Prop), Inv X pins σ H s → t σ H Q →
    wpAny (model X.prog X.w) X.A (evalPart e X.env) (fun u s' => ∃ o H', Inv X pins σ H' s' ∧ IsPart u o ∧ Q o H') X.xe s
def tNoPart : TO := fun _ H Q => Q none H
def tPart (t : TE) : TO := fun σ H Q => t σ H fun x H1 => ∃ i, x = .int i ∧ Q (some i) H1

section
variable {X : Cx} {e : Expr} {te : TE} {lo hi : Option Expr} {tl th : TO} {pos p2 : Pos}

theorem po_none : PO X none tNoPart := by
  intro pins s σ H Q I h
  rw [evalPart_none]
  exact wpAny_pure ⟨none, H, I, .none, h⟩
theorem po_some (h : PE X e te) : PO X (some e) (tPart te) := by
  intro pins s σ H Q I hw
  rw [evalPart_some]
  refine thn (h pins s σ H _ I hw) fun u s1 ⟨x, H1, I1, r1, q1⟩ => ?_
  obtain ⟨i, rfl, q⟩ := q1
  obtain ⟨t, rfl⟩ := r1
  exact ⟨some i, H1, I1, .int i t, q⟩

/-- what a slice of a value is, by values: the slice object stands at sl -/
def SlR (X : Cx) (r : V → Option Int → Option Int → Hp → VK → Prop) : Prop :=
  ∀ (pins : List (Addr × Obj)) (s : Shared) (σ : St) (H : Hp) (x : V) (v vl vu : Value) (lo hi : Option Int) (sl : Addr) (Q : VK), Inv X pins σ H s → RelV x v → s.heap.IsSliceOf sl vl vu .none → IsPart vl lo → IsPart vu hi → r x lo hi H Q →
    ∃ T id, typeLookup (.type T) "__getitem__" = pure (some (.builtin id)) ∧ s.TypeIs v T ∧ wpAny (model X.prog X.w) X.A (getItem v (.ref sl)) (EP X pins σ Q) X.xe s
theorem SlR.or {r r' : V → Option Int → Option Int → Hp → VK → Prop} (h : SlR X r) (h' : SlR X r') : SlR X (fun x lo hi H Q => r x lo hi H Q ∨ r' x lo hi H Q) := by
  intro pins s σ H x v vl vu lo hi sl Q I rx hs pl pu q
  rcases q with q | q
  · exact h pins s σ H x v vl vu lo hi sl Q I rx hs pl pu q
  · exact h' pins s σ H x v vl vu lo hi sl Q I rx hs pl pu q
def tSl (r : V → Option Int → Option Int → Hp → VK → Prop) (te : TE) (tl th : TO) : TE := fun σ H Q => te σ H fun x H1 => tl σ H1 fun l H2 => th σ H2 fun u H3 => r x l u H3 Q
/-- a[lo:hi], any a -/
theorem pe_slice {r : V → Option Int → Option Int → Hp → VK → Prop} (hr : SlR X r) (he : PE X e te) (hl : PO X lo tl) (hu : PO X hi th) : PE X (.Subscript e (.Slice lo hi none p2) pos) (tSl r te tl th) := by
  intro pins s σ H Q I h
  refine Subscript_ (thn (he pins s σ H _ I h) fun v s1 ⟨x, H1, I1, r1, q1⟩ => ?_)
  refine wpAny_Slice (thn (hl pins s1 σ H1 _ I1 q1) fun vl s2 ⟨l, H2, I2, pl, q2⟩ => thn (hu pins s2 σ H2 _ I2 q2) fun vu s3 ⟨u, H3, I3, pu, q3⟩ => ?_)
  rw [evalPart_none]
  refine wpAny_pure ?_
  have I4 : Inv X pins σ H3 { s3 with heap := s3.heap.push { cls := .type "slice", data := .fields #[vl, vu, .none] } } := I3.kept (t' := s3.toks) fun b ob q => Heap.get?_push_of_some _ q
  obtain ⟨T, id, hT, ht, hg⟩ := hr pins { s3 with heap := s3.heap.push { cls := .type "slice", data := .fields #[vl, vu, .none] } } σ H3 x v vl vu l u s3.heap.objs.size Q I4 r1 (Heap.IsSliceOf.new ..) pl pu q3
  show wpAny (model X.prog X.w) X.A (subscriptTail e (.Slice lo hi none p2) v (.ref s3.heap.objs.size)) (EP X pins σ Q) X.xe { s3 with heap := s3.heap.push { cls := .type "slice", data := .fields #[vl, vu, .none] } }
  exact tail_any (ops := [.ref s3.heap.objs.size, v]) ht hT hg (by with_unfolding_all rfl)

/-- the items of xs[lo:hi] -/
def cutV (xs : List V) (lo hi : Option Int) : List V := (xs.drop (HT.sIx xs.length 0 lo)).take (HT.sIx xs.length xs.length hi - HT.sIx xs.length 0 lo)
theorem cutV_length (xs : List V) (lo hi : Option Int) : (cutV xs lo hi).length ≤ xs.length := by
  unfold cutV
  rw [List.length_take, List.length_drop]
  omega
/-- t[lo:hi], not the whole of it (the whole would be t itself) -/
def rSlT (K : PySem.W.Frag) : V → Option Int → Option Int → Hp → VK → Prop := fun x lo hi H Q => ∃ a xs, x = .ref a ∧ SqT K H a xs ∧
  ¬ (HT.sIx xs.length 0 lo = 0 ∧ HT.sIx xs.length xs.length hi = xs.length) ∧ ∀ p, H p = none → Q (.ref p) (upd H p (.tup (cutV xs lo hi)))
/-! ### t < u, t + u -/
def rLtT (K : PySem.W.Frag) : R2 := fun x y H Q => ∃ a b ns ms, x = .ref a ∧ y = .ref b ∧ SqT K H a (ns.map V.int) ∧ SqT K H b (ms.map V.int) ∧ Q (.bl (HT.lexLt ns ms)) H
/-- t + u, t not empty: u empty gives t itself -/
def rCatT (K : PySem.W.Frag) : R2 := fun x y H Q => ∃ a b xs ys, x = .ref a ∧ y = .ref b ∧ SqT K H a xs ∧ SqT K H b ys ∧ xs ≠ [] ∧ xs.length + ys.length ≤ sizeLine ∧
  (ys = [] → Q (.ref a) H) ∧ (ys ≠ [] → ∀ p, H p = none → Q (.ref p) (upd H p (.tup (xs ++ ys))))
end
end L2

namespace L2
open PySem PySem.Spec PyProof.Rows

/-! ### places -/
/-- the place that an index of any sign means -/
def ixN (n : Nat) (i : Int) : Option Nat := if 0 ≤ i then (if i < n then some i.toNat else none) else if -(n : Int) ≤ i then some (i + n).toNat else none
def atI {α : Type} (xs : List α) (i : Int) : Option α := (ixN xs.length i).bind fun j => xs[j]?
theorem ixN_seq {n : Nat} {i : Int} {j : Nat} (h : ixN n i = some j) : seqIndex? i n = some j ∧ j < n ∧ -(n : Int) ≤ i ∧ i < n := by
  unfold ixN at h
  by_cases h0 : 0 ≤ i
  · rw [if_pos h0] at h
    by_cases h1 : i < n
    · rw [if_pos h1] at h
      have e : i.toNat = j := Option.some.inj h
      exact ⟨by rw [seqIndex_of h0 h1, e], by omega, by omega, h1⟩
    · rw [if_neg h1] at h; cases h
  · rw [if_neg h0] at h
    by_cases h1 : -(n : Int) ≤ i
    · rw [if_pos h1] at h
      have e : (i + n).toNat = j := Option.some.inj h
      exact ⟨by rw [seqIndex_neg (by omega) h1, e], by omega, h1, by omega⟩
    · rw [if_neg h1] at h; cases h
theorem atI_get {α : Type} {xs : List α} {i : Int} {v : α} (h : atI xs i = some v) : ∃ j, seqIndex? i xs.length = some j ∧ xs[j]? = some v ∧ j < xs.length ∧ -(xs.length : Int) ≤ i ∧ i < xs.length := by
  unfold atI at h
  cases e : ixN xs.length i with
  | none => rw [e] at h; cases h
  | some j =>
    rw [e] at h
    obtain ⟨h1, h2, h3, h4⟩ := ixN_seq e
    exact ⟨j, h1, h, h2, h3, h4⟩
theorem atI_nat {α : Type} {xs : List α} {j : Nat} {v : α} (h : xs[j]? = some v) : atI xs (j : Int) = some v := by
  have hj : j < xs.length := (List.getElem?_eq_some_iff.mp h).1
  have e : ixN xs.length (j : Int) = some j := by
    unfold ixN
    rw [if_pos (by omega), if_pos (by omega)]; simp
  unfold atI; rw [e]; exact h
theorem atI_last {α : Type} (xs : List α) (v : α) : atI (xs ++ [v]) (-1) = some v := by
  have hl : (xs ++ [v]).length = xs.length + 1 := by simp
  have e : ixN (xs ++ [v]).length (-1) = some xs.length := by
    unfold ixN
    rw [hl, if_neg (by decide), if_pos (by omega)]
    congr 1
    omega
  unfold atI
  rw [e]
  show (xs ++ [v])[xs.length]? = some v
  simp

/-! ### what may be subscripted -/
/-- what stands as an index of a plain subscript -/
def PlainIx (b : Expr) : Prop := ∀ o i, subscripted b false o i = operate [o, i] (getItem o i)
/-- a subscript by values -/
def IxR (X : Cx) (r : R2) : Prop :=
  ∀ (value slice : Expr) (pins : List (Addr × Obj)) (s : Shared) (σ : St) (H : Hp) (x y : V) (v u : Value) (Q : VK), Inv X pins σ H s → RelV x v → RelV y u → r x y H Q →
    subscripted slice false v u = operate [v, u] (getItem v u) → wpAny (model X.prog X.w) X.A (subscriptTail value slice v u) (EP X pins σ Q) X.xe s
/-- a call of a builtin's method by values: the receiver, the arguments -/
def MtR (X : Cx) (id : String) (r : V → List V → Hp → VK → Prop) : Prop :=
  ∀ (pins : List (Addr × Obj)) (s : Shared) (σ : St) (H : Hp) (x : V) (xs : List V) (v : Value) (us : List Value) (Q : VK), Inv X pins σ H s → RelV x v → Vals xs us → r x xs H Q →
    wpAny (model X.prog X.w) X.A (call (.builtin id) (v :: us)) (EP X pins σ Q) X.xe s
section
variable {X : Cx} {a b : Expr} {ta tb : TE} {pos : Pos}
theorem IxR.or {r r' : R2} (h : IxR X r) (h' : IxR X r') : IxR X (fun x y H Q => r x y H Q ∨ r' x y H Q) := by
  intro value slice pins s σ H x y v u Q I rx ry q hs
  rcases q with q | q
  · exact h value slice pins s σ H x y v u Q I rx ry q hs
  · exact h' value slice pins s σ H x y v u Q I rx ry q hs
theorem MtR.or {id : String} {r r' : V → List V → Hp → VK → Prop} (h : MtR X id r) (h' : MtR X id r') : MtR X id (fun x xs H Q => r x xs H Q ∨ r' x xs H Q) := by
  intro pins s σ H x xs v us Q I rx rs q
  rcases q with q | q
  · exact h pins s σ H x xs v us Q I rx rs q
  · exact h' pins s σ H x xs v us Q I rx rs q
/-- a[b] -/
theorem pe_ix {r : R2} (hr : IxR X r) (ha : PE X a ta) (hb : PE X b tb) (hs : PlainIx b) : PE X (.Subscript a b pos) (tOp r ta tb) := by
  intro pins s σ H Q I h
  exact Subscript_ (binT ha hb I h fun v u s2 x y H2 I2 rx ry q => hr a b pins s2 σ H2 x y v u Q I2 rx ry q (hs _ _))

def rIxL (K : PySem.W.Frag) : R2 := fun x y H Q => ∃ p xs i v, x = .ref p ∧ y = .int i ∧ SqL K H p xs ∧ atI xs i = some v ∧ Q v H
def rIxT (K : PySem.W.Frag) : R2 := fun x y H Q => ∃ p xs i v, x = .ref p ∧ y = .int i ∧ SqT K H p xs ∧ atI xs i = some v ∧ Q v H
def rIxS : R2 := fun x y H Q => ∃ z i c, x = .str z ∧ y = .int i ∧ z.length ≤ sizeLine ∧ atI z.cps.toList i = some c ∧ Q (.str ⟨#[c]⟩) H
theorem ix_list : IxR X (rIxL X.K) := by
  intro value slice pins s σ H x y v u Q I rx ry h hs
  obtain ⟨p, xs, i, z, rfl, rfl, hq, he, q⟩ := h
  cases rx
  obtain ⟨t, rfl⟩ := ry
  obtain ⟨its, r, pl, hz⟩ := I.list hq
  obtain ⟨j, h1, h2, h3, h4, h5⟩ := atI_get he
  obtain ⟨w, ew, rw'⟩ := r.get h2
  have hl := r.length
  have hn := line63
  have fin : EP X pins σ Q w s := ⟨z, H, I, rw', q⟩
  by_cases h0 : 0 ≤ i
  · have hj : i.toNat = j := by
      rw [seqIndex_of h0 h5] at h1
      exact Option.some.inj h1
    exact item_listR pl.isList h0 (by omega) (by rw [hj]; simpa using ew) fin hs
  · have hj : (i + (its.toArray.size : Int)).toNat = j := by
      rw [seqIndex_neg (by omega) h4] at h1
      rw [List.size_toArray, ← hl]
      exact Option.some.inj h1
    exact subscriptTail_builtinR (x := w) pl.isList.typeIs slot_list_getitem.lookup
      (wpAny_getItem_list_neg (Q := fun r s' => r = w ∧ EP X pins σ Q r s') pl.isList (by omega) (by rw [List.size_toArray] <;> omega) (by omega) (by rw [hj]; simpa using ew) ⟨rfl, fin⟩) hs
theorem ix_tup : IxR X (rIxT X.K) := by
  intro value slice pins s σ H x y v u Q I rx ry h hs
  obtain ⟨p, xs, i, z, rfl, rfl, hq, he, q⟩ := h
  cases rx
  obtain ⟨t, rfl⟩ := ry
  obtain ⟨its, r, pl, hz⟩ := I.tuple hq
  obtain ⟨j, h1, h2, h3, h4, h5⟩ := atI_get he
  obtain ⟨w, ew, rw'⟩ := r.get h2
  have hl := r.length
  have hn := line63
  have fin : EP X pins σ Q w s := ⟨z, H, I, rw', q⟩
  exact subscriptTail_builtinR (x := w) pl.typeIs slot_tuple_getitem.lookup
    (getItem_tuple (j := j) (Q := fun r s' => r = w ∧ EP X pins σ Q r s') pl (by omega) (by omega) (by rw [List.size_toArray, ← hl]; exact h1) (by simpa using ew) ⟨rfl, fin⟩) hs
/-- list, tuple or str -/
def rIx (K : PySem.W.Frag) : R2 := fun x y H Q => rIxL K x y H Q ∨ rIxT K x y H Q ∨ rIxS x y H Q
/-! ### xs[i] = v, any sign -/
/-- the list's object behind a store -/
theorem mapSeq_set (its : List Value) (n j : Nat) (u : Value) : Obj.mapSeq (·.setIfInBounds j u) { cls := .type "list", data := .seq its.toArray n } = { cls := .type "list", data := .seq (its.set j u).toArray n } := by
  simp [Obj.mapSeq]
theorem Inv.lst {pins : List (Addr × Obj)} {σ : St} {H : Hp} {s : Shared} {p : Addr} {xs : List V} (I : Inv X pins σ H s) (h : H p = some (.lst xs)) :
    ∃ (its : List Value) (n : Nat), Vals xs its ∧ s.heap.get? p = some { cls := .type "list", data := .seq its.toArray n } ∧ xs.length ≤ sizeLine := by
  obtain ⟨z, its, n, r, e⟩ := I.hok p _ h
  exact ⟨its, n, r, e, z⟩
/-- the list at p is written by an update of its object -/
theorem Inv.lstUpd {pins : List (Addr × Obj)} {σ : St} {H : Hp} {s : Shared} {p : Addr} {xs ys : List V} {its its' : List Value} {n n' : Nat} {f : Obj → Obj} (I : Inv X pins σ H s) (h : H p = some (.lst xs))
    (ho : s.heap.get? p = some { cls := .type "list", data := .seq its.toArray n }) (hf : f { cls := .type "list", data := .seq its.toArray n } = { cls := .type "list", data := .seq its'.toArray n' }) (r : Vals ys its') (hz : ys.length ≤ sizeLine) (t : Nat) :
    Inv X pins σ (upd H p (.lst ys)) { s with heap := s.heap.update p f, toks := t } := by
  have e : (s.heap.update p f).get? p = some { cls := .type "list", data := .seq its'.toArray n' } := by
    rw [Heap.get?_update_self f ho (by rw [hf] <;> rfl), hf]
  refine I.write (x := p) (e := p) (by rw [h]; trivial) (.inl rfl) (fun b u hb q => (Heap.get?_update_other _ _ (Ne.symm hb)).trans q) ⟨_, e⟩ ?_
  exact ⟨hz, its', n', r, e⟩
def rSetL : V → V → V → Hp → (Hp → Prop) → Prop := fun o i v H Q => ∃ p xs k j, o = .ref p ∧ i = .int k ∧ H p = some (.lst xs) ∧ ixN xs.length k = some j ∧ Q (upd H p (.lst (xs.set j v)))
theorem set_list : PSet X rSetL := by
  intro pins s σ H o i v ov iv u Q I ro ri rv h
  obtain ⟨p, xs, k, j, rfl, rfl, hp, hj, q⟩ := h
  cases ro
  obtain ⟨t, rfl⟩ := ri
  obtain ⟨its, n, r, ho, hz⟩ := I.lst hp
  obtain ⟨h1, h2, h3, h4⟩ := ixN_seq hj
  have hl := r.length
  have hn := line63
  have I' : Inv X pins σ (upd H p (.lst (xs.set j v))) { s with heap := s.heap.update p (Obj.mapSeq (·.setIfInBounds j u)) } :=
    I.lstUpd hp ho (mapSeq_set its n j u) (r.set rv j) (by rw [List.length_set]; exact hz) s.toks
  by_cases h0 : 0 ≤ k
  · have hk : k.toNat = j := by
      rw [seqIndex_of h0 h4] at h1
      exact Option.some.inj h1
    exact PySem.W.ki_setAt ho h0 (by omega) (by rw [List.size_toArray, ← hl]; exact h4) (by rw [hk]; exact ⟨_, I', q⟩)
  · have hk : (k + (its.toArray.size : Int)).toNat = j := by
      rw [seqIndex_neg (by omega) h3] at h1
      rw [List.size_toArray, ← hl]
      exact Option.some.inj h1
    exact PySem.W.ki_setBack ho (by omega) (by rw [List.size_toArray, ← hl]; exact h3) (by omega) (by rw [hk]; exact ⟨_, I', q⟩)

/-! ### slices -/
theorem slice_bounds (lo hi : Option Int) (n : Nat) : (sliceBounds lo hi none n).1 = ((HT.sIx n 0 lo : Nat) : Int) ∧ (sliceBounds lo hi none n).2.1 = ((HT.sIx n n hi : Nat) : Int) ∧ (sliceBounds lo hi none n).2.2 = 1 := by
  refine ⟨?_, ?_, rfl⟩
  · cases lo with
    | none => simp [sliceBounds, HT.sIx]
    | some i =>
      simp only [sliceBounds, HT.sIx, Option.getD_none, show (1 : Int) > 0 by decide, if_true]
      by_cases h : i < 0
      · simp only [h, if_true] <;> omega
      · simp only [h, if_false] <;> omega
  · cases hi with
    | none => simp [sliceBounds, HT.sIx]
    | some i =>
      simp only [sliceBounds, HT.sIx, Option.getD_none, show (1 : Int) > 0 by decide, if_true]
      by_cases h : i < 0
      · simp only [h, if_true] <;> omega
      · simp only [h, if_false] <;> omega
theorem slicePick_cut (its : List Value) (lo hi : Option Int) : slicePick its.toArray lo hi none = ((its.drop (HT.sIx its.length 0 lo)).take (HT.sIx its.length its.length hi - HT.sIx its.length 0 lo)).toArray := by
  obtain ⟨h1, h2, h3⟩ := slice_bounds lo hi its.toArray.size
  unfold slicePick
  rw [h1, h2, h3]
  simp only [sliceRange_one, pick_run, List.size_toArray] <;> rfl
/-- xs[lo:hi] of a list: a new list -/
def rSlL (K : PySem.W.Frag) : V → Option Int → Option Int → Hp → VK → Prop := fun x lo hi H Q => ∃ a xs, x = .ref a ∧ SqL K H a xs ∧ ∀ p, H p = none → Q (.ref p) (upd H p (.lst (cutV xs lo hi)))
theorem sl_list : SlR X (rSlL X.K) := by
  intro pins s σ H x v vl vu lo hi sl Q I rx hs pl pu h
  obtain ⟨a, xs, rfl, hx, q⟩ := h
  cases rx
  obtain ⟨its, r, ht, hz⟩ := I.list hx
  have hlen := r.length
  refine ⟨"list", _, slot_list_getitem.lookup, ht.isList.typeIs, ?_⟩
  refine wpAny_getItem_list_slice ht.isList hs pl pu .none (by simp) ?_ (by rw [List.size_toArray] <;> omega)
  rw [slicePick_cut, ← hlen]
  refine ⟨.ref s.heap.objs.size, _, I.laid (t' := s.toks) (o := .lst (cutV xs lo hi)) (fun b ob q => Heap.get?_push_of_some _ q) (Nat.le_refl _) ?_, rfl, q _ (I.hok.fresh (Nat.le_refl _))⟩
  exact ⟨Nat.le_trans (cutV_length xs lo hi) hz, _, 0, (r.drop (HT.sIx xs.length 0 lo)).take (HT.sIx xs.length xs.length hi - HT.sIx xs.length 0 lo), Heap.get?_push_size _ rfl⟩

/-! ### in, not in: flat items -/
def flatV : V → Bool
  | .non => true
  | .bl _ => true
  | .int _ => true
  | .str _ => true
  | _ => false
/-- == of flat values -/
def eqV : V → V → Bool
  | .non, .non => true
  | .bl a, .bl b => a == b
  | .bl a, .int b => (if a then 1 else 0) == b
  | .int a, .bl b => a == (if b then 1 else 0)
  | .int a, .int b => a == b
  | .str a, .str b => a == b
  | _, _ => false
/-- the items' answers, read off the values (a value's own answer does not lean on its token) -/
def eqU (x : V) (u : Value) : Bool := match u with
  | .none => eqV .non x
  | .bool b => eqV (.bl b) x
  | .int i _ => eqV (.int i) x
  | .str z _ => eqV (.str z) x
  | _ => false
def inV (x : V) (xs : List V) : Bool := xs.any fun y => eqV y x
/-- x in a list or tuple of flat items -/
def rIn (K : PySem.W.Frag) (neg : Bool) : R2 := fun x y H Q => ∃ p xs, y = .ref p ∧ (SqL K H p xs ∨ SqT K H p xs) ∧ flatV x = true ∧ xs.all flatV = true ∧ Q (.bl (if neg then !inV x xs else inV x xs)) H
/-! ### len, list(x), tuple(x) of any list or tuple that is read -/
theorem call_len_seq : CallR X (.builtin "len") (fun xs H Q => ∃ p ys, xs = [.ref p] ∧ (SqL X.K H p ys ∨ SqT X.K H p ys) ∧ Q (.int ys.length) H) := by
  intro pins s σ H xs us Q I r h
  obtain ⟨p, ys, rfl, hq, q⟩ := h
  obtain ⟨u, rfl, rx⟩ := vals1 r
  cases rx
  have hn := line63
  rcases hq with hq | hq
  · obtain ⟨its, r', pl, hz⟩ := I.list hq
    have hlen := r'.length
    exact Calls.call_len_list pl.isList (by simp only [List.size_toArray] <;> omega) ⟨.int ys.length, H, I.tok _, ⟨s.toks + 1, by rw [List.size_toArray, hlen]⟩, q⟩
  · obtain ⟨its, r', pl, hz⟩ := I.tuple hq
    have hlen := r'.length
    exact len_tuple pl (by simp only [List.size_toArray] <;> omega) ⟨.int ys.length, H, I.tok _, ⟨s.toks + 1, by rw [List.size_toArray, hlen]⟩, q⟩
theorem CallR.or {f : Value} {r r' : List V → Hp → VK → Prop} (h : CallR X f r) (h' : CallR X f r') : CallR X f (fun xs H Q => r xs H Q ∨ r' xs H Q) := by
  intro pins s σ H xs us Q I rs q
  rcases q with q | q
  · exact h pins s σ H xs us Q I rs q
  · exact h' pins s σ H xs us Q I rs q
theorem call_list_of : CallR X (.type "list") (fun xs H Q => ∃ p ys, xs = [.ref p] ∧ (SqL X.K H p ys ∨ SqT X.K H p ys) ∧ ∀ l, H l = none → Q (.ref l) (upd H l (.lst ys))) := by
  intro pins s σ H xs us Q I r h
  obtain ⟨p, ys, rfl, hq, q⟩ := h
  obtain ⟨u, rfl, rx⟩ := vals1 r
  cases rx
  have fin : ∀ (its : List Value), Vals ys its → ys.length ≤ sizeLine → ∀ (h' : Heap) (c' : Nat), (∀ b o', s.heap.get? b = some o' → h'.get? b = some o') →
      h'.get? s.heap.objs.size = some { cls := .type "list", dict := none, data := .seq its.toArray c', slots := #[] } → EP X pins σ Q (.ref s.heap.objs.size) { s with heap := h' } := fun its r' hz h' c' kp e =>
    ⟨.ref s.heap.objs.size, _, I.laid (t' := s.toks) kp (Nat.le_refl _) (show ObjOk X.prog X.w _ h' _ (.lst ys) from ⟨hz, its, c', r', e⟩), rfl, q _ (I.hok.fresh (Nat.le_refl _))⟩
  rcases hq with hq | hq
  · obtain ⟨its, r', pl, hz⟩ := I.list hq
    have hlen := r'.length
    obtain ⟨o, ho, hc, n, hd⟩ := pl.isList
    exact call_list_seq p (.inl rfl) ho hc hd (fun h' c' kp e => fin its r' hz h' c' kp e) (by simp only [List.size_toArray] <;> omega)
  · obtain ⟨its, r', pl, hz⟩ := I.tuple hq
    have hlen := r'.length
    obtain ⟨o, ho, hc, n, hd⟩ := pl
    exact call_list_seq p (.inr rfl) ho hc hd (fun h' c' kp e => fin its r' hz h' c' kp e) (by simp only [List.size_toArray] <;> omega)
/-! ### the call of a builtin's method: o.m(..) -/
/-- the value is of that builtin type -/
def tyV (K : PySem.W.Frag) (T : String) (x : V) (H : Hp) : Prop := match x with
  | .str _ => T = "str"
  | .int _ => T = "int"
  | .ref p => (T = "list" ∧ ∃ xs, SqL K H p xs) ∨ (T = "tuple" ∧ ∃ o, K.lookup p = some o ∧ o.cls = .type "tuple" ∧ o.dict = none) ∨
      (T = "dict" ∧ ((∃ kvs, H p = some (.dK kvs)) ∨ ∃ kvs, H p = some (.dT kvs))) ∨ (T = "set" ∧ ∃ S n, H p = some (.set S n))
  | _ => False
theorem tyV_is {pins : List (Addr × Obj)} {σ : St} {H : Hp} {s : Shared} {T : String} {x : V} {v : Value} (I : Inv X pins σ H s) (r : RelV x v) (ty : tyV X.K T x H) :
    s.TypeIs v T ∧ ∀ a, v = .ref a → ∃ ob, s.heap.get? a = some ob ∧ ob.dict = none := by
  cases x with
  | str z =>
    obtain ⟨t, rfl⟩ := r
    cases (show T = "str" from ty)
    exact ⟨typeIs_str s z t, fun _ e => nomatch e⟩
  | int i =>
    obtain ⟨t, rfl⟩ := r
    cases (show T = "int" from ty)
    exact ⟨typeIs_int s i t, fun _ e => nomatch e⟩
  | ref p =>
    cases r
    rcases ty with ⟨rfl, xs, hq⟩ | ⟨rfl, o, hk, hc, hd⟩ | ⟨rfl, hk⟩ | ⟨rfl, S, n, hk⟩
    · obtain ⟨its, _, pl, _⟩ := I.list hq
      refine ⟨pl.isList.typeIs, fun a e => ?_⟩
      cases e
      obtain ⟨o, n, e, c, hd, _⟩ := pl
      exact ⟨o, e, hd⟩
    · refine ⟨⟨o, I.kIn p o hk, hc⟩, fun a e => ?_⟩
      cases e
      exact ⟨o, I.kIn _ o hk, hd⟩
    · have z : ∃ o, s.heap.get? p = some o ∧ o.ExactDict := by
        rcases hk with ⟨kvs, hk⟩ | ⟨kvs, hk⟩
        · obtain ⟨_, _, _, _, o, _, _, e, ex, _⟩ := I.hok p _ hk
          exact ⟨o, e, ex⟩
        · obtain ⟨_, _, _, _, o, _, _, e, ex, _⟩ := I.hok p _ hk
          exact ⟨o, e, ex⟩
      obtain ⟨o, e, ex⟩ := z
      refine ⟨⟨o, e, ex.1⟩, fun a e2 => ?_⟩
      cases e2
      exact ⟨o, e, ex.2.1⟩
    · obtain ⟨o, _, _, _, e, ex, _⟩ := I.hok p _ hk
      refine ⟨⟨o, e, ex.1⟩, fun a e2 => ?_⟩
      cases e2
      exact ⟨o, e, ex.2.1⟩
  | _ => exact False.elim ty
def tBM0 (K : PySem.W.Frag) (T : String) (r : V → List V → Hp → VK → Prop) (to : TE) : TE := fun σ H Q => to σ H fun x H1 => tyV K T x H1 ∧ r x [] H1 Q
def tBM (K : PySem.W.Frag) (T : String) (r : V → List V → Hp → VK → Prop) (to : TE) (t : TA) : TE := fun σ H Q => to σ H fun x H1 => tyV K T x H1 ∧ t σ H1 fun xs H2 => r x xs H2 Q
variable {o e : Expr} {es : List Expr} {to : TE} {t : TA} {name : Str} {apos cpos : Pos} {T id : String} {r : V → List V → Hp → VK → Prop}
end
end L2

namespace L2
open PySem PySem.Spec PyProof.Rows

def MtM (X : Cx) (id : String) (r : V → List V → Hp → VK → Prop) : Prop :=
  ∀ (pins : List (Addr × Obj)) (s : Shared) (σ : St) (H : Hp) (x : V) (xs : List V) (v : Value) (us : List Value) (Q : VK), Inv X pins σ H s → RelV x v → Vals xs us → r x xs H Q →
    wpAny (model X.prog X.w) X.A (call (.builtin id) (v :: us)) (EP X pins σ Q) X.xe s

/-! ### lists of values -/
theorem Vals.one : ∀ {x : V} {us : List Value}, Vals [x] us → ∃ u, us = [u] ∧ RelV x u
  | _, _, .cons r .nil => ⟨_, rfl, r⟩
theorem Vals.two : ∀ {x y : V} {us : List Value}, Vals [x, y] us → ∃ u v, us = [u, v] ∧ RelV x u ∧ RelV y v
  | _, _, _, .cons r (.cons q .nil) => ⟨_, _, rfl, r, q⟩
theorem Vals.zero : ∀ {us : List Value}, Vals [] us → us = []
  | _, .nil => rfl
theorem Vals.dropLast {xs : List V} {us : List Value} (h : Vals xs us) : Vals xs.dropLast us.dropLast := by
  induction h with
  | nil => exact .nil
  | cons r t ih =>
    cases t with
    | nil => exact .nil
    | cons q t' => exact .cons r ih
theorem Vals.eraseIdx : ∀ {xs : List V} {us : List Value} (i : Nat), Vals xs us → Vals (xs.eraseIdx i) (us.eraseIdx i)
  | _, _, _, .nil => .nil
  | _, _, 0, .cons _ t => t
  | _, _, i + 1, .cons r t => .cons r (Vals.eraseIdx i t)
theorem Vals.reverse {xs : List V} {us : List Value} (h : Vals xs us) : Vals xs.reverse us.reverse := by
  induction h with
  | nil => exact .nil
  | cons r t ih => rw [List.reverse_cons, List.reverse_cons]; exact Vals.append ih (.cons r .nil)
theorem Vals.rep {xs : List V} {us : List Value} (h : Vals xs us) : ∀ k : Nat, Vals (List.replicate k xs).flatten (List.replicate k us).flatten
  | 0 => .nil
  | k + 1 => by
    rw [List.replicate_succ, List.replicate_succ, List.flatten_cons, List.flatten_cons]
    exact Vals.append h (Vals.rep h k)
theorem erase_last {α : Type} (l : List α) : l.eraseIdx (l.length - 1) = l.dropLast := by
  induction l with
  | nil => rfl
  | cons a r ih =>
    cases r with
    | nil => rfl
    | cons b r =>
      have e : (a :: b :: r).length - 1 = ((b :: r).length - 1) + 1 := by
        have h1 : (a :: b :: r).length = r.length + 2 := rfl
        have h2 : (b :: r).length = r.length + 1 := rfl
        omega
      rw [e, List.eraseIdx_cons_succ, ih]
      all_goals rfl
theorem len_erase {α : Type} : ∀ (l : List α) (i : Nat), (l.eraseIdx i).length ≤ l.length
  | [], _ => Nat.le_refl _
  | _ :: _, 0 => Nat.le_succ _
  | _ :: r, i + 1 => Nat.succ_le_succ (len_erase r i)
theorem foldl_rep (its : List Value) : ∀ (k : Nat) (acc : List Value),
    List.foldl (fun x1 x2 => x1 ++ x2) acc.toArray (List.replicate k its.toArray) = (acc ++ (List.replicate k its).flatten).toArray
  | 0, acc => by simp
  | k + 1, acc => by
    have e : acc.toArray ++ its.toArray = (acc ++ its).toArray := by simp
    have e2 : (acc ++ its) ++ (List.replicate k its).flatten = acc ++ (List.replicate (k + 1) its).flatten := by
      rw [List.replicate_succ, List.flatten_cons, List.append_assoc]
    rw [← e2, ← foldl_rep its k (acc ++ its), ← e, List.replicate_succ, List.foldl_cons]

section
variable {X : Cx} {pins : List (Addr × Obj)} {σ : St} {H : Hp} {s : Shared} {l b : Addr} {xs ys zs : List V}

/-! ### the two steps: a tracked list is rewritten, a new list is laid -/
theorem Inv.lset {its its' : List Value} {n : Nat} {f : Array Value → Array Value} {t' : Nat} (I : Inv X pins σ H s) (hH : H l = some (.lst xs))
    (e : s.heap.get? l = some { cls := .type "list", data := .seq its.toArray n }) (hf : f its.toArray = its'.toArray) (hv : Vals ys its') (hz : ys.length ≤ sizeLine) :
    Inv X pins σ (upd H l (.lst ys)) { s with heap := s.heap.update l (Obj.mapSeq f), toks := t' } := by
  have q := PySem.IsL.update e f
  rw [hf] at q
  refine I.write (x := l) (e := l) (by rw [hH]; exact trivial) (.inl rfl) (fun b' u hb hu => (Heap.get?_update_other s.heap (Obj.mapSeq f) (Ne.symm hb)).trans hu) ⟨_, q⟩ ?_
  exact ⟨hz, its', _, hv, q⟩
theorem Inv.lnew {its : List Value} {t' : Nat} (I : Inv X pins σ H s) (hv : Vals ys its) (hz : ys.length ≤ sizeLine) :
    Inv X pins σ (upd H s.heap.objs.size (.lst ys)) { s with heap := s.heap.push { cls := .type "list", data := .seq its.toArray }, toks := t' } :=
  I.laid (fun _ _ q => Heap.get?_push_of_some _ q) (Nat.le_refl _) ⟨hz, its, 0, hv, Heap.get?_push_size _ rfl⟩
theorem Inv.fresh (I : Inv X pins σ H s) : H s.heap.objs.size = none := I.hok.fresh (Nat.le_refl _)
theorem Inv.lstM (I : Inv X pins σ H s) (hH : H l = some (.lst xs)) : xs.length ≤ sizeLine ∧ ∃ (its : List Value) (n : Nat), Vals xs its ∧ xs.length = its.length ∧ s.heap.get? l = some { cls := .type "list", data := .seq its.toArray n } := by
  obtain ⟨z, its, n, r, e⟩ := I.hok l _ hH
  exact ⟨z, its, n, r, r.length, e⟩

theorem notLongL {n : Nat} (h : n ≤ sizeLine) : Builtin.List.listTooLong n = false := by
  unfold Builtin.List.listTooLong
  exact decide_eq_false (by omega)
end

section
variable {X : Cx}

/-! ### methods -/
def rAppend : V → List V → Hp → VK → Prop := fun x vs H Q => ∃ l xs y, x = .ref l ∧ vs = [y] ∧ H l = some (.lst xs) ∧ xs.length < sizeLine ∧ Q .non (upd H l (.lst (xs ++ [y])))
theorem mt_append : MtM X "list.append" rAppend := by
  intro pins s σ H x vs v us Q I rx rv h
  obtain ⟨l, xs, y, rfl, rfl, hH, hz, q⟩ := h
  cases rx
  obtain ⟨u, rfl, ru⟩ := rv.one
  obtain ⟨z, its, n, r, hl, e⟩ := I.lstM hH
  refine call_meets F.slot_list_append ⟨_, e, rfl⟩ F.entry_list_append (F.args_list_append_2 _ _) (PySem.list_append l its.toArray n u (by rw [List.size_toArray]; omega)) ⟨e, ?_⟩
  refine ⟨.non, _, I.lset (its' := its ++ [u]) hH e (by simp) (r.append (.cons ru .nil)) ?_, rfl, q⟩
  rw [List.length_append, List.length_singleton]
  omega

def rExtend : V → List V → Hp → VK → Prop := fun x vs H Q => ∃ l b xs zs, x = .ref l ∧ vs = [.ref b] ∧ H l = some (.lst xs) ∧ H b = some (.lst zs) ∧ xs.length + zs.length ≤ sizeLine ∧ Q .non (upd H l (.lst (xs ++ zs)))
theorem mt_extend : MtM X "list.extend" rExtend := by
  intro pins s σ H x vs v us Q I rx rv h
  obtain ⟨l, b, xs, zs, rfl, rfl, hH, hB, hz, q⟩ := h
  cases rx
  obtain ⟨u, rfl, ru⟩ := rv.one
  cases ru
  obtain ⟨z, its, n, r, hl, e⟩ := I.lstM hH
  obtain ⟨z2, its2, n2, r2, hl2, e2⟩ := I.lstM hB
  have hsz : its.toArray.size + its2.toArray.size ≤ sizeLine := by rw [List.size_toArray, List.size_toArray]; omega
  have hlong : ¬ (!its.toArray.isEmpty && Builtin.List.listTooLong (its.toArray.size + its2.toArray.size)) = true := by
    rw [notLongL hsz, Bool.and_false]
    exact Bool.false_ne_true
  refine call_meets F.slot_list_extend ⟨_, e, rfl⟩ F.entry_list_extend (F.args_list_extend_2 _ _)
    (AutoSeq1.list_extend_list_list_0 l its.toArray n b its2.toArray n2 hlong (by rw [List.size_toArray]; omega) (by omega)) ⟨e, e2, ?_⟩
  refine ⟨.non, _, I.lset (its' := its ++ its2) hH e (by simp) (r.append r2) ?_, rfl, q⟩
  rw [List.length_append]
  omega

def rPop : V → List V → Hp → VK → Prop := fun x vs H Q => ∃ l xs y, x = .ref l ∧ vs = [] ∧ H l = some (.lst xs) ∧ xs[xs.length - 1]? = some y ∧ Q y (upd H l (.lst xs.dropLast))
theorem mt_pop : MtM X "list.pop" rPop := by
  intro pins s σ H x vs v us Q I rx rv h
  obtain ⟨l, xs, y, rfl, rfl, hH, hy, q⟩ := h
  cases rx
  have hus := rv.zero
  subst hus
  obtain ⟨z, its, n, r, hl, e⟩ := I.lstM hH
  obtain ⟨u, hu, ru⟩ := r.get hy
  have hy' : its.toArray[its.toArray.size - 1]? = some u := by
    show its.toArray[its.length - 1]? = some u
    rw [← Array.getElem?_toList, ← hl]
    exact hu
  refine call_meets F.slot_list_pop ⟨_, e, rfl⟩ F.entry_list_pop (F.args_list_pop_1 _) (MeetsSeq.list_pop_last l its.toArray n u hy' (by rw [List.size_toArray]; omega)) ⟨e, ?_⟩
  refine ⟨y, _, I.lset (its' := its.dropLast) hH e ?_ r.dropLast ?_, ru, q⟩
  · show its.toArray.eraseIdxIfInBounds (its.toArray.size - 1) = its.dropLast.toArray
    rw [List.size_toArray, List.eraseIdxIfInBounds_toArray, erase_last]
  · rw [List.length_dropLast]
    omega

def rPopAt : V → List V → Hp → VK → Prop := fun x vs H Q => ∃ l xs i k y, x = .ref l ∧ vs = [.int i] ∧ H l = some (.lst xs) ∧ -(2 ^ 63) ≤ i ∧ i < 2 ^ 63 ∧ seqIndex? i xs.length = some k ∧ xs[k]? = some y ∧ Q y (upd H l (.lst (xs.eraseIdx k)))
theorem mt_popAt : MtM X "list.pop" rPopAt := by
  intro pins s σ H x vs v us Q I rx rv h
  obtain ⟨l, xs, i, k, y, rfl, rfl, hH, h1, h2, hk, hy, q⟩ := h
  cases rx
  obtain ⟨u, rfl, ru⟩ := rv.one
  obtain ⟨t, rfl⟩ := ru
  obtain ⟨z, its, n, r, hl, e⟩ := I.lstM hH
  obtain ⟨w, hw, rw'⟩ := r.get hy
  refine call_meets F.slot_list_pop ⟨_, e, rfl⟩ F.entry_list_pop (F.args_list_pop_2 _ _)
    (MeetsSeq.list_pop_at l its.toArray n i t k w (fitsIndex_both h1 h2) (by rw [List.size_toArray, ← hl]; exact hk) (by rw [← Array.getElem?_toList]; exact hw) (by rw [List.size_toArray]; omega)) ⟨e, ?_⟩
  refine ⟨y, _, I.lset (its' := its.eraseIdx k) hH e ?_ (r.eraseIdx k) ?_, rw', q⟩
  · show its.toArray.eraseIdxIfInBounds k = (its.eraseIdx k).toArray
    rw [List.eraseIdxIfInBounds_toArray]
  · have := len_erase xs k
    omega

def rReverse : V → List V → Hp → VK → Prop := fun x vs H Q => ∃ l xs, x = .ref l ∧ vs = [] ∧ H l = some (.lst xs) ∧ Q .non (upd H l (.lst xs.reverse))
def rClear : V → List V → Hp → VK → Prop := fun x vs H Q => ∃ l xs, x = .ref l ∧ vs = [] ∧ H l = some (.lst xs) ∧ Q .non (upd H l (.lst []))
/-! ### list + list, list += list, list * int -/
def rCat : R2 := fun x y H Q => ∃ l b xs zs, x = .ref l ∧ y = .ref b ∧ H l = some (.lst xs) ∧ H b = some (.lst zs) ∧ xs.length + zs.length ≤ sizeLine ∧ ∀ p, H p = none → Q (.ref p) (upd H p (.lst (xs ++ zs)))
theorem op_cat : OpR X (binaryOp .Add) rCat := by
  intro pins s σ H x y v u Q I rx ry h
  obtain ⟨l, b, xs, zs, rfl, rfl, hH, hB, hz, q⟩ := h
  cases rx
  cases ry
  obtain ⟨z, its, n, r, hl, e⟩ := I.lstM hH
  obtain ⟨z2, its2, n2, r2, hl2, e2⟩ := I.lstM hB
  refine PySem.P.add_list e e2 ?_ (by rw [List.size_toArray, List.size_toArray]; omega)
  have ea : its.toArray ++ its2.toArray = (its ++ its2).toArray := by simp
  rw [ea]
  exact ⟨.ref _, _, I.lnew (t' := s.toks) (r.append r2) (by rw [List.length_append]; omega), rfl, q _ I.fresh⟩
/-- a list times an int (a negative one is nothing) -/
def rRep : R2 := fun x y H Q => ∃ l k xs, x = .ref l ∧ y = .int k ∧ H l = some (.lst xs) ∧ -(2 ^ 63) ≤ k ∧ k < 2 ^ 63 ∧ xs.length * k.toNat ≤ sizeLine ∧
  ∀ p, H p = none → Q (.ref p) (upd H p (.lst (List.replicate k.toNat xs).flatten))
theorem len_rep {α : Type} (xs : List α) (k : Nat) : (List.replicate k xs).flatten.length = k * xs.length := by
  induction k with
  | zero => simp
  | succ k ih => rw [List.replicate_succ, List.flatten_cons, List.length_append, ih, Nat.succ_mul, Nat.add_comm]
theorem op_rep : OpR X (binaryOp .Mult) rRep := by
  intro pins s σ H x y v u Q I rx ry h
  obtain ⟨l, k, xs, rfl, rfl, hH, h1, h2, hz, q⟩ := h
  cases rx
  obtain ⟨t, rfl⟩ := ry
  obtain ⟨z, its, n, r, hl, e⟩ := I.lstM hH
  have hlen : its.toArray.size * k.toNat ≤ sizeLine := by rw [List.size_toArray, ← hl]; exact hz
  have hcap : ¬ its.toArray.size * k.toNat > (2 ^ 63 - 1) / 8 := by
    have : (sizeLine : Nat) ≤ (2 ^ 63 - 1) / 8 := by decide
    omega
  have hfit : ¬ (!Builtin.List.listFitsIndex k) = true := by
    rw [fitsIndex_both h1 h2]
    exact Bool.false_ne_true
  have hlong : ¬ Builtin.List.listTooLong (its.toArray.size * k.toNat) = true := by
    rw [notLongL hlen]
    exact Bool.false_ne_true
  have hnew : List.foldl (fun x1 x2 => x1 ++ x2) #[] (List.replicate (if its.toArray.isEmpty = true then 0 else k.toNat) its.toArray) = (List.replicate k.toNat its).flatten.toArray := by
    have f0 : ∀ m : Nat, List.foldl (fun x1 x2 => x1 ++ x2) #[] (List.replicate m its.toArray) = (List.replicate m its).flatten.toArray := fun m => by
      have := foldl_rep its m []
      rw [List.nil_append] at this
      exact this
    rw [f0]
    cases its with
    | nil => simp
    | cons a r' => rw [if_neg (by simp)]
  refine wpAny_binaryOp_repeat_ref (T := "list") (U := "int") (by decide) ⟨_, e, rfl⟩ (fun s' => typeIs_int s' k t) noFill_list_mul F.fills_int_mul F.slot_int_rmul repeat_list F.slot_int_index.lookup
    (call_meets F.slot_int_rmul (typeIs_int s k t) F.entry_int_rmul (F.args_int_rmul_2 _ _) (int___rmul___int_list k t l its.toArray n)
      ⟨e, rfl, ⟨_, e, rfl⟩, call_meets F.slot_list_mul ⟨_, e, rfl⟩ F.entry_list_mul (F.args_list_mul_2 _ _) (AutoListH.list___mul___list_int_3 l its.toArray n k t hfit hcap hlong) ⟨e, ?_⟩⟩)
  rw [hnew]
  exact ⟨.ref _, _, I.lnew (t' := s.toks) (r.rep k.toNat) (by rw [len_rep, Nat.mul_comm]; exact hz), rfl, q _ I.fresh⟩

/-! ### del xs[i] -/
end

/-! ### xs[a:b] = ys -/
section
variable {prog : Program} {w : World} {A : Around} {E : Value → Shared → Prop} {s : Shared}
set_option maxRecDepth 100000 in
end

section
variable {X : Cx}
end
end L2

namespace Att
open PySem PySem.W PySem.Calls PyProof.Rows

/-! ### the script -/
theorem ints_of_wellAll {P : Params} {h : Heap} : ∀ (ns : List Int) (vs : List Value), WellAll P h vs (ns.map WData.int) → IntsAre vs ns := by
  intro ns
  induction ns with
  | nil =>
    intro vs w
    rw [List.map_nil] at w
    cases w
    exact .nil
  | cons n ns ih =>
    intro vs w
    rw [List.map_cons] at w
    cases w with
    | cons a b =>
      cases a
      exact .cons _ _ (ih _ b)

theorem script_of {l : OpenLaw} {n : Nat} (hn : l.most = some n) {P : Params} {h : Heap} {args : List WData} {vals : List Value}
    (hpre : l.row.toRowW.claim.pre args = true) (hwl : WellAll P h vals args) :
    ∃ a vs ns, vals = [Value.ref a] ∧ args = [WData.list (ns.map WData.int)] ∧ h.get? a = some { cls := .type "list", data := .seq vs.toArray } ∧ IntsAre vs ns ∧ ns.length ≤ n := by
  have hsh : WShape.hasAll [] args [.list .int] = true := (pre_splitW hpre).1
  have hc : l.pre.holds [] { args := args } = true := (pre_splitW hpre).2
  obtain ⟨d, r, rfl, h1, h2⟩ := hasAllW_cons hsh
  obtain rfl := hasAllW_nil h2
  obtain ⟨xs, rfl, h3⟩ := hasW_list h1
  obtain ⟨ns, rfl⟩ := items_int h3
  have hlen : ns.length ≤ n := by
    unfold OpenLaw.pre at hc
    have h4 : (WTm.not (.lt (.lit (.int (n : Int))) (.len (.arg 0)))).holds [] { args := [.list (ns.map .int)] } = true := by
      have h4 := (holds_andW hc).1
      rw [hn] at h4
      exact h4
    have h5 := condW_of h4 (w_not (w_lt w_lit (w_len_list (w_arg rfl))))
    rw [List.length_map] at h5
    refine Nat.le_of_not_lt fun q => ?_
    have q' : (n : Int) < ((ns.length : Nat) : Int) := by omega
    first
      | (rw [decide_eq_true q'] at h5; exact absurd h5 (by decide))
      | (simp at h5; omega)
  cases hwl with
  | cons w1 w2 =>
    cases w2
    cases w1 with
    | list ho hall => exact ⟨_, _, ns, rfl, rfl, ho, ints_of_wellAll ns _ hall, hlen⟩

theorem post_true (l : OpenLaw) (args : List WData) : l.row.toRowW.claim.post args (.bool true) args = true :=
  postW_of (r := l.row.toRowW) (X := (true == true))
    (show WShape.has [] (.bool true) .bool = true by first | rfl | decide | simp [WShape.has, WShape.arms, WShape.armsAll])
    (show (WTm.eq .res (.lit (.bool true))).value [] { args := args, res := some (.bool true), after := args } = some (.bool (true == true)) from w_eq_bool (w_res rfl) w_lit) rfl

/-! ### the attachment: holds_open's last premise (the goal 'hc' behind k_head) from a wpAny of the law's body -/
/-- the same from a codeAny of the CALL (for a layer whose function contracts speak of calls) -/
theorem attach_call {l : OpenLaw} {n : Nat} {q : Program} {loose : List Str} {XP : (Str → Option Value) → Heap → Prop} {YP : World → Heap → Prop} {d : DefRec}
    (hn : l.most = some n) (hdf : d.params.defaults = [])
    (call : ∀ (w : World) (s₀ s₁ : Shared) (mg mb : Str → Option Value) (fa : Addr) (o : Obj) (pm cd doc : Value) (a : Addr) (vs : List Value) (ns : List Int),
      Ground q loose [] XP w s₀ mg mb s₁.heap → YP w s₁.heap →
      s₁.heap.get? fa = some o → o.data = .func (docDef d.name d.params d.body d.scope pm cd doc) → s₁.heap.CodeRec cd d.name → mg d.name = some (.ref fa) →
      s₁.heap.get? a = some { cls := .type "list", data := .seq vs.toArray } → IntsAre vs ns → ns.length ≤ n → s₁.gens = #[] →
      codeAny (model l.prog w) callerA (.call (.ref fa) ⟨[.ref a], []⟩) (fun r s' => r = .ok (.ret (.bool true)) ∧ OldK s₁.heap s'.heap ∧ s'.os = s₁.os ∧ AllBare s'.gens) s₁) :
    WalkO q loose XP YP l.row.toRowW d [] (fun f vs => PySem.call f vs) := by
  intro w s₀ s₁ mg mb G Y fa o pm cd doc dV kV ho hd hcd hD hmg hg args vals as hpre hlay hrd hwl hlo
  obtain rfl : dV = .none := Dflts.none hD hdf
  obtain rfl : kV = .none := Dflts.noKw hD
  obtain ⟨a, vs, ns, rfl, rfl, hobj, hints, hlen⟩ := script_of hn hpre hwl
  refine enter_call (codeAny_mono (call w s₀ s₁ mg mb fa o pm cd doc a vs ns G Y ho (fd_plain hd) hcd hmg hobj hints hlen hg) fun r s' hq => ?_)
  obtain ⟨rfl, h2, h3, h4⟩ := hq
  exact ⟨.inl ⟨.bool true, .bool true, [], rfl, fun _ => rfl, .bool true, post_true l _, fun _ => ⟨List.Pairwise.nil, fun _ hm => (nomatch hm)⟩⟩, h2, h3, h4⟩

/-! ### rules over ANY heap (no ledger) from facts about the written part K: the library's own take a ledger (News) for what they write -/
section
variable {prog : Program} {w : World} {A : Around} {E : Value → Shared → Prop} {s : Shared} {K : Frag}

/-! the whole heap as the ledger: makes every rule that writes through a ledger a rule over any heap -/
def noObjs (h : Heap) : Heap := { h with objs := #[] }
def ledger (h : Heap) (L d : Addr) : List (Addr × Obj) := (List.range h.objs.size).filterMap fun a => if a = L ∨ a = d then none else (h.get? a).map fun o => (a, o)
end
end Att

namespace L2
open PySem PySem.Spec PyProof.Rows

theorem vals_ints : ∀ {vs : List Value} {ns : List Int}, IntsAre vs ns → Vals (ns.map V.int) vs
  | _, _, .nil => .nil
  | _, _, .cons n t h => .cons ⟨t, rfl⟩ (vals_ints h)

/-- nothing is tracked but the script, known to the object (or it is an object of the module) -/
def Only (H : Hp) : Prop := ∀ b, H b = none ∨ ∃ o xs, H b = some (.frz o (.lst xs))

/-- THE HEAD: the law's promise, at the heap behind the top. F, the promise of the law's def, may use that base is part of the heap (so K.In base, base.Ns mainGlobals mg stand in Mod) -/
theorem law_call {P : Program} {w : World} {K : PySem.W.Frag} {mg mb : Str → Option Value} {CX : CXT} {k : Nat} {fa a : Addr} {fd : FuncData} {x : Str} {sp : Sp} {s₁ : Shared} {vs : List Value} {ns : List Int}
    (KX : K.In s₁.heap) (hns : s₁.heap.Ns mainGlobals mg) (hb : s₁.heap.Ns builtinsNs mb) (hbb : ∀ x : Str, x ≠ "__name__" → mb x = bootBuiltins x) (hlim : s₁.heap.NoLimit) (hg : s₁.gens = #[])
    (ha : s₁.heap.get? a = some { cls := .type "list", data := .seq vs.toArray }) (hi : IntsAre vs ns) (hl : ns.length ≤ sizeLine) (hr : Room k callerA)
    (F : ∀ base : Heap, K.In base → base.Ns mainGlobals mg → FnOk P w K mg base CX k fa fd [x] sp) (hbind : ∀ (s : Shared) (u : Value), BindsTo s fd ⟨[u], []⟩ [(x, u)])
    (hsp : ∀ H : Hp, Only H → SqL K H a (ns.map V.int) → sp [.ref a] H (fun v _ => v = .bl true) fun _ _ _ => False)
    (hCX : ∀ H e s', CX [] H s₁ (fun _ _ _ => False) e s' → False) :
    codeAny (model P w) callerA (.call (.ref fa) ⟨[.ref a], []⟩) (fun r s' => r = .ok (.ret (.bool true)) ∧ OldK s₁.heap s'.heap ∧ s'.os = s₁.os ∧ AllBare s'.gens) s₁ := by
  have rv := vals_ints hi
  have lenV := hi.length
  -- from an abstract heap in which nothing but the script may be tracked
  have core : ∀ H : Hp, Only H → SqL K H a (ns.map V.int) → HOk P w H s₁.heap → (∀ b, H b ≠ none → b = a) → (H a ≠ none → K.lookup a = none) →
      codeAny (model P w) callerA (.call (.ref fa) ⟨[.ref a], []⟩) (fun r s' => r = .ok (.ret (.bool true)) ∧ OldK s₁.heap s'.heap ∧ s'.os = s₁.os ∧ AllBare s'.gens) s₁ := by
    intro H hO hS hok hA hK
    have base_of : ∀ {b : Addr} {o : Obj}, s₁.heap.get? b = some o → H b = none → (hidT s₁.heap H).get? b = some o := fun e n => hidT_get e n
    have noA : ∀ {b : Addr} {o : Obj} {es : Array DictEntry} {ep : Nat}, s₁.heap.get? b = some o → o.data = .dict es ep → H b = none := fun {b o es ep} e d => by
      cases q : H b with
      | none => rfl
      | some u =>
        have e' : b = a := hA b (by rw [q]; simp)
        subst e'
        rw [ha] at e; cases e
        have d' : Data.seq vs.toArray _ = Data.dict es ep := d
        cases d'
    have nsK : ∀ {b : Addr} {m : Str → Option Value}, s₁.heap.Ns b m → (hidT s₁.heap H).Ns b m := fun {b m} ⟨o, es, ep, e, d, r⟩ => ⟨o, es, ep, base_of e (noA e d), d, r⟩
    have hKb : K.In (hidT s₁.heap H) := fun b o e => base_of (KX b o e) (by
      cases q : H b with
      | none => rfl
      | some u =>
        have e' : b = a := hA b (by rw [q]; simp)
        subst e'
        rw [hK (by rw [q]; simp)] at e; cases e)
    have hM : Mod K mg (hidT s₁.heap H) := ⟨hKb, nsK hns, ⟨mb, nsK hb, hbb⟩, let ⟨mc, h1, h2⟩ := hlim; ⟨mc, nsK h1, h2⟩⟩
    have e0 : Env0 P w K mg (hidT s₁.heap H) callerA [] s₁ H := ⟨rfl, hM, fun b o e => of_hidT e, Nat.le_of_eq (hidT_size _ _), trivial, fun b hb => absurd (show b ∈ ([] : List Addr) from hb) (by simp), hok, .of_eq hg⟩
    refine codeAny_mono ((F _ hKb (nsK hns)).run callerA [] s₁ H ⟨[.ref a], []⟩ [.ref a] [.ref a] _ _ hr e0 (hbind s₁ (.ref a)) (.cons rfl .nil) (hsp H hO hS)) fun r s' h => ?_
    cases r with
    | error e => exact (hCX H e s' h).elim
    | ok fl =>
      cases fl with
      | next => exact False.elim h
      | brk => exact False.elim h
      | cont => exact False.elim h
      | ret u =>
        obtain ⟨v, H', os, bare, un, hok', r', q⟩ := h
        have q' : v = .bl true := q
        subst q'
        obtain rfl : u = Value.bool true := r'
        refine ⟨rfl, OldK.of_keep fun b o e => ?_, os, bare⟩
        cases q : H b with
        | none => exact un.keep b o e q (by intro z; exact absurd (show b ∈ ([] : List Addr) from z) (by simp)) (by simp)
        | some u =>
          rcases hO b with z | ⟨ob, xs, z⟩
          · rw [q] at z; cases z
          · have z2 := un.frzs b ob _ z
            obtain ⟨e1, _⟩ := hok b _ z
            obtain ⟨e2, _⟩ := hok' b _ z2
            rw [e] at e1; cases e1
            exact e2
  cases hk : K.lookup a with
  | some o =>
    -- the script is one of the module's own objects
    have e := KX a o hk
    rw [ha] at e
    cases e
    refine core (fun _ => none) (fun _ => .inl rfl) (.inr ⟨_, vs.toArray, _, hk, rfl, rfl, rfl, by rw [List.size_toArray, lenV]; exact hl, by simpa using rv⟩) (fun b u z => by have z' : (none : Option HO) = some u := z; cases z') (fun b z => absurd rfl z) fun z => absurd rfl z
  | none =>
    refine core (fun b => if b = a then some (.frz { cls := .type "list", data := .seq vs.toArray } (.lst (ns.map V.int))) else none) (fun b => ?_) (.inl (.inr ⟨{ cls := .type "list", data := .seq vs.toArray }, if_pos rfl⟩)) (fun b u z => ?_) (fun b z => ?_) fun _ => hk
    · by_cases hb : b = a
      · exact .inr ⟨_, _, if_pos hb⟩
      · exact .inl (if_neg hb)
    · by_cases hb : b = a
      · have z' := (if_pos hb).symm.trans z
        cases z'
        subst hb
        exact ⟨ha, by rw [List.length_map]; exact hl, vs, _, rv, ha⟩
      · have z' := (if_neg hb).symm.trans z
        cases z'
    · by_cases hb : b = a
      · exact hb
      · exact absurd (if_neg hb) z
end L2

namespace L2
open PySem PySem.Spec PyProof.Rows

abbrev KOf {K : PySem.W.Frag} {h : Heap} (_ : K.In h) : PySem.W.Frag := K

/-- the goal that k_head leaves (case hc), from the law's promise. F gives the function object fd (K's own) once, then the promise over every base -/
theorem walk_of {l : PySem.W.OpenLaw} {n k : Nat} {q : Program} {loose : List Str} {XP : (Str → Option Value) → Heap → Prop} {YP : World → Heap → Prop} {d : DefRec} {K : Params → PySem.W.Frag} {CX : World → CXT} {sp : World → Sp} {x : Str}
    (hn : l.most = some n) (hn2 : n ≤ sizeLine) (hdf : d.params.defaults = []) (hr : Room k callerA)
    (hY : ∀ (w : World) (h : Heap), YP w h → (K w.params).In h)
    (F : ∀ (w : World) (mg : Str → Option Value) (fa : Addr) (h : Heap), (K w.params).In h → h.Ns mainGlobals mg → mg d.name = some (.ref fa) →
      ∃ fd : FuncData, (∀ (s : Shared) (u : Value), BindsTo s fd ⟨[u], []⟩ [(x, u)]) ∧
        ∀ base : Heap, (K w.params).In base → base.Ns mainGlobals mg → FnOk l.prog w (K w.params) mg base (CX w) k fa fd [x] (sp w))
    (hsp : ∀ (w : World) (H : Hp) (a : Addr) (ns : List Int), ns.length ≤ n → Only H → SqL (K w.params) H a (ns.map V.int) → sp w [.ref a] H (fun v _ => v = .bl true) fun _ _ _ => False)
    (hCX : ∀ (w : World) (H : Hp) (s : Shared) (e : Value) (s' : Shared), CX w [] H s (fun _ _ _ => False) e s' → False) :
    PySem.W.WalkO q loose XP YP l.row.toRowW d [] (fun f vs => PySem.call f vs) := by
  refine Att.attach_call hn hdf fun w s₀ s₁ mg mb fa o pm cd doc a vs ns G Y ho hd hcd hmg hobj hints hlen hg => ?_
  have KX := hY w _ Y
  obtain ⟨fd, hb, hF⟩ := F w mg fa _ KX G.T.g hmg
  exact law_call KX G.T.g G.T.b G.T.builtins G.T.nolimit hg hobj hints (Nat.le_trans hlen hn2) hr hF hb (fun H hO hS => hsp w H a ns hlen hO hS) fun H e s' => hCX w H s₁ e s'
end L2

/- THE LAST THEOREM (shape; LID, My.* are yours):
   My.Adr: a structure of the addresses that your layer names (classes, functions); My.Txt K t: a structure (Prop) of the equations over K;
   My.txt_mk : {K} {implicit addresses ..} (e1 : nsIn K mainGlobals "law" = some (some (.ref f))) (e2 : K.lookup f = some ⟨oc, od, .func (fnOf "law" "law" params body scope dV kV doc pm an cdv ct), sl⟩) (e3 : codeIn K cdv "law" = true) .. : ∃ t, My.Txt K t

set_option maxRecDepth 100000 in
set_option maxHeartbeats 0 in
theorem PySem.Challenge.cw_LID_holds : PySem.Challenge.rw_LID.Holds := by
  w_on; o_law; k_head; (case hw => w_witness2)
  k_fill
  refine L2.walk_of (l := PySem.Challenge.rw_LID) (n := 63) (k := 40) (x := "script") (CX := fun w => ..) (sp := fun _ => My.sp_law) rfl (by decide) rfl ⟨rfl, by decide, by decide⟩ (fun w h Y => PySem.W.kIn_of Y) ?F ?S ?C
  case F =>
    intro w mg fa h KX G hmg
    have T : ∃ t, My.Txt (L2.KOf KX) t := by
      dsimp only [L2.KOf]                          -- K must stand as «<heap const> w.params» for k_is
      refine' My.txt_mk ?e1 ?e2 ?e3 ..
      (case e1 => PySem.W.k_is)                    -- in the order: a name -> its address -> its object -> its parts
      (case e2 => PySem.W.k_is)
      ..
    obtain ⟨t, T⟩ := T
    have e0 := hmg.symm.trans (PySem.W.mg_of KX G T.law)
    cases e0                                       -- fa is the law's own address
    exact ⟨_, fun s u => .of_eq rfl, fun base kb nb => My.law_fn T kb nb⟩     -- if «.of_eq rfl» comes too early: refine' ⟨_, ?b, fun base kb nb => My.law_fn T kb nb⟩; exact fun s u => .of_eq rfl
  case S => exact fun w H a ns hl hO hS => ..
  case C => exact ..
(the tactic k_is has no namespace: write k_is) -/

/-! SHORT WORDS over the layer: a def of the text, its body, what a loop and a test want. -/
namespace L2
open PySem PySem.Spec PyProof.Rows

/-! ### the text by places -/
/-- the j-th statement of a class's body -/
def inClass (s : Stmt) (j : Nat) : Stmt := match s with
  | .ClassDef _ _ _ body _ _ _ _ _ _ _ => body.getD j (.Pass ⟨0, 0, 0, 0⟩)
  | _ => .Pass ⟨0, 0, 0, 0⟩
def defArgs (s : Stmt) : Arguments := match s with
  | .FunctionDef _ a _ _ _ _ _ _ _ _ => a
  | _ => { posonlyargs := [], args := [], vararg := none, kwonlyargs := [], kw_defaults := [], kwarg := none, defaults := [] }
def defBody (s : Stmt) : List Stmt := match s with
  | .FunctionDef _ _ b _ _ _ _ _ _ _ => b
  | _ => []
def defScope (s : Stmt) : Scope := match s with
  | .FunctionDef _ _ _ _ _ _ sc _ _ _ => sc
  | _ => { kind := .function, names := [], isGenerator := false, isCoroutine := false }

/-! ### no exception leaves a def -/
abbrev CX0 : CXT := fun _ _ _ _ _ _ => False
abbrev E0 : XK := fun _ _ _ => False
theorem pass0 {X : Cx} : Passes CX0 X E0 := fun _ _ _ _ _ _ _ h => h.elim

/-! ### a def (or method) of the text as it stands behind the top -/
structure Fun (K : PySem.W.Frag) (x qual : Str) (st : Stmt) (f : Addr) (fd : FuncData) : Prop where
  ex : ∃ (oc : Value) (od : Option Addr) (kV doc pm : Value) (an : Option Addr) (cdv ct : Value) (osl : Array (Option Value)),
    fd = PySem.W.fnOf x qual (defArgs st) (defBody st) (defScope st) .none kV doc pm an cdv ct ∧ K.lookup f = some ⟨oc, od, .func fd, osl⟩ ∧ PySem.W.codeIn K cdv qual = true
  kp : PySem.W.keepIn K (.ref f) = true
section
variable {P : Program} {w : World} {K : PySem.W.Frag} {mg : Str → Option Value} {base : Heap}
/-- THE RULE for a def: its body as a term of rules, and the reading of that term -/
theorem Fun.ok {x qual : Str} {st : Stmt} {f : Addr} {fd : FuncData} {N ps : List Str} {k : Nat} {sp : Sp} (F : Fun K x qual st f fd) (S : FnScope N ps (defScope st)) (len : ∀ vs H Q E, sp vs H Q E → vs.length = ps.length)
    (hbody : ∀ (cdv : Value) (A : Around) (outer : List Env) (s : Shared) (H : Hp) (vs : List V) (Q : VK) (E : XK), Room k (A.deeper (envOfC qual (defScope st) s.heap.objs.size f cdv)) → sp vs H Q E →
      ∃ t, PSs (cxOf CX0 P w K mg base N qual (defScope st) f cdv A outer s H E).nox (defBody st) t ∧ t { nx := fun _ H' => Q .non H', rt := Q } (start N vs) H) : FnOk P w K mg base CX0 (k + 1) f fd ps sp := by
  obtain ⟨oc, od, kV, doc, pm, an, cdv, ct, osl, rfl, lk, hcd⟩ := F.ex
  refine fn_of lk hcd S len fun A outer s H vs Q E hr hsp => ?_
  obtain ⟨t, h, q⟩ := hbody cdv A outer s H vs Q E hr hsp
  exact ⟨t, h.nox, q⟩
/-- how its arguments bind (no defaults): h is «fun _ _ _ _ _ _ us hl => match us, hl with | [_, _], _ => rfl», one _ a parameter -/
theorem Fun.binds {x qual : Str} {st : Stmt} {f : Addr} {fd : FuncData} {ps : List Str} (F : Fun K x qual st f fd)
    (h : ∀ (kV doc pm : Value) (an : Option Addr) (cdv ct : Value) (us : List Value), us.length = ps.length → bindArgs (PySem.W.fnOf x qual (defArgs st) (defBody st) (defScope st) .none kV doc pm an cdv ct) ⟨us, []⟩ = pure (ps.zip us)) : Binds K fd ps [] := by
  obtain ⟨oc, od, kV, doc, pm, an, cdv, ct, osl, rfl, lk, hcd⟩ := F.ex
  exact .all (h kV doc pm an cdv ct)
theorem fun_mk {x qual : Str} {st : Stmt} {f : Addr} {oc : Value} {od an : Option Addr} {osl : Array (Option Value)} {kV doc pm cdv ct : Value} (l : K.lookup f = some ⟨oc, od, .func (PySem.W.fnOf x qual (defArgs st) (defBody st) (defScope st) .none kV doc pm an cdv ct), osl⟩)
    (c : PySem.W.codeIn K cdv qual = true) (k : PySem.W.keepIn K (.ref f) = true) : Fun K x qual st f (PySem.W.fnOf x qual (defArgs st) (defBody st) (defScope st) .none kV doc pm an cdv ct) := ⟨⟨oc, od, kV, doc, pm, an, cdv, ct, osl, rfl, l, c⟩, k⟩
end
theorem hu_of {A : Around} {k : Nat} (hr : Room k A) : A.units + 1 < cLine := Nat.lt_of_le_of_lt (Nat.add_le_add_left (by decide : 1 ≤ 64) _) hr.units
/-! ### expressions in short: the name that stands in the i-th slot -/
section
variable {X : Cx}
theorem pv (i : Nat) {x : Str} {pos : Pos} (hN : X.N[i]? = some x := by rfl) (hv : Vis X.env.scope x := by first | exact Or.inl rfl | exact Or.inr (Or.inl rfl) | exact Or.inr (Or.inr rfl)) (hd : (x == ("__debug__" : Str)) = false := by decide)
    (hcd : (x == ("__classdict__" : Str)) = false := by decide) : PE X (.Name x pos) (tVar i) := pe_var hN hv hd hcd
end

/-! ### tests -/
/-! ### heaps -/
/-- all that was tracked is as it was -/
def Same (H H' : Hp) : Prop := ∀ b o, H b = some o → H' b = some o
theorem Same.refl (H : Hp) : Same H H := fun _ _ h => h
theorem Same.trans {H H1 H2 : Hp} (a : Same H H1) (b : Same H1 H2) : Same H H2 := fun c o h => b c o (a c o h)
theorem Same.free {H H' : Hp} (e : Same H H') {l : Addr} (h : H' l = Option.none) : H l = Option.none := by
  cases q : H l with
  | none => rfl
  | some o =>
    rw [e l o q] at h
    cases h
theorem Same.seq {K : PySem.W.Frag} {H H' : Hp} {a : Addr} {xs : List V} (e : Same H H') (h : SqL K H a xs) : SqL K H' a xs := by
  rcases h with (h | ⟨o, h⟩) | h
  · exact .inl (.inl (e _ _ h))
  · exact .inl (.inr ⟨o, e _ _ h⟩)
  · exact .inr h

end L2
set_option maxHeartbeats 4000000
namespace RS
/-! ### the numbers' laying, as plain functions -/
/-- the place of the first number greater than n: behind those that are not greater -/
def gt (r : List Int) (n : Int) : List Int := r.filter (fun o => decide (n < o))
def lt (r : List Int) (n : Int) : List Int := r.filter (fun o => decide (o < n))
def layL : List (List Int) → Int → List (List Int) × Nat
  | [], n => ([[n]], 0)
  | r :: rs, n => if (gt r n).length = 0 then ((r ++ [n]) :: rs, 0)
    else ((r.set (r.length - (gt r n).length) n) :: (layL rs ((gt r n).headD 0)).1, (layL rs ((gt r n).headD 0)).2 + 1)
def layP : List (List Int) → Int → List (List Int) × Nat
  | [], n => ([[n]], 0)
  | r :: rs, n => if (lt r n).length = r.length then ((r ++ [n]) :: rs, 0)
    else ((r.take (lt r n).length ++ [n] ++ r.drop ((lt r n).length + 1)) :: (layP rs (r.getD (lt r n).length 0)).1, (layP rs (r.getD (lt r n).length 0)).2 + 1)

def Rise (r : List Int) : Prop := r.Pairwise (· < ·)
/-- s stands below r -/
def Below (r s : List Int) : Prop := s.length ≤ r.length ∧ ∀ (j : Nat) (x y : Int), r[j]? = some x → s[j]? = some y → x < y
/-- stairs, row by row -/
inductive Stairs : List (List Int) → Prop
  | nil : Stairs []
  | one {r : List Int} : r ≠ [] → Rise r → Stairs [r]
  | cons {r s : List Int} {rs : List (List Int)} : r ≠ [] → Rise r → Below r s → Stairs (s :: rs) → Stairs (r :: s :: rs)

theorem rise_gt {r : List Int} (h : Rise r) (n : Int) (hn : n ∉ r) : r = lt r n ++ gt r n := by
  induction r with
  | nil => rfl
  | cons a r ih =>
    have h1 := List.pairwise_cons.mp h
    have hn' : n ∉ r := fun z => hn (List.mem_cons_of_mem _ z)
    have hna : n ≠ a := fun z => hn (z ▸ List.mem_cons_self)
    unfold lt gt at *
    by_cases hl : a < n
    · have hg : ¬ n < a := by omega
      rw [List.filter_cons, List.filter_cons, if_pos (decide_eq_true hl), if_neg (by simp; omega), List.cons_append, ← ih h1.2 hn']
    · have hg : n < a := by omega
      have e1 : r.filter (fun o => decide (o < n)) = [] := by
        rw [List.filter_eq_nil_iff]
        intro b hb
        have := h1.1 b hb
        simp; omega
      have e2 : r.filter (fun o => decide (n < o)) = r := by
        rw [List.filter_eq_self]
        intro b hb
        have := h1.1 b hb
        simp; omega
      rw [List.filter_cons, List.filter_cons, if_neg (by simp; omega), if_pos (decide_eq_true hg), e1, e2, List.nil_append]
theorem lt_gt_len {r : List Int} (h : Rise r) (n : Int) (hn : n ∉ r) : (lt r n).length + (gt r n).length = r.length := by
  have e := congrArg List.length (rise_gt h n hn)
  rw [List.length_append] at e
  omega
theorem set_mid {α : Type} (a : List α) (x y : α) (b : List α) : (a ++ x :: b).set a.length y = a ++ y :: b := by
  induction a with
  | nil => rfl
  | cons c a ih => simp [ih]
/-- what is laid in is there, and what was there -/
theorem lay_perm : ∀ (rs : List (List Int)) (n : Int), (∀ r ∈ rs, Rise r) → n ∉ rs.flatten → rs.flatten.Nodup → (layL rs n).1.flatten.Perm (n :: rs.flatten)
  | [], n, _, _, _ => by unfold layL; simp
  | r :: rs, n, hr, hn, nd => by
    have hR := hr r List.mem_cons_self
    have hnr : n ∉ r := fun z => hn (by rw [List.flatten_cons]; exact List.mem_append_left _ z)
    have e := rise_gt hR n hnr
    have el := lt_gt_len hR n hnr
    unfold layL
    cases hg : gt r n with
    | nil =>
      rw [if_pos (by simp)]
      show ((r ++ [n]) :: rs).flatten.Perm _
      rw [List.flatten_cons, List.flatten_cons, List.append_assoc]
      exact List.perm_middle
    | cons x g =>
      rw [hg] at e el
      rw [if_neg (by simp)]
      have e1 : r.length - (x :: g).length = (lt r n).length := by omega
      generalize lt r n = a at *
      have hx : x ∉ rs.flatten := fun z => by
        rw [List.flatten_cons, List.nodup_append] at nd
        exact nd.2.2 x (by rw [e]; simp) x z rfl
      have hd : (x :: g).headD 0 = x := rfl
      have e4 : r.set a.length n = a ++ n :: g := by subst e; exact set_mid _ _ _ _
      rw [hd, e1, e4]
      show ((a ++ n :: g) :: (layL rs x).1).flatten.Perm _
      rw [List.flatten_cons, List.flatten_cons, e]
      have ih := lay_perm rs x (fun s hs => hr s (List.mem_cons_of_mem _ hs)) hx (by rw [List.flatten_cons, List.nodup_append] at nd; exact nd.2.1)
      refine (List.Perm.append_left _ ih).trans ?_
      rw [List.append_assoc, List.append_assoc]
      refine List.perm_middle.trans (List.Perm.cons n ?_)
      refine List.Perm.append_left a ?_
      exact List.perm_middle
end RS

namespace RS
def ins (r : List Int) (n : Int) : List Int := lt r n ++ n :: (gt r n).tail
theorem layL_cons {r : List Int} {rs : List (List Int)} {n : Int} (hR : Rise r) (hn : n ∉ r) :
    layL (r :: rs) n = (match gt r n with | [] => (ins r n :: rs, 0) | x :: _ => (ins r n :: (layL rs x).1, (layL rs x).2 + 1)) := by
  have e := rise_gt hR n hn
  have el := lt_gt_len hR n hn
  rw [layL]
  unfold ins
  cases hg : gt r n with
  | nil =>
    rw [hg] at e
    rw [if_pos (by simp)]
    simp at e ⊢
    exact e
  | cons x g =>
    rw [hg] at e el
    have e1 : r.length - (x :: g).length = (lt r n).length := by omega
    rw [if_neg (by simp), e1]
    generalize lt r n = a at *
    have e4 : r.set a.length n = a ++ n :: g := by subst e; exact set_mid _ _ _ _
    rw [e4]
    rfl
theorem mem_lt {r : List Int} {n a : Int} (h : a ∈ lt r n) : a ∈ r ∧ a < n := by
  unfold lt at h
  have := List.mem_filter.mp h
  exact ⟨this.1, of_decide_eq_true this.2⟩
theorem mem_gt {r : List Int} {n a : Int} (h : a ∈ gt r n) : a ∈ r ∧ n < a := by
  unfold gt at h
  have := List.mem_filter.mp h
  exact ⟨this.1, of_decide_eq_true this.2⟩
theorem rise_ins {r : List Int} {n : Int} (hR : Rise r) (hn : n ∉ r) : Rise (ins r n) := by
  have e := rise_gt hR n hn
  unfold ins Rise
  have h1 : (lt r n).Pairwise (· < ·) := hR.sublist (List.filter_sublist)
  have h2 : (gt r n).Pairwise (· < ·) := hR.sublist (List.filter_sublist)
  rw [List.pairwise_append]
  refine ⟨h1, List.pairwise_cons.mpr ⟨fun b hb => (mem_gt (List.mem_of_mem_tail hb)).2, h2.sublist (List.tail_sublist _)⟩, fun a ha b hb => ?_⟩
  have := (mem_lt ha).2
  rcases List.mem_cons.mp hb with rfl | hb
  · exact this
  · have := (mem_gt (List.mem_of_mem_tail hb)).2
    omega
theorem below_ins {r s : List Int} {n x : Int} {g : List Int} (hR : Rise r) (hS : Rise s) (hB : Below r s) (hn : n ∉ r) (hg : gt r n = x :: g) (hx : x ∉ s) : Below (ins r n) (ins s x) := by
  have er := rise_gt hR n hn
  have es := rise_gt hS x hx
  have hnx : n < x := (mem_gt (r := r) (n := n) (a := x) (by rw [hg]; simp)).2
  have ha : ∀ y ∈ lt r n, y < n := fun y h => (mem_lt h).2
  have hb : ∀ y ∈ lt s x, y < x := fun y h => (mem_lt h).2
  have hc : ∀ y ∈ gt s x, x < y := fun y h => (mem_gt h).2
  obtain ⟨hlen, hcol⟩ := hB
  unfold ins
  rw [hg] at er ⊢
  generalize lt r n = a at *
  generalize lt s x = b at *
  generalize gt s x = c at *
  subst er
  subst es
  have hab : b.length ≤ a.length := by
    apply Nat.le_of_not_lt
    intro hlt
    have e1 : (b ++ c)[a.length]? = some b[a.length] := by rw [List.getElem?_append_left hlt, List.getElem?_eq_getElem hlt]
    have := hcol a.length x b[a.length] (by simp) e1
    have := hb _ (List.getElem_mem hlt)
    omega
  refine ⟨?_, fun j u v hu hv => ?_⟩
  · simp only [List.length_append, List.length_cons, List.length_tail, List.tail_cons] at hlen ⊢
    omega
  · rw [List.tail_cons] at hu
    by_cases h1 : j < b.length
    · rw [List.getElem?_append_left (by omega)] at hu
      rw [List.getElem?_append_left h1] at hv
      exact hcol j u v (by rw [List.getElem?_append_left (by omega)]; exact hu) (by rw [List.getElem?_append_left h1]; exact hv)
    · by_cases h2 : j = b.length
      · subst h2
        have ev : v = x := by simpa using hv.symm
        subst ev
        by_cases h3 : b.length < a.length
        · rw [List.getElem?_append_left h3] at hu
          have := ha u (List.mem_of_getElem? hu)
          omega
        · have e3 : b.length = a.length := by omega
          rw [e3] at hu
          have : u = n := by simpa using hu.symm
          omega
      · have e1 : (b ++ c)[j]? = some v := by
          rw [List.getElem?_append_right (by omega)] at hv ⊢
          obtain ⟨k, hk⟩ : ∃ k, j - b.length = k + 1 := ⟨j - b.length - 1, by omega⟩
          rw [hk, List.getElem?_cons_succ] at hv
          rw [hk]
          cases c with
          | nil => simp at hv
          | cons c0 c => simpa using hv
        by_cases h3 : j = a.length
        · subst h3
          have : u = n := by simpa using hu.symm
          have := hcol a.length x v (by simp) e1
          omega
        · refine hcol j u v ?_ e1
          by_cases h4 : j < a.length
          · rw [List.getElem?_append_left h4] at hu ⊢
            exact hu
          · rw [List.getElem?_append_right (by omega)] at hu ⊢
            obtain ⟨k, hk⟩ : ∃ k, j - a.length = k + 1 := ⟨j - a.length - 1, by omega⟩
            rw [hk] at hu ⊢
            exact hu
theorem Stairs.rise : ∀ {rs : List (List Int)}, Stairs rs → ∀ r ∈ rs, Rise r
  | _, .nil, r, h => by simp at h
  | _, .one _ hr, r, h => by simp at h; subst h; exact hr
  | _, .cons _ hr _ t, r, h => by
    rcases List.mem_cons.mp h with rfl | h
    · exact hr
    · exact t.rise r h
theorem Stairs.pos : ∀ {rs : List (List Int)}, Stairs rs → ∀ r ∈ rs, r ≠ []
  | _, .nil, r, h => by simp at h
  | _, .one hr _, r, h => by simp at h; subst h; exact hr
  | _, .cons hr _ _ t, r, h => by
    rcases List.mem_cons.mp h with rfl | h
    · exact hr
    · exact t.pos r h
theorem Stairs.tail : ∀ {r : List Int} {rs : List (List Int)}, Stairs (r :: rs) → Stairs rs
  | _, _, .one _ _ => .nil
  | _, _, .cons _ _ _ t => t
theorem ins_ne (r : List Int) (n : Int) : ins r n ≠ [] := by unfold ins; simp
theorem lay_head {s : List Int} {rs : List (List Int)} {x : Int} (hS : Rise s) (hx : x ∉ s) : ∃ t, (layL (s :: rs) x).1 = ins s x :: t := by
  rw [layL_cons hS hx]
  cases gt s x with
  | nil => exact ⟨_, rfl⟩
  | cons y g => exact ⟨_, rfl⟩
theorem lay_stairs : ∀ {rs : List (List Int)} {n : Int}, Stairs rs → n ∉ rs.flatten → rs.flatten.Nodup → Stairs (layL rs n).1
  | [], n, _, _, _ => by unfold layL; exact .one (by simp) (List.pairwise_singleton _ _)
  | r :: rs, n, hS, hn, nd => by
    have hR := hS.rise r List.mem_cons_self
    have hnr : n ∉ r := fun z => hn (by rw [List.flatten_cons]; exact List.mem_append_left _ z)
    have hT := hS.tail
    have nd' := nd
    rw [List.flatten_cons, List.nodup_append] at nd'
    rw [layL_cons hR hnr]
    cases hg : gt r n with
    | nil =>
      show Stairs (ins r n :: rs)
      have ei : ins r n = r ++ [n] := by
        have e := rise_gt hR n hnr
        unfold ins
        rw [hg] at e ⊢
        simp at e ⊢
        exact e.symm
      cases hS with
      | one h1 h2 => exact .one (ins_ne _ _) (rise_ins hR hnr)
      | @cons _ s rs' h1 h2 h3 h4 =>
        refine .cons (ins_ne _ _) (rise_ins hR hnr) ?_ h4
        rw [ei]
        refine ⟨by rw [List.length_append]; exact Nat.le_trans h3.1 (Nat.le_add_right _ _), fun j x y hx hy => ?_⟩
        have hj : j < r.length := Nat.lt_of_lt_of_le (List.getElem?_eq_some_iff.mp hy).1 h3.1
        rw [List.getElem?_append_left hj] at hx
        exact h3.2 j x y hx hy
    | cons x g =>
      show Stairs (ins r n :: (layL rs x).1)
      have hxr : x ∈ r := (mem_gt (r := r) (n := n) (a := x) (by rw [hg]; simp)).1
      have hx : x ∉ rs.flatten := fun z => nd'.2.2 x hxr x z rfl
      have ih := lay_stairs hT hx nd'.2.1
      cases hS with
      | one h1 h2 =>
        have e : (layL [] x).1 = [[x]] := rfl
        rw [e] at ih ⊢
        refine .cons (ins_ne _ _) (rise_ins hR hnr) ?_ ih
        have hb := below_ins (s := []) hR List.Pairwise.nil ⟨Nat.zero_le _, fun j a b _ hb => by simp at hb⟩ hnr hg (by simp)
        exact hb
      | @cons _ s rs' h1 h2 h3 h4 =>
        have hSs := h4.rise s List.mem_cons_self
        have hxs : x ∉ s := fun z => hx (by rw [List.flatten_cons]; exact List.mem_append_left _ z)
        obtain ⟨t, et⟩ := lay_head (rs := rs') hSs hxs
        rw [et] at ih ⊢
        exact .cons (ins_ne _ _) (rise_ins hR hnr) (below_ins hR hSs h3 hnr hg hxs) ih
/-- the stairs of a row, number by number: first and second -/
def grow (sec : List (List Int)) (at_ : Nat) (k : Int) : List (List Int) :=
  if at_ = sec.length then sec ++ [[k]] else sec.set at_ (sec.getD at_ [] ++ [k])
def laidFrom : List Int → Nat → List (List Int) × List (List Int) → List (List Int) × List (List Int)
  | [], _, p => p
  | n :: r, k, p => laidFrom r (k + 1) ((layL p.1 n).1, grow p.2 (layL p.1 n).2 ((k : Int) + 1))
def laidL (row : List Int) : List (List Int) × List (List Int) := laidFrom row 0 ([], [])
theorem laidFrom_ok : ∀ (row : List Int) (k : Nat) (p : List (List Int) × List (List Int)), Stairs p.1 → (p.1.flatten ++ row).Nodup →
    Stairs (laidFrom row k p).1 ∧ (laidFrom row k p).1.flatten.Perm (p.1.flatten ++ row)
  | [], k, p, h, nd => ⟨h, by simp [laidFrom]⟩
  | n :: r, k, p, h, nd => by
    have nd' := nd
    rw [List.nodup_append] at nd'
    have hn : n ∉ p.1.flatten := fun z => nd'.2.2 n z n List.mem_cons_self rfl
    have hp := lay_perm p.1 n h.rise hn nd'.1
    have pm : ((layL p.1 n).1.flatten ++ r).Perm (p.1.flatten ++ n :: r) := (List.Perm.append_right r hp).trans (by
      show (n :: p.1.flatten ++ r).Perm _
      exact List.perm_middle.symm)
    obtain ⟨h1, h2⟩ := laidFrom_ok r (k + 1) ((layL p.1 n).1, grow p.2 (layL p.1 n).2 ((k : Int) + 1)) (lay_stairs h hn nd'.1) (pm.nodup_iff.mpr nd)
    exact ⟨h1, h2.trans pm⟩
theorem laidL_stairs {row : List Int} (nd : row.Nodup) : Stairs (laidL row).1 ∧ (laidL row).1.flatten.Perm row := by
  have := laidFrom_ok row 0 ([], []) .nil (by simpa using nd)
  simpa [laidL] using this
end RS

namespace RS
/-! ### readings and columns -/
def column (R : List (List Int)) (p : Nat) : List Int := (R.filter (fun r => decide (p < r.length))).map (fun r => r.getD p 0)
def width (R : List (List Int)) : Nat := (R.headD []).length
def turnedP (R : List (List Int)) : List (List Int) := (List.range (width R)).map (column R)
def addCol : List (List Int) → List Int → List (List Int)
  | made, [] => made
  | [], x :: r => [x] :: addCol [] r
  | c :: made, x :: r => (c ++ [x]) :: addCol made r
def colsL (R : List (List Int)) : List (List Int) := R.foldl addCol []
def readL (R : List (List Int)) : List Int := R.reverse.flatten
theorem addCol_get : ∀ (m : List (List Int)) (r : List Int) (p : Nat), (addCol m r)[p]? = match m[p]?, r[p]? with | some c, some x => some (c ++ [x]) | some c, none => some c | none, some x => some [x] | none, none => none
  | m, [], p => by cases m <;> simp [addCol] <;> split <;> simp_all
  | [], x :: r, 0 => by simp [addCol]
  | [], x :: r, p + 1 => by
    have ih := addCol_get [] r p
    simp only [addCol, List.getElem?_cons_succ, List.getElem?_nil] at ih ⊢
    exact ih
  | c :: m, x :: r, 0 => by simp [addCol]
  | c :: m, x :: r, p + 1 => by
    have ih := addCol_get m r p
    simp only [addCol, List.getElem?_cons_succ] at ih ⊢
    exact ih
theorem column_snoc (R : List (List Int)) (r : List Int) (p : Nat) : column (R ++ [r]) p = column R p ++ (r[p]?).toList := by
  unfold column
  rw [List.filter_append, List.map_append]
  congr 1
  by_cases h : p < r.length
  · rw [List.filter_cons, if_pos (decide_eq_true h)]
    simp [List.getD_eq_getElem?_getD, List.getElem?_eq_getElem h]
  · rw [List.filter_cons, if_neg (by simp; omega)]
    simp [List.getElem?_eq_none (Nat.le_of_not_lt h)]
theorem colsL_snoc (R : List (List Int)) (r : List Int) : colsL (R ++ [r]) = addCol (colsL R) r := by simp [colsL]
theorem colsL_get (R : List (List Int)) (p : Nat) : (colsL R)[p]? = if column R p = [] then none else some (column R p) := by
  induction hn : R.length generalizing R p with
  | zero =>
    have : R = [] := List.length_eq_zero_iff.mp hn
    subst this; simp [colsL, column]
  | succ n ih =>
    obtain ⟨S, r, rfl⟩ : ∃ S r, R = S ++ [r] := ⟨R.dropLast, R.getLast (by intro h; subst h; simp at hn), (List.dropLast_concat_getLast _).symm⟩
    have ihS := ih S p (by simpa using hn)
    rw [colsL_snoc, addCol_get, ihS, column_snoc]
    cases hr : r[p]? with
    | none =>
      by_cases hc : column S p = []
      · simp [hc]
      · simp [hc]
    | some x =>
      by_cases hc : column S p = []
      · simp [hc]
      · simp [hc]
def Dec (R : List (List Int)) : Prop := R.Pairwise (fun r s => s.length ≤ r.length)
theorem Dec.column_get : ∀ {R : List (List Int)}, Dec R → ∀ (p q : Nat), (column R p)[q]? = (R[q]?).bind (fun r => r[p]?)
  | [], _, p, q => by simp [column]
  | r :: R, h, p, q => by
    have h1 := List.pairwise_cons.mp h
    have ih := Dec.column_get h1.2 p
    by_cases hp : p < r.length
    · have e : column (r :: R) p = r.getD p 0 :: column R p := by
        unfold column
        rw [List.filter_cons, if_pos (decide_eq_true hp), List.map_cons]
      rw [e]
      cases q with
      | zero => simp [List.getD_eq_getElem?_getD, List.getElem?_eq_getElem hp]
      | succ q => simp only [List.getElem?_cons_succ]; exact ih q
    · have e : column (r :: R) p = [] := by
        unfold column
        rw [List.filter_eq_nil_iff.mpr]
        · rfl
        · intro s hs
          have : s.length ≤ r.length := by
            rcases List.mem_cons.mp hs with rfl | hs
            · exact Nat.le_refl _
            · exact h1.1 s hs
          simp; omega
      rw [e]
      cases hq : (r :: R)[q]? with
      | none => simp
      | some s =>
        have hs : s ∈ r :: R := List.mem_of_getElem? hq
        have : s.length ≤ r.length := by
          rcases List.mem_cons.mp hs with rfl | hs
          · exact Nat.le_refl _
          · exact h1.1 s hs
        simp only [Option.bind_some, List.getElem?_nil]
        exact (List.getElem?_eq_none (by omega)).symm
theorem Dec.col_ne {R : List (List Int)} (h : Dec R) (p : Nat) : column R p ≠ [] ↔ p < width R := by
  cases R with
  | nil => simp [column, width]
  | cons r R =>
    have e : (column (r :: R) p)[0]? = r[p]? := by rw [h.column_get]; simp
    constructor
    · intro hne
      cases hc : column (r :: R) p with
      | nil => exact absurd hc hne
      | cons x c =>
        rw [hc] at e
        simp at e
        exact (List.getElem?_eq_some_iff.mp e.symm).1
    · intro hp hne
      rw [hne] at e
      simp [width] at hp
      simp at e
      omega
theorem Dec.cols {R : List (List Int)} (h : Dec R) : colsL R = turnedP R := by
  apply List.ext_getElem?
  intro p
  rw [colsL_get]
  unfold turnedP
  rw [List.getElem?_map]
  by_cases hp : p < width R
  · rw [if_neg ((h.col_ne p).mpr hp), List.getElem?_range hp]; rfl
  · have : column R p = [] := Classical.byContradiction fun z => hp ((h.col_ne p).mp z)
    rw [if_pos this, List.getElem?_eq_none (by simp; omega)]; rfl
theorem turnedP_get (R : List (List Int)) (p : Nat) : (turnedP R)[p]? = if p < width R then some (column R p) else none := by
  unfold turnedP
  rw [List.getElem?_map]
  by_cases hp : p < width R
  · rw [if_pos hp, List.getElem?_range hp]; rfl
  · rw [if_neg hp, List.getElem?_eq_none (by simp; omega)]; rfl
theorem Stairs.dec : ∀ {R : List (List Int)}, Stairs R → Dec R
  | _, .nil => .nil
  | _, .one _ _ => List.pairwise_singleton _ _
  | _, .cons (r := r) (s := s) (rs := rs) _ _ hb t => by
    have ih := t.dec
    refine List.pairwise_cons.mpr ⟨fun u hu => ?_, ih⟩
    rcases List.mem_cons.mp hu with rfl | hu
    · exact hb.1
    · exact Nat.le_trans ((List.pairwise_cons.mp ih).1 u hu) hb.1
end RS

namespace RS
/-! ### what the laws draw -/
def drawnZ (ns : List Int) (k many : Int) : Int :=
  ((if ns.length = 0 then 7 else ns.getD (k % (ns.length : Int)).toNat 0) * (48271 + 9973 * (k % 97)) + (k + 1) * (k + 3) * 16807 + (ns.length : Int)) % 2147483647 / 16 % many
theorem drawn_lo (ns : List Int) (k : Int) {m : Int} (h : 0 < m) : 0 ≤ drawnZ ns k m := Int.emod_nonneg _ (by omega)
theorem drawn_hi (ns : List Int) (k : Int) {m : Int} (h : 0 < m) : drawnZ ns k m < m := Int.emod_lt_of_pos _ h
def insAt {α : Type} (i : Nat) (x : α) (l : List α) : List α := l.take i ++ x :: l.drop i
theorem insAt_perm {α : Type} (i : Nat) (x : α) (l : List α) : (insAt i x l).Perm (x :: l) := by
  unfold insAt
  refine List.perm_middle.trans (List.Perm.cons x ?_)
  rw [List.take_append_drop]
/-- the order, after k numbers -/
def ordZ (ns : List Int) : Nat → List Int
  | 0 => []
  | k + 1 => insAt (drawnZ ns (10 + 2 * (k : Int)) ((k : Int) + 1)).toNat (k : Int) (ordZ ns k)
/-- the number, after k steps -/
def numZ (ns : List Int) (n0 g : Int) : Nat → Int
  | 0 => n0
  | k + 1 => numZ ns n0 g k + 1 + drawnZ ns (11 + 2 * (k : Int)) 3 * g
def numsZ (ns : List Int) (n0 g : Int) (k : Nat) : List Int := (List.range k).map fun i => numZ ns n0 g (i + 1)
def manyZ (ns : List Int) (bound : Int) : Int := if drawnZ ns 1 4 = 1 then drawnZ ns 2 (bound + 1) else drawnZ ns 0 (if bound + 1 < 9 then bound + 1 else 9)
def greatZ (ns : List Int) : Int := if drawnZ ns 4 3 = 2 then 10 ^ 27 else 1
def rowZ (ns : List Int) (bound : Int) : List Int :=
  (ordZ ns (manyZ ns bound).toNat).map fun k => (numsZ ns (drawnZ ns 3 2001 - 1000) (greatZ ns) (manyZ ns bound).toNat).getD k.toNat 0
theorem many_lo (ns : List Int) {bound : Int} (h : 0 ≤ bound) : 0 ≤ manyZ ns bound := by
  unfold manyZ
  split
  · exact drawn_lo _ _ (by omega)
  · exact drawn_lo _ _ (by split <;> omega)
theorem many_hi (ns : List Int) {bound : Int} (h : 0 ≤ bound) : manyZ ns bound ≤ bound := by
  unfold manyZ
  split
  · have := drawn_hi ns 2 (m := bound + 1) (by omega); omega
  · have := drawn_hi ns 0 (m := if bound + 1 < 9 then bound + 1 else 9) (by split <;> omega)
    have h2 : (if bound + 1 < 9 then bound + 1 else 9) ≤ bound + 1 := by split <;> omega
    omega
theorem ordZ_perm (ns : List Int) : ∀ k, (ordZ ns k).Perm ((List.range k).map fun (i : Nat) => (i : Int))
  | 0 => by simp [ordZ]
  | k + 1 => by
    unfold ordZ
    refine (insAt_perm _ _ _).trans ?_
    rw [List.range_succ, List.map_append]
    refine (List.Perm.cons _ (ordZ_perm ns k)).trans ?_
    simp only [List.map_cons, List.map_nil]
    exact (List.perm_append_singleton _ _).symm
theorem ordZ_len (ns : List Int) (k : Nat) : (ordZ ns k).length = k := by
  have := (ordZ_perm ns k).length_eq
  simpa using this
theorem ordZ_mem {ns : List Int} {k : Nat} {v : Int} (h : v ∈ ordZ ns k) : 0 ≤ v ∧ v < k := by
  have := (ordZ_perm ns k).mem_iff.mp h
  obtain ⟨i, hi, rfl⟩ := List.mem_map.mp this
  have := List.mem_range.mp hi
  omega
theorem great_pos (ns : List Int) : 1 ≤ greatZ ns := by
  unfold greatZ
  split
  · decide
  · decide
theorem numZ_lt (ns : List Int) (n0 : Int) {g : Int} (hg : 1 ≤ g) (i : Nat) : ∀ d, numZ ns n0 g i < numZ ns n0 g (i + d + 1)
  | 0 => by
    show _ < numZ ns n0 g i + 1 + _ * g
    have h1 := drawn_lo ns (11 + 2 * (i : Int)) (m := 3) (by decide)
    have := Int.mul_nonneg h1 (show 0 ≤ g by omega)
    omega
  | d + 1 => by
    have h := numZ_lt ns n0 hg i d
    show _ < numZ ns n0 g (i + d + 1) + 1 + drawnZ ns (11 + 2 * ((i + d + 1 : Nat) : Int)) 3 * g
    have h1 := drawn_lo ns (11 + 2 * ((i + d + 1 : Nat) : Int)) (m := 3) (by decide)
    have := Int.mul_nonneg h1 (show 0 ≤ g by omega)
    omega
theorem numsZ_len (ns : List Int) (n0 g : Int) (k : Nat) : (numsZ ns n0 g k).length = k := by simp [numsZ]
theorem numsZ_get (ns : List Int) (n0 g : Int) {k i : Nat} (h : i < k) : (numsZ ns n0 g k)[i]? = some (numZ ns n0 g (i + 1)) := by
  unfold numsZ
  rw [List.getElem?_map, List.getElem?_range h]; rfl
theorem numsZ_succ (ns : List Int) (n0 g : Int) (k : Nat) : numsZ ns n0 g (k + 1) = numsZ ns n0 g k ++ [numZ ns n0 g (k + 1)] := by
  unfold numsZ
  rw [List.range_succ, List.map_append]; rfl
theorem rowZ_nodup (ns : List Int) (bound : Int) : (rowZ ns bound).Nodup := by
  unfold rowZ
  generalize (manyZ ns bound).toNat = k
  have hg := great_pos ns
  have hp := (ordZ_perm ns k).map fun v => (numsZ ns (drawnZ ns 3 2001 - 1000) (greatZ ns) k).getD v.toNat 0
  refine hp.nodup_iff.mpr ?_
  rw [List.map_map]
  unfold List.Nodup
  rw [List.pairwise_map]
  refine List.Pairwise.imp_of_mem (fun {a b} ha hb hab => ?_) (List.pairwise_lt_range (n := k))
  have ha' := List.mem_range.mp ha
  have hb' := List.mem_range.mp hb
  simp only [Function.comp, Int.toNat_natCast, List.getD_eq_getElem?_getD]
  rw [numsZ_get _ _ _ ha', numsZ_get _ _ _ hb']
  simp only [Option.getD_some]
  have := numZ_lt ns (drawnZ ns 3 2001 - 1000) hg (a + 1) (b - a - 1)
  have e : a + 1 + (b - a - 1) + 1 = b + 1 := by omega
  rw [e] at this
  omega
theorem rowZ_len (ns : List Int) {bound : Int} (h : 0 ≤ bound) : ((rowZ ns bound).length : Int) = manyZ ns bound := by
  unfold rowZ
  rw [List.length_map, ordZ_len]
  have := many_lo ns h
  omega
/-! ### sizes -/
theorem lay_at : ∀ (rs : List (List Int)) (n : Int), (layL rs n).2 ≤ rs.length ∧ (layL rs n).1.length = if (layL rs n).2 = rs.length then rs.length + 1 else rs.length
  | [], n => by simp [layL]
  | r :: rs, n => by
    rw [layL]
    split
    · simp
    · have ih := lay_at rs ((gt r n).headD 0)
      refine ⟨?_, ?_⟩
      · exact Nat.succ_le_succ ih.1
      · show (_ :: _).length = if _ + 1 = _ then _ else _
        rw [List.length_cons, ih.2]
        simp only [List.length_cons, Nat.add_right_cancel_iff]
        split <;> rfl
theorem lay_len : ∀ (rs : List (List Int)) (n : Int) (B : Nat), (∀ r ∈ rs, r.length ≤ B) → ∀ r ∈ (layL rs n).1, r.length ≤ B + 1
  | [], n, B, h, r, hr => by simp [layL] at hr; subst hr; simp
  | s :: rs, n, B, h, r, hr => by
    rw [layL] at hr
    have hs := h s List.mem_cons_self
    have ht : ∀ r ∈ rs, r.length ≤ B := fun r hr => h r (List.mem_cons_of_mem _ hr)
    split at hr
    · rcases List.mem_cons.mp hr with rfl | hr
      · simp; exact hs
      · have := ht r hr; omega
    · rcases List.mem_cons.mp hr with rfl | hr
      · simp; omega
      · exact lay_len rs _ B ht r hr
end RS

namespace RS
theorem laidFrom_snoc : ∀ (r : List Int) (n : Int) (k : Nat) (p : List (List Int) × List (List Int)),
    laidFrom (r ++ [n]) k p = ((layL (laidFrom r k p).1 n).1, grow (laidFrom r k p).2 (layL (laidFrom r k p).1 n).2 ((k + r.length : Nat) + 1))
  | [], n, k, p => by simp [laidFrom]
  | m :: r, n, k, p => by
    show laidFrom (r ++ [n]) (k + 1) _ = _
    rw [laidFrom_snoc r n (k + 1)]
    have e : k + 1 + r.length = k + (m :: r).length := by simp; omega
    rw [e]
    rfl
theorem laidFrom_size : ∀ (r : List Int) (k : Nat) (p : List (List Int) × List (List Int)) (B : Nat), p.1.length = p.2.length → (∀ s ∈ p.1, s.length ≤ B) → (∀ s ∈ p.2, s.length ≤ B) →
    (laidFrom r k p).1.length = (laidFrom r k p).2.length ∧ (laidFrom r k p).1.length ≤ p.1.length + r.length ∧ (∀ s ∈ (laidFrom r k p).1, s.length ≤ B + r.length) ∧ ∀ s ∈ (laidFrom r k p).2, s.length ≤ B + r.length
  | [], k, p, B, h1, h2, h3 => ⟨h1, Nat.le_refl _, fun s hs => h2 s hs, fun s hs => h3 s hs⟩
  | n :: r, k, p, B, h1, h2, h3 => by
    obtain ⟨a1, a2⟩ := lay_at p.1 n
    have a3 := lay_len p.1 n B h2
    have g1 : (layL p.1 n).1.length = (grow p.2 (layL p.1 n).2 ((k : Int) + 1)).length := by
      rw [a2]
      unfold grow
      rw [h1]
      split
      · simp
      · simp
    have g2 : ∀ s ∈ grow p.2 (layL p.1 n).2 ((k : Int) + 1), s.length ≤ B + 1 := by
      intro s hs
      unfold grow at hs
      split at hs
      · rcases List.mem_append.mp hs with hs | hs
        · have := h3 s hs; omega
        · simp at hs; subst hs; simp
      · rcases List.mem_or_eq_of_mem_set hs with hs | rfl
        · have := h3 s hs; omega
        · rw [List.length_append, List.getD_eq_getElem?_getD]
          cases e : p.2[(layL p.1 n).2]? with
          | none => simp
          | some u => have := h3 u (List.mem_of_getElem? e); simp; exact this
    obtain ⟨b1, b2, b3, b4⟩ := laidFrom_size r (k + 1) ((layL p.1 n).1, grow p.2 (layL p.1 n).2 ((k : Int) + 1)) (B + 1) g1 a3 g2
    refine ⟨b1, ?_, fun s hs => ?_, fun s hs => ?_⟩
    · have : (layL p.1 n).1.length ≤ p.1.length + 1 := by rw [a2]; split <;> omega
      show (laidFrom r (k + 1) _).1.length ≤ _
      simp only [List.length_cons]
      simp only at b2
      omega
    · have := b3 s hs; simp only [List.length_cons]; omega
    · have := b4 s hs; simp only [List.length_cons]; omega
theorem laid_size (row : List Int) : (laidL row).1.length = (laidL row).2.length ∧ (laidL row).1.length ≤ row.length ∧ (∀ s ∈ (laidL row).1, s.length ≤ row.length) ∧ ∀ s ∈ (laidL row).2, s.length ≤ row.length := by
  have := laidFrom_size row 0 ([], []) 0 rfl (by simp) (by simp)
  simpa [laidL] using this
theorem laidL_snoc (r : List Int) (n : Int) : laidL (r ++ [n]) = ((layL (laidL r).1 n).1, grow (laidL r).2 (layL (laidL r).1 n).2 ((r.length : Int) + 1)) := by
  have := laidFrom_snoc r n 0 ([], [])
  simpa [laidL] using this
end RS

namespace RS
/-! ### the program's own laying of a row -/
def laidPFrom : List Int → Nat → List (List Int) × List (List Int) → List (List Int) × List (List Int)
  | [], _, p => p
  | n :: r, k, p => laidPFrom r (k + 1) ((layP p.1 n).1, grow p.2 (layP p.1 n).2 ((k : Int) + 1))
def laidP (row : List Int) : List (List Int) × List (List Int) := laidPFrom row 0 ([], [])
end RS

namespace RS
/-! ## exchanges as plain functions -/
def atZ (row : List Int) (i : Nat) : Int := row.getD i 0
def lowX (row : List Int) (i : Nat) : Int := if atZ row (i + 1) < atZ row i then atZ row (i + 1) else atZ row i
def highX (row : List Int) (i : Nat) : Int := if atZ row i < atZ row (i + 1) then atZ row (i + 1) else atZ row i
def betwX (row : List Int) (i : Nat) (z : Int) : Bool := decide (lowX row i < z) && decide (z < highX row i)
def mayX (row : List Int) (i : Nat) : Bool := (decide (1 ≤ i) && betwX row i (atZ row (i - 1))) || (decide (i + 2 < row.length) && betwX row i (atZ row (i + 2)))
def exX (row : List Int) (i : Nat) : List Int := row.take i ++ [atZ row (i + 1), atZ row i] ++ row.drop (i + 2)
def nextX (row : List Int) : List (List Int) := ((List.range (row.length - 1)).filter (mayX row)).map (exX row)
theorem atZ_get {row : List Int} {i : Nat} (h : i < row.length) : row[i]? = some (atZ row i) := by
  unfold atZ
  rw [List.getD_eq_getElem?_getD, List.getElem?_eq_getElem h]; rfl
end RS

namespace RS
/-! ## laying a word; exchanges keep what comes -/
def lay1 : List (List Int) → Int → List (List Int)
  | [], n => [[n]]
  | r :: rs, n => match gt r n with | [] => ins r n :: rs | x :: _ => ins r n :: lay1 rs x
def layW (R : List (List Int)) (w : List Int) : List (List Int) := w.foldl lay1 R
def bmp (r : List Int) (n : Int) : List Int := (gt r n).take 1
def bmpW (r : List Int) : List Int → List Int × List Int
  | [] => (r, [])
  | n :: w => ((bmpW (ins r n) w).1, bmp r n ++ (bmpW (ins r n) w).2)
theorem layW_snoc (R : List (List Int)) (n : Int) (w : List Int) : layW R (n :: w) = layW (lay1 R n) w := rfl
theorem layW_app (R : List (List Int)) (u v : List Int) : layW R (u ++ v) = layW (layW R u) v := by unfold layW; rw [List.foldl_append]
theorem layW_cons : ∀ (w : List Int) (r : List Int) (rs : List (List Int)), layW (r :: rs) w = (bmpW r w).1 :: layW rs (bmpW r w).2
  | [], r, rs => rfl
  | n :: w, r, rs => by
    rw [layW_snoc, lay1, bmpW]
    unfold bmp
    cases hg : gt r n with
    | nil => simp only; rw [layW_cons w]; rfl
    | cons x g => simp only; rw [layW_cons w]; rfl
theorem split_lt {L G : List Int} {n : Int} (hL : ∀ a ∈ L, a < n) (hG : ∀ a ∈ G, n < a) : lt (L ++ G) n = L := by
  unfold lt
  rw [List.filter_append, List.filter_eq_self.mpr (fun a h => by simpa using hL a h), List.filter_eq_nil_iff.mpr (fun a h => by have := hG a h; simp; omega), List.append_nil]
theorem split_gt {L G : List Int} {n : Int} (hL : ∀ a ∈ L, a < n) (hG : ∀ a ∈ G, n < a) : gt (L ++ G) n = G := by
  unfold gt
  have e1 : L.filter (fun o => decide (n < o)) = [] := List.filter_eq_nil_iff.mpr (fun a h => by have := hL a h; simp; omega)
  have e2 : G.filter (fun o => decide (n < o)) = G := List.filter_eq_self.mpr (fun a h => by simpa using hG a h)
  rw [List.filter_append, e1, e2, List.nil_append]
theorem bmpW_at {L G : List Int} {n : Int} (w : List Int) (hL : ∀ a ∈ L, a < n) (hG : ∀ a ∈ G, n < a) : bmpW (L ++ G) (n :: w) = ((bmpW (L ++ n :: G.tail) w).1, G.take 1 ++ (bmpW (L ++ n :: G.tail) w).2) := by
  rw [bmpW]
  unfold bmp ins
  rw [split_lt hL hG, split_gt hL hG]
inductive Kn : List Int → List Int → Prop
  | k1 {x y z : Int} : x < y → y < z → Kn [y, x, z] [y, z, x]
  | k2 {x y z : Int} : x < y → y < z → Kn [x, z, y] [z, x, y]
def KR (u v : List Int) : Prop := u = v ∨ Kn u v ∨ Kn v u
theorem rise_app {L G : List Int} (h : Rise (L ++ G)) : Rise L ∧ Rise G ∧ ∀ a ∈ L, ∀ b ∈ G, a < b := List.pairwise_append.mp h
/-- two parts of a rising row by a number that is not in it -/
theorem part2 {r : List Int} (h : Rise r) {n : Int} (hn : n ∉ r) : ∃ L G, r = L ++ G ∧ (∀ a ∈ L, a < n) ∧ ∀ a ∈ G, n < a :=
  ⟨lt r n, gt r n, rise_gt h n hn, fun _ ha => (mem_lt ha).2, fun _ ha => (mem_gt ha).2⟩
theorem row_k1 {r : List Int} {x y z : Int} (h : Rise r) (hx : x ∉ r) (hy : y ∉ r) (hz : z ∉ r) (xy : x < y) (yz : y < z) : (bmpW r [y, x, z]).1 = (bmpW r [y, z, x]).1 ∧ KR (bmpW r [y, x, z]).2 (bmpW r [y, z, x]).2 := by
  obtain ⟨L, G, rfl, hL, hG⟩ := part2 h hy
  obtain ⟨hRL, hRG, hLG⟩ := rise_app h
  obtain ⟨A, B, rfl, hA, hB⟩ := part2 hRL (n := x) (fun z => hx (List.mem_append_left _ z))
  have hRt : Rise G.tail := hRG.sublist (List.tail_sublist _)
  obtain ⟨E1, E2, eE, hE1, hE2⟩ := part2 hRt (n := z) (fun q => hz (List.mem_append_right _ (List.mem_of_mem_tail q)))
  have hT : ∀ a ∈ E1 ++ E2, y < a := fun a ha => hG a (List.mem_of_mem_tail (eE ▸ ha))
  rw [bmpW_at _ hL hG, bmpW_at _ hL hG, eE]
  have hBy : ∀ a ∈ A ++ B, a < z := fun a ha => by have := hL a ha; omega
  have c1 : ∀ a ∈ A ++ B ++ y :: E1, a < z := fun a ha => by
    rcases List.mem_append.mp ha with ha | ha
    · exact hBy a ha
    · rcases List.mem_cons.mp ha with rfl | ha
      · exact yz
      · exact hE1 a ha
  have e1 : A ++ B ++ y :: (E1 ++ E2) = (A ++ B ++ y :: E1) ++ E2 := by simp
  have e2 : A ++ B ++ y :: (E1 ++ E2) = A ++ (B ++ y :: (E1 ++ E2)) := by simp
  have c2 : ∀ a ∈ B ++ y :: (E1 ++ E2), x < a := fun a ha => by
    rcases List.mem_append.mp ha with ha | ha
    · exact hB a ha
    · rcases List.mem_cons.mp ha with rfl | ha
      · exact xy
      · have := hT a ha; omega
  have c3 : ∀ a ∈ B ++ y :: (E1 ++ z :: E2.tail), x < a := fun a ha => by
    rcases List.mem_append.mp ha with ha | ha
    · exact hB a ha
    · rcases List.mem_cons.mp ha with rfl | ha
      · exact xy
      · rcases List.mem_append.mp ha with ha | ha
        · have := hT a (List.mem_append_left _ ha); omega
        · rcases List.mem_cons.mp ha with rfl | ha
          · omega
          · have := hT a (List.mem_append_right _ (List.mem_of_mem_tail ha)); omega
  rw [show bmpW (A ++ B ++ y :: (E1 ++ E2)) [x, z] = bmpW (A ++ (B ++ y :: (E1 ++ E2))) [x, z] by rw [e2], bmpW_at _ hA c2]
  rw [show bmpW (A ++ B ++ y :: (E1 ++ E2)) [z, x] = bmpW ((A ++ B ++ y :: E1) ++ E2) [z, x] by rw [e1], bmpW_at _ c1 hE2]
  rw [show A ++ B ++ y :: E1 ++ z :: E2.tail = A ++ (B ++ y :: (E1 ++ z :: E2.tail)) by simp, bmpW_at _ hA c3]
  have fin : ∀ hd : Int, hd ≤ y → KR (G.take 1 ++ ([hd] ++ E2.take 1)) (G.take 1 ++ (E2.take 1 ++ [hd])) := fun hd hh => by
    cases E2 with
    | nil => exact .inl (by simp)
    | cons e E2 =>
      cases G with
      | nil => simp at eE
      | cons g G =>
        refine .inr (.inl ?_)
        have g1 := hG g List.mem_cons_self
        have g2 : g < e := (List.pairwise_cons.mp hRG).1 e (by simp at eE; rw [eE]; simp)
        exact Kn.k1 (by omega) g2
  cases B with
  | nil =>
    have e3 : A ++ x :: ([] ++ y :: (E1 ++ E2)).tail = (A ++ x :: E1) ++ E2 := by simp
    rw [e3, bmpW_at _ (fun a ha => by
      rcases List.mem_append.mp ha with ha | ha
      · have := hA a ha; omega
      · rcases List.mem_cons.mp ha with rfl | ha
        · omega
        · exact hE1 a ha) hE2]
    exact ⟨by simp [bmpW], by simpa [bmpW] using fin y (by omega)⟩
  | cons b B =>
    have e3 : A ++ x :: (b :: B ++ y :: (E1 ++ E2)).tail = (A ++ x :: (B ++ y :: E1)) ++ E2 := by simp
    have hbB : ∀ a ∈ b :: B, a < y := fun a ha => hL a (List.mem_append_right _ ha)
    rw [e3, bmpW_at _ (fun a ha => by
      rcases List.mem_append.mp ha with ha | ha
      · have := hA a ha; omega
      · rcases List.mem_cons.mp ha with rfl | ha
        · omega
        · rcases List.mem_append.mp ha with ha | ha
          · have := hbB a (List.mem_cons_of_mem _ ha); omega
          · rcases List.mem_cons.mp ha with rfl | ha
            · exact yz
            · exact hE1 a ha) hE2]
    have := hbB b List.mem_cons_self
    exact ⟨by simp [bmpW], by simpa [bmpW] using fin b (by omega)⟩
theorem row_k2 {r : List Int} {x y z : Int} (h : Rise r) (hx : x ∉ r) (hy : y ∉ r) (hz : z ∉ r) (xy : x < y) (yz : y < z) : (bmpW r [x, z, y]).1 = (bmpW r [z, x, y]).1 ∧ KR (bmpW r [x, z, y]).2 (bmpW r [z, x, y]).2 := by
  obtain ⟨A, G, rfl, hA, hG⟩ := part2 h hx
  obtain ⟨hRA, hRG, hAG⟩ := rise_app h
  have hAy : ∀ a ∈ A, a < y := fun a ha => by have := hA a ha; omega
  have hAz : ∀ a ∈ A, a < z := fun a ha => by have := hA a ha; omega
  have hAx : ∀ a ∈ A ++ [x], a < y := fun a ha => by
    rcases List.mem_append.mp ha with ha | ha
    · exact hAy a ha
    · have : a = x := by simpa using ha
      omega
  have hAxz : ∀ a ∈ A ++ [x], a < z := fun a ha => by have := hAx a ha; omega
  cases G with
  | nil =>
    have n0 : ∀ (P : Int → Prop), ∀ a ∈ ([] : List Int), P a := fun P a ha => nomatch ha
    rw [bmpW_at _ hA (n0 _), bmpW_at _ hAz (n0 _)]
    rw [show A ++ x :: ([] : List Int).tail = (A ++ [x]) ++ [] by simp, bmpW_at _ hAxz (n0 _)]
    rw [show A ++ [x] ++ z :: ([] : List Int).tail = (A ++ [x]) ++ [z] by simp, bmpW_at _ hAx (by simpa using yz)]
    rw [show A ++ z :: ([] : List Int).tail = A ++ [z] by simp, bmpW_at _ hA (by simp; omega)]
    rw [show A ++ x :: ([z] : List Int).tail = (A ++ [x]) ++ [] by simp, bmpW_at _ hAx (n0 _)]
    exact ⟨by simp [bmpW], .inl (by simp [bmpW])⟩
  | cons g E =>
    obtain ⟨hgE, hRE⟩ := List.pairwise_cons.mp hRG
    have hxg := hG g List.mem_cons_self
    have gz : g ≠ z := fun q => hz (by simp [← q])
    have gy : g ≠ y := fun q => hy (by simp [← q])
    by_cases hgz : g < z
    · obtain ⟨F, E2, rfl, hF, hE2⟩ := part2 hRE (n := z) (fun q => hz (by simp [q]))
      obtain ⟨hRF, _, hFE⟩ := rise_app hRE
      obtain ⟨E0, E1, rfl, hE0, hE1⟩ := part2 hRF (n := y) (fun q => hy (by simp [q]))
      have hE1z : ∀ a ∈ E1, a < z := fun a ha => hF a (List.mem_append_right _ ha)
      have gE1 : ∀ a ∈ E1, g < a := fun a ha => hgE a (by simp [ha])
      have gE2 : ∀ a ∈ E2, g < a := fun a ha => hgE a (by simp [ha])
      have hxF : ∀ a ∈ E0 ++ E1, x < a := fun a ha => hG a (by simp at ha ⊢; rcases ha with h | h <;> simp [h])
      have q1 : ∀ a ∈ A ++ x :: (E0 ++ E1), a < z := fun a ha => by
        rcases List.mem_append.mp ha with ha | ha
        · exact hAz a ha
        · rcases List.mem_cons.mp ha with rfl | ha
          · omega
          · exact hF a ha
      have q2 : ∀ a ∈ A ++ g :: (E0 ++ E1), a < z := fun a ha => by
        rcases List.mem_append.mp ha with ha | ha
        · exact hAz a ha
        · rcases List.mem_cons.mp ha with rfl | ha
          · omega
          · exact hF a ha
      have q3 : ∀ a ∈ g :: (E0 ++ E1 ++ z :: E2.tail), x < a := fun a ha => by
        rcases List.mem_cons.mp ha with rfl | ha
        · exact hxg
        · rcases List.mem_append.mp ha with ha | ha
          · exact hxF a ha
          · rcases List.mem_cons.mp ha with rfl | ha
            · omega
            · have := hE2 a (List.mem_of_mem_tail ha); omega
      have q4 : ∀ a ∈ A ++ x :: E0, a < y := fun a ha => by
        rcases List.mem_append.mp ha with ha | ha
        · exact hAy a ha
        · rcases List.mem_cons.mp ha with rfl | ha
          · omega
          · exact hE0 a ha
      have q5 : ∀ a ∈ E1 ++ z :: E2.tail, y < a := fun a ha => by
        rcases List.mem_append.mp ha with ha | ha
        · exact hE1 a ha
        · rcases List.mem_cons.mp ha with rfl | ha
          · omega
          · have := hE2 a (List.mem_of_mem_tail ha); omega
      rw [bmpW_at _ hA hG, show A ++ x :: (g :: (E0 ++ E1 ++ E2)).tail = (A ++ x :: (E0 ++ E1)) ++ E2 by simp, bmpW_at _ q1 hE2]
      rw [show A ++ x :: (E0 ++ E1) ++ z :: E2.tail = (A ++ x :: E0) ++ (E1 ++ z :: E2.tail) by simp, bmpW_at _ q4 q5]
      rw [show A ++ g :: (E0 ++ E1 ++ E2) = (A ++ g :: (E0 ++ E1)) ++ E2 by simp, bmpW_at _ q2 hE2]
      rw [show A ++ g :: (E0 ++ E1) ++ z :: E2.tail = A ++ (g :: (E0 ++ E1 ++ z :: E2.tail)) by simp, bmpW_at _ hA q3]
      rw [show A ++ x :: (g :: (E0 ++ E1 ++ z :: E2.tail)).tail = (A ++ x :: E0) ++ (E1 ++ z :: E2.tail) by simp, bmpW_at _ q4 q5]
      refine ⟨by simp [bmpW], ?_⟩
      have fin : ∀ hd : Int, g < hd → hd ≤ z → KR ([g] ++ (E2.take 1 ++ [hd])) (E2.take 1 ++ ([g] ++ [hd])) := fun hd h1 h2 => by
        cases E2 with
        | nil => exact .inl (by simp)
        | cons e E2 =>
          have := hE2 e List.mem_cons_self
          exact .inr (.inl (Kn.k2 h1 (by omega)))
      cases E1 with
      | nil => simpa [bmpW] using fin z hgz (by omega)
      | cons e1 E1 =>
        have h1 := gE1 e1 List.mem_cons_self
        have h2 := hE1z e1 List.mem_cons_self
        simpa [bmpW] using fin e1 h1 (by omega)
    · have hzg : z < g := by omega
      have zE : ∀ a ∈ E, z < a := fun a ha => by have := hgE a ha; omega
      have zG : ∀ a ∈ g :: E, z < a := fun a ha => by
        rcases List.mem_cons.mp ha with rfl | ha
        · exact hzg
        · exact zE a ha
      have q1 : ∀ a ∈ z :: E, x < a := fun a ha => by
        rcases List.mem_cons.mp ha with rfl | ha
        · omega
        · have := zE a ha; omega
      have q2 : ∀ a ∈ z :: E.tail, y < a := fun a ha => by
        rcases List.mem_cons.mp ha with rfl | ha
        · omega
        · have := zE a (List.mem_of_mem_tail ha); omega
      have q3 : ∀ a ∈ E, y < a := fun a ha => by have := zE a ha; omega
      rw [bmpW_at _ hA hG, show A ++ x :: (g :: E).tail = (A ++ [x]) ++ E by simp, bmpW_at _ hAxz zE]
      rw [bmpW_at _ hAx q2]
      rw [bmpW_at _ hAz zG, show A ++ z :: (g :: E).tail = A ++ (z :: E) by simp, bmpW_at _ hA q1]
      rw [show A ++ x :: (z :: E).tail = (A ++ [x]) ++ E by simp, bmpW_at _ hAx q3]
      refine ⟨by simp [bmpW], ?_⟩
      cases E with
      | nil => exact .inl (by simp [bmpW])
      | cons e E =>
        have := hgE e List.mem_cons_self
        exact .inr (.inr (by simpa [bmpW] using Kn.k1 hzg this))
theorem ins_sub {r : List Int} {n a : Int} (h : a ∈ ins r n) : a ∈ r ∨ a = n := by
  unfold ins at h
  rcases List.mem_append.mp h with h | h
  · exact .inl (mem_lt h).1
  · rcases List.mem_cons.mp h with h | h
    · exact .inr h
    · exact .inl (mem_gt (List.mem_of_mem_tail h)).1
theorem bmpW_sub : ∀ {w r : List Int} {a : Int}, a ∈ (bmpW r w).2 → a ∈ r ∨ a ∈ w
  | [], r, a, h => by simp [bmpW] at h
  | n :: w, r, a, h => by
    rw [bmpW] at h
    rcases List.mem_append.mp h with h | h
    · exact .inl (mem_gt (List.mem_of_mem_take h)).1
    · rcases bmpW_sub h with h | h
      · rcases ins_sub h with h | h
        · exact .inl h
        · exact .inr (by simp [h])
      · exact .inr (List.mem_cons_of_mem _ h)
/-- an exchange of three numbers keeps what comes, laid into any rising rows -/
theorem kn_rows : ∀ {rs : List (List Int)} {u v : List Int}, Kn u v → (∀ r ∈ rs, Rise r) → rs.flatten.Nodup → (∀ a ∈ u, a ∉ rs.flatten) → (∀ a ∈ v, a ∉ rs.flatten) → layW rs u = layW rs v
  | [], u, v, k, _, _, _, _ => by
    cases k with
    | @k1 x y z xy yz =>
      simp [layW, lay1, ins, gt, lt, xy, yz, show ¬ y < x by omega, show ¬ z < y by omega, show ¬ z < x by omega, show x < z by omega]
    | @k2 x y z xy yz =>
      simp [layW, lay1, ins, gt, lt, xy, yz, show ¬ y < x by omega, show ¬ z < y by omega, show ¬ z < x by omega, show x < z by omega]
  | r :: rs, u, v, k, hr, nd, hu, hv => by
    rw [layW_cons, layW_cons]
    have hR := hr r List.mem_cons_self
    rw [List.flatten_cons] at nd hu hv
    obtain ⟨nd1, nd2, nd3⟩ := List.nodup_append.mp nd
    have row : (bmpW r u).1 = (bmpW r v).1 ∧ KR (bmpW r u).2 (bmpW r v).2 := by
      cases k with
      | @k1 x y z xy yz => exact row_k1 hR (fun q => hu x (by simp) (List.mem_append_left _ q)) (fun q => hu y (by simp) (List.mem_append_left _ q)) (fun q => hu z (by simp) (List.mem_append_left _ q)) xy yz
      | @k2 x y z xy yz => exact row_k2 hR (fun q => hu x (by simp) (List.mem_append_left _ q)) (fun q => hu y (by simp) (List.mem_append_left _ q)) (fun q => hu z (by simp) (List.mem_append_left _ q)) xy yz
    have out : ∀ {w : List Int}, (∀ a ∈ w, a ∉ r ++ rs.flatten) → ∀ a ∈ (bmpW r w).2, a ∉ rs.flatten := fun hw a ha hm => by
      rcases bmpW_sub ha with h | h
      · exact nd3 a h a hm rfl
      · exact hw a h (List.mem_append_right _ hm)
    rw [row.1]
    congr 1
    rcases row.2 with e | k' | k'
    · rw [e]
    · exact kn_rows k' (fun s hs => hr s (List.mem_cons_of_mem _ hs)) nd2 (out hu) (out hv)
    · exact (kn_rows k' (fun s hs => hr s (List.mem_cons_of_mem _ hs)) nd2 (out hv) (out hu)).symm
theorem lay1_same {rs : List (List Int)} {n : Int} (hr : ∀ r ∈ rs, Rise r) (hn : n ∉ rs.flatten) (nd : rs.flatten.Nodup) : (layL rs n).1 = lay1 rs n := by
  induction rs generalizing n with
  | nil => rfl
  | cons r rs ih =>
    rw [List.flatten_cons] at nd hn
    obtain ⟨nd1, nd2, nd3⟩ := List.nodup_append.mp nd
    rw [layL_cons (hr r List.mem_cons_self) (fun q => hn (List.mem_append_left _ q)), lay1]
    cases hg : gt r n with
    | nil => rfl
    | cons x g =>
      simp only
      rw [ih (fun s hs => hr s (List.mem_cons_of_mem _ hs)) (fun q => ?_) nd2]
      have : x ∈ r := (mem_gt (show x ∈ gt r n by rw [hg]; simp)).1
      exact nd3 x this x q rfl
theorem laidFrom_layW : ∀ (row : List Int) (k : Nat) (p : List (List Int) × List (List Int)), Stairs p.1 → (p.1.flatten ++ row).Nodup → (laidFrom row k p).1 = layW p.1 row
  | [], k, p, _, _ => rfl
  | n :: row, k, p, st, nd => by
    obtain ⟨n1, n2, n3⟩ := List.nodup_append.mp nd
    have hn : n ∉ p.1.flatten := fun z => n3 n z n (by simp) rfl
    have e := lay1_same st.rise hn n1
    have pm := lay_perm p.1 n st.rise hn n1
    rw [layW_snoc, ← e, laidFrom]
    refine laidFrom_layW row _ _ (lay_stairs st hn n1) ?_
    have : (p.1.flatten ++ n :: row).Perm ((layL p.1 n).1.flatten ++ row) := by
      refine List.perm_middle.trans ?_
      exact (pm.symm.append_right row)
    exact this.nodup_iff.mp nd
theorem laidL_layW {row : List Int} (nd : row.Nodup) : (laidL row).1 = layW [] row := laidFrom_layW row 0 ([], []) .nil (by simpa using nd)
theorem layW_stairs {row : List Int} (nd : row.Nodup) : Stairs (layW [] row) ∧ (layW [] row).flatten.Perm row := by rw [← laidL_layW nd]; exact laidL_stairs nd
theorem Kn.perm {u v : List Int} (k : Kn u v) : u.Perm v := by
  cases k with
  | k1 => exact .cons _ (.swap _ _ _)
  | k2 => exact .swap _ _ _
/-- an exchange anywhere in a row keeps its first stairs -/
theorem kn_same {a u v b : List Int} (nd : (a ++ u ++ b).Nodup) (k : Kn u v) : layW [] (a ++ u ++ b) = layW [] (a ++ v ++ b) := by
  obtain ⟨n1, _, _⟩ := List.nodup_append.mp nd
  obtain ⟨na, nu, d⟩ := List.nodup_append.mp n1
  obtain ⟨st, pm⟩ := layW_stairs na
  rw [layW_app, layW_app, layW_app, layW_app]
  congr 1
  refine kn_rows k st.rise (pm.nodup_iff.mpr na) (fun c hc hm => ?_) (fun c hc hm => ?_)
  · exact d c (pm.mem_iff.mp hm) c hc rfl
  · exact d c (pm.mem_iff.mp hm) c (k.perm.mem_iff.mpr hc) rfl
end RS

namespace RS
/-! ## an exchange, as the program does it, is an exchange of three numbers -/
theorem three {row : List Int} {i : Nat} (h : i + 2 < row.length) : row = row.take i ++ [atZ row i, atZ row (i + 1), atZ row (i + 2)] ++ row.drop (i + 3) := by
  have e0 := atZ_get (show i < row.length by omega)
  have e1 := atZ_get (show i + 1 < row.length by omega)
  have e2 := atZ_get h
  rw [List.getElem?_eq_getElem (by omega)] at e0 e1 e2
  simp only [Option.some.injEq] at e0 e1 e2
  conv => lhs; rw [← List.take_append_drop i row, List.drop_eq_getElem_cons (by omega), List.drop_eq_getElem_cons (by omega : i + 1 < row.length), List.drop_eq_getElem_cons h, e0, e1, e2]
  simp
end RS

namespace RS
/-! ## rows joined by exchanges -/
def KS (v w : List Int) : Prop := ∃ a u u' b, v = a ++ u ++ b ∧ w = a ++ u' ++ b ∧ (Kn u u' ∨ Kn u' u)
inductive KE : List Int → List Int → Prop
  | refl (w : List Int) : KE w w
  | tail {u v w : List Int} : KE u v → KS v w → KE u w
theorem KS.symm {v w : List Int} (h : KS v w) : KS w v := by
  obtain ⟨a, u, u', b, e1, e2, k⟩ := h
  exact ⟨a, u', u, b, e2, e1, k.symm⟩
theorem KE.trans {u v w : List Int} (h : KE u v) (g : KE v w) : KE u w := by
  induction g with
  | refl => exact h
  | tail _ s ih => exact ih.tail s
theorem KE.of {v w : List Int} (h : KS v w) : KE v w := (KE.refl v).tail h
theorem KE.symm {u v : List Int} (h : KE u v) : KE v u := by
  induction h with
  | refl => exact .refl _
  | tail _ s ih => exact (KE.of s.symm).trans ih
theorem KS.ctx {v w : List Int} (h : KS v w) (c d : List Int) : KS (c ++ v ++ d) (c ++ w ++ d) := by
  obtain ⟨a, u, u', b, rfl, rfl, k⟩ := h
  exact ⟨c ++ a, u, u', b ++ d, by simp, by simp, k⟩
theorem KE.ctx {v w : List Int} (h : KE v w) (c d : List Int) : KE (c ++ v ++ d) (c ++ w ++ d) := by
  induction h with
  | refl => exact .refl _
  | tail _ s ih => exact ih.tail (s.ctx c d)
theorem KE.left {v w : List Int} (h : KE v w) (c : List Int) : KE (c ++ v) (c ++ w) := by simpa using h.ctx c []
theorem KE.right {v w : List Int} (h : KE v w) (d : List Int) : KE (v ++ d) (w ++ d) := by simpa using h.ctx [] d
theorem KE.of_kn {u v : List Int} (k : Kn u v) : KE u v := KE.of ⟨[], u, v, [], by simp, by simp, .inl k⟩
theorem KS.perm {v w : List Int} (h : KS v w) : v.Perm w := by
  obtain ⟨a, u, u', b, rfl, rfl, k⟩ := h
  refine List.Perm.append_right _ (List.Perm.append_left _ ?_)
  rcases k with k | k
  · exact k.perm
  · exact k.perm.symm
theorem KE.perm {v w : List Int} (h : KE v w) : v.Perm w := by
  induction h with
  | refl => exact .refl _
  | tail _ s ih => exact ih.trans s.perm
theorem KS.same {v w : List Int} (h : KS v w) (nd : v.Nodup) : layW [] v = layW [] w := by
  have nd' := h.perm.nodup_iff.mp nd
  obtain ⟨a, u, u', b, rfl, rfl, k⟩ := h
  rcases k with k | k
  · exact kn_same nd k
  · exact (kn_same nd' k).symm
theorem KE.same {v w : List Int} (h : KE v w) (nd : v.Nodup) : layW [] v = layW [] w := by
  induction h with
  | refl => rfl
  | tail h s ih => exact ih.trans (s.same (h.perm.nodup_iff.mp nd))
theorem mv1 : ∀ {g : List Int} {b n : Int}, Rise (b :: g) → n < b → KE (b :: g ++ [n]) (b :: n :: g)
  | [], b, n, _, _ => .refl _
  | c :: g, b, n, h, hn => by
    obtain ⟨h1, h2⟩ := List.pairwise_cons.mp h
    have bc := h1 c List.mem_cons_self
    have s1 : KE (b :: (c :: g ++ [n])) (b :: (c :: n :: g)) := by simpa using (mv1 h2 (by omega : n < c)).left [b]
    refine s1.trans ?_
    have k := (KE.of_kn (Kn.k1 hn bc)).symm
    simpa using k.right g
theorem mv2 : ∀ {L : List Int} {x n : Int}, Rise L → (∀ a ∈ L, a < n) → n < x → KE (L ++ [x, n]) (x :: L ++ [n])
  | [], x, n, _, _, _ => .refl _
  | l :: L, x, n, h, hl, hx => by
    obtain ⟨h1, h2⟩ := List.pairwise_cons.mp h
    have s1 : KE (l :: (L ++ [x, n])) (l :: (x :: L ++ [n])) := by simpa using (mv2 h2 (fun a ha => hl a (List.mem_cons_of_mem _ ha)) hx).left [l]
    refine s1.trans ?_
    have ln := hl l List.mem_cons_self
    cases L with
    | nil => simpa using KE.of_kn (Kn.k2 ln hx)
    | cons c L =>
      have lc := h1 c List.mem_cons_self
      have cn := hl c (by simp)
      have := (KE.of_kn (Kn.k2 lc (by omega : c < x))).right (L ++ [n])
      simpa using this
/-- a number laid into one row -/
theorem row_joined {r : List Int} {n : Int} (h : Rise r) (hn : n ∉ r) : KE (r ++ [n]) (bmp r n ++ ins r n) := by
  have e := rise_gt h n hn
  unfold bmp ins
  have hL : ∀ a ∈ lt r n, a < n := fun a ha => (mem_lt ha).2
  have hG : ∀ a ∈ gt r n, n < a := fun a ha => (mem_gt ha).2
  rw [e] at h
  obtain ⟨r1, r2, r3⟩ := rise_app h
  conv => lhs; rw [e]
  generalize lt r n = L at *
  generalize gt r n = G at *
  cases G with
  | nil => simpa using KE.refl _
  | cons x g =>
    have hx := hG x List.mem_cons_self
    have s1 : KE (L ++ (x :: g ++ [n])) (L ++ (x :: n :: g)) := (mv1 r2 hx).left L
    have s2 := (mv2 r1 hL hx).right g
    simpa using s1.trans (by simpa using s2)
theorem lay_joined : ∀ {R : List (List Int)} {n : Int}, (∀ r ∈ R, Rise r) → n ∉ R.flatten → R.flatten.Nodup → KE (readL R ++ [n]) (readL (lay1 R n))
  | [], n, _, _, _ => by simpa [readL, lay1] using KE.refl _
  | r :: R, n, hr, hn, nd => by
    rw [List.flatten_cons] at hn nd
    obtain ⟨n1, n2, n3⟩ := List.nodup_append.mp nd
    have e1 : readL (r :: R) = readL R ++ r := by simp [readL]
    have s1 := (row_joined (hr r List.mem_cons_self) (fun z => hn (List.mem_append_left _ z))).left (readL R)
    rw [e1, List.append_assoc, lay1]
    refine s1.trans ?_
    unfold bmp
    cases hg : gt r n with
    | nil => simpa [readL] using KE.refl _
    | cons x g =>
      have hx : x ∈ r := (mem_gt (show x ∈ gt r n by rw [hg]; simp)).1
      have := (lay_joined (R := R) (n := x) (fun s hs => hr s (List.mem_cons_of_mem _ hs)) (fun z => n3 x hx x z rfl) n2).right (ins r n)
      simpa [readL] using this
theorem lay1_stairs {R : List (List Int)} {n : Int} (st : Stairs R) (hn : n ∉ R.flatten) (nd : R.flatten.Nodup) : Stairs (lay1 R n) ∧ (lay1 R n).flatten.Perm (n :: R.flatten) := by
  rw [← lay1_same st.rise hn nd]
  exact ⟨lay_stairs st hn nd, lay_perm R n st.rise hn nd⟩
theorem word_joinedFrom : ∀ (w : List Int) (R : List (List Int)), Stairs R → (R.flatten ++ w).Nodup → KE (readL R ++ w) (readL (layW R w))
  | [], R, _, _ => by simpa [layW] using KE.refl _
  | n :: w, R, st, nd => by
    obtain ⟨n1, n2, n3⟩ := List.nodup_append.mp nd
    have hn : n ∉ R.flatten := fun z => n3 n z n (by simp) rfl
    obtain ⟨st', pm⟩ := lay1_stairs st hn n1
    have s1 := (lay_joined st.rise hn n1).right w
    have nd' : ((lay1 R n).flatten ++ w).Nodup := by
      have : (R.flatten ++ n :: w).Perm ((lay1 R n).flatten ++ w) := List.perm_middle.trans (pm.symm.append_right w)
      exact this.nodup_iff.mp nd
    have s2 := word_joinedFrom w (lay1 R n) st' nd'
    rw [layW_snoc]
    exact (by simpa using s1 : KE (readL R ++ n :: w) (readL (lay1 R n) ++ w)).trans s2
/-- a row is joined to the reading of its first stairs -/
theorem word_joined {w : List Int} (nd : w.Nodup) : KE w (readL (layW [] w)) := by
  simpa [readL] using word_joinedFrom w [] .nil (by simpa using nd)
/-! ## the reading of stairs is laid to the stairs -/
/-! ## a row turned about -/
theorem Kn.rev {u v : List Int} (k : Kn u v) : Kn v.reverse u.reverse := by
  cases k with
  | k1 xy yz => exact Kn.k2 xy yz
  | k2 xy yz => exact Kn.k1 xy yz
theorem KS.rev {v w : List Int} (h : KS v w) : KS v.reverse w.reverse := by
  obtain ⟨a, u, u', b, rfl, rfl, k⟩ := h
  refine ⟨b.reverse, u.reverse, u'.reverse, a.reverse, by simp, by simp, ?_⟩
  rcases k with k | k
  · exact .inr k.rev
  · exact .inl k.rev
theorem KE.rev {v w : List Int} (h : KE v w) : KE v.reverse w.reverse := by
  induction h with
  | refl => exact .refl _
  | tail _ s ih => exact ih.tail s.rev
theorem bmpW_app : ∀ (u v r : List Int), bmpW r (u ++ v) = ((bmpW (bmpW r u).1 v).1, (bmpW r u).2 ++ (bmpW (bmpW r u).1 v).2)
  | [], v, r => by simp [bmpW]
  | n :: u, v, r => by simp only [List.cons_append, bmpW, bmpW_app u v, List.append_assoc]
theorem bmpW_down : ∀ {r c : List Int} {x : Int}, Rise (x :: r) → (∀ a ∈ c, a < x) → bmpW c (x :: r).reverse = (c ++ [x], r.reverse)
  | [], c, x, _, hc => by
    have := bmpW_at (L := c) (G := []) (n := x) [] hc (fun a ha => nomatch ha)
    simpa [bmpW] using this
  | y :: r, c, x, h, hc => by
    obtain ⟨h1, h2⟩ := List.pairwise_cons.mp h
    have xy := h1 y List.mem_cons_self
    have ih := bmpW_down h2 (c := c) (fun a ha => by have := hc a ha; omega)
    have e : (x :: y :: r).reverse = (y :: r).reverse ++ [x] := by simp
    rw [e, bmpW_app, ih]
    have := bmpW_at (L := c) (G := [y]) (n := x) [] hc (by simpa using xy)
    simp only at this ⊢
    rw [this]
    simp [bmpW]
end RS

namespace RS
def Under (C : List (List Int)) (r : List Int) : Prop := ∀ (j : Nat) c x, C[j]? = some c → r[j]? = some x → ∀ a ∈ c, a < x
theorem layW_start {w : List Int} (h : w ≠ []) : layW [] w = layW [[]] w := by
  cases w with
  | nil => exact absurd rfl h
  | cons n w => rfl
theorem lay_down : ∀ {C : List (List Int)} {r : List Int}, Rise r → Under C r → layW C r.reverse = addCol C r
  | [], [], _, _ => rfl
  | c :: C, [], _, _ => rfl
  | [], x :: r, h, _ => by
    rw [layW_start (by simp), layW_cons, bmpW_down (c := []) h (fun a ha => nomatch ha)]
    simp only
    rw [lay_down (List.pairwise_cons.mp h).2 (fun j c x h => by simp at h)]
    rfl
  | c :: C, x :: r, h, hu => by
    rw [layW_cons, bmpW_down h (hu 0 c x rfl rfl)]
    simp only
    rw [lay_down (List.pairwise_cons.mp h).2 (fun j c' x' h1 h2 => hu (j + 1) c' x' (by simpa using h1) (by simpa using h2))]
    rfl
theorem under_next {C : List (List Int)} {r s : List Int} (hu : Under C r) (hb : Below r s) : Under (addCol C r) s := fun j c y h1 h2 => by
  rw [addCol_get] at h1
  have hj : j < s.length := (List.getElem?_eq_some_iff.mp h2).1
  have er : r[j]? = some (r[j]'(Nat.lt_of_lt_of_le hj hb.1)) := List.getElem?_eq_getElem _
  have lt := hb.2 j _ y er h2
  rw [er] at h1
  cases hc : C[j]? with
  | none =>
    rw [hc] at h1
    simp only [Option.some.injEq] at h1
    subst h1
    intro a ha
    rw [List.mem_singleton.mp ha]; exact lt
  | some d =>
    rw [hc] at h1
    simp only [Option.some.injEq] at h1
    subst h1
    intro a ha
    rcases List.mem_append.mp ha with ha | ha
    · have := hu j d _ hc er a ha; omega
    · rw [List.mem_singleton.mp ha]; exact lt
theorem cols_word : ∀ {T : List (List Int)} {C : List (List Int)}, Stairs T → (∀ r, T.head? = some r → Under C r) → layW C (T.map List.reverse).flatten = T.foldl addCol C
  | [], C, _, _ => rfl
  | [r], C, st, hu => by
    cases st with
    | one _ hr => simpa using lay_down hr (hu r rfl)
  | r :: s :: T, C, st, hu => by
    cases st with
    | cons _ hr hb st' =>
      have e : ((r :: s :: T).map List.reverse).flatten = r.reverse ++ ((s :: T).map List.reverse).flatten := rfl
      rw [e, layW_app, lay_down hr (hu r rfl), cols_word st' (fun s' hs => by
        have : s' = s := by simpa using hs.symm
        rw [this]; exact under_next (hu r rfl) hb)]
      rfl
theorem read_rev (T : List (List Int)) : (readL T).reverse = (T.map List.reverse).flatten := by
  unfold readL
  induction T with
  | nil => rfl
  | cons r T ih => simp [ih]
/-- a row turned about has the turned stairs -/
theorem rev_turned {w : List Int} (nd : w.Nodup) : layW [] w.reverse = turnedP (layW [] w) := by
  obtain ⟨st, pm⟩ := layW_stairs nd
  have k := (word_joined nd).rev
  rw [k.same ((List.reverse_perm w).nodup_iff.mpr nd), read_rev, cols_word st (fun r _ j c x h => by simp at h)]
  exact st.dec.cols
theorem laid_rev {w : List Int} (nd : w.Nodup) : (laidL w.reverse).1 = turnedP (laidL w).1 := by
  rw [laidL_layW nd, laidL_layW ((List.reverse_perm w).nodup_iff.mpr nd), rev_turned nd]
end RS

namespace RS
/-! ## one taken out -/
def outAt (r : List Int) (n : Int) : List Int := r.take ((lt r n).length - 1) ++ [n] ++ r.drop ((lt r n).length - 1 + 1)
def outN (r : List Int) (n : Int) : Int := r.getD ((lt r n).length - 1) 0
def takeP : List (List Int) → Nat → List (List Int) × Int
  | [], _ => ([], 0)
  | r :: rs, 0 => ((if r.dropLast = [] then rs else r.dropLast :: rs), r.getLastD 0)
  | r :: rs, i + 1 => (outAt r (takeP rs i).2 :: (takeP rs i).1, outN r (takeP rs i).2)
theorem lt_app (a b : List Int) (n : Int) : lt (a ++ b) n = lt a n ++ lt b n := by unfold lt; exact List.filter_append _ _
theorem lt_all {a : List Int} {n : Int} (h : ∀ x ∈ a, x < n) : lt a n = a := by
  unfold lt; rw [List.filter_eq_self]; intro x hx; simpa using h x hx
theorem lt_none {a : List Int} {n : Int} (h : ∀ x ∈ a, n < x) : lt a n = [] := by
  unfold lt; rw [List.filter_eq_nil_iff]; intro x hx; have := h x hx; simp; omega
theorem gt_app (a b : List Int) (n : Int) : gt (a ++ b) n = gt a n ++ gt b n := by unfold gt; exact List.filter_append _ _
theorem gt_all {a : List Int} {n : Int} (h : ∀ x ∈ a, n < x) : gt a n = a := by
  unfold gt; rw [List.filter_eq_self]; intro x hx; simpa using h x hx
theorem gt_none {a : List Int} {n : Int} (h : ∀ x ∈ a, x < n) : gt a n = [] := by
  unfold gt; rw [List.filter_eq_nil_iff]; intro x hx; have := h x hx; simp; omega
/-- a row of lesser ones, a number y, greater ones, seen from x between y and the greater ones -/
theorem out_mid {a g : List Int} {y x : Int} (ha : ∀ z ∈ a, z < x) (hy : y < x) (hg : ∀ z ∈ g, x < z) : outAt (a ++ y :: g) x = a ++ x :: g ∧ outN (a ++ y :: g) x = y := by
  have e : lt (a ++ y :: g) x = a ++ [y] := by
    have e1 : a ++ y :: g = (a ++ [y]) ++ g := by simp
    rw [e1, lt_app, lt_none hg, List.append_nil]
    exact lt_all fun z hz => by
      rcases List.mem_append.mp hz with h | h
      · exact ha z h
      · simp at h; omega
  have el : (lt (a ++ y :: g) x).length - 1 = a.length := by rw [e]; simp
  unfold outAt outN
  rw [el]
  constructor
  · have e1 : (a ++ y :: g).take a.length = a := by simp
    have e2 : (a ++ y :: g).drop (a.length + 1) = g := by simp [List.drop_append]
    rw [e1, e2]; simp
  · simp [List.getD_eq_getElem?_getD]
theorem dropLast_snoc (r : List Int) (n : Int) : (r ++ [n]).dropLast = r := by simp
theorem getLastD_snoc (r : List Int) (n : Int) : (r ++ [n]).getLastD 0 = n := by simp
/-- a row from which something can be taken out -/
def Corner (R : List (List Int)) (i : Nat) : Prop := ∃ r, R[i]? = some r ∧ (R.getD (i + 1) []).length < r.length
theorem corner_zero {r : List Int} {rs : List (List Int)} : Corner (r :: rs) 0 ↔ (rs.getD 0 []).length < r.length := by
  unfold Corner
  constructor
  · rintro ⟨s, e, h⟩
    have : r = s := by simpa using e
    subst this
    simpa using h
  · intro h
    exact ⟨r, rfl, by simpa using h⟩
theorem corner_succ {r : List Int} {rs : List (List Int)} {i : Nat} : Corner (r :: rs) (i + 1) ↔ Corner rs i := by
  unfold Corner
  simp only [List.getElem?_cons_succ, List.getD_cons_succ]
/-- how the first row stands behind a taking: a number x at q was made greater or went -/
def Raised (s : List Int) (x : Int) (L : List (List Int)) : Prop := ∃ q : Nat, s[q]? = some x ∧ ∀ s2 L2, L = s2 :: L2 → s2.length ≤ s.length ∧ ∀ (j : Nat) (y : Int), s2[j]? = some y → if j = q then x < y else s[j]? = some y
theorem stairs_first : ∀ {rs : List (List Int)} {r : List Int} {a : Int} {r' : List Int}, Stairs (r :: rs) → r = a :: r' → ∀ x ∈ rs.flatten, a < x
  | [], r, a, r', _, _, x, hx => by simp at hx
  | s :: rs, r, a, r', h, e, x, hx => by
    cases h with
    | cons h1 h2 h3 h4 =>
      have hs := h4.pos s List.mem_cons_self
      have hR := h4.rise s List.mem_cons_self
      cases s with
      | nil => exact absurd rfl hs
      | cons b s' =>
        have hab : a < b := h3.2 0 a b (by rw [e]; rfl) rfl
        rw [List.flatten_cons] at hx
        rcases List.mem_append.mp hx with h | h
        · rcases List.mem_cons.mp h with rfl | h
          · exact hab
          · have := (List.pairwise_cons.mp hR).1 x h; omega
        · have := stairs_first h4 rfl x h; omega
theorem lay_take : ∀ {R : List (List Int)} {i : Nat}, Stairs R → R.flatten.Nodup → Corner R i →
    Stairs (takeP R i).1 ∧ ((takeP R i).2 :: (takeP R i).1.flatten).Perm R.flatten ∧ layL (takeP R i).1 (takeP R i).2 = (R, i) ∧ ∀ s S, R = s :: S → Raised s (takeP R i).2 (takeP R i).1
  | [], i, _, _, ⟨r, e, _⟩ => by simp at e
  | r :: rs, 0, hS, nd, hc => by
    have hc := corner_zero.mp hc
    have hR := hS.rise r List.mem_cons_self
    have hne := hS.pos r List.mem_cons_self
    rcases List.eq_nil_or_concat r with rfl | ⟨r', m, e⟩
    · exact absurd rfl hne
    rw [List.concat_eq_append] at e
    subst e
    rw [takeP, dropLast_snoc, getLastD_snoc]
    have hm : ∀ z ∈ r', z < m := fun z hz => (List.pairwise_append.mp hR).2.2 z hz m (by simp)
    by_cases h0 : r' = []
    · subst h0
      have hrs : rs = [] := by
        cases rs with
        | nil => rfl
        | cons s rs =>
          have := hS.tail.pos s List.mem_cons_self
          have h2 := List.length_pos_iff.mpr this
          simp at hc
          exact absurd hc this
      subst hrs
      refine ⟨.nil, by simp, rfl, fun s S e => ?_⟩
      obtain ⟨rfl, rfl⟩ := List.cons.inj e
      exact ⟨0, rfl, fun s2 L2 z => by simp at z⟩
    · rw [if_neg h0]
      have hR' : Rise r' := (List.pairwise_append.mp hR).1
      refine ⟨?_, ?_, ?_, fun s S e => ?_⟩
      · cases hS with
        | one => exact .one h0 hR'
        | @cons _ s rs' h1 h2 h3 h4 =>
          refine .cons h0 hR' ⟨by simp at hc; omega, fun j x y ex ey => h3.2 j x y ?_ ey⟩ h4
          rw [List.getElem?_append_left (List.getElem?_eq_some_iff.mp ex).1]; exact ex
      · rw [List.flatten_cons, List.flatten_cons]
        refine (List.perm_middle (a := m) (l₁ := r') (l₂ := rs.flatten)).symm.trans ?_
        simp
      · rw [layL, gt_none hm, if_pos (by simp)]
      · obtain ⟨rfl, rfl⟩ := List.cons.inj e
        refine ⟨r'.length, by simp, fun s2 L2 z => ?_⟩
        obtain ⟨rfl, rfl⟩ := List.cons.inj z
        refine ⟨by simp, fun j y ey => ?_⟩
        have hj := (List.getElem?_eq_some_iff.mp ey).1
        rw [if_neg (by omega), List.getElem?_append_left hj]
        exact ey
  | r :: rs, i + 1, hS, nd, hc => by
    have hc := corner_succ.mp hc
    have hR := hS.rise r List.mem_cons_self
    have hne := hS.pos r List.mem_cons_self
    have nd' := nd
    rw [List.flatten_cons, List.nodup_append] at nd'
    obtain ⟨i1, i2, i3, i4⟩ := lay_take hS.tail nd'.2.1 hc
    rw [takeP]
    generalize ex : (takeP rs i).2 = x at *
    generalize eL : (takeP rs i).1 = L at *
    have hxr : x ∈ rs.flatten := i2.mem_iff.mp List.mem_cons_self
    have hxn : x ∉ r := fun z => nd'.2.2 x z x hxr rfl
    have e := rise_gt hR x hxn
    -- the last lesser one
    have hlt : lt r x ≠ [] := by
      cases r with
      | nil => exact absurd rfl hne
      | cons a r' =>
        have := stairs_first hS rfl x hxr
        unfold lt
        rw [List.filter_cons, if_pos (by simpa using this)]
        simp
    rcases List.eq_nil_or_concat (lt r x) with z | ⟨a, n, ea⟩
    · exact absurd z hlt
    rw [List.concat_eq_append] at ea
    have hnx : n < x := (mem_lt (r := r) (a := n) (by rw [ea]; simp)).2
    have hax : ∀ z ∈ a, z < x := fun z hz => (mem_lt (r := r) (a := z) (by rw [ea]; simp [hz])).2
    have hg : ∀ z ∈ gt r x, x < z := fun z hz => (mem_gt hz).2
    generalize gt r x = g at *
    rw [ea] at e
    have e' : r = a ++ n :: g := by rw [e]; simp
    clear e ea hlt
    subst e'
    obtain ⟨o1, o2⟩ := out_mid (a := a) (y := n) (x := x) (g := g) hax hnx hg
    rw [o1, o2]
    have hRa := List.pairwise_append.mp hR
    have han : ∀ z ∈ a, z < n := fun z hz => hRa.2.2 z hz n List.mem_cons_self
    have hng : ∀ z ∈ g, n < z := (List.pairwise_cons.mp hRa.2.1).1
    have hR2 : Rise (a ++ x :: g) := by
      refine List.pairwise_append.mpr ⟨hRa.1, List.pairwise_cons.mpr ⟨hg, (List.pairwise_cons.mp hRa.2.1).2⟩, fun z hz y hy => ?_⟩
      rcases List.mem_cons.mp hy with rfl | hy
      · exact hax z hz
      · exact hRa.2.2 z hz y (List.mem_cons_of_mem _ hy)
    have eg : gt (a ++ x :: g) n = x :: g := by
      rw [gt_app, gt_none han, List.nil_append]
      exact gt_all fun z hz => by
        rcases List.mem_cons.mp hz with rfl | hz
        · exact hnx
        · exact hng z hz
    refine ⟨?_, ?_, ?_, fun s S e => ?_⟩
    · -- stairs
      cases L with
      | nil => exact .one (by simp) hR2
      | cons s2 L2 =>
        cases hS with
        | one => simp at hxr
        | @cons _ s rs' h1 h2 h3 h4 =>
          obtain ⟨q, q1, q2⟩ := i4 s rs' rfl
          obtain ⟨q3, q4⟩ := q2 s2 L2 rfl
          have hSs := h4.rise s List.mem_cons_self
          refine .cons (by simp) hR2 ⟨?_, fun j u v hu hv => ?_⟩ i1
          · have := h3.1
            simp only [List.length_append, List.length_cons] at this ⊢; omega
          · have h5 := q4 j v hv
            have hqa : q ≤ a.length := by
              apply Nat.le_of_not_lt
              intro hq
              have hql : q < (a ++ n :: g).length := Nat.lt_of_lt_of_le (List.getElem?_eq_some_iff.mp q1).1 h3.1
              obtain ⟨c, hc2⟩ : ∃ c, (a ++ n :: g)[q]? = some c := ⟨_, List.getElem?_eq_getElem hql⟩
              have hcx := h3.2 q c x hc2 q1
              rw [List.getElem?_append_right (by omega)] at hc2
              obtain ⟨k, hk⟩ : ∃ k, q - a.length = k + 1 := ⟨q - a.length - 1, by omega⟩
              rw [hk, List.getElem?_cons_succ] at hc2
              have := hg c (List.mem_of_getElem? hc2)
              omega
            by_cases hja : j = a.length
            · subst hja
              have eu : u = x := by simpa using hu.symm
              subst eu
              by_cases hq : a.length = q
              · rw [if_pos hq] at h5; exact h5
              · rw [if_neg hq] at h5
                have hlt2 := List.pairwise_iff_getElem.mp hSs q a.length (List.getElem?_eq_some_iff.mp q1).1 (List.getElem?_eq_some_iff.mp h5).1 (by omega)
                rw [(List.getElem?_eq_some_iff.mp q1).2, (List.getElem?_eq_some_iff.mp h5).2] at hlt2
                exact hlt2
            · have hu' : (a ++ n :: g)[j]? = some u := by
                by_cases hj2 : j < a.length
                · rw [List.getElem?_append_left hj2] at hu ⊢; exact hu
                · rw [List.getElem?_append_right (by omega)] at hu ⊢
                  obtain ⟨k, hk⟩ : ∃ k, j - a.length = k + 1 := ⟨j - a.length - 1, by omega⟩
                  rw [hk, List.getElem?_cons_succ] at hu ⊢
                  exact hu
              by_cases hq : j = q
              · rw [if_pos hq] at h5
                subst hq
                have := h3.2 j u x hu' q1
                omega
              · rw [if_neg hq] at h5
                exact h3.2 j u v hu' h5
    · rw [List.flatten_cons, List.flatten_cons]
      have p1 : (n :: ((a ++ x :: g) ++ L.flatten)).Perm ((a ++ n :: g) ++ (x :: L.flatten)) := by
        simp only [List.append_assoc, List.cons_append]
        refine List.Perm.trans ?_ (List.perm_middle (a := n) (l₁ := a)).symm
        refine List.Perm.cons n (List.Perm.append_left a ?_)
        exact (List.perm_middle (a := x) (l₁ := g)).symm
      exact p1.trans (List.Perm.append_left _ i2)
    · have hn2 : n ∉ a ++ x :: g := by
        intro z
        rcases List.mem_append.mp z with h | h
        · have := han n h; omega
        · rcases List.mem_cons.mp h with h | h
          · omega
          · have := hng n h; omega
      rw [layL_cons hR2 hn2, eg]
      show (ins (a ++ x :: g) n :: (layL L x).1, (layL L x).2 + 1) = _
      rw [i3]
      have ei : ins (a ++ x :: g) n = a ++ n :: g := by
        unfold ins
        rw [eg, lt_app, lt_all han, lt_none (a := x :: g) (fun z hz => by
          rcases List.mem_cons.mp hz with rfl | hz
          · exact hnx
          · exact hng z hz)]
        simp
      rw [ei]
    · obtain ⟨rfl, rfl⟩ := List.cons.inj e
      refine ⟨a.length, by simp, fun s2 L2 z => ?_⟩
      obtain ⟨rfl, rfl⟩ := List.cons.inj z
      refine ⟨by simp, fun j y ey => ?_⟩
      by_cases hja : j = a.length
      · subst hja
        rw [if_pos rfl]
        have : y = x := by simpa using ey.symm
        omega
      · rw [if_neg hja]
        by_cases hj2 : j < a.length
        · rw [List.getElem?_append_left hj2] at ey ⊢; exact ey
        · rw [List.getElem?_append_right (by omega)] at ey ⊢
          obtain ⟨k, hk⟩ : ∃ k, j - a.length = k + 1 := ⟨j - a.length - 1, by omega⟩
          rw [hk, List.getElem?_cons_succ] at ey ⊢
          exact ey
end RS

namespace RS
/-! ## a whole row taken out -/
def takeAll : List (List Int) → List Nat → List Int
  | _, [] => []
  | P, a :: as => (takeP P a).2 :: takeAll (takeP P a).1 as
def growFrom : List Nat → Nat → List (List Int) → List (List Int)
  | [], _, Q => Q
  | a :: as, k, Q => growFrom as (k + 1) (grow Q a ((k : Int) + 1))
def growAll (ps : List Nat) : List (List Int) := growFrom ps 0 []
theorem growFrom_snoc : ∀ (ps : List Nat) (a k : Nat) (Q : List (List Int)), growFrom (ps ++ [a]) k Q = grow (growFrom ps k Q) a ((k + ps.length : Nat) + 1)
  | [], a, k, Q => by simp [growFrom]
  | b :: ps, a, k, Q => by
    rw [List.cons_append, growFrom, growFrom_snoc ps a (k + 1), growFrom]
    congr 2
    simp; omega
theorem growAll_snoc (ps : List Nat) (a : Nat) : growAll (ps ++ [a]) = grow (growAll ps) a ((ps.length : Int) + 1) := by
  have := growFrom_snoc ps a 0 []
  simpa [growAll] using this
/-- lengths with one place more in a row -/
def bump (s : List Nat) (a : Nat) : List Nat := if a = s.length then s ++ [1] else s.set a (s.getD a 0 + 1)
def lensN (R : List (List Int)) : List Nat := R.map List.length
theorem lens_grow (Q : List (List Int)) (a : Nat) (k : Int) : lensN (grow Q a k) = bump (lensN Q) a := by
  unfold grow bump lensN
  rw [List.length_map]
  by_cases h : a = Q.length
  · rw [if_pos h, if_pos h]; simp
  · rw [if_neg h, if_neg h, List.map_set]
    congr 1
    rw [List.length_append]
    simp [List.getD_eq_getElem?_getD]
    cases e : Q[a]? <;> simp
/-- the lengths may grow at a: they stay a shape -/
def MayGrow (s : List Nat) (a : Nat) : Prop := a ≤ s.length ∧ (a = 0 ∨ s.getD a 0 < s.getD (a - 1) 0)
inductive Val : List Nat → Prop
  | nil : Val []
  | snoc {ps : List Nat} {a : Nat} : Val ps → MayGrow (lensN (growAll ps)) a → Val (ps ++ [a])
theorem lens_lay : ∀ {P : List (List Int)} {n : Int}, Stairs P → n ∉ P.flatten → P.flatten.Nodup → lensN (layL P n).1 = bump (lensN P) (layL P n).2 ∧ (layL P n).2 ≤ P.length
  | [], n, _, _, _ => by simp [layL, lensN, bump]
  | r :: rs, n, hS, hn, nd => by
    have hR := hS.rise r List.mem_cons_self
    have hnr : n ∉ r := fun z => hn (by rw [List.flatten_cons]; exact List.mem_append_left _ z)
    have nd' := nd
    rw [List.flatten_cons, List.nodup_append] at nd'
    have el := lt_gt_len hR n hnr
    rw [layL_cons hR hnr]
    cases hg : gt r n with
    | nil =>
      rw [hg] at el
      show lensN (ins r n :: rs) = bump (lensN (r :: rs)) 0 ∧ 0 ≤ _
      refine ⟨?_, Nat.zero_le _⟩
      unfold bump lensN ins
      rw [if_neg (by simp), hg]
      simp at el ⊢
      exact el
    | cons x g =>
      have hxr : x ∈ r := (mem_gt (r := r) (n := n) (a := x) (by rw [hg]; simp)).1
      have hx : x ∉ rs.flatten := fun z => nd'.2.2 x hxr x z rfl
      obtain ⟨i1, i2⟩ := lens_lay hS.tail hx nd'.2.1
      rw [hg] at el
      show lensN (ins r n :: (layL rs x).1) = bump (lensN (r :: rs)) ((layL rs x).2 + 1) ∧ (layL rs x).2 + 1 ≤ _
      refine ⟨?_, by simp; exact i2⟩
      have e1 : (ins r n).length = r.length := by
        unfold ins; rw [hg]; simp at el ⊢; omega
      have e2 : lensN (ins r n :: (layL rs x).1) = r.length :: lensN (layL rs x).1 := by unfold lensN; rw [List.map_cons, e1]
      have e3 : lensN (r :: rs) = r.length :: lensN rs := rfl
      rw [e2, i1, e3]
      unfold bump
      simp only [List.length_cons]
      by_cases hc : (layL rs x).2 = (lensN rs).length
      · rw [if_pos hc, if_pos (by omega)]; simp
      · rw [if_neg hc, if_neg (by omega)]; simp
/-- lengths of stairs fall -/
theorem lens_fall : ∀ {P : List (List Int)} {i : Nat}, Stairs P → (lensN P).getD (i + 1) 0 ≤ (lensN P).getD i 0
  | [], i, _ => by simp [lensN]
  | [r], i, _ => by cases i <;> simp [lensN]
  | r :: s :: rs, 0, .cons _ _ h _ => by simpa [lensN] using h.1
  | r :: s :: rs, i + 1, .cons _ _ _ t => by
    have := lens_fall (i := i) t
    simpa [lensN] using this
theorem lens_pos {P : List (List Int)} (h : Stairs P) {x : Nat} (hx : x ∈ lensN P) : 0 < x := by
  unfold lensN at hx
  obtain ⟨r, hr, rfl⟩ := List.mem_map.mp hx
  exact List.length_pos_iff.mpr (h.pos r hr)
theorem bump_get (s : List Nat) (a : Nat) (h : a ≤ s.length) (j : Nat) : (bump s a).getD j 0 = if j = a then s.getD a 0 + 1 else s.getD j 0 := by
  unfold bump
  by_cases c : a = s.length
  · rw [if_pos c]
    subst c
    by_cases hj : j = s.length
    · subst hj; rw [if_pos rfl]; simp [List.getD_eq_getElem?_getD]
    · rw [if_neg hj]
      by_cases h2 : j < s.length
      · simp [List.getD_eq_getElem?_getD, List.getElem?_append_left h2]
      · rw [List.getD_eq_getElem?_getD, List.getD_eq_getElem?_getD, List.getElem?_eq_none (by simp; omega), List.getElem?_eq_none (by omega)]
  · rw [if_neg c]
    by_cases hj : j = a
    · subst hj; rw [if_pos rfl]; simp [List.getD_eq_getElem?_getD, List.getElem?_set_self (show j < s.length by omega)]
    · rw [if_neg hj]; simp [List.getD_eq_getElem?_getD, List.getElem?_set_ne (Ne.symm hj)]
def plcFrom : List Int → List (List Int) → List Nat
  | [], _ => []
  | n :: r, P => (layL P n).2 :: plcFrom r (layL P n).1
def plcs (row : List Int) : List Nat := plcFrom row []
/-! ### what grows is stairs of 1, 2, 3 and so on -/
theorem grow_mem {Q : List (List Int)} {a : Nat} (ha : a ≤ Q.length) (k : Int) : (grow Q a k).flatten.Perm (k :: Q.flatten) := by
  unfold grow
  by_cases h : a = Q.length
  · rw [if_pos h, List.flatten_append]; simp only [List.flatten_cons, List.flatten_nil, List.append_nil]
    exact List.perm_append_comm
  · rw [if_neg h]
    have hl : a < Q.length := by omega
    have e : Q = Q.take a ++ Q[a] :: Q.drop (a + 1) := by
      rw [List.getElem_cons_drop, List.take_append_drop]
    have e2 : Q.set a (Q.getD a [] ++ [k]) = Q.take a ++ (Q[a] ++ [k]) :: Q.drop (a + 1) := by
      rw [List.set_eq_take_append_cons_drop, if_pos hl]
      simp [List.getD_eq_getElem?_getD, List.getElem?_eq_getElem hl]
    rw [e2]
    conv => rhs; rw [e]
    simp only [List.flatten_append, List.flatten_cons, List.append_assoc]
    refine List.Perm.trans ?_ (List.perm_middle (a := k) (l₁ := (Q.take a).flatten))
    refine List.Perm.append_left _ ?_
    simp only [List.singleton_append]
    exact List.perm_middle
theorem val_perm {ps : List Nat} (h : Val ps) : (growAll ps).flatten.Perm ((List.range ps.length).map fun (i : Nat) => (i : Int) + 1) := by
  induction h with
  | nil => simp [growAll, growFrom]
  | @snoc ps a h g ih =>
    rw [growAll_snoc, List.length_append]
    have hl : a ≤ (growAll ps).length := by have := g.1; unfold lensN at this; simpa using this
    refine (grow_mem hl _).trans ?_
    rw [show ps.length + [a].length = ps.length + 1 from rfl, List.range_succ, List.map_append]
    refine (List.Perm.cons _ ih).trans ?_
    exact (List.perm_append_comm (l₁ := List.map _ (List.range ps.length)) (l₂ := [((ps.length : Nat) : Int) + 1])).symm
theorem val_lt {ps : List Nat} (h : Val ps) : ∀ x ∈ (growAll ps).flatten, 1 ≤ x ∧ x ≤ ps.length := fun x hx => by
  have := (val_perm h).mem_iff.mp hx
  obtain ⟨i, hi, rfl⟩ := List.mem_map.mp this
  have := List.mem_range.mp hi
  omega
theorem val_nodup {ps : List Nat} (h : Val ps) : (growAll ps).flatten.Nodup := by
  refine (val_perm h).nodup_iff.mpr ?_
  refine List.Pairwise.map _ ?_ List.nodup_range
  intro x y hne e
  omega
/-- a number greater than all put at the end of a row that may grow: stairs again -/
theorem grow_stairs : ∀ {Q : List (List Int)} {a : Nat} {k : Int}, Stairs Q → (∀ x ∈ Q.flatten, x < k) → MayGrow (lensN Q) a → Stairs (grow Q a k)
  | [], a, k, _, _, g => by
    have : a = 0 := by have := g.1; simp [lensN] at this; exact this
    subst this
    exact .one (by simp) (List.pairwise_singleton _ _)
  | r :: rs, 0, k, hS, hk, g => by
    have hr : ∀ x ∈ r, x < k := fun x hx => hk x (by rw [List.flatten_cons]; exact List.mem_append_left _ hx)
    have hR := hS.rise r List.mem_cons_self
    have hR2 : Rise (r ++ [k]) := List.pairwise_append.mpr ⟨hR, List.pairwise_singleton _ _, fun x hx y hy => by simp at hy; subst hy; exact hr x hx⟩
    show Stairs ((r ++ [k]) :: rs)
    cases hS with
    | one => exact .one (by simp) hR2
    | cons h1 h2 h3 h4 =>
      refine .cons (by simp) hR2 ⟨by rw [List.length_append]; exact Nat.le_trans h3.1 (Nat.le_add_right _ _), fun j x y hx hy => ?_⟩ h4
      have hj : j < r.length := Nat.lt_of_lt_of_le (List.getElem?_eq_some_iff.mp hy).1 h3.1
      rw [List.getElem?_append_left hj] at hx
      exact h3.2 j x y hx hy
  | r :: rs, a + 1, k, hS, hk, g => by
    have hk2 : ∀ x ∈ rs.flatten, x < k := fun x hx => hk x (by rw [List.flatten_cons]; exact List.mem_append_right _ hx)
    have hR := hS.rise r List.mem_cons_self
    have hne := hS.pos r List.mem_cons_self
    have e : grow (r :: rs) (a + 1) k = r :: grow rs a k := by
      unfold grow
      by_cases c : a = rs.length
      · rw [if_pos (by simp; exact c), if_pos c]; simp
      · rw [if_neg (by simp; exact c), if_neg c]; simp
    rw [e]
    obtain ⟨g1, g2⟩ := g
    have g1' : a ≤ (lensN rs).length := by unfold lensN at g1 ⊢; simp at g1 ⊢; exact g1
    have g2' : (lensN rs).getD a 0 < (lensN (r :: rs)).getD a 0 := by
      rcases g2 with z | z
      · omega
      · simpa [lensN] using z
    have ih : Stairs (grow rs a k) := grow_stairs hS.tail hk2 ⟨g1', by
      cases a with
      | zero => exact .inl rfl
      | succ a => exact .inr (by simpa [lensN] using g2')⟩
    cases rs with
    | nil =>
      have : a = 0 := by simp [lensN] at g1'; exact g1'
      subst this
      refine .cons hne hR ⟨?_, fun j x y hx hy => ?_⟩ ih
      · simp; exact List.length_pos_iff.mpr hne
      · have hj : j = 0 := by have := (List.getElem?_eq_some_iff.mp hy).1; simp at this; exact this
        subst hj
        have : y = k := by simpa using hy.symm
        subst this
        exact hk x (by rw [List.flatten_cons]; exact List.mem_append_left _ (List.mem_of_getElem? hx))
    | cons s rs =>
      cases hS with
      | cons h1 h2 h3 h4 =>
        cases a with
        | zero =>
          have e2 : grow (s :: rs) 0 k = (s ++ [k]) :: rs := by unfold grow; rw [if_neg (by simp)]; simp
          rw [e2] at ih ⊢
          have hls : s.length < r.length := by simpa [lensN] using g2'
          refine .cons hne hR ⟨by simp; omega, fun j x y hx hy => ?_⟩ ih
          by_cases hj : j < s.length
          · rw [List.getElem?_append_left hj] at hy
            exact h3.2 j x y hx hy
          · have hy2 : y = k := by
              rw [List.getElem?_append_right (by omega)] at hy
              have := List.mem_of_getElem? hy
              simpa using this
            subst hy2
            exact hk x (by rw [List.flatten_cons]; exact List.mem_append_left _ (List.mem_of_getElem? hx))
        | succ a =>
          have e2 : ∃ t, grow (s :: rs) (a + 1) k = s :: t := by
            unfold grow
            by_cases c : a + 1 = (s :: rs).length
            · rw [if_pos c]; exact ⟨_, rfl⟩
            · rw [if_neg c]; exact ⟨_, rfl⟩
          obtain ⟨t, e2⟩ := e2
          rw [e2] at ih ⊢
          exact .cons hne hR h3 ih
theorem val_stairs {ps : List Nat} (h : Val ps) : Stairs (growAll ps) := by
  induction h with
  | nil => exact .nil
  | @snoc ps a h g ih =>
    rw [growAll_snoc]
    exact grow_stairs ih (fun x hx => by have := val_lt h x hx; omega) g
/-! ### the row of each number -/
def rowIx : List (List Int) → Int → Nat
  | [], _ => 0
  | r :: rs, c => if c ∈ r then 0 else rowIx rs c + 1
theorem rowIx_grow : ∀ {Q : List (List Int)} {a : Nat} {k c : Int}, a ≤ Q.length → c ∈ Q.flatten → c ≠ k → rowIx (grow Q a k) c = rowIx Q c
  | [], _, _, _, _, h, _ => by simp at h
  | r :: rs, 0, k, c, _, h, hc => by
    have e : grow (r :: rs) 0 k = (r ++ [k]) :: rs := by unfold grow; rw [if_neg (by simp)]; simp
    rw [e, rowIx, rowIx]
    by_cases hr : c ∈ r
    · rw [if_pos (List.mem_append_left _ hr), if_pos hr]
    · rw [if_neg (by simp [hr, hc]), if_neg hr]
  | r :: rs, a + 1, k, c, ha, h, hc => by
    have e : grow (r :: rs) (a + 1) k = r :: grow rs a k := by
      unfold grow
      by_cases c : a = rs.length
      · rw [if_pos (by simp; exact c), if_pos c]; simp
      · rw [if_neg (by simp; exact c), if_neg c]; simp
    rw [e, rowIx, rowIx]
    by_cases hr : c ∈ r
    · rw [if_pos hr, if_pos hr]
    · rw [if_neg hr, if_neg hr, rowIx_grow (by simpa using ha) (by rw [List.flatten_cons] at h; exact (List.mem_append.mp h).resolve_left hr) hc]
theorem rowIx_new : ∀ {Q : List (List Int)} {a : Nat} {k : Int}, a ≤ Q.length → k ∉ Q.flatten → rowIx (grow Q a k) k = a
  | [], a, k, ha, _ => by
    have : a = 0 := by simpa using ha
    subst this
    simp [grow, rowIx]
  | r :: rs, 0, k, _, _ => by
    have e : grow (r :: rs) 0 k = (r ++ [k]) :: rs := by unfold grow; rw [if_neg (by simp)]; simp
    rw [e, rowIx, if_pos (by simp)]
  | r :: rs, a + 1, k, ha, h => by
    have e : grow (r :: rs) (a + 1) k = r :: grow rs a k := by
      unfold grow
      by_cases c : a = rs.length
      · rw [if_pos (by simp; exact c), if_pos c]; simp
      · rw [if_neg (by simp; exact c), if_neg c]; simp
    rw [List.flatten_cons] at h
    rw [e, rowIx, if_neg (fun z => h (List.mem_append_left _ z)), rowIx_new (by simpa using ha) (fun z => h (List.mem_append_right _ z))]
theorem val_rows {ps : List Nat} (h : Val ps) : (List.range ps.length).map (fun (i : Nat) => rowIx (growAll ps) ((i : Int) + 1)) = ps := by
  induction h with
  | nil => rfl
  | @snoc ps a h g ih =>
    have hl : a ≤ (growAll ps).length := by have := g.1; unfold lensN at this; simpa using this
    rw [growAll_snoc, List.length_append, show ps.length + [a].length = ps.length + 1 from rfl, List.range_succ, List.map_append]
    congr 1
    · conv => rhs; rw [← ih]
      apply List.map_congr_left
      intro i hi
      have hi := List.mem_range.mp hi
      refine rowIx_grow hl ?_ (by omega)
      exact (val_perm h).mem_iff.mpr (List.mem_map.mpr ⟨i, List.mem_range.mpr hi, rfl⟩)
    · show [_] = [a]
      dsimp only
      rw [rowIx_new hl (fun z => by have := val_lt h _ z; omega)]
/-! ### taken out of first stairs by second ones, and laid again -/
theorem bump_len (s : List Nat) (a : Nat) : (bump s a).length = if a = s.length then s.length + 1 else s.length := by
  unfold bump; split <;> simp
theorem bump_inj {s t : List Nat} {a : Nat} (hs : ∀ x ∈ s, 0 < x) (ht : ∀ x ∈ t, 0 < x) (as : a ≤ s.length) (at' : a ≤ t.length) (h : bump s a = bump t a) : s = t := by
  have hl := congrArg List.length h
  rw [bump_len, bump_len] at hl
  have key : ∀ j, s.getD j 0 = t.getD j 0 := fun j => by
    have e1 := bump_get s a as j
    have e2 := bump_get t a at' j
    rw [h] at e1
    rw [e1] at e2
    by_cases hj : j = a
    · subst hj; rw [if_pos rfl, if_pos rfl] at e2; omega
    · rw [if_neg hj, if_neg hj] at e2; exact e2
  have ll : s.length = t.length := by
    have z1 : ∀ {u v : List Nat}, (∀ x ∈ u, 0 < x) → (∀ j, u.getD j 0 = v.getD j 0) → u.length ≤ v.length := fun {u v} hu hk => by
      apply Nat.le_of_not_lt
      intro hlt
      have e := hk v.length
      rw [List.getD_eq_getElem?_getD, List.getD_eq_getElem?_getD, List.getElem?_eq_getElem hlt, List.getElem?_eq_none (Nat.le_refl _)] at e
      have := hu _ (List.getElem_mem hlt)
      simp at e
      omega
    exact Nat.le_antisymm (z1 hs key) (z1 ht fun j => (key j).symm)
  apply List.ext_getElem ll
  intro j h1 h2
  have e := key j
  rw [List.getD_eq_getElem?_getD, List.getD_eq_getElem?_getD, List.getElem?_eq_getElem h1, List.getElem?_eq_getElem h2] at e
  simpa using e
theorem lens_at {P : List (List Int)} {j : Nat} {r : List Int} (h : P[j]? = some r) : (lensN P).getD j 0 = r.length := by
  unfold lensN; rw [List.getD_eq_getElem?_getD, List.getElem?_map, h]; rfl
theorem corner_of {P : List (List Int)} {s : List Nat} {a : Nat} (hs : ∀ j, s.getD (j + 1) 0 ≤ s.getD j 0) (g : MayGrow s a) (e : lensN P = bump s a) : Corner P a := by
  have hl : a < P.length := by
    have := congrArg List.length e
    rw [bump_len] at this
    unfold lensN at this
    rw [List.length_map] at this
    have := g.1
    split at * <;> omega
  refine ⟨P[a], List.getElem?_eq_getElem hl, ?_⟩
  have e1 : P[a].length = s.getD a 0 + 1 := by
    rw [← lens_at (List.getElem?_eq_getElem hl), e, bump_get _ _ g.1, if_pos rfl]
  have e2 : (P.getD (a + 1) []).length = s.getD (a + 1) 0 := by
    have : (lensN P).getD (a + 1) 0 = s.getD (a + 1) 0 := by rw [e, bump_get _ _ g.1, if_neg (by omega)]
    rw [← this]
    unfold lensN
    simp [List.getD_eq_getElem?_getD]
    cases P[a + 1]? <;> simp
  have := hs a
  omega
end RS

namespace RS
/-! ## one taken out, row by row -/
theorem Stairs.drop : ∀ {R : List (List Int)} (k : Nat), Stairs R → Stairs (R.drop k)
  | R, 0, h => h
  | [], _ + 1, h => h
  | _ :: _, k + 1, h => Stairs.drop k h.tail
theorem nodup_drop {R : List (List Int)} (k : Nat) (h : R.flatten.Nodup) : (R.drop k).flatten.Nodup := by
  have e : R.flatten = (R.take k).flatten ++ (R.drop k).flatten := by rw [← List.flatten_append, List.take_append_drop]
  rw [e, List.nodup_append] at h
  exact h.2.1
theorem corner_drop {R : List (List Int)} {i k : Nat} (hk : k ≤ i) (h : Corner R i) : Corner (R.drop k) (i - k) := by
  obtain ⟨r, e, hl⟩ := h
  refine ⟨r, by rw [List.getElem?_drop, show k + (i - k) = i by omega]; exact e, ?_⟩
  rw [List.getD_eq_getElem?_getD, List.getElem?_drop, show k + (i - k + 1) = i + 1 by omega, ← List.getD_eq_getElem?_getD]
  exact hl
theorem take_step {R : List (List Int)} {i t : Nat} {r : List Int} (hS : Stairs R) (nd : R.flatten.Nodup) (hc : Corner R i) (ht : t < i) (e : R[i - 1 - t]? = some r) :
    R.drop (i - (t + 1)) = r :: R.drop (i - t) ∧ lt r (takeP (R.drop (i - t)) t).2 ≠ [] := by
  have hlt : i - 1 - t < R.length := (List.getElem?_eq_some_iff.mp e).1
  have e1 : R.drop (i - (t + 1)) = r :: R.drop (i - t) := by
    rw [show i - (t + 1) = i - 1 - t by omega, List.drop_eq_getElem_cons hlt, (List.getElem?_eq_some_iff.mp e).2, show i - 1 - t + 1 = i - t by omega]
  refine ⟨e1, ?_⟩
  have hc2 : Corner (R.drop (i - t)) t := by
    have := corner_drop (k := i - t) (by omega) hc
    rwa [show i - (i - t) = t by omega] at this
  obtain ⟨_, p, _⟩ := lay_take (hS.drop _) (nodup_drop _ nd) hc2
  have hx := p.mem_iff.mp (List.mem_cons_self (a := (takeP (R.drop (i - t)) t).2))
  have hS2 : Stairs (r :: R.drop (i - t)) := e1 ▸ hS.drop _
  have hne := hS2.pos r List.mem_cons_self
  cases r with
  | nil => exact absurd rfl hne
  | cons a r' =>
    have := stairs_first hS2 rfl _ hx
    unfold lt
    rw [List.filter_cons, if_pos (by simpa using this)]
    simp
theorem take_sizes {R : List (List Int)} {i B : Nat} (hS : Stairs R) (nd : R.flatten.Nodup) (hc : Corner R i) (h : ∀ r ∈ R, r.length ≤ B) : (takeP R i).1.length ≤ R.length ∧ ∀ r ∈ (takeP R i).1, r.length ≤ B := by
  obtain ⟨h1, h2, h3, _⟩ := lay_take hS nd hc
  have nd2 := h2.nodup_iff.mpr nd
  have hn := (List.nodup_cons.mp nd2).1
  obtain ⟨l1, l2⟩ := lens_lay h1 hn (List.nodup_cons.mp nd2).2
  rw [h3] at l1 l2
  have e := congrArg List.length l1
  rw [bump_len] at e
  unfold lensN at e
  simp only [List.length_map] at e
  refine ⟨by split at e <;> omega, fun r hr => ?_⟩
  obtain ⟨j, hj⟩ := List.getElem?_of_mem hr
  have g := bump_get (lensN (takeP R i).1) i (by unfold lensN; simpa using l2) j
  have g2 := lens_at hj
  rw [← l1] at g
  have hB : (lensN R).getD j 0 ≤ B := by
    unfold lensN
    rw [List.getD_eq_getElem?_getD, List.getElem?_map]
    cases ej : R[j]? with
    | none => simp
    | some s => simpa using h s (List.mem_of_getElem? ej)
  have g3 : (lensN (takeP R i).1).getD j 0 ≤ (lensN R).getD j 0 := by
    rw [g]
    by_cases hji : j = i
    · rw [if_pos hji, hji]; omega
    · rw [if_neg hji]; exact Nat.le_refl _
  omega
end RS

namespace RS
/-! ## columns of stairs rise -/
theorem col_head : ∀ {R : List (List Int)} {r : List Int} {i p : Nat} {x y : Int} {s : List Int}, Stairs (r :: R) → r[p]? = some x → R[i]? = some s → s[p]? = some y → x < y
  | [], _, _, _, _, _, _, _, _, e, _ => by simp at e
  | s :: R, r, 0, p, x, y, s', .cons _ _ h _, e1, e2, e3 => by
    have : s = s' := by simpa using e2
    subst this
    exact h.2 p x y e1 e3
  | s :: R, r, i + 1, p, x, y, s', .cons _ _ h t, e1, e2, e3 => by
    have e2' : R[i]? = some s' := by simpa using e2
    have hl : s'.length ≤ s.length := (List.pairwise_cons.mp t.dec).1 s' (List.mem_of_getElem? e2')
    have hp : p < s.length := Nat.lt_of_lt_of_le (List.getElem?_eq_some_iff.mp e3).1 hl
    have z : s[p]? = some s[p] := List.getElem?_eq_getElem hp
    have h1 := h.2 p x s[p] e1 z
    have h2 := col_head t z e2' e3
    omega
theorem stairs_col : ∀ {R : List (List Int)} {i j p : Nat} {x y : Int} {r s : List Int}, Stairs R → i < j → R[i]? = some r → R[j]? = some s → r[p]? = some x → s[p]? = some y → x < y
  | [], _, _, _, _, _, _, _, _, _, e, _, _, _ => by simp at e
  | r :: R, 0, j + 1, p, x, y, r', s, h, _, e1, e2, e3, e4 => by
    have : r = r' := by simpa using e1
    subst this
    exact col_head h e3 (by simpa using e2) e4
  | r :: R, i + 1, j + 1, p, x, y, r', s, h, hl, e1, e2, e3, e4 => stairs_col (R := R) (i := i) (j := j) h.tail (by omega) (by simpa using e1) (by simpa using e2) e3 e4
theorem column_rise {R : List (List Int)} (h : Stairs R) (p : Nat) : (column R p).Pairwise (· < ·) := by
  refine List.pairwise_iff_getElem.mpr fun i j hi hj hl => ?_
  have e1 : (column R p)[i]? = some (column R p)[i] := List.getElem?_eq_getElem hi
  have e2 : (column R p)[j]? = some (column R p)[j] := List.getElem?_eq_getElem hj
  rw [Dec.column_get h.dec] at e1 e2
  cases a1 : R[i]? with
  | none => rw [a1] at e1; cases e1
  | some r =>
    cases a2 : R[j]? with
    | none => rw [a2] at e2; cases e2
    | some s =>
      rw [a1] at e1
      rw [a2] at e2
      exact stairs_col h hl a1 a2 e1 e2
/-! ## a filling drawn by taking ends away -/
def growS (Q : List (List Int)) (a : Nat) (k : Int) : List (List Int) := Q.set a (Q.getD a [] ++ [k])
def growSF : List Nat → Nat → List (List Int) → List (List Int)
  | [], _, Q => Q
  | a :: as, k, Q => growSF as (k + 1) (growS Q a ((k : Int) + 1))
/-- a number put otherwise -/
def setAt (Q : List (List Int)) (a j : Nat) (v : Int) : List (List Int) := Q.set a ((Q.getD a []).set j v)
theorem getD_set (Q : List (List Int)) (a b : Nat) (r : List Int) : (Q.set a r).getD b [] = if a = b ∧ b < Q.length then r else Q.getD b [] := by
  rw [List.getD_eq_getElem?_getD, List.getD_eq_getElem?_getD, List.getElem?_set]
  by_cases h : a = b
  · subst h
    by_cases h2 : a < Q.length
    · rw [if_pos rfl, if_pos h2, if_pos ⟨rfl, h2⟩]; rfl
    · rw [if_pos rfl, if_neg h2, if_neg (by omega), List.getElem?_eq_none (by omega)]
  · rw [if_neg h, if_neg (fun z => h z.1)]
theorem setAt_grow {Q : List (List Int)} {a j b : Nat} {v k : Int} (hj : j < (Q.getD a []).length) : growS (setAt Q a j v) b k = setAt (growS Q b k) a j v ∧ j < ((growS Q b k).getD a []).length := by
  have ha : a < Q.length := by
    apply Nat.lt_of_not_le
    intro z
    rw [List.getD_eq_getElem?_getD, List.getElem?_eq_none z] at hj
    simp at hj
  unfold growS setAt
  rw [getD_set, getD_set]
  by_cases h : a = b
  · subst h
    rw [if_pos ⟨rfl, ha⟩, if_pos ⟨rfl, ha⟩, List.set_set, List.set_set]
    exact ⟨by rw [List.set_append_left _ _ hj], by rw [List.length_append]; omega⟩
  · rw [if_neg (fun z => h z.1), if_neg (fun z => h z.1.symm)]
    exact ⟨List.set_comm _ _ h, hj⟩
theorem setAt_growSF : ∀ (ps : List Nat) {k : Nat} {Q : List (List Int)} {a j : Nat} {v : Int}, j < (Q.getD a []).length → growSF ps k (setAt Q a j v) = setAt (growSF ps k Q) a j v
  | [], _, _, _, _, _, _ => rfl
  | b :: ps, k, Q, a, j, v, hj => by
    obtain ⟨e, hj2⟩ := setAt_grow (b := b) (v := v) (k := (k : Int) + 1) hj
    rw [growSF, e, setAt_growSF ps hj2, growSF]
def zeros (ls : List Nat) : List (List Int) := ls.map fun n => List.replicate n 0
theorem zeros_get (ls : List Nat) (a : Nat) : (zeros ls).getD a [] = List.replicate (ls.getD a 0) 0 := by
  unfold zeros
  rw [List.getD_eq_getElem?_getD, List.getElem?_map, List.getD_eq_getElem?_getD]
  cases ls[a]? <;> simp
/-- one step back: the end of row a is k now -/
theorem zeros_step {ls : List Nat} {a : Nat} {n : Nat} {k : Int} (e : ls[a]? = some (n + 1)) : growS (zeros (ls.set a n)) a k = setAt (zeros ls) a n k := by
  have ha := (List.getElem?_eq_some_iff.mp e).1
  unfold growS setAt
  rw [zeros_get, zeros_get, List.getD_eq_getElem?_getD, List.getElem?_set_self ha, List.getD_eq_getElem?_getD, e]
  have e1 : zeros (ls.set a n) = (zeros ls).set a (List.replicate n 0) := by unfold zeros; rw [List.map_set]
  rw [e1, List.set_set]
  congr 1
  simp only [Option.getD_some]
  rw [List.replicate_succ']
  simp
theorem fill_step {ls : List Nat} {a n k : Nat} {ps : List Nat} (e : ls[a]? = some (n + 1)) : setAt (growSF ps (k + 1) (zeros ls)) a n ((k : Int) + 1) = growSF (a :: ps) k (zeros (ls.set a n)) := by
  rw [growSF, zeros_step e, setAt_growSF]
  rw [zeros_get, List.getD_eq_getElem?_getD, e]
  simp
/-! ### with the empty rows below -/
def padN (N : Nat) (Q : List (List Int)) : List (List Int) := Q ++ List.replicate (N - Q.length) []
theorem pad_grow {N : Nat} {Q : List (List Int)} {a : Nat} {k : Int} (ha : a ≤ Q.length) (hN : a < N) : growS (padN N Q) a k = padN N (grow Q a k) := by
  unfold growS padN grow
  by_cases h : a = Q.length
  · subst h
    rw [if_pos rfl]
    obtain ⟨d, hd⟩ : ∃ d, N - Q.length = d + 1 := ⟨N - Q.length - 1, by omega⟩
    have e2 : N - (Q ++ [[k]]).length = d := by simp; omega
    rw [hd, e2, List.replicate_succ, List.set_append_right _ _ (Nat.le_refl _)]
    simp [List.getD_eq_getElem?_getD]
  · have hl : a < Q.length := by omega
    rw [if_neg h, List.set_append_left _ _ hl, List.length_set]
    congr 2
    rw [List.getD_eq_getElem?_getD, List.getD_eq_getElem?_getD, List.getElem?_append_left hl]
/-- lengths of a shape, empty rows at the end, of N rows; with the ends taken away one by one nothing is left at last -/
inductive Taken : List Nat → List Nat → Prop
  | nil {ls : List Nat} : (∀ x ∈ ls, x = 0) → Taken ls []
  | snoc {ls : List Nat} {ps : List Nat} {a n : Nat} : ls[a]? = some (n + 1) → ls.getD (a + 1) 0 ≤ n → Taken (ls.set a n) ps → Taken ls (ps ++ [a])
theorem pad_get {N : Nat} {Q : List (List Int)} {j : Nat} : (lensN (padN N Q)).getD j 0 = (lensN Q).getD j 0 := by
  unfold lensN padN
  rw [List.map_append, List.getD_eq_getElem?_getD, List.getD_eq_getElem?_getD]
  by_cases h : j < (Q.map List.length).length
  · rw [List.getElem?_append_left h]
  · rw [List.getElem?_append_right (by omega), List.getElem?_eq_none (l := Q.map List.length) (by omega)]
    simp [List.getElem?_replicate]
    split <;> simp
theorem len_of {Q : List (List Int)} {j : Nat} (hp : ∀ x ∈ lensN Q, 0 < x) (h : 0 < (lensN Q).getD j 0) : j < Q.length := by
  apply Nat.lt_of_not_le
  intro z
  rw [List.getD_eq_getElem?_getD, List.getElem?_eq_none (by unfold lensN; simpa using z)] at h
  simp at h
theorem taken_val {ls ps : List Nat} (h : Taken ls ps) (fall : ls.Pairwise (· ≥ ·)) : Val ps ∧ growSF ps 0 (zeros (ls.map fun _ => 0)) = padN ls.length (growAll ps) ∧ lensN (padN ls.length (growAll ps)) = ls := by
  induction h with
  | @nil ls hz =>
    refine ⟨.nil, ?_, ?_⟩
    · unfold growSF padN growAll growFrom zeros
      rw [List.map_map]
      simp
      rw [List.eq_replicate_iff]
      exact ⟨by simp, fun b hb => by obtain ⟨x, _, rfl⟩ := List.mem_map.mp hb; rfl⟩
    · unfold padN growAll growFrom lensN
      simp
      symm
      rw [List.eq_replicate_iff]
      exact ⟨rfl, hz⟩
  | @snoc ls ps a n e hn h ih =>
    have ha := (List.getElem?_eq_some_iff.mp e).1
    have eg : ls[a] = n + 1 := (List.getElem?_eq_some_iff.mp e).2
    have fall2 : (ls.set a n).Pairwise (· ≥ ·) := by
      refine List.pairwise_iff_getElem.mpr fun i j hi hj hl => ?_
      rw [List.length_set] at hi hj
      have h0 := List.pairwise_iff_getElem.mp fall i j hi hj hl
      rw [List.getElem_set, List.getElem_set]
      by_cases h1 : a = i
      · subst h1
        rw [if_pos rfl, if_neg (by omega)]
        -- ls[j] ≤ ls[a+1] ≤ n
        have hj1 : a + 1 < ls.length := by omega
        have h3 : ls[a + 1] ≤ n := by rw [List.getD_eq_getElem?_getD, List.getElem?_eq_getElem hj1] at hn; simpa using hn
        by_cases h4 : j = a + 1
        · subst h4; exact h3
        · have := List.pairwise_iff_getElem.mp fall (a + 1) j hj1 hj (by omega)
          exact Nat.le_trans this h3
      · rw [if_neg h1]
        by_cases h2 : a = j
        · subst h2; rw [if_pos rfl]; have : ls[i] ≥ ls[a] := h0; omega
        · rw [if_neg h2]; exact h0
    obtain ⟨i1, i2, i3⟩ := ih fall2
    rw [List.length_set] at i2 i3
    have hpos : ∀ x ∈ lensN (growAll ps), 0 < x := fun x hx => lens_pos (val_stairs i1) hx
    have gg : ∀ j, (lensN (growAll ps)).getD j 0 = (ls.set a n).getD j 0 := fun j => by rw [← pad_get (N := ls.length), i3]
    have ga : (lensN (growAll ps)).getD a 0 = n := by rw [gg, List.getD_eq_getElem?_getD, List.getElem?_set_self ha]; rfl
    have hle : a ≤ (growAll ps).length := by
      by_cases hn0 : n = 0
      · -- the row above has something
        by_cases ha0 : a = 0
        · omega
        · have : 0 < (lensN (growAll ps)).getD (a - 1) 0 := by
            rw [gg, List.getD_eq_getElem?_getD, List.getElem?_set_ne (by omega), List.getElem?_eq_getElem (by omega)]
            have := List.pairwise_iff_getElem.mp fall (a - 1) a (by omega) ha (by omega)
            simp
            omega
          have := len_of hpos this
          omega
      · have := len_of hpos (j := a) (by rw [ga]; omega)
        omega
    have may : MayGrow (lensN (growAll ps)) a := by
      refine ⟨by unfold lensN; simpa using hle, ?_⟩
      by_cases ha0 : a = 0
      · exact .inl ha0
      · right
        rw [ga, gg, List.getD_eq_getElem?_getD, List.getElem?_set_ne (by omega), List.getElem?_eq_getElem (by omega)]
        have := List.pairwise_iff_getElem.mp fall (a - 1) a (by omega) ha (by omega)
        simp
        omega
    have snoc : ∀ (ps : List Nat) (k : Nat) (Q : List (List Int)), growSF (ps ++ [a]) k Q = growS (growSF ps k Q) a ((k + ps.length : Nat) + 1) := by
      intro ps
      induction ps with
      | nil => intro k Q; simp [growSF]
      | cons b ps ih => intro k Q; rw [List.cons_append, growSF, ih, growSF]; congr 2; simp; omega
    have ez : ((ls.set a n).map fun _ => 0) = ls.map fun _ => 0 := by
      rw [List.map_set]
      apply List.ext_getElem?
      intro j
      rw [List.getElem?_set]
      by_cases hj : a = j
      · subst hj; rw [if_pos rfl, if_pos (by simpa using ha), List.getElem?_map, e]; rfl
      · rw [if_neg hj]
    rw [ez] at i2
    refine ⟨.snoc i1 may, ?_, ?_⟩
    · rw [snoc, i2, growAll_snoc]
      rw [pad_grow hle ha]
      simp
    · rw [growAll_snoc, ← pad_grow hle ha]
      unfold growS
      have ep : (padN ls.length (growAll ps)).getD a [] = (padN ls.length (growAll ps)).getD a [] := rfl
      have el : ((padN ls.length (growAll ps)).getD a []).length = n := by
        have : (lensN (padN ls.length (growAll ps))).getD a 0 = n := by rw [i3, List.getD_eq_getElem?_getD, List.getElem?_set_self ha]; rfl
        rw [← this]
        unfold lensN
        simp [List.getD_eq_getElem?_getD]
        cases (padN ls.length (growAll ps))[a]? <;> simp
      have e9 : lensN ((padN ls.length (growAll ps)).set a ((padN ls.length (growAll ps)).getD a [] ++ [((ps.length : Int) + 1)])) = (lensN (padN ls.length (growAll ps))).set a (n + 1) := by
        unfold lensN
        rw [List.map_set, List.length_append, el]; rfl
      rw [e9, i3, List.set_set]
      apply List.ext_getElem?
      intro j
      rw [List.getElem?_set]
      by_cases hj : a = j
      · subst hj; rw [if_pos rfl, if_pos ha, e]
      · rw [if_neg hj]
theorem taken_fill {ls ps : List Nat} (h : Taken ls ps) (fall : ls.Pairwise (· ≥ ·)) (pos : ∀ x ∈ ls, 1 ≤ x) : Val ps ∧ growSF ps 0 (zeros (ls.map fun _ => 0)) = growAll ps ∧ lensN (growAll ps) = ls := by
  obtain ⟨h1, h2, h3⟩ := taken_val h fall
  have e : padN ls.length (growAll ps) = growAll ps := by
    have hpos : ∀ x ∈ lensN (growAll ps), 0 < x := fun x hx => lens_pos (val_stairs h1) hx
    have hl : ls.length ≤ (growAll ps).length := by
      apply Nat.le_of_not_lt
      intro z
      have g : (lensN (growAll ps)).getD (growAll ps).length 0 = ls.getD (growAll ps).length 0 := by rw [← pad_get (N := ls.length), h3]
      rw [List.getD_eq_getElem?_getD, List.getElem?_eq_none (by unfold lensN; simp), List.getD_eq_getElem?_getD, List.getElem?_eq_getElem z] at g
      have := pos _ (List.getElem_mem z)
      simp at g
      omega
    unfold padN
    rw [show ls.length - (growAll ps).length = 0 by omega]
    simp
  rw [e] at h2 h3
  exact ⟨h1, h2, h3⟩
end RS

namespace RS
/-! ## what is left behind some takings -/
def leftAt : List (List Int) → List Nat → Nat → List (List Int)
  | A, _, 0 => A
  | A, [], _ + 1 => A
  | A, p :: ps, t + 1 => leftAt (takeP A p).1 ps t
theorem left_step : ∀ {ps : List Nat} {A : List (List Int)} {t p : Nat}, ps[t]? = some p → leftAt A ps (t + 1) = (takeP (leftAt A ps t) p).1 ∧ takeAll A (ps.take (t + 1)) = takeAll A (ps.take t) ++ [(takeP (leftAt A ps t) p).2]
  | [], _, _, _, h => by simp at h
  | q :: ps, A, 0, p, h => by
    have : q = p := by simpa using h
    subst this
    exact ⟨by simp [leftAt], by simp [takeAll, leftAt]⟩
  | q :: ps, A, t + 1, p, h => by
    obtain ⟨i1, i2⟩ := left_step (ps := ps) (A := (takeP A q).1) (t := t) (p := p) (by simpa using h)
    refine ⟨i1, ?_⟩
    rw [List.take_succ_cons, takeAll, i2, List.take_succ_cons, takeAll]
    rfl
theorem left_ok {ps : List Nat} (h : Val ps) : ∀ {A : List (List Int)}, Stairs A → A.flatten.Nodup → lensN A = lensN (growAll ps) → ∀ {t p : Nat}, ps.reverse[t]? = some p →
    Stairs (leftAt A ps.reverse t) ∧ (leftAt A ps.reverse t).flatten.Nodup ∧ Corner (leftAt A ps.reverse t) p ∧ (leftAt A ps.reverse t).length ≤ A.length ∧ ∀ B, (∀ r ∈ A, r.length ≤ B) → ∀ r ∈ leftAt A ps.reverse t, r.length ≤ B := by
  induction h with
  | nil => intro A _ _ _ t p e; simp at e
  | @snoc ps a h g ih =>
    intro A hS nd e t p ep
    rw [growAll_snoc, lens_grow] at e
    have hG := val_stairs h
    have hc := corner_of (fun j => lens_fall hG) g e
    rw [List.reverse_append] at ep ⊢
    show Stairs (leftAt A (a :: ps.reverse) t) ∧ (leftAt A (a :: ps.reverse) t).flatten.Nodup ∧ Corner (leftAt A (a :: ps.reverse) t) p ∧ (leftAt A (a :: ps.reverse) t).length ≤ A.length ∧ ∀ B, (∀ r ∈ A, r.length ≤ B) → ∀ r ∈ leftAt A (a :: ps.reverse) t, r.length ≤ B
    cases t with
    | zero =>
      have : a = p := by simpa using ep
      subst this
      exact ⟨hS, nd, hc, Nat.le_refl _, fun B hB => hB⟩
    | succ t =>
      obtain ⟨t1, t2, t3, _⟩ := lay_take hS nd hc
      have nd2 := t2.nodup_iff.mpr nd
      have hn := (List.nodup_cons.mp nd2).1
      obtain ⟨l1, l2⟩ := lens_lay t1 hn (List.nodup_cons.mp nd2).2
      rw [t3] at l1 l2
      have el : lensN (takeP A a).1 = lensN (growAll ps) := bump_inj (fun x hx => lens_pos t1 hx) (fun x hx => lens_pos hG hx) (by unfold lensN; simpa using l2) g.1 (l1.symm.trans e)
      obtain ⟨i1, i2, i3, i4, i5⟩ := ih t1 (List.nodup_cons.mp nd2).2 el (t := t) (p := p) (by simpa using ep)
      have sz := fun B hB => take_sizes (B := B) hS nd hc hB
      have szl : (takeP A a).1.length ≤ A.length := by
        have := congrArg List.length l1
        rw [bump_len] at this
        unfold lensN at this
        simp only [List.length_map] at this
        split at this <;> omega
      exact ⟨i1, i2, i3, Nat.le_trans i4 szl, fun B hB => i5 B (sz B hB).2⟩
end RS

namespace RS
/-! ## stairs that count grow number by number -/
theorem grow_succ (r : List Int) (Q : List (List Int)) (i : Nat) (k : Int) : grow (r :: Q) (i + 1) k = r :: grow Q i k := by
  unfold grow
  by_cases h : i = Q.length
  · rw [if_pos (by simp [h]), if_pos h]; rfl
  · rw [if_neg (by simp [h]), if_neg h]; rfl
theorem below_pre {r s t : List Int} (h : Below r (s ++ t)) : Below r s :=
  ⟨by have := h.1; rw [List.length_append] at this; omega, fun j x y hx hy => h.2 j x y hx (by
    rw [List.getElem?_append_left (List.getElem?_eq_some_iff.mp hy).1]; exact hy)⟩
theorem top_last {r : List Int} {k : Int} (h : Rise r) (hk : k ∈ r) (hm : ∀ x ∈ r, x ≤ k) : ∃ r', r = r' ++ [k] := by
  rcases List.eq_nil_or_concat r with rfl | ⟨r', m, e⟩
  · cases hk
  · rw [List.concat_eq_append] at e
    subst e
    refine ⟨r', ?_⟩
    have : m = k := by
      rcases List.mem_append.mp hk with z | z
      · have h1 := (List.pairwise_append.mp h).2.2 k z m (by simp)
        have h2 := hm m (by simp)
        omega
      · simpa using (List.mem_singleton.mp z).symm
    rw [this]
theorem take_top {k : Int} : ∀ {B : List (List Int)}, Stairs B → k ∈ B.flatten → (∀ x ∈ B.flatten, x ≤ k) → B.flatten.Nodup →
    ∃ (B' : List (List Int)) (i : Nat), Stairs B' ∧ B = grow B' i k ∧ MayGrow (lensN B') i ∧ ∀ s' S', B' = s' :: S' → ∃ s t S, B = s :: S ∧ s = s' ++ t
  | [], _, hk, _, _ => by simp at hk
  | r :: rs, hS, hk, hm, nd => by
    have hR := hS.rise r List.mem_cons_self
    have hmr : ∀ x ∈ r, x ≤ k := fun x hx => hm x (by rw [List.flatten_cons]; exact List.mem_append_left _ hx)
    have hmt : ∀ x ∈ rs.flatten, x ≤ k := fun x hx => hm x (by rw [List.flatten_cons]; exact List.mem_append_right _ hx)
    rw [List.flatten_cons] at hk nd
    obtain ⟨nd1, nd2, nd3⟩ := List.nodup_append.mp nd
    by_cases hkr : k ∈ r
    · obtain ⟨r', rfl⟩ := top_last hR hkr hmr
      have hlow : ∀ s S, rs = s :: S → s.length ≤ r'.length := fun s S e => by
        subst e
        cases hS with
        | cons _ _ hB _ =>
          have h1 := hB.1
          rw [List.length_append] at h1
          simp only [List.length_cons, List.length_nil] at h1
          refine Nat.not_lt.mp fun hlt => ?_
          have hs : s.length = r'.length + 1 := by omega
          have e2 : s[r'.length]? = some (s[r'.length]'(by omega)) := List.getElem?_eq_getElem _
          have := hB.2 r'.length k _ (by simp) e2
          have h3 := hmt (s[r'.length]'(by omega)) (by rw [List.flatten_cons]; exact List.mem_append_left _ (List.getElem_mem _))
          omega
      by_cases h0 : r' = []
      · subst h0
        have : rs = [] := by
          cases rs with
          | nil => rfl
          | cons s S =>
            have := hlow s S rfl
            have hne := hS.tail.pos s List.mem_cons_self
            exact absurd (List.length_eq_zero_iff.mp (by simpa using this)) hne
        subst this
        exact ⟨[], 0, .nil, by simp [grow], ⟨Nat.zero_le _, .inl rfl⟩, fun s' S' e => by cases e⟩
      · refine ⟨r' :: rs, 0, ?_, by simp [grow], ⟨Nat.zero_le _, .inl rfl⟩, fun s' S' e => ⟨_, [k], rs, rfl, by cases e; rfl⟩⟩
        have hR' := (List.pairwise_append.mp hR).1
        cases rs with
        | nil => exact .one h0 hR'
        | cons s S =>
          cases hS with
          | cons _ _ hB hT =>
            refine .cons h0 hR' ⟨hlow s S rfl, fun j x y hx hy => hB.2 j x y ?_ hy⟩ hT
            rw [List.getElem?_append_left (List.getElem?_eq_some_iff.mp hx).1]; exact hx
    · have hkt : k ∈ rs.flatten := (List.mem_append.mp hk).resolve_left hkr
      cases rs with
      | nil => simp at hkt
      | cons s S =>
        cases hS with
        | cons hne _ hB hT =>
          obtain ⟨B', i, st, e, mg, pre⟩ := take_top hT hkt hmt nd2
          refine ⟨r :: B', i + 1, ?_, by rw [grow_succ, ← e], ?_, fun s' S' e' => ⟨r, [], s :: S, rfl, by cases e'; simp⟩⟩
          · cases B' with
            | nil => exact .one hne hR
            | cons s' S' =>
              obtain ⟨s2, t, S2, e2, e3⟩ := pre s' S' rfl
              cases e2
              exact .cons hne hR (below_pre (e3 ▸ hB)) st
          · refine ⟨by have := mg.1; simp [lensN] at this ⊢; omega, .inr ?_⟩
            rcases mg.2 with rfl | hlt
            · -- the row that grew is the first below
              cases B' with
              | nil =>
                have : 0 < r.length := List.length_pos_iff.mpr hne
                simpa [lensN] using this
              | cons s' S' =>
                have : s = s' ++ [k] := by
                  have := e
                  simp [grow] at this
                  exact this.1
                have h1 := hB.1
                rw [this] at h1
                simp [lensN] at h1 ⊢
                omega
            · have hi : i ≠ 0 := fun z => by rw [z] at hlt; simp at hlt
              obtain ⟨j, rfl⟩ : ∃ j, i = j + 1 := ⟨i - 1, by omega⟩
              simpa [lensN] using hlt
theorem counts_grow : ∀ (n : Nat) {B : List (List Int)}, Stairs B → B.flatten.Perm ((List.range n).map fun (i : Nat) => (i : Int) + 1) → ∃ ps, Val ps ∧ ps.length = n ∧ B = growAll ps
  | 0, B, hS, hp => by
    have : B.flatten = [] := by simpa using hp
    cases B with
    | nil => exact ⟨[], .nil, rfl, rfl⟩
    | cons r rs =>
      have hne := hS.pos r List.mem_cons_self
      rw [List.flatten_cons, List.append_eq_nil_iff] at this
      exact absurd this.1 hne
  | n + 1, B, hS, hp => by
    have nd : B.flatten.Nodup := hp.nodup_iff.mpr (by
      unfold List.Nodup
      refine List.pairwise_map.mpr (List.Pairwise.imp (fun {a b} (h : a ≠ b) => ?_) List.nodup_range)
      intro z
      exact h (by omega))
    have hk : ((n : Int) + 1) ∈ B.flatten := hp.mem_iff.mpr (List.mem_map.mpr ⟨n, List.mem_range.mpr (by omega), rfl⟩)
    have hm : ∀ x ∈ B.flatten, x ≤ (n : Int) + 1 := fun x hx => by
      obtain ⟨i, hi, rfl⟩ := List.mem_map.mp (hp.mem_iff.mp hx)
      have := List.mem_range.mp hi
      omega
    obtain ⟨B', i, st, e, mg, _⟩ := take_top hS hk hm nd
    have hi : i ≤ B'.length := by have := mg.1; simpa [lensN] using this
    have p1 := grow_mem hi ((n : Int) + 1)
    rw [← e] at p1
    have p2 : (((n : Int) + 1) :: B'.flatten).Perm (((n : Int) + 1) :: (List.range n).map fun (i : Nat) => (i : Int) + 1) := by
      refine p1.symm.trans (hp.trans ?_)
      rw [List.range_succ, List.map_append]
      exact List.perm_append_comm
    obtain ⟨ps, hv, hl, e2⟩ := counts_grow n st (List.Perm.cons_inv p2)
    refine ⟨ps ++ [i], .snoc hv (e2 ▸ mg), by simp [hl], ?_⟩
    rw [growAll_snoc, hl, ← e2]
    exact e
end RS

/-! ## comprehensions -/
namespace L2
open PySem PySem.Spec PyProof.Rows

theorem closure_go {env : Env} : ∀ (names : List (Str × NameKind)) (acc : List (Str × Addr)), (∀ y ∈ names, y.2 = .free → ∃ c, env.cells.lookup y.1 = some c) → (∀ y c, acc.lookup y = some c → env.cells.lookup y = some c) →
    ∃ cl, (forIn names acc (fun (p : Str × NameKind) (r : List (Str × Addr)) => (match p with | (name, kind) => if (kind == NameKind.free) = true then (do let c ← cellOf env name; pure (ForInStep.yield ((name, c) :: r))) else pure (ForInStep.yield r) : Sem (ForInStep (List (Str × Addr)))))) = (pure cl : Sem (List (Str × Addr))) ∧
      (∀ y c, cl.lookup y = some c → env.cells.lookup y = some c) ∧ (∀ y c, acc.lookup y = some c → ∃ c', cl.lookup y = some c') ∧ ∀ y, (y, NameKind.free) ∈ names → ∃ c, cl.lookup y = some c
  | [], acc, _, ha => ⟨acc, rfl, ha, fun y c e => ⟨c, e⟩, fun y hy => absurd hy (by simp)⟩
  | (n, k) :: r, acc, hf, ha => by
    have hr : ∀ y ∈ r, y.2 = .free → ∃ c, env.cells.lookup y.1 = some c := fun y hy => hf y (List.mem_cons_of_mem _ hy)
    cases hk : (k == NameKind.free) with
    | true =>
      have hk' : k = .free := by simpa using hk
      obtain ⟨c, hc⟩ := hf (n, k) List.mem_cons_self hk'
      have ha' : ∀ y c', ((n, c) :: acc).lookup y = some c' → env.cells.lookup y = some c' := fun y c' e => by
        rw [List.lookup_cons] at e
        cases hb : y == n with
        | true => rw [hb] at e; cases e; rw [beq_iff_eq.mp hb]; exact hc
        | false => rw [hb] at e; exact ha y c' e
      obtain ⟨cl, e, h1, h2, h3⟩ := closure_go r ((n, c) :: acc) hr ha'
      have mono : ∀ y c', acc.lookup y = some c' → ∃ c'', cl.lookup y = some c'' := fun y c' q => by
        cases hb : y == n with
        | true => exact h2 y c (by rw [List.lookup_cons, hb])
        | false => exact h2 y c' (by rw [List.lookup_cons, hb]; exact q)
      refine ⟨cl, ?_, h1, mono, fun y hy => ?_⟩
      · rw [List.forIn_cons]
        have : (cellOf env n : Sem Addr) = pure c := by unfold cellOf; rw [hc]
        simp only [hk, if_true, this]
        exact e
      · rcases List.mem_cons.mp hy with q | q
        · cases q
          exact h2 n c (by rw [List.lookup_cons]; simp)
        · exact h3 y q
    | false =>
      obtain ⟨cl, e, h1, h2, h3⟩ := closure_go r acc hr ha
      refine ⟨cl, ?_, h1, h2, fun y hy => ?_⟩
      · rw [List.forIn_cons]
        simp only [hk, Bool.false_eq_true, if_false]
        exact e
      · rcases List.mem_cons.mp hy with q | q
        · cases q
          cases hk
        · exact h3 y q
theorem closure_ok {scope : Scope} {env : Env} (h : ∀ y ∈ scope.names, y.2 = .free → ∃ c, env.cells.lookup y.1 = some c) :
    ∃ cl, closureFor scope env = pure cl ∧ (∀ y c, cl.lookup y = some c → env.cells.lookup y = some c) ∧ ∀ y, (y, NameKind.free) ∈ scope.names → ∃ c, cl.lookup y = some c := by
  obtain ⟨cl, e, h1, _, h3⟩ := closure_go (env := env) scope.names [] h (fun y c e => by simp at e)
  refine ⟨cl, ?_, h1, h3⟩
  unfold closureFor
  exact (congrArg (fun t : Sem (List (Str × Addr)) => t >>= fun cs => pure cs) e).trans rfl

/-- the context of a comprehension's block: its variable first, then the captured names -/
def Cx.comp (X : Cx) (M : List Str) (scope : Scope) (cl : List (Str × Addr)) (C : Addr) (s : Shared) (H : Hp) (ex : List Addr) : Cx where
  prog := X.prog
  w := X.w
  K := X.K
  mg := X.mg
  base := X.base
  A := X.A
  N := M
  s₀ := s
  H₀ := H
  env := compEnvC scope cl C X.env
  outer := X.stack
  stack := X.stack
  ex := ex
  fn := fun _ => false
  calm := X.calm
  pn := []
  xe := fun _ _ => False

/-- the block's state -/
def cst (cp : List Nat) (σ : St) (v : Option V) : St := v :: cp.map fun i => σ.getD i none
/-- what a comprehension asks: D the new list; W the invariant by the turn and a measure -/
def tComp (wi : TI) (cp : List Nat) (tt : TT) (te : TE) : TE := fun σ H Q => wi σ H fun J H1 => ∀ D, H1 D = none →
  ∃ W : Nat → Nat → Hp → Prop, (∃ m, W 0 m (upd H1 D (.lst []))) ∧ ∀ i m H, W i m H →
    (J.stop i H ∧ Q (.ref D) H) ∨ (J.go i H ∧ ∀ v H', J.yld i H v H' → tt (cst cp σ (some v)) H' fun b H2 =>
      if b = true then te (cst cp σ (some v)) H2 fun y H3 => ∃ ys, H3 D = some (.lst ys) ∧ ys.length < sizeLine ∧ ∃ m', m' < m ∧ W (i + 1) m' (upd H3 D (.lst (ys ++ [y])))
      else ∃ m', m' < m ∧ W (i + 1) m' H2)
/-- the tests of a comprehension -/
def PTs (X : Cx) (ifs : List Expr) (t : TT) : Prop :=
  ∀ (pins : List (Addr × Obj)) (s : Shared) (σ : St) (H : Hp) (Q : Bool → Hp → Prop), Inv X pins σ H s → t σ H Q →
    wpAny (model X.prog X.w) X.A (forIn ifs true fun c r => if r = true then do let ok ← isTrue c X.env (eval c X.env); pure (ForInStep.yield ok) else pure (ForInStep.yield r)) (TP X pins σ Q) X.xe s
def tNoTest : TT := fun _ H Q => Q true H
theorem pts_nil {X : Cx} : PTs X [] tNoTest := fun pins s σ H Q I h => wpAny_tests_nil ⟨H, I, h⟩
theorem pts_one {X : Cx} {c : Expr} {t : TT} (h : PT X c t) : PTs X [c] t := fun pins s σ H Q I q => wpAny_tests_one (h pins s σ H Q I q)

/-- the names of a comprehension's block, looked at -/
structure CompScope (N : List Str) (out : Scope) (x : Str) (cp : List Nat) (M : List Str) (scope : Scope) : Prop where
  hM : M = x :: cp.map fun i => N.getD i x
  kind : scope.kind = .function
  hx : scope.names.lookup x = some .local
  nocellB : scope.names.all (fun y => !(y.2 == .cell)) = true
  locB : scope.names.all (fun y => !(y.2 == .local) || scope.names.lookup y.1 == some .local) = true
  freeB : scope.names.all (fun y => !(y.2 == .free) || (out.names.lookup y.1 == some .cell || out.names.lookup y.1 == some .free)) = true
  capB : cp.all (fun i => decide (i < N.length) && scope.names.lookup (N.getD i x) == some .free) = true
section
variable {N : List Str} {out : Scope} {x : Str} {cp : List Nat} {M : List Str} {scope : Scope}
theorem CompScope.nocell (S : CompScope N out x cp M scope) : ∀ y ∈ scope.names, y.2 ≠ .cell := fun y hy => by
  have := List.all_eq_true.mp S.nocellB y hy
  simpa using this
theorem CompScope.loc (S : CompScope N out x cp M scope) : ∀ y ∈ scope.names, y.2 = .local → scope.names.lookup y.1 = some .local := fun y hy e => by
  have := List.all_eq_true.mp S.locB y hy
  simpa [e] using this
theorem CompScope.free (S : CompScope N out x cp M scope) : ∀ y ∈ scope.names, y.2 = .free → (out.names.lookup y.1 = some .cell ∨ out.names.lookup y.1 = some .free) := fun y hy e => by
  have := List.all_eq_true.mp S.freeB y hy
  simpa [e] using this
theorem CompScope.cap (S : CompScope N out x cp M scope) : ∀ i ∈ cp, i < N.length ∧ scope.names.lookup (N.getD i x) = some .free := fun i hi => by
  have := List.all_eq_true.mp S.capB i hi
  rw [Bool.and_eq_true] at this
  exact ⟨of_decide_eq_true this.1, by simpa using this.2⟩
end

theorem relabel_lookup {env : Env} {x : Str} {k : NameKind} : ∀ {names : List (Str × NameKind)},
    (names.map fun (n, k) => if (k == NameKind.free && env.scope.kind == .function && env.kindOf n == some .cell) then (n, NameKind.cell) else (n, k)).lookup x = some k →
    ∃ k0, names.lookup x = some k0 ∧ (k = k0 ∨ (k0 = .free ∧ k = .cell))
  | [], h => by simp at h
  | (n, k1) :: r, h => by
    have ih := @relabel_lookup env x k r
    have h : List.lookup x ((if (k1 == NameKind.free && env.scope.kind == .function && env.kindOf n == some .cell) = true then (n, NameKind.cell) else (n, k1)) :: (r.map fun (n, k) => if (k == NameKind.free && env.scope.kind == .function && env.kindOf n == some .cell) then (n, NameKind.cell) else (n, k))) = some k := h
    by_cases hc : (k1 == NameKind.free && env.scope.kind == .function && env.kindOf n == some .cell) = true
    · rw [if_pos hc, List.lookup_cons] at h
      cases hx : x == n with
      | true =>
        rw [hx] at h
        rw [List.lookup_cons, hx]
        have hk : k1 = .free := by
          simp only [Bool.and_eq_true, beq_iff_eq] at hc
          exact hc.1.1
        exact ⟨k1, rfl, .inr ⟨hk, (Option.some.inj h).symm⟩⟩
      | false =>
        rw [hx] at h
        rw [List.lookup_cons, hx]
        exact ih h
    · rw [if_neg hc, List.lookup_cons] at h
      cases hx : x == n with
      | true =>
        rw [hx] at h
        rw [List.lookup_cons, hx]
        exact ⟨k1, rfl, .inl (Option.some.inj h).symm⟩
      | false =>
        rw [hx] at h
        rw [List.lookup_cons, hx]
        exact ih h
theorem relabel_free {env : Env} {x : Str} : ∀ {names : List (Str × NameKind)}, names.lookup x = some .free →
    (names.map fun (n, k) => if (k == NameKind.free && env.scope.kind == .function && env.kindOf n == some .cell) then (n, NameKind.cell) else (n, k)).lookup x = some .free ∨
    (names.map fun (n, k) => if (k == NameKind.free && env.scope.kind == .function && env.kindOf n == some .cell) then (n, NameKind.cell) else (n, k)).lookup x = some .cell
  | [], h => by simp at h
  | (n, k1) :: r, h => by
    have ih := @relabel_free env x r
    show List.lookup x ((if (k1 == NameKind.free && env.scope.kind == .function && env.kindOf n == some .cell) = true then (n, NameKind.cell) else (n, k1)) :: _) = _ ∨ List.lookup x ((if (k1 == NameKind.free && env.scope.kind == .function && env.kindOf n == some .cell) = true then (n, NameKind.cell) else (n, k1)) :: _) = _
    rw [List.lookup_cons] at h
    by_cases hc : (k1 == NameKind.free && env.scope.kind == .function && env.kindOf n == some .cell) = true
    · rw [if_pos hc, List.lookup_cons]
      cases hx : x == n with
      | true => exact .inr rfl
      | false => rw [hx] at h; exact ih h
    · rw [if_neg hc, List.lookup_cons]
      cases hx : x == n with
      | true => rw [hx] at h; exact .inl h
      | false => rw [hx] at h; exact ih h

section
variable {X : Cx} {pins : List (Addr × Obj)} {σ : St} {H : Hp}

/-- the entry of a comprehension's block -/
theorem Inv.comp {s3 s4 : Shared} {x : Str} {cp : List Nat} {M : List Str} {scope : Scope} {cl : List (Str × Addr)} {fp : List Addr} (I : Inv X pins σ H s3) (S : CompScope X.N X.env.scope x cp M scope)
    (hcl : ∀ y c, cl.lookup y = some c → X.env.cells.lookup y = some c) (hcf : ∀ y, (y, NameKind.free) ∈ scope.names → ∃ c, cl.lookup y = some c)
    (hfp : ∀ b ∈ fp, FpOk X pins H b) (hfo : ∀ b ∈ fp, b < s3.heap.objs.size) (hs : s4 = { s3 with heap := s4.heap, toks := s4.toks }) (hk : ∀ b o, s3.heap.get? b = some o → s4.heap.get? b = some o)
    {m : Str → Option Value} (hn : s4.heap.Ns s3.heap.objs.size m) :
    Inv (X.comp M scope cl s3.heap.objs.size s3 H fp) [] (cst cp σ none) H s4 := by
  have os4 : s4.os = s3.os := by rw [hs]
  have g4 : s4.gens = s3.gens := by rw [hs]
  have I4 : Inv X pins σ H s4 := by
    have := I.kept (h' := s4.heap) (t' := s4.toks) hk
    rw [hs]; exact this
  refine ⟨⟨I.ok.mod, S.kind, I.ok.glob, I.ok.blt, Nat.le_refl _, fun y z c h1 h2 => I.ok.inj y z c (hcl y c h1) (hcl z c h2), fun y hy => ?_, fun y c h _ => absurd h (by intro z; cases z), I.ok.hd, I.ok.frames, .inl rfl, fun b hb => ⟨Nat.ne_of_lt (hfo b hb), fun y c e => (hfp b hb).2.2.2.2.1 y c (hcl y c e)⟩,
    I.bs, Nat.le_trans I.ok.bsz I.sz, fun b o e hb => ?_, fun b hb hs => ?_, I.stack, I.stkFree⟩,
    os4, ?_, Un.kept hk, ⟨m, hn, fun i y v h1 h2 h3 => ?_⟩, fun y c e => ?_, I.hok.fresh (Nat.le_refl _), fun y c e => I.freeC y c (hcl y c e), fun p hp => absurd hp (by intro z; cases z), I.hok.kept hk, ?_⟩
  · have hy' : ∃ k, (k = NameKind.cell ∨ k = .free) ∧ (relabel scope X.env).names.lookup y = some k := by
      rcases hy with hy | hy
      · exact ⟨_, .inl rfl, hy⟩
      · exact ⟨_, .inr rfl, hy⟩
    obtain ⟨k, hk, e⟩ := hy'
    obtain ⟨k0, e0, h0⟩ := relabel_lookup (names := scope.names) e
    have mem := PySem.mem_of_lookup e0
    rcases h0 with rfl | ⟨rfl, rfl⟩
    · rcases hk with rfl | rfl
      · exact absurd rfl (S.nocell _ mem)
      · exact hcf y mem
    · exact hcf y mem
  · obtain ⟨_, _, _, h4, _⟩ := hfp b hb
    rcases h4 with h4 | h4
    · exact I.ok.noex b o e h4
    · exact absurd (Nat.lt_of_lt_of_le (Heap.lt_size e) (Nat.le_trans I.ok.bsz h4)) (Nat.lt_irrefl _)
  · obtain ⟨_, h1, h2, _⟩ := hfp b hb
    rcases List.mem_cons.mp (I.stkSub b hs) with e | e
    · exact h1 e
    · exact h2 e
  · rw [g4]; exact I.bare
  · -- names
    have hM : (X.comp M scope cl s3.heap.objs.size s3 H fp).N = x :: cp.map fun i => X.N.getD i x := S.hM
    rw [hM] at h1
    cases i with
    | zero => unfold cst at h2; simp at h2
    | succ i =>
      unfold cst at h2
      simp only [List.getElem?_cons_succ, List.getElem?_map] at h1 h2
      cases hi : cp[i]? with
      | none => rw [hi] at h1; cases h1
      | some j =>
        rw [hi] at h1 h2
        simp only [Option.map_some, Option.some.injEq] at h1 h2
        obtain ⟨hj, hf⟩ := S.cap j (List.mem_of_getElem? hi)
        have hNj : X.N[j]? = some y := by
          rw [← h1, List.getD_eq_getElem?_getD]
          rw [List.getElem?_eq_getElem hj]; rfl
        have hσj : σ[j]? = some (some v) := by
          rw [List.getD_eq_getElem?_getD] at h2
          cases e : σ[j]? with
          | none => rw [e] at h2; cases h2
          | some a => rw [e] at h2; simp at h2; rw [h2]
        rw [h1] at hf
        have memf := PySem.mem_of_lookup hf
        have ho := S.free _ memf rfl
        have hvis : Vis X.env.scope y := ho.elim (fun z => .inr (.inl z)) fun z => .inr (.inr z)
        obtain ⟨m0, hn0, hl0⟩ := I4.loc
        obtain ⟨u, r, l⟩ := hl0 j y v hNj hσj hvis
        refine ⟨u, r, ?_⟩
        rcases l with ⟨k, _⟩ | ⟨k, c, e, z⟩
        · exfalso
          have k' : X.env.scope.names.lookup y = some .local := k
          rcases ho with ho | ho
          · rw [k'] at ho; cases ho
          · rw [k'] at ho; cases ho
        · obtain ⟨c', e'⟩ := hcf y memf
          have : c' = c := by have := hcl y c' e'; rw [e] at this; cases this; rfl
          subst this
          refine .inr ⟨?_, c', e', z⟩
          exact (relabel_free (env := X.env) hf).elim .inr .inl
  · obtain ⟨v, q⟩ := I4.cell y c (hcl y c e)
    exact ⟨v, q⟩
  · show (cst cp σ none).length = M.length
    rw [S.hM]; simp [cst]

/-- behind a comprehension's block -/
theorem Inv.uncomp {s3 s' : Shared} {σ' : St} {H' : Hp} {M : List Str} {scope : Scope} {cl : List (Str × Addr)} {fp : List Addr} {h' : Heap} (I : Inv X pins σ H s3) (hfp : ∀ b ∈ fp, FpOk X pins H b)
    (J : Inv (X.comp M scope cl s3.heap.objs.size s3 H fp) [] σ' H' s') (hs : Heap.SameBut s3.heap.objs.size s'.heap h') : Inv X pins σ H' { s' with heap := h' } := by
  have hC : H' s3.heap.objs.size = none := J.free
  have u := J.base
  have hok : HOk X.prog X.w H' h' := fun b o e => by
    refine (J.hok b o e).stay (fun c v hc q => (hs.2 c ?_).trans q) (fun _ q => q) fun _ _ q => q
    rintro rfl
    rcases hc with z | z
    · rw [← z, hC] at e; cases e
    · rw [hC] at z; cases z
  have ne : ∀ b o, s3.heap.get? b = some o → b ≠ s3.heap.objs.size := fun b o e => Nat.ne_of_lt (Heap.lt_size e)
  have un : Un (frs X.stack) fp H H' s3.heap h' :=
    ⟨fun b o e n hb hx => (hs.2 b (ne b o e)).trans (u.keep b o e n hb hx), fun b o e n hb hx => by
      obtain ⟨sl, q⟩ := u.slot b o e n hb hx
      exact ⟨sl, (hs.2 b (ne b o e)).trans q⟩, u.free, fun b o e hx => by
      obtain ⟨o', q⟩ := u.there b o e hx
      exact ⟨o', (hs.2 b (ne b o e)).trans q⟩, u.tups, u.frzs, u.tbls⟩
  refine I.call' (s' := { s' with heap := h' }) (ch := fp) J.os un hok J.bare fun b hb => ?_
  obtain ⟨_, h1, _, h3, h4, h5⟩ := hfp b hb
  exact ⟨h3, h1, h4, h5⟩
end

section
variable {prog : Program} {w : World} {A : Around} {R : Result → Shared → Prop} {s : Shared}
/-- the loop of a comprehension, the step ahead of the store among the rest -/
theorem compLoop_any {elt target iter : Expr} {ifs : List Expr} {scope : Scope} {pos : Pos} {it acc : Value} {env : Env} (I : Nat → Shared → Prop)
    (turn : ∀ n s, I n s → wpAny (model prog w) A (pyNext it) (fun r s₁ => match r with
      | none => R (.ok .next) s₁
      | some v => wpAny (model prog w) A (letOwnedTupleGo target it v) (fun _ s₁' => wpAny (model prog w) A (assign target env v) (fun _ s₂ =>
          wpAny (model prog w) A (forIn ifs true fun c r => if r = true then do let ok ← isTrue c env (eval c env); pure (ForInStep.yield ok) else pure (ForInStep.yield r)) (fun ok s₃ =>
            if ok = true then wpAny (model prog w) A (eval elt env) (fun x s₄ =>
              wpAny (model prog w) A (call (.builtin "list.append") [acc, x]) (fun _ s₅ => ∃ m, m < n ∧ I m s₅) (fun _ _ => False) s₄) (fun _ _ => False) s₃
            else ∃ m, m < n ∧ I m s₃) (fun _ _ => False) s₂) (fun _ _ => False) s₁') (fun _ _ => False) s₁) (fun _ _ => False) s)
    (n : Nat) (h : I n s) :
    codeAny (model prog w) A (.compLoop (.ListComp elt [⟨target, iter, ifs, 0⟩] scope pos) 0 it acc env) R s := by
  refine codeAny_loop rfl I (fun n s hI => ?_) n h
  show wpAny _ A ((compTurn (.ListComp elt [⟨target, iter, ifs, 0⟩] scope pos) 0 it acc env).onRaise (fun x => do noteFrame x env; theTreesLotGoes x)) _ _ s
  refine wpAny_noted ?_
  rw [compTurn_list]
  refine wpAny_bind (wpAny_standAt (wpAny_bind (wpAny_mono (turn n s hI) (fun r s₁ h₁ => ?_) fun _ _ h' => h'.elim)))
  cases r with
  | none => exact wpAny_pure h₁
  | some v =>
    refine wpAny_bind (wpAny_mono h₁ (fun _ s₁' h₁' => ?_) fun _ _ h' => h'.elim)
    refine wpAny_bind (wpAny_mono h₁' (fun _ s₂ h₂ => wpAny_bind (wpAny_mono h₂ (fun ok s₃ h₃ => ?_) fun _ _ h' => h'.elim)) fun _ _ h' => h'.elim)
    cases ok with
    | false => exact wpAny_pure ⟨rfl, h₃⟩
    | true =>
      exact wpAny_bind (wpAny_bind (wpAny_mono h₃ (fun x s₄ h₄ => wpAny_bind (wpAny_mono h₄ (fun _ s₅ h₅ => wpAny_pure (wpAny_pure ⟨rfl, h₅⟩)) fun _ _ h' => h'.elim)) fun _ _ h' => h'.elim))
end

section
variable {X : Cx}
/-- the block runs: from the iterator to the end -/
theorem comp_run {elt iter : Expr} {x : Str} {px : Pos} {ifs : List Expr} {scope : Scope} {pos : Pos} {cp : List Nat} {M : List Str} {tt : TT} {te : TE} {cl : List (Str × Addr)}
    (hc : X.calm = true) (S : CompScope X.N X.env.scope x cp M scope) (hnd : M.Nodup)
    (hcl : ∀ y c, cl.lookup y = some c → X.env.cells.lookup y = some c) (hcf : ∀ y, (y, NameKind.free) ∈ scope.names → ∃ c, cl.lookup y = some c)
    (ht : ∀ C s H ex, PTs (X.comp M scope cl C s H ex) ifs tt) (he : ∀ C s H ex, PE (X.comp M scope cl C s H ex) elt te)
    {pins : List (Addr × Obj)} {σ : St} {s2 : Shared} {H2 : Hp} {Q : VK} {it : Addr} {fp : List Addr} {tn : Nat → Heap → Prop} {J : It} {RR : Value → Addr → Result → Shared → Prop} {E : Value → Shared → Prop}
    (I2 : Inv X pins σ H2 s2) (T : Turn X.prog X.w X.K (.Name x px) J fp it tn) (st2 : tn 0 s2.heap) (f2 : ∀ b ∈ fp, FpOk X pins H2 b)
    (q : ∀ D, H2 D = none → ∃ W : Nat → Nat → Hp → Prop, (∃ m, W 0 m (upd H2 D (.lst []))) ∧ ∀ i m H, W i m H →
      (J.stop i H ∧ Q (.ref D) H) ∨ (J.go i H ∧ ∀ v H', J.yld i H v H' → tt (cst cp σ (some v)) H' fun b H2 =>
        if b = true then te (cst cp σ (some v)) H2 fun y H3 => ∃ ys, H3 D = some (.lst ys) ∧ ys.length < sizeLine ∧ ∃ m', m' < m ∧ W (i + 1) m' (upd H3 D (.lst (ys ++ [y])))
        else ∃ m', m' < m ∧ W (i + 1) m' H2))
    (fin : ∀ (D C : Addr) (s' : Shared) (H' : Hp) (m : Str → Option Value), s'.heap.Ns C m → (∀ h', Heap.SameBut C s'.heap h' → Inv X pins σ H' { s' with heap := h' }) → FpOk X pins H' C → Q (.ref D) H' → RR (.ref D) C (.ok .next) s') :
    wpAny (model X.prog X.w) X.A (newList []) (fun acc s₃ => wpAny (model X.prog X.w) X.A (newFunctionEnv scope X.env.globals cl [] X.env.qual none .none (some X.env)) (fun cenv s₄ =>
      codeAny (model X.prog X.w) X.A (.compStart (.ListComp elt [⟨.Name x px, iter, ifs, 0⟩] scope pos) 0 (.ref it) acc { cenv with scope := relabel scope X.env }) (RR acc cenv.locals) s₄) E s₃) E s2 := by
  have fobj : ∀ b ∈ fp, b < s2.heap.objs.size := fun b hb => by
    obtain ⟨o, e, _⟩ := T.obj 0 _ st2 b hb
    exact Heap.lt_size e
  refine wpAny_newObj_type (wpAny_newFunctionEnv S.nocell (by intro y hy; simp at hy) (fun h₁ hns₁ hsb₁ => ?_) S.kind)
  have hf : H2 s2.heap.objs.size = none := I2.hok.fresh (Nat.le_refl _)
  obtain ⟨W, ⟨m0, w0⟩, turn⟩ := q _ hf
  generalize hs3 : ({ s2 with heap := s2.heap.push { cls := .type "list", dict := none, data := .seq ([] : List Value).toArray } } : Shared) = s3 at *
  have I3 : Inv X pins σ (upd H2 s2.heap.objs.size (.lst [])) s3 := by
    rw [← hs3]
    exact I2.laid (t' := s2.toks) (fun b u e => Heap.get?_push_of_some _ e) (Nat.le_refl _) ⟨Nat.zero_le _, [], 0, .nil, Heap.get?_push_size _ rfl⟩
  have sz3 : s2.heap.objs.size < s3.heap.objs.size := by rw [← hs3]; show _ < (s2.heap.push _).objs.size; rw [Heap.size_push]; exact Nat.lt_succ_self _
  have f3 : ∀ b ∈ fp, FpOk X pins (upd H2 s2.heap.objs.size (.lst [])) b := fun b hb => by
    obtain ⟨h0, r⟩ := f2 b hb
    exact ⟨by rw [upd_ne (Nat.ne_of_lt (fobj b hb))]; exact h0, r⟩
  have keep34 : ∀ b o, s3.heap.get? b = some o → h₁.get? b = some o := fun b o e => hsb₁.extBut b o (Nat.ne_of_lt (Heap.lt_size e)) (Heap.get?_push_of_some _ e)
  have keep24 : ∀ b o, s2.heap.get? b = some o → h₁.get? b = some o := fun b o e => keep34 b o (by rw [← hs3]; exact Heap.get?_push_of_some _ e)
  have Ic : Inv (X.comp M scope cl s3.heap.objs.size s3 (upd H2 s2.heap.objs.size (.lst [])) fp) [] (cst cp σ none) (upd H2 s2.heap.objs.size (.lst [])) { s3 with heap := h₁, toks := s3.toks + ([] : List (Str × Value)).length } :=
    I3.comp S hcl hcf f3 (fun b hb => Nat.lt_trans (fobj b hb) sz3) rfl keep34 hns₁
  have fst : ∀ {H' : Hp}, (∀ b ∈ fp, H' b = none) → ∀ b ∈ fp, FpOk (X.comp M scope cl s3.heap.objs.size s3 (upd H2 s2.heap.objs.size (.lst [])) fp) [] H' b := fun hn b hb => by
    obtain ⟨_, h1, h2, _, h4, _⟩ := f2 b hb
    refine ⟨hn b hb, Nat.ne_of_lt (Nat.lt_trans (fobj b hb) sz3), fun hs => ?_, .inl hb, fun y c e => h4 y c (hcl y c e), fun p hp => absurd hp (by intro z; cases z)⟩
    rcases List.mem_cons.mp (I3.stkSub b hs) with e | e
    · exact h1 e
    · exact h2 e
  have loop : codeAny (model X.prog X.w) X.A (.compLoop (.ListComp elt [⟨.Name x px, iter, ifs, 0⟩] scope pos) 0 (.ref it) (.ref s2.heap.objs.size) (compEnvC scope cl s3.heap.objs.size X.env)) (RR (.ref s2.heap.objs.size) s3.heap.objs.size)
      { s3 with heap := h₁, toks := s3.toks + ([] : List (Str × Value)).length } := by
    refine compLoop_any (fun n s' => ∃ i vo H', Inv (X.comp M scope cl s3.heap.objs.size s3 (upd H2 s2.heap.objs.size (.lst [])) fp) [] (cst cp σ vo) H' s' ∧ tn i s'.heap ∧ (∀ b ∈ fp, H' b = none) ∧ W i n H') ?_ m0
      ⟨0, none, _, Ic, T.keep _ _ _ st2 (fun b hb o e => keep24 b o e), fun b hb => (f3 b hb).1, w0⟩
    rintro n s5 ⟨i, vo, H5, I5, st5, fr5, w5⟩
    rcases turn i n H5 w5 with ⟨stop, qn⟩ | ⟨go, step⟩
    · refine thn (T.done (X.comp M scope cl s3.heap.objs.size s3 (upd H2 s2.heap.objs.size (.lst [])) fp) rfl rfl rfl hc i [] s5 _ H5 _ I5 (fst fr5) st5 stop) fun r s6 ⟨hr, I6⟩ => ?_
      subst hr
      obtain ⟨m', hm', _⟩ := id I6.loc
      exact fin _ _ s6 H5 m' hm' (fun h' hb => I3.uncomp f3 I6 hb) (I3.fpOk (Nat.le_refl _) I6.free) qn
    · refine thn (T.item (X.comp M scope cl s3.heap.objs.size s3 (upd H2 s2.heap.objs.size (.lst [])) fp) rfl rfl rfl hc i [] s5 _ H5 _ I5 (fst fr5) st5 go) fun r s6 ⟨u, hr, h6⟩ => ?_
      subst hr
      refine thn h6 fun _ s7 ⟨v, H7, I7, r7, y7, st7, fr7⟩ => ?_
      have I7' := I7.pinned (fst fr7) (T.obj _ _ st7)
      have hMx : (X.comp M scope cl s3.heap.objs.size s3 (upd H2 s2.heap.objs.size (.lst [])) fp).N[0]? = some x := by
        show M[0]? = some x
        rw [S.hM]; rfl
      refine wpAny_assign_Name (store_ok I7' hnd hMx (.inl (lookup_relabel_local S.hx)) r7 (fun s8 I8 => ?_) (.inr (lookup_relabel_local S.hx)))
      have I8' : Inv (X.comp M scope cl s3.heap.objs.size s3 (upd H2 s2.heap.objs.size (.lst [])) fp) ([] ++ pinsAt fp s7.heap) (cst cp σ (some v)) H7 s8 := I8
      have again : ∀ {H9 : Hp} {s9 : Shared} {m' : Nat}, Inv (X.comp M scope cl s3.heap.objs.size s3 (upd H2 s2.heap.objs.size (.lst [])) fp) ([] ++ pinsAt fp s7.heap) (cst cp σ (some v)) H9 s9 → m' < n → W (i + 1) m' H9 →
          ∃ m, m < n ∧ ∃ i vo H', Inv (X.comp M scope cl s3.heap.objs.size s3 (upd H2 s2.heap.objs.size (.lst [])) fp) [] (cst cp σ vo) H' s9 ∧ tn i s9.heap ∧ (∀ b ∈ fp, H' b = none) ∧ W i m H' := fun {H9 s9 m'} I9 hm w9 => by
        refine ⟨m', hm, i + 1, some v, H9, I9.unpinned, T.keep _ _ _ st7 fun b hb o e => (I9.pin (b, o) (List.mem_append_right _ (List.mem_append_right _ (mem_pinsAt hb e)))).1, fun b hb => ?_, w9⟩
        obtain ⟨o, e, d⟩ := T.obj _ _ st7 b hb
        exact (I9.pin (b, o) (List.mem_append_right _ (List.mem_append_right _ (mem_pinsAt hb e)))).2.1
      refine thn (ht _ _ _ _ _ s8 _ H7 _ I8' (step v H7 y7)) fun b s9 ⟨H9, I9, q9⟩ => ?_
      cases b with
      | false =>
        rw [if_neg Bool.false_ne_true] at q9
        rw [if_neg Bool.false_ne_true]
        obtain ⟨m', hm, w9⟩ := q9
        exact again I9 hm w9
      | true =>
        rw [if_pos rfl] at q9
        rw [if_pos rfl]
        refine thn (he _ _ _ _ _ s9 _ H9 _ I9 q9) fun yv s10 ⟨y, H10, I10, ry, ys, hD, hlen, m', hm, w10⟩ => ?_
        exact thn (mt_append _ s10 _ H10 (.ref s2.heap.objs.size) [y] (.ref s2.heap.objs.size) [yv] (fun _ H' => H' = upd H10 s2.heap.objs.size (.lst (ys ++ [y]))) I10 rfl (.cons ry .nil) ⟨_, ys, y, rfl, rfl, hD, hlen, rfl⟩)
          fun _ s11 ⟨_, H11, I11, _, e11⟩ => again I11 hm (e11 ▸ w10)
  exact codeAny_compStart_list loop (T.self _ 0 _ _ _ (T.keep _ _ _ st2 fun b hb o e => keep24 b o e) loop)

/-- [elt for x in iter if ..] -/
theorem pe_comp {elt iter : Expr} {x : Str} {px : Pos} {ifs : List Expr} {scope : Scope} {pos : Pos} {cp : List Nat} {M : List Str} {wi : TI} {tt : TT} {te : TE}
    (hc : X.calm = true) (S : CompScope X.N X.env.scope x cp M scope) (hnd : M.Nodup) (hi : PI X (.Name x px) iter wi)
    (ht : ∀ cl C s H ex, PTs (X.comp M scope cl C s H ex) ifs tt) (he : ∀ cl C s H ex, PE (X.comp M scope cl C s H ex) elt te)
    (hs : ∀ v, foldedSetIterable iter X.env v = pure v := by intro _; rfl) : PE X (.ListComp elt [⟨.Name x px, iter, ifs, 0⟩] scope pos) (tComp wi cp tt te) := by
  intro pins s σ H Q I h
  obtain ⟨cl, e, hcl, hcf⟩ := closure_ok (scope := scope) (env := X.env) fun y hy hf => I.ok.has y.1 (S.free y hy hf)
  rw [eval_ListComp]
  refine wpAny_comprehension_free (use := none) rfl hs e S.kind S.loc (thn (hi pins s σ H _ I h) fun xv s1 h1 => thn h1 fun itv s2 h2 => ?_)
  obtain ⟨it, fp, tn, J, H2, rfl, I2, T, st2, f2, q⟩ := h2
  refine comp_run (RR := fun acc C => compPost (model X.prog X.w) X.A X.xe none (EP X pins σ Q) acc C) hc S hnd hcl hcf (ht cl) (he cl) I2 T st2 f2 q ?_
  intro D C s' H' m hn hI _ qD
  exact ⟨m, hn, fun h' hb => ⟨.ref D, H', hI h' hb, rfl, qD⟩⟩
/-- y = [elt for x in iter if ..], in one line -/
theorem ps_comp {elt iter : Expr} {x y : Str} {px py : Pos} {ifs : List Expr} {scope : Scope} {pos spos : Pos} {cp : List Nat} {M : List Str} {wi : TI} {tt : TT} {te : TE} {i : Nat}
    (hN : X.N.Nodup) (hy : X.N[i]? = some y) (hloc : X.env.scope.names.lookup y = some .local)
    (hc : X.calm = true) (S : CompScope X.N X.env.scope x cp M scope) (hnd : M.Nodup) (hi : PI X (.Name x px) iter wi)
    (ht : ∀ cl C s H ex, PTs (X.comp M scope cl C s H ex) ifs tt) (he : ∀ cl C s H ex, PE (X.comp M scope cl C s H ex) elt te)
    (hsw : swapsWith (.ListComp elt [⟨.Name x px, iter, ifs, 0⟩] scope pos) (some (.Name y py)) spos.line X.env = pure true := by rfl)
    (hs : ∀ v, foldedSetIterable iter X.env v = pure v := by intro _; rfl) : PS X (.Assign [.Name y py] (.ListComp elt [⟨.Name x px, iter, ifs, 0⟩] scope pos) spos) (tAsg (tComp wi cp tt te) (gName i)) := by
  intro pins s σ H D I h
  obtain ⟨cl, e, hcl, hcf⟩ := closure_ok (scope := scope) (env := X.env) fun y hy hf => I.ok.has y.1 (S.free y hy hf)
  rw [exec_Assign_Name_used _ _ _ _ hsw]
  refine wpAny_bind (wpAny_standAt (wpAny_bind ?_))
  show wpAny _ X.A (do let _ ← comprehension (.ListComp elt [⟨.Name x px, iter, ifs, 0⟩] scope pos) scope X.env _ (newList []) false (eval iter X.env) (some (assign (.Name y py) X.env))) _ _ s
  refine wpAny_bind (wpAny_mono (wpAny_comprehension_free (use := some (assign (.Name y py) X.env)) (Q := fun _ s' => SP X pins D .next s') rfl hs e S.kind S.loc
    (thn (hi pins s σ H _ I h) fun xv s1 h1 => thn h1 fun itv s2 h2 => ?_)) (fun _ s' hq => wpAny_pure (wpAny_pure hq)) fun _ _ e => e)
  obtain ⟨it, fp, tn, J, H2, rfl, I2, T, st2, f2, q⟩ := h2
  refine comp_run (Q := fun v H' => D.nx (σ.set i (some v)) H') (RR := fun acc C => compPost (model X.prog X.w) X.A X.xe (some (assign (.Name y py) X.env)) (fun _ s' => SP X pins D .next s') acc C) hc S hnd hcl hcf (ht cl) (he cl) I2 T st2 f2 q ?_
  intro D' C s' H' m hn hI fC qD
  obtain ⟨f0, f1, f2', f3, f4, f5⟩ := fC
  have I' : Inv X pins σ H' s' := hI s'.heap (Heap.SameBut.refl ..)
  show wpAny _ X.A (assign (.Name y py) X.env (.ref D')) _ _ _
  refine wpAny_assign_Name (store_ok2 (v := .ref D') I' hN hy (.inl hloc) rfl (fun s'' I'' ch => ?_) (.inr hloc))
  obtain ⟨a, sb, ha⟩ := ch
  have haC : C ≠ a := by
    rcases ha with rfl | ha
    · exact f1
    · exact fun z => f4 y a ha z.symm
  refine ⟨m, hn.sameBut sb haC, fun h' hb => ⟨_, H', ?_, qD⟩⟩
  exact I''.turned (t' := s''.toks) (fun b o hbC e => (hb.2 b hbC).trans e) f0 f1 f3 f4 f5
end
end L2

/-! ## readings that compute -/
namespace L2
open PySem PySem.Spec PyProof.Rows
def onI (x : V) (F : Int → Prop) : Prop := match x with | .int i => F i | _ => False
def onB (x : V) (F : Bool → Prop) : Prop := match x with | .bl b => F b | _ => False
/-- the list at x -/
def onL (H : Hp) (x : V) (F : Addr → List V → Prop) : Prop := match x with
  | .ref p => (match H p with | some (.lst xs) => F p xs | _ => False)
  | _ => False
/-- the list or tuple at x -/
def onS (H : Hp) (x : V) (F : List V → Prop) : Prop := match x with
  | .ref p => (match H p with | some (.lst xs) => F xs | some (.tup xs) => F xs | _ => False)
  | _ => False
def on1 (vs : List V) (F : V → Prop) : Prop := match vs with | [x] => F x | _ => False
def on2 (vs : List V) (F : V → V → Prop) : Prop := match vs with | [x, y] => F x y | _ => False
def onO {α : Type} (o : Option α) (F : α → Prop) : Prop := match o with | some v => F v | none => False
/-- a new object -/
def new (H : Hp) (o : HO) (Q : VK) : Prop := ∀ p, H p = none → Q (.ref p) (upd H p o)
theorem onI.out {x : V} {F : Int → Prop} (h : onI x F) : ∃ i, x = .int i ∧ F i := by
  cases x with
  | int i => exact ⟨i, rfl, h⟩
  | _ => exact h.elim
theorem onB.out {x : V} {F : Bool → Prop} (h : onB x F) : ∃ i, x = .bl i ∧ F i := by
  cases x with
  | bl i => exact ⟨i, rfl, h⟩
  | _ => exact h.elim
theorem onL.out {H : Hp} {x : V} {F : Addr → List V → Prop} (h : onL H x F) : ∃ p xs, x = .ref p ∧ H p = some (.lst xs) ∧ F p xs := by
  cases x with
  | ref p =>
    cases e : H p with
    | none => simp only [onL, e] at h
    | some o =>
      cases o with
      | lst xs => simp only [onL, e] at h; exact ⟨p, xs, rfl, e, h⟩
      | _ => simp only [onL, e] at h
  | _ => exact h.elim
theorem onS.out {H : Hp} {x : V} {F : List V → Prop} (h : onS H x F) : ∃ p xs, x = .ref p ∧ (H p = some (.lst xs) ∨ H p = some (.tup xs)) ∧ F xs := by
  cases x with
  | ref p =>
    cases e : H p with
    | none => simp only [onS, e] at h
    | some o =>
      cases o with
      | lst xs => simp only [onS, e] at h; exact ⟨p, xs, rfl, .inl e, h⟩
      | tup xs => simp only [onS, e] at h; exact ⟨p, xs, rfl, .inr e, h⟩
      | _ => simp only [onS, e] at h
  | _ => exact h.elim
theorem on1.out {vs : List V} {F : V → Prop} (h : on1 vs F) : ∃ x, vs = [x] ∧ F x := by
  match vs, h with
  | [x], h => exact ⟨x, rfl, h⟩
  | [], h => exact h.elim
  | _ :: _ :: _, h => exact h.elim
theorem on2.out {vs : List V} {F : V → V → Prop} (h : on2 vs F) : ∃ x y, vs = [x, y] ∧ F x y := by
  match vs, h with
  | [x, y], h => exact ⟨x, y, rfl, h⟩
  | [], h => exact h.elim
  | [_], h => exact h.elim
  | _ :: _ :: _ :: _, h => exact h.elim
theorem onO.out {α : Type} {o : Option α} {F : α → Prop} (h : onO o F) : ∃ v, o = some v ∧ F v := by
  cases o with
  | none => exact h.elim
  | some v => exact ⟨v, rfl, h⟩
theorem sq_of {K : PySem.W.Frag} {H : Hp} {p : Addr} {xs : List V} (h : H p = some (.lst xs) ∨ H p = some (.tup xs)) : SqL K H p xs ∨ SqT K H p xs := h.imp SqL.of SqT.of

section
variable {X : Cx}
theorem CallR.imp {f : Value} {r r' : List V → Hp → VK → Prop} (h : CallR X f r) (i : ∀ xs H Q, r' xs H Q → r xs H Q) : CallR X f r' := fun pins s σ H xs us Q I rs q => h pins s σ H xs us Q I rs (i _ _ _ q)
theorem OpR.imp {f : Value → Value → Sem Value} {r r' : R2} (h : OpR X f r) (i : ∀ x y H Q, r' x y H Q → r x y H Q) : OpR X f r' := fun pins s σ H x y v u Q I rx ry q => h pins s σ H x y v u Q I rx ry (i _ _ _ _ q)
theorem IxR.imp {r r' : R2} (h : IxR X r) (i : ∀ x y H Q, r' x y H Q → r x y H Q) : IxR X r' := fun value slice pins s σ H x y v u Q I rx ry q => h value slice pins s σ H x y v u Q I rx ry (i _ _ _ _ q)
theorem SlR.imp {r r' : V → Option Int → Option Int → Hp → VK → Prop} (h : SlR X r) (i : ∀ x lo hi H Q, r' x lo hi H Q → r x lo hi H Q) : SlR X r' :=
  fun pins s σ H x v vl vu lo hi sl Q I rx hs pl pu q => h pins s σ H x v vl vu lo hi sl Q I rx hs pl pu (i _ _ _ _ _ q)
theorem MtR.imp {id : String} {r r' : V → List V → Hp → VK → Prop} (h : MtR X id r) (i : ∀ x vs H Q, r' x vs H Q → r x vs H Q) : MtR X id r' := fun pins s σ H x xs v us Q I rx rs q => h pins s σ H x xs v us Q I rx rs (i _ _ _ _ q)

/-! ### arithmetic -/
def rII (f : Int → Int → V) : R2 := fun x y H Q => onI x fun i => onI y fun j => Q (f i j) H
theorem rII.ok {f : Int → Int → V} {x y : V} {H : Hp} {Q : VK} (h : rII f x y H Q) : rI0 f x y H Q := by
  obtain ⟨i, rfl, h1⟩ := onI.out h
  obtain ⟨j, rfl, h2⟩ := onI.out h1
  exact ⟨i, j, rfl, rfl, h2⟩
def rIC (C : Int → Int → Prop) (f : Int → Int → V) : R2 := fun x y H Q => onI x fun i => onI y fun j => C i j ∧ Q (f i j) H
theorem rIC.ok {C : Int → Int → Prop} {f : Int → Int → V} {x y : V} {H : Hp} {Q : VK} (h : rIC C f x y H Q) : rI C f x y H Q := by
  obtain ⟨i, rfl, h1⟩ := onI.out h
  obtain ⟨j, rfl, h2⟩ := onI.out h1
  exact ⟨i, j, rfl, rfl, h2⟩
def rPlus : R2 := fun x y H Q => match x with
  | .int i => onI y fun j => Q (.int (i + j)) H
  | _ => onL H x fun _ xs => onL H y fun _ ys => xs.length + ys.length ≤ sizeLine ∧ new H (.lst (xs ++ ys)) Q
theorem f_add : OpR X (binaryOp .Add) rPlus := (op_add.or op_cat).imp fun x y H Q h => by
  cases x with
  | int i =>
    obtain ⟨j, rfl, h1⟩ := onI.out (x := y) h
    exact .inl ⟨i, j, rfl, rfl, h1⟩
  | ref a =>
    have h0 : onL H (.ref a) fun _ xs => onL H y fun _ ys => xs.length + ys.length ≤ sizeLine ∧ new H (.lst (xs ++ ys)) Q := h
    obtain ⟨p, xs, e, hp, h2⟩ := onL.out h0
    obtain ⟨q, ys, rfl, hq, hz, h3⟩ := onL.out h2
    exact .inr ⟨p, q, xs, ys, e, rfl, hp, hq, hz, h3⟩
  | _ => exact h.elim
theorem f_sub : OpR X (binaryOp .Sub) (rII fun i j => .int (i - j)) := op_sub.imp fun _ _ _ _ h => h.ok
theorem f_fdiv : OpR X (binaryOp .FloorDiv) (rIC CDiv fun i j => .int (i / j)) := op_fdiv.imp fun _ _ _ _ h => h.ok
theorem f_mod : OpR X (binaryOp .Mod) (rIC (fun _ j => 0 < j) fun i j => .int (i % j)) := op_mod.imp fun _ _ _ _ h => h.ok
theorem f_pow : OpR X (binaryOp .Pow) (rIC CPow fun i j => .int (i ^ j.toNat)) := op_pow.imp fun _ _ _ _ h => h.ok
theorem f_lt : OpR X (compareOp .Lt) (rII fun i j => .bl (decide (i < j))) := op_lt.imp fun _ _ _ _ h => h.ok
theorem f_gt : OpR X (compareOp .Gt) (rII fun i j => .bl (decide (j < i))) := op_gt.imp fun _ _ _ _ h => h.ok
theorem f_ge : OpR X (compareOp .GtE) (rII fun i j => .bl (decide (j ≤ i))) := op_ge.imp fun _ _ _ _ h => h.ok
/-- -x -/
def rNeg : V → Hp → VK → Prop := fun x H Q => onI x fun i => Q (.int (-i)) H
theorem f_neg : UnR X (unaryOp .USub) rNeg := fun pins s σ H x v Q I rx h => by
  obtain ⟨i, rfl, h1⟩ := onI.out h
  exact un_neg pins s σ H _ v Q I rx ⟨i, rfl, h1⟩

/-! ### sequences -/
def rLen : List V → Hp → VK → Prop := fun vs H Q => on1 vs fun x => onS H x fun ys => Q (.int ys.length) H
theorem f_len : CallR X (.builtin "len") rLen := call_len_seq.imp fun vs H Q h => by
  obtain ⟨x, rfl, h1⟩ := on1.out h
  obtain ⟨p, ys, rfl, hp, h2⟩ := onS.out h1
  exact ⟨p, ys, rfl, sq_of hp, h2⟩
def rIxF : R2 := fun x y H Q => onI y fun i => onS H x fun xs => onO (atI xs i) fun v => Q v H
theorem f_ix : IxR X rIxF := (ix_list.or ix_tup).imp fun x y H Q h => by
  obtain ⟨i, rfl, h1⟩ := onI.out h
  obtain ⟨p, xs, rfl, hp, h2⟩ := onS.out h1
  obtain ⟨v, e, h3⟩ := onO.out h2
  rcases hp with hp | hp
  · exact .inl ⟨p, xs, i, v, rfl, rfl, SqL.of hp, e, h3⟩
  · exact .inr ⟨p, xs, i, v, rfl, rfl, SqT.of hp, e, h3⟩
def rSlF : V → Option Int → Option Int → Hp → VK → Prop := fun x lo hi H Q => onL H x fun _ xs => new H (.lst (cutV xs lo hi)) Q
theorem f_sl : SlR X rSlF := sl_list.imp fun x lo hi H Q h => by
  obtain ⟨p, xs, rfl, hp, h1⟩ := onL.out h
  exact ⟨p, xs, rfl, SqL.of hp, h1⟩
def rListF : List V → Hp → VK → Prop := fun vs H Q => on1 vs fun x => onS H x fun ys => new H (.lst ys) Q
theorem f_list : CallR X (.type "list") rListF := call_list_of.imp fun vs H Q h => by
  obtain ⟨x, rfl, h1⟩ := on1.out h
  obtain ⟨p, ys, rfl, hp, h2⟩ := onS.out h1
  exact ⟨p, ys, rfl, sq_of hp, h2⟩
/-- is None -/
def rIsN : R2 := fun x y H Q => y = .non ∧ Q (.bl (decide (x = .non))) H
def rNotN : R2 := fun x y H Q => y = .non ∧ Q (.bl (!decide (x = .non))) H
theorem f_notN : OpR X (compareOp .IsNot) rNotN := op_notN

/-! ### methods of lists -/
def tML (r : V → List V → Hp → VK → Prop) (to : TE) (t : TA) : TE := fun σ H Q => to σ H fun x H1 => onL H1 x fun _ _ => t σ H1 fun vs H2 => r x vs H2 Q
def tML0 (r : V → List V → Hp → VK → Prop) (to : TE) : TE := fun σ H Q => to σ H fun x H1 => onL H1 x fun _ _ => r x [] H1 Q
/-- the receiver is a list -/
theorem pe_ml {o e : Expr} {es : List Expr} {to : TE} {t : TA} {name : Str} {apos cpos : Pos} {id : String} {r : V → List V → Hp → VK → Prop}
    (slot : Slot "list" name id) (hty : typeOf (.builtin id) = pure (.type "method_descriptor")) (hm : MtR X id r) (ho : PE X o to) (ha : PA X (e :: es) t)
    (hbase : attributeBase o name X.env (eval o X.env) = eval o X.env := by rfl)
    (hfew : ((backTo cpos (starEach (e :: es) X.env)).all (fun x => !x.1) && (backToKw cpos (keywordEach [] X.env)).all (fun x => x.1.isSome)
      && decide ((e :: es).length + ([] : List Keyword).length + (if ([] : List Keyword).isEmpty then 0 else 1) < 30)) = true := by rfl)
    (hline : (apos.endLine == cpos.line) = true := by rfl) (hs : starEach (e :: es) X.env = (false, eval e X.env) :: starEach es X.env := by rfl) (hplain : (backTo cpos (starEach es X.env)).any (·.1) = false := by rfl) :
    PE X (.Call (.Attribute o name apos) (e :: es) [] cpos) (tML r to t) := by
  intro pins s σ H Q I h
  refine wpAny_Call_method_late hbase hfew hline rfl (thn (ho pins s σ H _ I h) fun v s1 ⟨x, H1, I1, r1, q1⟩ => ?_)
  obtain ⟨p, xs, rfl, hp, q1⟩ := onL.out q1
  obtain ⟨h1, h2⟩ := tyV_is (T := "list") I1 r1 (.inl ⟨rfl, xs, SqL.of hp⟩)
  refine ⟨"list", id, PySem.F.plainAttrs_list, slot, hty, h1, h2, ?_⟩
  have hA := ha cpos pins s1 σ H1 _ I1 q1
  rw [hs] at hA ⊢
  refine Calls.callWith_builtin (by show (false || (backTo cpos (starEach es X.env)).any (·.1)) = false; rw [hplain] <;> rfl) (Calls.evalArgs_plain ?_)
  exact thn hA fun us s2 ⟨vs, H2, I2, r2, q2⟩ => hm pins s2 σ H2 _ vs v us Q I2 r1 r2 q2
theorem pe_ml0 {o : Expr} {to : TE} {name : Str} {apos cpos : Pos} {id : String} {r : V → List V → Hp → VK → Prop}
    (slot : Slot "list" name id) (hty : typeOf (.builtin id) = pure (.type "method_descriptor")) (hm : MtR X id r) (ho : PE X o to)
    (hbase : attributeBase o name X.env (eval o X.env) = eval o X.env := by rfl) (hline : (apos.endLine == cpos.line) = true := by rfl) : PE X (.Call (.Attribute o name apos) [] [] cpos) (tML0 r to) := by
  intro pins s σ H Q I h
  refine wpAny_Call_method0_late hbase hline (thn (ho pins s σ H _ I h) fun v s1 ⟨x, H1, I1, r1, q1⟩ => ?_)
  obtain ⟨p, xs, rfl, hp, q1⟩ := onL.out q1
  obtain ⟨h1, h2⟩ := tyV_is (T := "list") I1 r1 (.inl ⟨rfl, xs, SqL.of hp⟩)
  exact ⟨"list", id, PySem.F.plainAttrs_list, slot, hty, h1, h2, Calls.callWith_builtin rfl (PySem.evalArgs_none (hm pins s1 σ H1 _ [] v [] Q I1 r1 .nil q1))⟩
def rAppF : V → List V → Hp → VK → Prop := fun x vs H Q => on1 vs fun y => onL H x fun l xs => xs.length < sizeLine ∧ Q .non (upd H l (.lst (xs ++ [y])))
theorem f_append : MtR X "list.append" rAppF := MtR.imp (show MtR X "list.append" rAppend from mt_append) fun x vs H Q h => by
  obtain ⟨y, rfl, h1⟩ := on1.out h
  obtain ⟨l, xs, rfl, hp, hz, h2⟩ := onL.out h1
  exact ⟨l, xs, y, rfl, rfl, hp, hz, h2⟩
def rExtF : V → List V → Hp → VK → Prop := fun x vs H Q => on1 vs fun y => onL H x fun l xs => onL H y fun _ zs => xs.length + zs.length ≤ sizeLine ∧ Q .non (upd H l (.lst (xs ++ zs)))
theorem f_extend : MtR X "list.extend" rExtF := MtR.imp (show MtR X "list.extend" rExtend from mt_extend) fun x vs H Q h => by
  obtain ⟨y, rfl, h1⟩ := on1.out h
  obtain ⟨l, xs, rfl, hp, h2⟩ := onL.out h1
  obtain ⟨b, zs, rfl, hb, hz, h3⟩ := onL.out h2
  exact ⟨l, b, xs, zs, rfl, rfl, hp, hb, hz, h3⟩
def rPopF : V → List V → Hp → VK → Prop := fun x vs H Q => vs = [] ∧ onL H x fun l xs => onO xs[xs.length - 1]? fun y => Q y (upd H l (.lst xs.dropLast))
theorem f_pop : MtR X "list.pop" rPopF := MtR.imp (show MtR X "list.pop" rPop from mt_pop) fun x vs H Q h => by
  obtain ⟨rfl, h⟩ := h
  obtain ⟨l, xs, rfl, hp, h1⟩ := onL.out h
  obtain ⟨y, e, h2⟩ := onO.out h1
  exact ⟨l, xs, y, rfl, rfl, hp, e, h2⟩
def rPopAtF : V → List V → Hp → VK → Prop := fun x vs H Q => on1 vs fun y => onI y fun i => onL H x fun l xs => (0 ≤ i ∧ i < xs.length) ∧ onO xs[i.toNat]? fun y => Q y (upd H l (.lst (xs.eraseIdx i.toNat)))
/-- xs.insert(i, y), 0 ≤ i ≤ len -/
def rInsF : V → List V → Hp → VK → Prop := fun x vs H Q => on2 vs fun k y => onI k fun i => onL H x fun l xs => (0 ≤ i ∧ i ≤ xs.length ∧ xs.length < sizeLine) ∧ Q .non (upd H l (.lst (xs.take i.toNat ++ y :: xs.drop i.toNat)))
theorem f_insert : MtR X "list.insert" rInsF := by
  intro pins s σ H x vs v us Q I rx rv h
  obtain ⟨k, y, rfl, h1⟩ := on2.out h
  obtain ⟨i, rfl, h2⟩ := onI.out h1
  obtain ⟨l, xs, rfl, hH, ⟨h0, h1, hz⟩, q⟩ := onL.out h2
  cases rx
  obtain ⟨u, w, rfl, ru, rw'⟩ := rv.two
  obtain ⟨t, rfl⟩ := ru
  obtain ⟨z, its, n, r, hl, e⟩ := I.lstM hH
  have hn := line63
  refine call_meets F.slot_list_insert ⟨_, e, rfl⟩ F.entry_list_insert (F.args_list_insert_3 _ _ _) (AutoSeq1.list_insert_list_int_val_1 l its.toArray n i t w (by rw [fitsIndex_both (by omega) (by omega)]; decide) (by rw [List.size_toArray]; omega)) ⟨e, ?_⟩
  refine ⟨.non, _, I.lset (its' := its.take i.toNat ++ w :: its.drop i.toNat) hH e ?_ ((r.take _).append (.cons rw' (r.drop _))) ?_, rfl, q⟩
  · have hm : min i.toNat its.length = i.toNat := by omega
    simp only [if_neg (show ¬ i < 0 by omega), List.size_toArray, hm]
    simp
    exact List.take_of_length_le (by simp)
  · simp only [List.length_append, List.length_take, List.length_cons, List.length_drop]
    omega
end
end L2

namespace L2
open PySem PySem.Spec PyProof.Rows
/-! ## calls of the text's own defs -/
structure Cal (P : Program) (w : World) (K : PySem.W.Frag) (mg : Str → Option Value) (base : Heap) (k : Nat) (x : Str) (ps : List Str) (sp : Sp) : Prop where
  ex : ∃ (f : Addr) (fd : FuncData), FnOk P w K mg base CX0 k f fd ps sp ∧ mg x = some (.ref f) ∧ PySem.W.keepIn K (.ref f) = true ∧ Binds K fd ps []
def tCl (sp : Sp) (t : TA) : TE := fun σ H Q => t σ H fun vs H1 => sp vs H1 Q E0
section
variable {X : Cx}
theorem pe_cl {k : Nat} {x : Str} {ps : List Str} {sp : Sp} {p pos : Pos} {e : Expr} {es : List Expr} {t : TA} (C : Cal X.prog X.w X.K X.mg X.base k x ps sp) (hr : Room k X.A) (hg : Gl X x) (ha : PA X (e :: es) t)
    (hdb : (x == ("__debug__" : Str)) = false := by decide) (he : starEach (e :: es) X.env = (false, eval e X.env) :: starEach es X.env := by rfl) (hpl : (backTo pos (starEach es X.env)).any (·.1) = false := by rfl) :
    PE X (.Call (.Name x p) (e :: es) [] pos) (tCl sp t) := by
  obtain ⟨f, fd, F, hm, hk, hb⟩ := C.ex
  have g := pe_call (E := E0) (p := p) (pos := pos) F hr hg hm hk hb (dvs := []) .nil pass0 ha hdb he hpl
  intro pins s σ H Q I h
  refine g pins s σ H Q I ?_
  show t σ H fun vs H1 => sp (vs ++ []) H1 Q E0
  simp only [List.append_nil]
  exact h
/-! ## built-in names -/
structure BtT (mg : Str → Option Value) (x : Str) (T : String) : Prop where
  no : mg x = none
  bt : bootBuiltins x = some (.type T)
  nn : x ≠ "__name__"
  nd : (x == ("__debug__" : Str)) = false
theorem pe_ty {x : Str} {T : String} {pos : Pos} (hg : Gl X x) (h : BtT X.mg x T) : PE X (.Name x pos) (tC (.ty T)) := pe_bltn hg h.no h.bt rfl h.nn h.nd
end
namespace BI
theorem len : bootBuiltins "len" = some (.builtin "len") := by decide +kernel
theorem isinstance : bootBuiltins "isinstance" = some (.builtin "isinstance") := by decide +kernel
theorem min : bootBuiltins "min" = some (.builtin "min") := by decide +kernel
theorem max : bootBuiltins "max" = some (.builtin "max") := by decide +kernel
theorem sum : bootBuiltins "sum" = some (.builtin "sum") := by decide +kernel
theorem all : bootBuiltins "all" = some (.builtin "all") := by decide +kernel
theorem sorted : bootBuiltins "sorted" = some (.builtin "sorted") := by decide +kernel
theorem list : bootBuiltins "list" = some (.type "list") := by decide +kernel
theorem set : bootBuiltins "set" = some (.type "set") := by decide +kernel
theorem int : bootBuiltins "int" = some (.type "int") := by decide +kernel
theorem bool : bootBuiltins "bool" = some (.type "bool") := by decide +kernel
theorem tuple : bootBuiltins "tuple" = some (.type "tuple") := by decide +kernel
theorem any : bootBuiltins "any" = some (.builtin "any") := by decide +kernel
theorem str : bootBuiltins "str" = some (.type "str") := by decide +kernel
end BI
/-- the built-in names stand as they are: the module has none of its own -/
structure Bl (mg : Str → Option Value) : Prop where
  len : mg "len" = none
  range : mg "range" = none
  list : mg "list" = none
  isinstance : mg "isinstance" = none
  min : mg "min" = none
  max : mg "max" = none
  sum : mg "sum" = none
  all : mg "all" = none
  set : mg "set" = none
  sorted : mg "sorted" = none
  enumerate : mg "enumerate" = none
  reversed : mg "reversed" = none
  int : mg "int" = none
  bool : mg "bool" = none
  tuple : mg "tuple" = none
  any : mg "any" = none
  str : mg "str" = none
/-! ## isinstance -/
def tyN (H : Hp) (x : V) : Option String := match x with
  | .non => some "NoneType"
  | .bl _ => some "bool"
  | .int _ => some "int"
  | .ref p => (match H p with | some (.lst _) => some "list" | some (.tup _) => some "tuple" | _ => none)
  | _ => none
def isiT (t c : String) : Option Bool :=
  if t = c then some true else if t = "bool" ∧ c = "int" then some true
  else if t ∈ ["NoneType", "bool", "int", "list", "tuple"] ∧ c ∈ ["bool", "int", "list", "tuple"] then some false else none
def rIsi : List V → Hp → VK → Prop := fun vs H Q => on2 vs fun x c => match c with | .ty T => onO (tyN H x) fun t => onO (isiT t T) fun b => Q (.bl b) H | _ => False
section
variable {X : Cx}
/-! ## stores, loops, truth -/
def rSetF : V → V → V → Hp → (Hp → Prop) → Prop := fun o i v H Q => onI i fun k => onL H o fun p xs => (0 ≤ k ∧ k < xs.length) ∧ Q (upd H p (.lst (xs.set k.toNat v)))
theorem PSet.imp {t t' : TSet} (h : PSet X t) (i : ∀ o k v H Q, t' o k v H Q → t o k v H Q) : PSet X t' := fun pins s σ H o k v ov iv u Q I ro ri rv q => h pins s σ H o k v ov iv u Q I ro ri rv (i _ _ _ _ _ q)
theorem ixN_nat {n : Nat} {k : Int} (h0 : 0 ≤ k) (h1 : k < n) : ixN n k = some k.toNat := by
  unfold ixN
  rw [if_pos h0, if_pos h1]
theorem f_set : PSet X rSetF := set_list.imp fun o k v H Q h => by
  obtain ⟨i, rfl, h1⟩ := onI.out h
  obtain ⟨p, xs, rfl, hp, ⟨h0, h1⟩, h2⟩ := onL.out h1
  exact ⟨p, xs, i, i.toNat, rfl, rfl, hp, ixN_nat h0 h1, h2⟩
def iL (K : PySem.W.Frag) (tl : TE) : TI := fun σ H R => tl σ H fun x H1 => onL H1 x fun a _ => R (Itl K a) H1
theorem pi_l {tg l : Expr} {tl : TE} (hl : PE X l tl) : PI X tg l (iL X.K tl) := by
  intro pins s σ H R I h
  refine thn (hl pins s σ H _ I h) fun v s1 ⟨x, H1, I1, r1, q1⟩ => ?_
  obtain ⟨a, xs, e, hq, q⟩ := onL.out q1
  subst e
  cases r1
  obtain ⟨its, rv, p, hz⟩ := I1.list (SqL.of (K := X.K) hq)
  refine wpAny_pyIter_list p.isList ?_
  refine ⟨s1.heap.objs.size, [s1.heap.objs.size], _, _, H1, rfl, I1.kept (t' := s1.toks) fun b o e => Heap.get?_push_of_some _ e, turn_list a _, ⟨_, Heap.get?_push_size _ rfl, rfl, rfl⟩, fun b hb => ?_, q⟩
  have e : b = s1.heap.objs.size := by simpa using hb
  subst e
  exact I1.fpOk (Nat.le_refl _) (I1.hok.fresh (Nat.le_refl _))
/-- truth of a bool, a list -/
def tTru (t : TE) : TT := fun σ H Q => t σ H fun x H1 => match x with | .bl b => Q b H1 | _ => onL H1 x fun _ xs => Q (!xs.isEmpty) H1
theorem pt_tru {a : Expr} {ta : TE} (ha : PE X a ta) (he : ∀ whole, isTrue a X.env whole = (do let v ← whole; standAt a.pos; holding [v] (truthy v))) : PT X a (tTru ta) := by
  intro pins s σ H Q I h
  refine isTrue_plain (thn (ha pins s σ H _ I h) fun v s1 ⟨x, H1, I1, r1, q1⟩ => tru_ok pins s1 σ H1 x v Q I1 r1 ?_) (he _)
  cases x with
  | bl b => exact ⟨b, rfl, q1⟩
  | ref p =>
    obtain ⟨p', xs, e, hp, q⟩ := onL.out (x := .ref p) q1
    cases e
    exact ⟨_, .inl ⟨xs, SqL.of hp, rfl⟩, q⟩
  | _ => exact q1.elim
/-- min, max of two ints -/
def rMin : List V → Hp → VK → Prop := fun vs H Q => on2 vs fun x y => onI x fun i => onI y fun j => Q (.int (if j < i then j else i)) H
theorem f_min (hc : X.calm = true) : CallR X (.builtin "min") rMin := (call_min2 hc).imp fun vs H Q h => by
  obtain ⟨x, y, rfl, h1⟩ := on2.out h
  obtain ⟨i, rfl, h2⟩ := onI.out h1
  obtain ⟨j, rfl, h3⟩ := onI.out h2
  exact ⟨i, j, rfl, h3⟩
end
end L2

namespace L2
open PySem PySem.Spec PyProof.Rows
/-! ## heaps that grow; rows of numbers -/
theorem Same.upd_new {H : Hp} {p : Addr} {o : HO} (h : H p = none) : Same H (upd H p o) := fun b u e => by rw [upd_ne (ne_of_none e h)]; exact e
theorem Same.upd_in {H H' : Hp} {p : Addr} {o : HO} (s : Same H H') (h : H p = none) : Same H (upd H' p o) := fun b u e => by rw [upd_ne (ne_of_none e h)]; exact s b u e
theorem line100 {n : Nat} (h : n ≤ 10000) : n < sizeLine := Nat.lt_of_le_of_lt h (by rw [sizeLine_eq]; decide)
theorem line100' {n : Nat} (h : n ≤ 10000) : n ≤ sizeLine := Nat.le_of_lt (line100 h)
/-- a list of ints stands at a -/
def IntsAt (H : Hp) (a : Addr) (xs : List Int) : Prop := H a = some (.lst (xs.map V.int))
/-- the rows stand at the addresses -/
abbrev RowsL (H : Hp) (as : List Addr) (xss : List (List Int)) : Prop := Paired (fun b xs => H b = some (.lst (xs.map V.int))) as xss
/-- a list of rows of ints stands at a, its rows at as -/
structure RowsAt (H : Hp) (a : Addr) (as : List Addr) (xss : List (List Int)) : Prop where
  top : H a = some (.lst (as.map V.ref))
  row : RowsL H as xss
theorem RowsL.mono {H H' : Hp} {as : List Addr} {xss : List (List Int)} (h : RowsL H as xss) (k : ∀ b ∈ as, ∀ o, H b = some o → H' b = some o) : RowsL H' as xss := by
  induction h with
  | nil => exact .nil
  | cons r t ih => exact .cons (k _ List.mem_cons_self _ r) (ih fun b hb => k b (List.mem_cons_of_mem _ hb))
theorem RowsL.same {H H' : Hp} {as : List Addr} {xss : List (List Int)} (h : RowsL H as xss) (s : Same H H') : RowsL H' as xss := h.mono fun b _ o e => s b o e
theorem RowsL.len {H : Hp} {as : List Addr} {xss : List (List Int)} (h : RowsL H as xss) : as.length = xss.length := Paired.length h
theorem RowsL.get {H : Hp} : ∀ {as : List Addr} {xss : List (List Int)} {i : Nat} {xs : List Int}, RowsL H as xss → xss[i]? = some xs → ∃ b, as[i]? = some b ∧ H b = some (.lst (xs.map V.int))
  | _, _, _, _, .nil, e => by simp at e
  | _, _, 0, _, .cons r _, e => by simp at e; subst e; exact ⟨_, rfl, r⟩
  | _, _, i + 1, xs, .cons _ t, e => by
    obtain ⟨b, h1, h2⟩ := RowsL.get (i := i) (xs := xs) t (by simpa using e)
    exact ⟨b, by simpa using h1, h2⟩
theorem RowsL.get' {H : Hp} {as : List Addr} {xss : List (List Int)} {i : Nat} {b : Addr} (h : RowsL H as xss) (e : as[i]? = some b) : ∃ xs, xss[i]? = some xs ∧ H b = some (.lst (xs.map V.int)) := by
  have hl := h.len
  have hi : i < xss.length := by rw [← hl]; exact (List.getElem?_eq_some_iff.mp e).1
  obtain ⟨b', h1, h2⟩ := h.get (List.getElem?_eq_getElem hi)
  rw [e] at h1; cases h1
  exact ⟨_, List.getElem?_eq_getElem hi, h2⟩
theorem RowsL.snoc {H : Hp} {as : List Addr} {xss : List (List Int)} {b : Addr} {xs : List Int} (h : RowsL H as xss) (hb : H b = some (.lst (xs.map V.int))) : RowsL H (as ++ [b]) (xss ++ [xs]) := Paired.snoc h hb
/-- one row is another one now -/
theorem RowsL.set {H : Hp} : ∀ {as : List Addr} {xss : List (List Int)} {i : Nat} {b : Addr} {ys : List Int}, RowsL H as xss → as[i]? = some b → as.Nodup → RowsL (upd H b (.lst (ys.map V.int))) as (xss.set i ys)
  | _, _, _, _, _, .nil, e, _ => by simp at e
  | a :: as, _ :: xss, 0, b, ys, .cons r t, e, nd => by
    simp at e; subst e
    refine .cons upd_same (RowsL.mono t fun c hc o q => ?_)
    have ne : c ≠ a := fun z => (List.nodup_cons.mp nd).1 (z ▸ hc)
    rw [upd_ne ne]; exact q
  | a :: as, _ :: xss, i + 1, b, ys, .cons r t, e, nd => by
    have e' : as[i]? = some b := by simpa using e
    refine .cons ?_ (RowsL.set t e' (List.nodup_cons.mp nd).2)
    have ne : a ≠ b := fun z => (List.nodup_cons.mp nd).1 (by rw [z]; exact List.mem_of_getElem? e')
    rw [upd_ne ne]; exact r
theorem RowsL.app {H : Hp} : ∀ {as bs : List Addr} {xss yss : List (List Int)}, RowsL H as xss → RowsL H bs yss → RowsL H (as ++ bs) (xss ++ yss)
  | _, _, _, _, .nil, h => h
  | _, _, _, _, .cons r t, h => .cons r (RowsL.app t h)
theorem map_get {α β : Type} {f : α → β} {xs : List α} {i : Nat} {x : α} (h : xs[i]? = some x) : (xs.map f)[i]? = some (f x) := by rw [List.getElem?_map, h]; rfl
theorem atI_map {α β : Type} {f : α → β} {xs : List α} {i : Int} {x : α} (h0 : 0 ≤ i) (h : xs[i.toNat]? = some x) : atI (xs.map f) i = some (f x) := by
  have := atI_nat (map_get (f := f) h)
  rwa [Int.toNat_of_nonneg h0] at this
/-- fresh objects, all different -/
structure Fresh (H : Hp) (bs : List Addr) : Prop where
  nd : bs.Nodup
  no : ∀ b ∈ bs, H b = none

/-! ## what a source yields -/
structure Yields (J : It) (H : Hp) (xs : List V) : Prop where
  go : ∀ i H' v, Same H H' → xs[i]? = some v → J.go i H' ∧ ∀ u H'', J.yld i H' u H'' → H'' = H' ∧ u = v
  stop : ∀ i H', Same H H' → xs.length ≤ i → J.stop i H'
theorem yields_list {K : PySem.W.Frag} {H : Hp} {a : Addr} {xs : List V} (h : H a = some (.lst xs)) : Yields (Itl K a) H xs where
  go := fun i H' v s e => ⟨⟨xs, v, SqL.of (s a _ h), e⟩, fun u H'' y => ⟨y.1, by
    have := y.2 xs (SqL.of (s a _ h))
    rw [e] at this; cases this; rfl⟩⟩
  stop := fun i H' s hi => ⟨xs, SqL.of (s a _ h), hi⟩
theorem yields_range {H : Hp} {lo : Int} {n : Nat} : Yields (Itr lo n) H ((List.range n).map fun i => V.int (lo + (i : Nat))) where
  go := fun i H' v s e => by
    rw [List.getElem?_map] at e
    have hi : i < n := by
      cases q : (List.range n)[i]? with
      | none => rw [q] at e; cases e
      | some j => have := (List.getElem?_eq_some_iff.mp q).1; simpa using this
    rw [List.getElem?_range hi] at e
    have e' : V.int (lo + (i : Nat)) = v := by simpa using e
    exact ⟨hi, fun u H'' y => ⟨y.1, y.2.trans e'⟩⟩
  stop := fun i H' s hi => by
    have hi' : n ≤ i := by simpa using hi
    exact hi'

/-! ## comprehensions by what they come to -/
/-- tests and elements that make nothing -/
theorem comp_pure {J : It} {H : Hp} {xs : List V} {cp : List Nat} {σ : St} {tt : TT} {te : TE} {Q : VK} (Y : Yields J H xs) (p : V → Bool) (f : V → V) (hz : xs.length ≤ 10000)
    (ht : ∀ v ∈ xs, ∀ H', Same H H' → ∀ R : Bool → Hp → Prop, R (p v) H' → tt (cst cp σ (some v)) H' R) (he : ∀ v ∈ xs, p v = true → ∀ H', Same H H' → ∀ R : VK, R (f v) H' → te (cst cp σ (some v)) H' R)
    (hQ : ∀ D, H D = none → Q (.ref D) (upd H D (.lst ((xs.filter p).map f)))) :
    ∀ D, H D = none → ∃ W : Nat → Nat → Hp → Prop, (∃ m, W 0 m (upd H D (.lst []))) ∧ ∀ i m H, W i m H →
      (J.stop i H ∧ Q (.ref D) H) ∨ (J.go i H ∧ ∀ v H', J.yld i H v H' → tt (cst cp σ (some v)) H' fun b H2 =>
        if b = true then te (cst cp σ (some v)) H2 fun y H3 => ∃ ys, H3 D = some (.lst ys) ∧ ys.length < sizeLine ∧ ∃ m', m' < m ∧ W (i + 1) m' (upd H3 D (.lst (ys ++ [y])))
        else ∃ m', m' < m ∧ W (i + 1) m' H2) := by
  intro D hD
  refine ⟨fun i m H' => m = xs.length - i ∧ i ≤ xs.length ∧ H' = upd H D (.lst (((xs.take i).filter p).map f)), ⟨xs.length, by simp, Nat.zero_le _, by simp⟩, ?_⟩
  rintro i m H1 ⟨rfl, hi, rfl⟩
  have sm : Same H (upd H D (.lst (((xs.take i).filter p).map f))) := Same.upd_new hD
  by_cases hlt : i < xs.length
  · have e : xs[i]? = some xs[i] := List.getElem?_eq_getElem hlt
    obtain ⟨g, yl⟩ := Y.go i _ _ sm e
    refine .inr ⟨g, fun v H' y => ?_⟩
    obtain ⟨rfl, rfl⟩ := yl v H' y
    have hm : xs[i] ∈ xs := List.getElem_mem hlt
    have tk : xs.take (i + 1) = xs.take i ++ [xs[i]] := by rw [List.take_add_one, e]; rfl
    refine ht _ hm _ sm _ ?_
    by_cases hp : p xs[i] = true
    · rw [if_pos hp]
      refine he _ hm hp _ sm _ ⟨_, upd_same, ?_, xs.length - (i + 1), by omega, rfl, hlt, ?_⟩
      · have h1 : ((xs.take i).filter p).length ≤ (xs.take i).length := List.length_filter_le _ _
        rw [List.length_take] at h1
        refine line100 ?_
        rw [List.length_map]
        omega
      · rw [upd_upd, tk, List.filter_append, List.map_append, List.filter_cons, if_pos hp]; rfl
    · rw [if_neg hp]
      refine ⟨xs.length - (i + 1), by omega, rfl, hlt, ?_⟩
      rw [tk, List.filter_append, List.filter_cons, if_neg hp]; simp
  · have e : i = xs.length := by omega
    subst e
    refine .inl ⟨Y.stop _ _ sm (Nat.le_refl _), ?_⟩
    have := hQ D hD
    rwa [List.take_length]
/-- elements that are new rows of ints -/
theorem comp_rows {J : It} {H : Hp} {xs : List V} {cp : List Nat} {σ : St} {te : TE} {Q : VK} (Y : Yields J H xs) (gs : List (List Int)) (hg : gs.length = xs.length) (hz : xs.length ≤ 10000)
    (he : ∀ (i : Nat) v g, xs[i]? = some v → gs[i]? = some g → ∀ H', Same H H' → ∀ R : VK, (∀ b H'', Same H' H'' → H' b = none → H'' b = some (.lst (g.map V.int)) → R (.ref b) H'') → te (cst cp σ (some v)) H' R)
    (hQ : ∀ D as H', H D = none → Same H H' → RowsAt H' D as gs → Fresh H (D :: as) → Q (.ref D) H') :
    ∀ D, H D = none → ∃ W : Nat → Nat → Hp → Prop, (∃ m, W 0 m (upd H D (.lst []))) ∧ ∀ i m H, W i m H →
      (J.stop i H ∧ Q (.ref D) H) ∨ (J.go i H ∧ ∀ v H', J.yld i H v H' → tNoTest (cst cp σ (some v)) H' fun b H2 =>
        if b = true then te (cst cp σ (some v)) H2 fun y H3 => ∃ ys, H3 D = some (.lst ys) ∧ ys.length < sizeLine ∧ ∃ m', m' < m ∧ W (i + 1) m' (upd H3 D (.lst (ys ++ [y])))
        else ∃ m', m' < m ∧ W (i + 1) m' H2) := by
  intro D hD
  refine ⟨fun i m H' => m = xs.length - i ∧ i ≤ xs.length ∧ Same H H' ∧ ∃ as, RowsAt H' D as (gs.take i) ∧ Fresh H (D :: as), ⟨xs.length, by simp, Nat.zero_le _, Same.upd_new hD, [], ⟨upd_same, by simpa using Paired.nil⟩, ⟨by simp, by simpa using hD⟩⟩, ?_⟩
  rintro i m H1 ⟨rfl, hi, sm, as, ra, fr⟩
  by_cases hlt : i < xs.length
  · have e : xs[i]? = some xs[i] := List.getElem?_eq_getElem hlt
    have hgi : i < gs.length := by rw [hg]; exact hlt
    have eg : gs[i]? = some gs[i] := List.getElem?_eq_getElem hgi
    obtain ⟨g, yl⟩ := Y.go i _ _ sm e
    refine .inr ⟨g, fun v H' y => ?_⟩
    obtain ⟨rfl, rfl⟩ := yl v H' y
    unfold tNoTest
    dsimp only
    rw [if_pos rfl]
    refine he i _ _ e eg _ sm _ fun b H2 s2 hb hb2 => ?_
    have la : as.length = i := by rw [RowsL.len ra.row, List.length_take]; omega
    have bD : b ≠ D := fun z => by rw [z, ra.top] at hb; cases hb
    have nD : ∀ c ∈ as, c ≠ D := fun c hc z => (List.nodup_cons.mp fr.nd).1 (z ▸ hc)
    have bas : b ∉ as := fun hm => by
      obtain ⟨j, hj⟩ := List.getElem?_of_mem hm
      obtain ⟨ys, _, hy⟩ := RowsL.get' ra.row hj
      rw [hb] at hy; cases hy
    refine ⟨as.map V.ref, s2 _ _ ra.top, line100 (by rw [List.length_map]; omega), xs.length - (i + 1), by omega, rfl, hlt, (sm.trans s2).upd_in hD, as ++ [b], ⟨?_, ?_⟩, ?_, ?_⟩
    · rw [upd_same, List.map_append]; rfl
    · rw [List.take_add_one, eg]
      refine RowsL.mono (RowsL.snoc (RowsL.same ra.row s2) hb2) fun c hc o q => ?_
      rw [upd_ne]
      · exact q
      · rcases List.mem_append.mp hc with hc | hc
        · exact nD c hc
        · have : c = b := by simpa using hc
          rw [this]; exact bD
    · refine List.nodup_cons.mpr ⟨fun hm => ?_, ?_⟩
      · rcases List.mem_append.mp hm with hm | hm
        · exact (List.nodup_cons.mp fr.nd).1 hm
        · have e : D = b := by simpa using hm
          exact bD e.symm
      · rw [List.nodup_append]
        refine ⟨(List.nodup_cons.mp fr.nd).2, by simp, fun c hc d hd => ?_⟩
        have : d = b := by simpa using hd
        rw [this]
        exact fun z => bas (z ▸ hc)
    · intro c hc
      rcases List.mem_cons.mp hc with rfl | hc
      · exact hD
      · rcases List.mem_append.mp hc with hc | hc
        · exact fr.no c (List.mem_cons_of_mem _ hc)
        · have : c = b := by simpa using hc
          rw [this]; exact sm.free hb
  · have e : i = xs.length := by omega
    subst e
    refine .inl ⟨Y.stop _ _ sm (Nat.le_refl _), ?_⟩
    rw [← hg, List.take_length] at ra
    exact hQ D as H1 hD sm ra fr
end L2

namespace L2
open PySem PySem.Spec PyProof.Rows
/-! ## for .. in reversed(xs) -/
def Itv (K : PySem.W.Frag) (a : Addr) (n : Nat) : It :=
  ⟨fun i H => ∃ xs x, SqL K H a xs ∧ xs.length = n ∧ i < n ∧ xs[n - 1 - i]? = some x, fun i H x H' => H' = H ∧ ∀ xs, SqL K H a xs → xs[n - 1 - i]? = some x, fun i _ => i = n⟩
theorem turn_rev {P : Program} {w : World} {K : PySem.W.Frag} {tg : Expr} (a it : Addr) (n : Nat) : Turn P w K tg (Itv K a n) [it] it (fun i h => h.IsRevIter it a ((n : Int) - 1 - (i : Int))) where
  mem := by simp
  obj := fun i h st b hb => by
    have e : b = it := by simpa using hb
    subst e
    obtain ⟨o, e, c, d⟩ := st
    exact ⟨o, e, fun v z => by rw [d] at z; cases z⟩
  keep := fun i h h' st k => st.at fun o e => k it (by simp) o e
  item := by
    intro X hP hw hK hc i pins s σ H E I hf st hg
    subst hP hw hK
    obtain ⟨xs, x, hq, hn, hi, hx⟩ := hg
    obtain ⟨its, rv, p, hz⟩ := I.list hq
    obtain ⟨u, hu, ru⟩ := rv.get hx
    obtain ⟨f0, f1, f2, f3, f4, f5⟩ := hf it (by simp)
    have ei : (n : Int) - 1 - (i : Int) = ((n - 1 - i : Nat) : Int) := by omega
    rw [ei] at st
    refine wpAny_pyNext_rev_item st p.isList (x := u) (by simpa using hu) fun h' st' sb => ?_
    have I1 : Inv X pins σ H { s with heap := h' } := I.turned (t' := s.toks) (fun b o hb e => (sb.2 b hb).trans e) f0 f1 f3 f4 f5
    obtain ⟨o, e, c, d⟩ := id st'
    have e2 : ((n - 1 - i : Nat) : Int) - 1 = (n : Int) - 1 - ((i + 1 : Nat) : Int) := by omega
    rw [e2] at st'
    exact ⟨u, rfl, go_of (s := { s with heap := h' }) e c d (by decide) ⟨x, H, I1, ru, ⟨rfl, fun ys hy => by rw [I.list_inj hy hq]; exact hx⟩, st', fun b hb => (hf b hb).1⟩⟩
  done := by
    intro X hP hw hK hc i pins s σ H E I hf st hg
    subst hP hw hK
    have hi : i = n := hg
    subst hi
    obtain ⟨f0, f1, f2, f3, f4, f5⟩ := hf it (by simp)
    have e : (i : Int) - 1 - (i : Int) = -1 := by omega
    rw [e] at st
    exact wpAny_pyNext_rev_end (I.ok.hd hc) st fun h' eb => ⟨rfl, I.turned (t' := s.toks) (fun b o hb e => eb b o hb e) f0 f1 f3 f4 f5⟩
  self := fun _ _ _ _ _ st h => wpAny_pyIter_revIter st h
section
variable {X : Cx} {tg : Expr}
def iRev (K : PySem.W.Frag) (ta : TA) : TI := fun σ H R => ta σ H fun vs H1 => on1 vs fun x => onL H1 x fun a xs => R (Itv K a xs.length) H1
theorem pi_rev {a : Expr} {ta : TA} {p pos : Pos} (hg : Gl X "reversed") (hm : X.mg "reversed" = none) (ha : PA X [a] ta) (hs : starEach [a] X.env = [(false, eval a X.env)] := by rfl) : PI X tg (.Call (.Name "reversed" p) [a] [] pos) (iRev X.K ta) := by
  intro pins s σ H R I h
  refine Call_ (ld_blt I hg hm boot_reversed (PyProof.Rows.callWith_type1 (thn (ha pos pins s σ H _ I h) fun us s1 ⟨vs, H1, I1, r1, q1⟩ => ?_) hs rfl))
  obtain ⟨x, rfl, q1⟩ := on1.out q1
  obtain ⟨l, xs, rfl, hl, q⟩ := onL.out q1
  obtain ⟨u, rfl, ru⟩ := r1.one
  cases ru
  obtain ⟨its, rv, pl, hz⟩ := I1.list (SqL.of (K := X.K) hl)
  refine call_reversed_list pl.isList ?_
  have en : ((its.toArray.size : Nat) : Int) - 1 = (xs.length : Int) - 1 := by rw [List.size_toArray, rv.length]
  rw [en]
  have st : (s1.heap.push (revObj l ((xs.length : Int) - 1))).IsRevIter s1.heap.objs.size l ((xs.length : Int) - 1 - ((0 : Nat) : Int)) := ⟨_, Heap.get?_push_size _ rfl, rfl, by simp [revObj]⟩
  have I2 : Inv X pins σ H1 { s1 with heap := s1.heap.push (revObj l ((xs.length : Int) - 1)) } := I1.kept (t' := s1.toks) fun b o e => Heap.get?_push_of_some _ e
  refine wpAny_pyIter_revIter (s := { s1 with heap := s1.heap.push (revObj l ((xs.length : Int) - 1)) }) st ?_
  refine ⟨s1.heap.objs.size, [s1.heap.objs.size], _, _, H1, rfl, I2, turn_rev l _ xs.length, st, fun b hb => ?_, q⟩
  have e : b = s1.heap.objs.size := by simpa using hb
  subst e
  exact I1.fpOk (Nat.le_refl _) (I1.hok.fresh (Nat.le_refl _))
/-- the body leaves the list as it is -/
theorem for_rev {K : PySem.W.Frag} {a : Addr} {xs : List V} {g : TG} {tb : TS} {D : Ends} {σ : St} {H : Hp} (Pv : Nat → St → Hp → Prop) (h0 : Pv 0 σ H) (hl : ∀ i σ H, i ≤ xs.length → Pv i σ H → SqL K H a xs)
    (hs : ∀ i x σ H, xs.reverse[i]? = some x → Pv i σ H → g x σ H fun σ2 H2 => tb { D with nx := Pv (i + 1), ct := Pv (i + 1), bk := D.nx } σ2 H2) (hd : ∀ σ H, Pv xs.length σ H → D.nx σ H) :
    ∃ W : Nat → Nat → St → Hp → Prop, (∃ m, W 0 m σ H) ∧ ∀ i m σ H, W i m σ H →
      ((Itv K a xs.length).stop i H ∧ D.nx σ H) ∨ ((Itv K a xs.length).go i H ∧ ∃ N : St → Hp → Prop, (∀ σ' H', N σ' H' → ∃ m', m' < m ∧ W (i + 1) m' σ' H') ∧ ∀ x H', (Itv K a xs.length).yld i H x H' → g x σ H' fun σ2 H2 => tb { D with nx := N, ct := N, bk := D.nx } σ2 H2) := by
  refine ⟨fun i m σ H => m = xs.length - i ∧ i ≤ xs.length ∧ Pv i σ H, ⟨xs.length, by simp, Nat.zero_le _, h0⟩, ?_⟩
  rintro i m σ H ⟨rfl, hi, p⟩
  have q := hl i σ H hi p
  by_cases hlt : i < xs.length
  · have hj : xs.length - 1 - i < xs.length := by omega
    refine .inr ⟨⟨xs, xs[xs.length - 1 - i], q, rfl, hlt, List.getElem?_eq_getElem hj⟩, Pv (i + 1), fun σ' H' p' => ⟨xs.length - (i + 1), by omega, rfl, hlt, p'⟩, fun x H' y => ?_⟩
    obtain ⟨e, y⟩ := y
    subst e
    refine hs i x σ _ ?_ p
    rw [List.getElem?_reverse hlt]
    exact y xs q
  · have e : i = xs.length := by omega
    subst e
    exact .inl ⟨rfl, hd σ H p⟩
end
end L2

namespace L2
open PySem PySem.Spec PyProof.Rows
/-! ## the readings, computed -/
section
variable {t u : TS} {D : Ends} {σ : St} {H : Hp} {Q : VK} {te ta tb : TE} {tA tB' : TT} {R : Bool → Hp → Prop} {g : TG} {r : R2} {S : List V → Hp → Prop} {l : TA}
@[simp] theorem rd_seq : tSeq t u D σ H = t { D with nx := u D } σ H := rfl
@[simp] theorem rd_next : tNext D σ H = D.nx σ H := rfl
@[simp] theorem rd_drop : tDrop te D σ H = te σ H fun _ H1 => D.nx σ H1 := rfl
@[simp] theorem rd_ret : tRet te D σ H = te σ H D.rt := rfl
@[simp] theorem rd_if : tIfS tA t u D σ H = tA σ H fun b H1 => if b = true then t D σ H1 else u D σ H1 := rfl
@[simp] theorem rd_asg : tAsg te g D σ H = te σ H fun x H1 => g x σ H1 D.nx := rfl
@[simp] theorem rd_name {i : Nat} {v : V} {N : St → Hp → Prop} : gName i v σ H N = N (σ.set i (some v)) H := rfl
@[simp] theorem rd_sub {to ti : TE} {ts : TSet} {v : V} {N : St → Hp → Prop} : gSub to ti ts v σ H N = to σ H fun o H1 => ti σ H1 fun i H2 => ts o i v H2 fun H3 => N σ H3 := rfl
theorem rd_var {i : Nat} : tVar i σ H Q = onO (σ[i]?.join) fun v => Q v H := by
  unfold tVar
  cases h : σ[i]? with
  | none => simp [onO]
  | some o => cases o <;> simp [onO]
@[simp] theorem rd_var0 {o : Option V} {σ : St} : tVar 0 (o :: σ) H Q = onO o fun v => Q v H := by rw [rd_var]; rfl
@[simp] theorem rd_varS {i : Nat} {o : Option V} {σ : St} : tVar (i + 1) (o :: σ) H Q = tVar i σ H Q := by rw [rd_var, rd_var]; rfl
@[simp] theorem rd_var1 {o : Option V} {σ : St} : tVar 1 (o :: σ) H Q = tVar 0 σ H Q := rd_varS
@[simp] theorem rd_var2 {o : Option V} {σ : St} : tVar 2 (o :: σ) H Q = tVar 1 σ H Q := rd_varS
@[simp] theorem rd_var3 {o : Option V} {σ : St} : tVar 3 (o :: σ) H Q = tVar 2 σ H Q := rd_varS
@[simp] theorem rd_var4 {o : Option V} {σ : St} : tVar 4 (o :: σ) H Q = tVar 3 σ H Q := rd_varS
@[simp] theorem rd_var5 {o : Option V} {σ : St} : tVar 5 (o :: σ) H Q = tVar 4 σ H Q := rd_varS
@[simp] theorem rd_var6 {o : Option V} {σ : St} : tVar 6 (o :: σ) H Q = tVar 5 σ H Q := rd_varS
@[simp] theorem rd_var7 {o : Option V} {σ : St} : tVar 7 (o :: σ) H Q = tVar 6 σ H Q := rd_varS
@[simp] theorem rd_var8 {o : Option V} {σ : St} : tVar 8 (o :: σ) H Q = tVar 7 σ H Q := rd_varS
@[simp] theorem rd_var9 {o : Option V} {σ : St} : tVar 9 (o :: σ) H Q = tVar 8 σ H Q := rd_varS
@[simp] theorem rd_var10 {o : Option V} {σ : St} : tVar 10 (o :: σ) H Q = tVar 9 σ H Q := rd_varS
@[simp] theorem rd_var11 {o : Option V} {σ : St} : tVar 11 (o :: σ) H Q = tVar 10 σ H Q := rd_varS
@[simp] theorem rd_onO {α : Type} {v : α} {F : α → Prop} : onO (some v) F = F v := rfl
@[simp] theorem rd_onI {i : Int} {F : Int → Prop} : onI (.int i) F = F i := rfl
@[simp] theorem rd_onB {i : Bool} {F : Bool → Prop} : onB (.bl i) F = F i := rfl
@[simp] theorem rd_on1 {x : V} {F : V → Prop} : on1 [x] F = F x := rfl
@[simp] theorem rd_on2 {x y : V} {F : V → V → Prop} : on2 [x, y] F = F x y := rfl
theorem onL_of {p : Addr} {xs : List V} {F : Addr → List V → Prop} (h : H p = some (.lst xs)) : onL H (.ref p) F = F p xs := by simp only [onL, h]
theorem onS_of {p : Addr} {xs : List V} {F : List V → Prop} (h : H p = some (.lst xs)) : onS H (.ref p) F = F xs := by simp only [onS, h]
theorem onS_ofT {p : Addr} {xs : List V} {F : List V → Prop} (h : H p = some (.tup xs)) : onS H (.ref p) F = F xs := by simp only [onS, h]
@[simp] theorem rd_c {v : V} : tC v σ H Q = Q v H := rfl
@[simp] theorem rd_op : tOp r ta tb σ H Q = ta σ H fun x H1 => tb σ H1 fun y H2 => r x y H2 Q := rfl
@[simp] theorem rd_un {f : V → Hp → VK → Prop} : tUn f ta σ H Q = ta σ H fun x H1 => f x H1 Q := rfl
@[simp] theorem rd_test : tTest te σ H R = te σ H fun x H' => onB x fun k => R k H' := by
  show (te σ H fun x H' => ∃ k, x = .bl k ∧ R k H') = _
  congr; funext x H'
  cases x <;> simp [onB]
@[simp] theorem rd_tB : tB te σ H R = te σ H fun x H' => onB x fun k => R k H' := by
  show (te σ H fun x H' => ∃ k, x = .bl k ∧ R k H') = _
  congr; funext x H'
  cases x <;> simp [onB]
@[simp] theorem rd_and : tAnd tA tB' σ H R = tA σ H fun c H1 => if c = true then tB' σ H1 R else R false H1 := rfl
@[simp] theorem rd_or : tOr tA tB' σ H R = tA σ H fun c H1 => if c = true then R true H1 else tB' σ H1 R := rfl
@[simp] theorem rd_not : tNot tA σ H R = tA σ H fun c H1 => R (!c) H1 := rfl
@[simp] theorem rd_andV : tAndV ta tb σ H Q = ta σ H fun x H1 => onB x fun c => if c = true then tb σ H1 Q else Q (.bl false) H1 := by
  show (ta σ H fun x H' => ∃ k, x = .bl k ∧ _) = _
  congr; funext x H'
  cases x <;> simp [onB]
@[simp] theorem rd_orV : tOrV ta tb σ H Q = ta σ H fun x H1 => onB x fun c => if c = true then Q (.bl true) H1 else tb σ H1 Q := by
  show (ta σ H fun x H' => ∃ k, x = .bl k ∧ _) = _
  congr; funext x H'
  cases x <;> simp [onB]
@[simp] theorem rd_notV : tNotV ta σ H Q = ta σ H fun x H1 => onB x fun c => Q (.bl (!c)) H1 := by
  show (ta σ H fun x H' => ∃ k, x = .bl k ∧ _) = _
  congr; funext x H'
  cases x <;> simp [onB]
@[simp] theorem rd_ifE : tIf tA ta tb σ H Q = tA σ H fun c H1 => if c = true then ta σ H1 Q else tb σ H1 Q := rfl
@[simp] theorem rd_nil : tNil σ H S = S [] H := rfl
@[simp] theorem rd_cons : tCons ta l σ H S = ta σ H fun x H1 => l σ H1 fun xs H2 => S (x :: xs) H2 := rfl
@[simp] theorem rd_tup : tTup l σ H Q = l σ H fun xs H1 => xs.length ≤ sizeLine ∧ ∀ p, H1 p = none → Q (.ref p) (upd H1 p (.tup xs)) := rfl
@[simp] theorem rd_lst : tLst l σ H Q = l σ H fun xs H1 => xs.length ≤ sizeLine ∧ ∀ p, H1 p = none → Q (.ref p) (upd H1 p (.lst xs)) := rfl
@[simp] theorem rd_cb {f : List V → Hp → VK → Prop} : tCB f l σ H Q = l σ H fun vs H1 => f vs H1 Q := rfl
@[simp] theorem rd_cl {sp : Sp} : tCl sp l σ H Q = l σ H fun vs H1 => sp vs H1 Q E0 := rfl
@[simp] theorem rd_ml {f : V → List V → Hp → VK → Prop} : tML f ta l σ H Q = ta σ H fun x H1 => onL H1 x fun _ _ => l σ H1 fun vs H2 => f x vs H2 Q := rfl
@[simp] theorem rd_ml0 {f : V → List V → Hp → VK → Prop} : tML0 f ta σ H Q = ta σ H fun x H1 => onL H1 x fun _ _ => f x [] H1 Q := rfl
@[simp] theorem rd_sl {f : V → Option Int → Option Int → Hp → VK → Prop} {tl th : TO} : tSl f ta tl th σ H Q = ta σ H fun x H1 => tl σ H1 fun a H2 => th σ H2 fun b H3 => f x a b H3 Q := rfl
@[simp] theorem rd_nopart {N : Option Int → Hp → Prop} : tNoPart σ H N = N none H := rfl
@[simp] theorem rd_part {N : Option Int → Hp → Prop} : tPart ta σ H N = ta σ H fun x H1 => onI x fun i => N (some i) H1 := by
  show (ta σ H fun x H' => ∃ i, x = .int i ∧ _) = _
  congr; funext x H'
  cases x <;> simp [onI]
@[simp] theorem rd_tru : tTru te σ H R = te σ H fun x H1 => match x with | .bl b => R b H1 | _ => onL H1 x fun _ xs => R (!xs.isEmpty) H1 := rfl
@[simp] theorem rd_II {f : Int → Int → V} {x y : V} : rII f x y H Q = onI x fun i => onI y fun j => Q (f i j) H := rfl
@[simp] theorem rd_IC {C : Int → Int → Prop} {f : Int → Int → V} {x y : V} : rIC C f x y H Q = onI x fun i => onI y fun j => C i j ∧ Q (f i j) H := rfl
@[simp] theorem rd_plusI {i : Int} {y : V} : rPlus (.int i) y H Q = onI y fun j => Q (.int (i + j)) H := rfl
@[simp] theorem rd_plusL {a : Addr} {y : V} : rPlus (.ref a) y H Q = onL H (.ref a) fun _ xs => onL H y fun _ ys => xs.length + ys.length ≤ sizeLine ∧ new H (.lst (xs ++ ys)) Q := rfl
@[simp] theorem rd_neg {x : V} : rNeg x H Q = onI x fun i => Q (.int (-i)) H := rfl
@[simp] theorem rd_len {vs : List V} : rLen vs H Q = on1 vs fun x => onS H x fun ys => Q (.int ys.length) H := rfl
@[simp] theorem rd_ix {x y : V} : rIxF x y H Q = onI y fun i => onS H x fun xs => onO (atI xs i) fun v => Q v H := rfl
@[simp] theorem rd_cut {x : V} {lo hi : Option Int} : rSlF x lo hi H Q = onL H x fun _ xs => new H (.lst (cutV xs lo hi)) Q := rfl
@[simp] theorem rd_list {vs : List V} : rListF vs H Q = on1 vs fun x => onS H x fun ys => new H (.lst ys) Q := rfl
@[simp] theorem rd_app {x : V} {vs : List V} : rAppF x vs H Q = on1 vs fun y => onL H x fun l xs => xs.length < sizeLine ∧ Q .non (upd H l (.lst (xs ++ [y]))) := rfl
@[simp] theorem rd_ext {x : V} {vs : List V} : rExtF x vs H Q = on1 vs fun y => onL H x fun l xs => onL H y fun _ zs => xs.length + zs.length ≤ sizeLine ∧ Q .non (upd H l (.lst (xs ++ zs))) := rfl
@[simp] theorem rd_ins {x : V} {vs : List V} : rInsF x vs H Q = on2 vs fun k y => onI k fun i => onL H x fun l xs => (0 ≤ i ∧ i ≤ xs.length ∧ xs.length < sizeLine) ∧ Q .non (upd H l (.lst (xs.take i.toNat ++ y :: xs.drop i.toNat))) := rfl
@[simp] theorem rd_setF {o i v : V} {N : Hp → Prop} : rSetF o i v H N = onI i fun k => onL H o fun p xs => (0 ≤ k ∧ k < xs.length) ∧ N (upd H p (.lst (xs.set k.toNat v))) := rfl
@[simp] theorem rd_isi {x : V} {T : String} : rIsi [x, .ty T] H Q = onO (tyN H x) fun t => onO (isiT t T) fun b => Q (.bl b) H := rfl
@[simp] theorem rd_min {vs : List V} : rMin vs H Q = on2 vs fun x y => onI x fun i => onI y fun j => Q (.int (if j < i then j else i)) H := rfl
@[simp] theorem rd_iL {K : PySem.W.Frag} {N : It → Hp → Prop} : iL K ta σ H N = ta σ H fun x H1 => onL H1 x fun a _ => N (Itl K a) H1 := rfl
@[simp] theorem rd_rng1 {N : It → Hp → Prop} : iRng1 l σ H N = l σ H fun vs H1 => on1 vs fun x => onI x fun j => (-(2 ^ 62) ≤ j ∧ j < 2 ^ 62) ∧ N (Itr 0 j.toNat) H1 := by
  show (l σ H fun vs H1 => ∃ j : Int, vs = [.int j] ∧ -(2 ^ 62) ≤ j ∧ j < 2 ^ 62 ∧ N (Itr 0 j.toNat) H1) = _
  congr; funext vs H1
  apply propext
  constructor
  · rintro ⟨j, rfl, h1, h2, h3⟩; exact ⟨⟨h1, h2⟩, h3⟩
  · intro h
    obtain ⟨x, rfl, h⟩ := on1.out h
    obtain ⟨j, rfl, ⟨h1, h2⟩, h3⟩ := onI.out h
    exact ⟨j, rfl, h1, h2, h3⟩
@[simp] theorem rd_rev {K : PySem.W.Frag} {N : It → Hp → Prop} : iRev K l σ H N = l σ H fun vs H1 => on1 vs fun x => onL H1 x fun a xs => N (Itv K a xs.length) H1 := rfl
@[simp] theorem rd_new {o : HO} : new H o Q = ∀ p, H p = none → Q (.ref p) (upd H p o) := rfl
@[simp] theorem rd_notest : tNoTest σ H R = R true H := rfl
@[simp] theorem rd_eqI {i j : Int} : rEq (.int i) (.int j) H Q = Q (.bl (decide (i = j))) H := by
  show (true = true ∧ Q (.bl (decide (V.int i = V.int j))) H) = _
  simp
@[simp] theorem rd_neI {i j : Int} : rNe (.int i) (.int j) H Q = Q (.bl (!decide (i = j))) H := by
  show (true = true ∧ Q (.bl (!decide (V.int i = V.int j))) H) = _
  simp
@[simp] theorem rd_isN {x : V} : rIsN x .non H Q = Q (.bl (decide (x = .non))) H := by simp [rIsN]
@[simp] theorem rd_notN {x : V} : rNotN x .non H Q = Q (.bl (!decide (x = .non))) H := by simp [rNotN]
theorem rd_comp {wi : TI} {cp : List Nat} {tt : TT} : tComp wi cp tt te σ H Q = wi σ H fun J H1 => ∀ D, H1 D = none →
  ∃ W : Nat → Nat → Hp → Prop, (∃ m, W 0 m (upd H1 D (.lst []))) ∧ ∀ i m H, W i m H →
    (J.stop i H ∧ Q (.ref D) H) ∨ (J.go i H ∧ ∀ v H', J.yld i H v H' → tt (cst cp σ (some v)) H' fun b H2 =>
      if b = true then te (cst cp σ (some v)) H2 fun y H3 => ∃ ys, H3 D = some (.lst ys) ∧ ys.length < sizeLine ∧ ∃ m', m' < m ∧ W (i + 1) m' (upd H3 D (.lst (ys ++ [y])))
      else ∃ m', m' < m ∧ W (i + 1) m' H2) := rfl
end
/-- a comprehension over the list that te gives, elements and tests that make nothing -/
theorem comp_listP {K : PySem.W.Frag} {tl : TE} {cp : List Nat} {tt : TT} {te : TE} {σ : St} {H : Hp} {Q : VK} {a : Addr} {xs : List V} (hl : ∀ R : VK, R (.ref a) H → tl σ H R) (h : H a = some (.lst xs)) (p : V → Bool) (f : V → V) (hz : xs.length ≤ 10000)
    (ht : ∀ v ∈ xs, ∀ H', Same H H' → ∀ R : Bool → Hp → Prop, R (p v) H' → tt (cst cp σ (some v)) H' R) (he : ∀ v ∈ xs, p v = true → ∀ H', Same H H' → ∀ R : VK, R (f v) H' → te (cst cp σ (some v)) H' R)
    (hQ : ∀ D, H D = none → Q (.ref D) (upd H D (.lst ((xs.filter p).map f)))) : tComp (iL K tl) cp tt te σ H Q := by
  refine hl _ ?_
  rw [onL_of h]
  exact comp_pure (yields_list h) p f hz ht he hQ
theorem comp_listR {K : PySem.W.Frag} {tl : TE} {cp : List Nat} {te : TE} {σ : St} {H : Hp} {Q : VK} {a : Addr} {xs : List V} (hl : ∀ R : VK, R (.ref a) H → tl σ H R) (h : H a = some (.lst xs)) (gs : List (List Int)) (hg : gs.length = xs.length) (hz : xs.length ≤ 10000)
    (he : ∀ (i : Nat) v g, xs[i]? = some v → gs[i]? = some g → ∀ H', Same H H' → ∀ R : VK, (∀ b H'', Same H' H'' → H' b = none → H'' b = some (.lst (g.map V.int)) → R (.ref b) H'') → te (cst cp σ (some v)) H' R)
    (hQ : ∀ D as H', H D = none → Same H H' → RowsAt H' D as gs → Fresh H (D :: as) → Q (.ref D) H') : tComp (iL K tl) cp tNoTest te σ H Q := by
  refine hl _ ?_
  rw [onL_of h]
  exact comp_rows (yields_list h) gs hg hz he hQ
/-- copies of the rows -/
theorem comp_copy {K : PySem.W.Frag} {tl : TE} {cp : List Nat} {σ : St} {H : Hp} {Q : VK} {a : Addr} {as : List Addr} {xss : List (List Int)} (hl : ∀ R : VK, R (.ref a) H → tl σ H R) (h : RowsAt H a as xss) (hz : xss.length ≤ 10000)
    (hQ : ∀ D bs H', H D = none → Same H H' → RowsAt H' D bs xss → Fresh H (D :: bs) → Q (.ref D) H') : tComp (iL K tl) cp tNoTest (tCB rListF (tCons (tVar 0) tNil)) σ H Q := by
  refine comp_listR hl h.top xss (by rw [List.length_map, h.row.len]) (by rw [List.length_map, h.row.len]; exact hz) (fun i v g e1 e2 H' s R k => ?_) hQ
  rw [List.getElem?_map] at e1
  cases e3 : as[i]? with
  | none => rw [e3] at e1; cases e1
  | some b =>
    rw [e3] at e1
    cases e1
    obtain ⟨xs, e4, hb⟩ := h.row.get' e3
    rw [e2] at e4; cases e4
    simp only [rd_cb, rd_cons, rd_nil, cst, rd_var0, rd_onO, rd_list, rd_on1, onS_of (s _ _ hb), rd_new]
    exact fun p hp => k p _ (Same.upd_new hp) hp upd_same
end L2

namespace L2
open PySem PySem.Spec PyProof.Rows
/-! ## loops, by what they are over -/
theorem for_rangeF {wi : TI} {g : TG} {tb : TS} {D : Ends} {σ : St} {H : Hp} (n : Nat) (hn : ∀ N : It → Hp → Prop, N (Itr 0 n) H → wi σ H N) (Pv : Nat → St → Hp → Prop) (h0 : Pv 0 σ H)
    (hs : ∀ i σ H, i < n → Pv i σ H → g (.int (i : Nat)) σ H fun σ2 H2 => tb { D with nx := Pv (i + 1), ct := Pv (i + 1), bk := D.nx } σ2 H2) (hd : ∀ σ H, Pv n σ H → D.nx σ H) : tFor wi g tb D σ H :=
  hn _ (for_range (lo := 0) (n := n) Pv h0 (fun i σ H hi p => by
    have := hs i σ H hi p
    rw [Int.zero_add]; exact this) hd)
theorem for_listF {K : PySem.W.Frag} {wi : TI} {g : TG} {tb : TS} {D : Ends} {σ : St} {H : Hp} (a : Addr) (xs : List V) (hn : ∀ N : It → Hp → Prop, N (Itl K a) H → wi σ H N) (Pv : Nat → St → Hp → Prop) (h0 : Pv 0 σ H) (hl : ∀ i σ H, i ≤ xs.length → Pv i σ H → H a = some (.lst xs))
    (hs : ∀ i x σ H, xs[i]? = some x → Pv i σ H → g x σ H fun σ2 H2 => tb { D with nx := Pv (i + 1), ct := Pv (i + 1), bk := D.nx } σ2 H2) (hd : ∀ σ H, Pv xs.length σ H → D.nx σ H) : tFor wi g tb D σ H :=
  hn _ (for_list (K := K) (a := a) (xs := xs) Pv h0 (fun i σ H hi p => SqL.of (hl i σ H hi p)) hs hd)
theorem for_revF {K : PySem.W.Frag} {wi : TI} {g : TG} {tb : TS} {D : Ends} {σ : St} {H : Hp} (a : Addr) (xs : List V) (hn : ∀ N : It → Hp → Prop, N (Itv K a xs.length) H → wi σ H N) (Pv : Nat → St → Hp → Prop) (h0 : Pv 0 σ H) (hl : ∀ i σ H, i ≤ xs.length → Pv i σ H → H a = some (.lst xs))
    (hs : ∀ i x σ H, xs.reverse[i]? = some x → Pv i σ H → g x σ H fun σ2 H2 => tb { D with nx := Pv (i + 1), ct := Pv (i + 1), bk := D.nx } σ2 H2) (hd : ∀ σ H, Pv xs.length σ H → D.nx σ H) : tFor wi g tb D σ H :=
  hn _ (for_rev (K := K) (a := a) (xs := xs) Pv h0 (fun i σ H hi p => SqL.of (hl i σ H hi p)) hs hd)
/-- while, by a word and a measure -/
theorem while_F {c : TT} {tb : TS} {D : Ends} {σ : St} {H : Hp} (Pv : Nat → St → Hp → Prop) (m : Nat) (h0 : Pv m σ H)
    (hs : ∀ m σ H, Pv m σ H → c σ H fun b H1 => if b = true then tb { D with nx := fun σ' H' => ∃ m', m' < m ∧ Pv m' σ' H', ct := fun σ' H' => ∃ m', m' < m ∧ Pv m' σ' H', bk := D.nx } σ H1 else D.nx σ H1)
    (mono : ∀ (σ : St) (H : Hp) (Q Q' : Bool → Hp → Prop), (∀ b H1, Q b H1 → Q' b H1) → c σ H Q → c σ H Q') : tWhile c tb D σ H := by
  refine ⟨Pv, ⟨m, h0⟩, fun m σ H p => mono σ H _ _ (fun b H1 q => ?_) (hs m σ H p)⟩
  cases b with
  | true => rw [if_pos rfl] at q ⊢; exact ⟨_, fun σ' H' h => h, q⟩
  | false => rw [if_neg Bool.false_ne_true] at q ⊢; exact q
theorem atI_int {xs : List Int} {i : Nat} {x : Int} (h : xs[i]? = some x) : atI (xs.map V.int) (i : Int) = some (.int x) := atI_nat (map_get h)
theorem atI_ref {xs : List Addr} {i : Nat} {x : Addr} (h : xs[i]? = some x) : atI (xs.map V.ref) (i : Int) = some (.ref x) := atI_nat (map_get h)
theorem take_next {α : Type} {xs : List α} {i : Nat} {x : α} (h : xs[i]? = some x) : xs.take (i + 1) = xs.take i ++ [x] := by rw [List.take_add_one, h]; rfl
end L2
namespace L2
open PySem PySem.Spec PyProof.Rows
/-! ## a word between two statements -/
theorem cut1 {A R : TS} {D : Ends} {σ : St} {H : Hp} (Ps : St → Hp → Prop) (h1 : ∀ R' : TS, (∀ σ' H', Ps σ' H' → R' D σ' H') → tSeq A R' D σ H) (h2 : ∀ σ' H', Ps σ' H' → R D σ' H') : tSeq A R D σ H := h1 R h2
theorem cut2 {A B R : TS} {D : Ends} {σ : St} {H : Hp} (Ps : St → Hp → Prop) (h1 : ∀ R' : TS, (∀ σ' H', Ps σ' H' → R' D σ' H') → tSeq A (tSeq B R') D σ H) (h2 : ∀ σ' H', Ps σ' H' → R D σ' H') : tSeq A (tSeq B R) D σ H := h1 R h2
theorem cut4 {A B C G R : TS} {D : Ends} {σ : St} {H : Hp} (Ps : St → Hp → Prop) (h1 : ∀ R' : TS, (∀ σ' H', Ps σ' H' → R' D σ' H') → tSeq A (tSeq B (tSeq C (tSeq G R'))) D σ H) (h2 : ∀ σ' H', Ps σ' H' → R D σ' H') : tSeq A (tSeq B (tSeq C (tSeq G R))) D σ H := h1 R h2
theorem line3 {n : Nat} (h : n ≤ 10000) : n ≤ sizeLine := line100' h
end L2
namespace L2
open PySem PySem.Spec PyProof.Rows
theorem upd_none {H : Hp} {a b : Addr} {o : HO} (h : upd H a o b = none) : b ≠ a ∧ H b = none := by
  by_cases e : b = a
  · rw [e, upd_same] at h; cases h
  · rw [upd_ne e] at h; exact ⟨e, h⟩
theorem RowsL.notin {H : Hp} {as : List Addr} {xss : List (List Int)} {p : Addr} (h : RowsL H as xss) (hp : H p = none) : p ∉ as := fun hm => by
  obtain ⟨j, hj⟩ := List.getElem?_of_mem hm
  obtain ⟨ys, _, hy⟩ := RowsL.get' h hj
  rw [hp] at hy; cases hy
/-- a row is written: the list of rows stands with it -/
theorem RowsAt.set {H : Hp} {a : Addr} {as : List Addr} {xss : List (List Int)} {i : Nat} {b : Addr} {ys : List Int} (h : RowsAt H a as xss) (e : as[i]? = some b) (nd : (a :: as).Nodup) : RowsAt (upd H b (.lst (ys.map V.int))) a as (xss.set i ys) := by
  have nd' := List.nodup_cons.mp nd
  refine ⟨?_, RowsL.set h.row e nd'.2⟩
  have ne : a ≠ b := fun z => nd'.1 (by rw [z]; exact List.mem_of_getElem? e)
  rw [upd_ne ne]; exact h.top
theorem RowsAt.same {H H' : Hp} {a : Addr} {as : List Addr} {xss : List (List Int)} (h : RowsAt H a as xss) (s : Same H H') : RowsAt H' a as xss := ⟨s _ _ h.top, RowsL.same h.row s⟩
theorem Fresh.sub {H : Hp} {as bs : List Addr} (h : Fresh H as) (s : bs.Sublist as) : Fresh H bs := ⟨h.nd.sublist s, fun b hb => h.no b (s.subset hb)⟩
theorem Fresh.cons {H : Hp} {p : Addr} {as : List Addr} (h : Fresh H as) (hp : H p = none) (hn : p ∉ as) : Fresh H (p :: as) := ⟨List.nodup_cons.mpr ⟨hn, h.nd⟩, fun b hb => by
  rcases List.mem_cons.mp hb with rfl | hb
  · exact hp
  · exact h.no b hb⟩
theorem Fresh.snoc {H : Hp} {p : Addr} {as : List Addr} (h : Fresh H as) (hp : H p = none) (hn : p ∉ as) : Fresh H (as ++ [p]) := ⟨by
  rw [List.nodup_append]
  exact ⟨h.nd, by simp, fun c hc d hd => by
    have : d = p := by simpa using hd
    rw [this]
    exact fun z => hn (z ▸ hc)⟩, fun b hb => by
  rcases List.mem_append.mp hb with hb | hb
  · exact h.no b hb
  · have : b = p := by simpa using hb
    rw [this]; exact hp⟩
theorem Fresh.old {H H' : Hp} {as : List Addr} (h : Fresh H' as) (s : Same H H') : Fresh H as := ⟨h.nd, fun b hb => s.free (h.no b hb)⟩
theorem RowsAt.app {H : Hp} {a p : Addr} {as : List Addr} {xss : List (List Int)} {ys : List Int} (h : RowsL H as xss) (ht : H a = some (.lst (as.map V.ref ++ [V.ref p]))) (hp : H p = some (.lst (ys.map V.int))) : RowsAt H a (as ++ [p]) (xss ++ [ys]) :=
  ⟨by rw [ht, List.map_append]; rfl, RowsL.snoc h hp⟩
end L2

namespace L2
open PySem PySem.Spec PyProof.Rows
theorem Fresh.append {H : Hp} {as bs : List Addr} (ha : Fresh H as) (hb : Fresh H bs) (hd : ∀ c ∈ as, c ∉ bs) : Fresh H (as ++ bs) :=
  ⟨List.nodup_append.mpr ⟨ha.nd, hb.nd, fun a h1 b h2 z => hd a h1 (z ▸ h2)⟩, fun b hb' => (List.mem_append.mp hb').elim (ha.no b) (hb.no b)⟩
theorem RowsAt.out {H : Hp} {a c : Addr} {as : List Addr} {xss : List (List Int)} {o : HO} (h : RowsAt H a as xss) (hc : c ∉ a :: as) : RowsAt (upd H c o) a as xss :=
  ⟨by
    have ne : a ≠ c := fun z => hc (by rw [z]; exact List.mem_cons_self)
    rw [upd_ne ne]; exact h.top, RowsL.mono h.row fun b hb o' e => by
    have ne : b ≠ c := fun z => hc (List.mem_cons_of_mem _ (z ▸ hb))
    rw [upd_ne ne]; exact e⟩
theorem RowsAt.live {H : Hp} {a : Addr} {as : List Addr} {xss : List (List Int)} (h : RowsAt H a as xss) {c : Addr} (hc : c ∈ a :: as) : H c ≠ none := fun z => by
  rcases List.mem_cons.mp hc with rfl | hc
  · rw [h.top] at z; cases z
  · exact RowsL.notin h.row z hc
theorem RowsAt.notin {H : Hp} {a : Addr} {as : List Addr} {xss : List (List Int)} (h : RowsAt H a as xss) {c : Addr} (hc : H c = none) : c ∉ a :: as := fun z => h.live z hc
end L2

/-! ## enumerate, counted from any number -/
namespace L2
open PySem PySem.Spec PyProof.Rows
section
variable {prog : Program} {w : World} {A : Around} {E : Value → Shared → Prop} {s : Shared}
theorem en_item {e it l : Addr} {i : Nat} {c : Int} {items : Array Value} {x old : Value} {Q : Value → Shared → Prop} (he : IsEnum s.heap e it c old) (hit : s.heap.IsListIter it l i) (hl : s.heap.IsList l items) (hx : items[i]? = some x) (hne : e ≠ it)
    (hQ : ∀ h', IsEnumOut h' e it (c + 1) x s.heap.objs.size → h'.IsListIter it l (i + 1) → h'.get? s.heap.objs.size = some { cls := .type "tuple", data := .seq #[.int c s.toks, x] } → h'.objs.size = s.heap.objs.size + 1 →
      (∀ b o, b ≠ e → b ≠ it → s.heap.get? b = some o → h'.get? b = some o) → Q (.ref s.heap.objs.size) { s with heap := h', toks := s.toks + 1 }) :
    wpAny (model prog w) A (Builtin.«enumerate.__next__» ⟨[.ref e], []⟩) (fun fin s' => ∃ v, fin = .done (.ret v) ∧ Q v s') E s := by
  obtain ⟨hp, gn, dr, tk, os⟩ := s
  show wpAny _ _ (field (.ref e) 2 >>= _) _ _ _; refine wpAny_bind (wpAny_field he rfl (x := .ref it) rfl ?_)
  refine wpAny_bind (wpAny_nextOf_list_item hit hl hx fun k1 it1 sb1 => ?_)
  replace sb1 : Heap.SameBut it hp k1 := sb1
  have en1 : IsEnum k1 e it c old := (sb1.2 e hne).trans he
  show wpAny _ _ (field (.ref e) 3 >>= _) _ _ ⟨k1, gn, dr, tk, os⟩; refine wpAny_bind (wpAny_field en1 rfl (x := rawInt c) rfl ?_)
  show wpAny _ _ (field (.ref e) 4 >>= _) _ _ ⟨k1, gn, dr, tk, os⟩; refine wpAny_bind (wpAny_field en1 rfl (x := .none) rfl ?_)
  show wpAny _ _ (mkInt c >>= _) _ _ ⟨k1, gn, dr, tk, os⟩; refine wpAny_bind (wpAny_mkInt ?_)
  show wpAny _ _ (setField (.ref e) 3 (rawInt (c + 1)) >>= _) _ _ ⟨k1, gn, dr, tk + 1, os⟩; refine wpAny_bind (wpAny_setField_rec en1 (by simp) fun k2 en2 sb2 => ?_)
  replace sb2 : Heap.SameBut e k1 k2 := sb2
  replace en2 : IsEnum k2 e it (c + 1) old := en2
  show wpAny _ _ (setField (.ref e) 4 .none >>= _) _ _ ⟨k2, gn, dr, tk + 1, os⟩; refine wpAny_bind (wpAny_setField_rec en2 (by simp) fun k3 en3 sb3 => ?_)
  replace sb3 : Heap.SameBut e k2 k3 := sb3
  replace en3 : IsEnum k3 e it (c + 1) old := en3
  show wpAny _ _ (newTuple [.int c tk, x] >>= _) _ _ ⟨k3, gn, dr, tk + 1, os⟩; refine wpAny_bind (wpAny_newTuple ?_)
  have en4 : IsEnum (k3.push { cls := .type "tuple", data := .seq #[.int c tk, x] }) e it (c + 1) old := Heap.get?_push_of_some _ en3
  generalize hk4 : k3.push { cls := .type "tuple", data := .seq #[.int c tk, x] } = k4 at en4
  have sz3 : k3.objs.size = hp.objs.size := by rw [sb3.1, sb2.1, sb1.1]
  have elt : e < hp.objs.size := Heap.lt_size he
  have tp4 : k4.get? hp.objs.size = some { cls := .type "tuple", data := .seq #[.int c tk, x] } := by rw [← hk4, ← sz3]; exact Heap.get?_push_size _ rfl
  have sz4 : k4.objs.size = hp.objs.size + 1 := by rw [← hk4, Heap.size_push, sz3]
  have kp4 : ∀ b o, b ≠ e → b ≠ it → hp.get? b = some o → k4.get? b = some o := fun b o n1 n2 hb => by rw [← hk4]; exact Heap.get?_push_of_some _ (sb3.extBut b o n1 (sb2.extBut b o n1 (sb1.extBut b o n2 hb)))
  have it4 : k4.IsListIter it l (i + 1) := by rw [← hk4]; obtain ⟨o, ho, r⟩ := (it1.extBut sb2.extBut (Ne.symm hne)).extBut sb3.extBut (Ne.symm hne); exact ⟨o, Heap.get?_push_of_some _ ho, r⟩
  show wpAny _ _ (Builtin.SmallTypes.ownedTupleIsFree (.ref e) >>= _) _ _ ⟨k4, gn, dr, tk + 1, os⟩; rw [sz3]
  clear hk4 en3 sb3 en2 sb2 en1 sb1 it1 sz3 k3 k2 k1; refine wpAny_bind ?_; unfold Builtin.SmallTypes.ownedTupleIsFree
  refine wpAny_bind (wpAny_field en4 rfl (x := .none) rfl (wpAny_pure ?_)); simp only [if_true]; refine wpAny_bind (wpAny_rule ?_)
  refine wpAny_bind (wpAny_field en4 rfl (x := old) rfl ?_); refine wpAny_bind (wpAny_setField_rec en4 (by simp) fun k5 en5 sb5 => ?_)
  replace sb5 : Heap.SameBut e k4 k5 := sb5
  replace en5 : IsEnum k5 e it (c + 1) x := en5
  show wpAny _ _ (Builtin.SmallTypes.ownedTupleHandOut (.ref e) (.ref hp.objs.size) >>= _) _ _ ⟨k5, gn, dr, tk + 1, os⟩; refine wpAny_bind ?_; unfold Builtin.SmallTypes.ownedTupleHandOut
  refine wpAny_bind (wpAny_setField_rec en5 (by simp) fun k6 en6 sb6 => ?_)
  replace sb6 : Heap.SameBut e k5 k6 := sb6
  replace en6 : IsEnumOut k6 e it (c + 1) x hp.objs.size := en6
  refine wpAny_setField_rec en6 (by simp) fun k7 en7 sb7 => ?_
  replace sb7 : Heap.SameBut e k6 k7 := sb7
  replace en7 : IsEnumOut k7 e it (c + 1) x hp.objs.size := en7
  refine wpAny_bind (wpAny_letGo (wpAny_pure ⟨_, rfl, hQ k7 en7 ?_ ?_ ?_ ?_⟩))
  · exact ((it4.extBut sb5.extBut (Ne.symm hne)).extBut sb6.extBut (Ne.symm hne)).extBut sb7.extBut (Ne.symm hne)
  · exact sb7.extBut _ _ (Nat.ne_of_gt elt) (sb6.extBut _ _ (Nat.ne_of_gt elt) (sb5.extBut _ _ (Nat.ne_of_gt elt) tp4))
  · rw [sb7.1, sb6.1, sb5.1, sz4]
  · exact fun b o n1 n2 hb => sb7.extBut b o n1 (sb6.extBut b o n1 (sb5.extBut b o n1 (kp4 b o n1 n2 hb)))
theorem en_next {e it l : Addr} {i : Nat} {c : Int} {items : Array Value} {x old : Value} {Q : Option Value → Shared → Prop} (he : IsEnum s.heap e it c old) (hit : s.heap.IsListIter it l i) (hl : s.heap.IsList l items) (hx : items[i]? = some x) (hne : e ≠ it)
    (hQ : ∀ h', IsEnumOut h' e it (c + 1) x s.heap.objs.size → h'.IsListIter it l (i + 1) → h'.get? s.heap.objs.size = some { cls := .type "tuple", data := .seq #[.int c s.toks, x] } → h'.objs.size = s.heap.objs.size + 1 →
      (∀ b o, b ≠ e → b ≠ it → s.heap.get? b = some o → h'.get? b = some o) → Q (some (.ref s.heap.objs.size)) { s with heap := h', toks := s.toks + 1 }) :
    wpAny (model prog w) A (pyNext (.ref e)) Q E s := by
  have ty : s.TypeIs (.ref e) "enumerate" := ⟨_, he, rfl⟩
  unfold pyNext
  refine wpAny_bind (wpAny_attempt (wpAny_callSpecial?_slot (name := Str.ofString "__next__") ty F.slot_enumerate_next ?_))
  exact wpAny_call_entry F.slot_enumerate_next ty F.entry_enumerate_next (en_item he hit hl hx hne fun h' q1 q2 q3 q4 q5 => wpAny_pure (hQ h' q1 q2 q3 q4 q5)) (F.args_enumerate_next_1 _)
theorem en_end {e it l : Addr} {i : Nat} {c : Int} {items : Array Value} {old : Value} {Q : Option Value → Shared → Prop} (hh : A.handled = none) (he : IsEnum s.heap e it c old) (hit : s.heap.IsListIter it l i) (hl : s.heap.IsList l items) (hx : items[i]? = none)
    (hQ : ∀ h', Heap.ExtBut it s.heap h' → Q none { s with heap := h' }) : wpAny (model prog w) A (pyNext (.ref e)) Q E s := by
  have ty : s.TypeIs (.ref e) "enumerate" := ⟨_, he, rfl⟩
  unfold pyNext
  refine wpAny_bind (wpAny_attempt (wpAny_callSpecial?_slot (name := Str.ofString "__next__") ty F.slot_enumerate_next ?_))
  refine wpAny_call_entry F.slot_enumerate_next ty F.entry_enumerate_next ?_ (F.args_enumerate_next_1 _)
  show wpAny _ _ (field (.ref e) 2 >>= _) _ _ _; refine wpAny_bind (wpAny_field he rfl (x := .ref it) rfl ?_)
  refine wpAny_bind (wpAny_nextOf_list_end hh hit hl hx fun h' y eb ey => ?_)
  obtain ⟨o, ho, hc⟩ := ey
  refine wpAny_bind (wpAny_isInstance (T := "StopIteration") (b := true) ⟨o, ho, hc⟩ isSubtype_stop ?_); exact wpAny_pure (hQ _ eb)
end
/-- the list at a, each item with its count in a new tuple -/
def Ite (K : PySem.W.Frag) (a : Addr) (c : Int) : It :=
  ⟨fun i H => ∃ xs x, SqL K H a xs ∧ xs[i]? = some x, fun i H v H' => ∃ p x, v = .ref p ∧ H p = none ∧ H' = upd H p (.tup [.int (c + i), x]) ∧ ∀ xs, SqL K H a xs → xs[i]? = some x, fun i H => ∃ xs, SqL K H a xs ∧ xs.length ≤ i⟩
theorem turn_enum {P : Program} {w : World} {K : PySem.W.Frag} {elts : List Expr} {x1} {pos : Pos} (a e it : Addr) (c : Int) (hne : e ≠ it) :
    Turn P w K (.Tuple elts x1 pos) (Ite K a c) [e, it] e (fun i h => (∃ old, IsEnum h e it (c + (i : Nat)) old) ∧ h.IsListIter it a i) where
  mem := by simp
  obj := fun i h st b hb => by
    obtain ⟨⟨old, en⟩, li⟩ := st
    rcases List.mem_cons.mp hb with rfl | hb
    · exact ⟨_, en, fun v z => by
        have z' : Data.fields _ = Data.cell v := z
        cases z'⟩
    · have e : b = it := by simpa using hb
      subst e
      obtain ⟨o, e, _, d⟩ := li
      exact ⟨o, e, fun v z => by rw [d] at z; cases z⟩
  keep := fun i h h' st k => ⟨st.1.imp fun old en => k e (by simp) _ en, st.2.at fun o eo => k it (by simp) o eo⟩
  item := by
    intro X hP hw hK hc i pins s σ H E I hf st hg
    subst hP hw hK
    obtain ⟨⟨old, en⟩, li⟩ := st
    obtain ⟨xs, x, hq, hx⟩ := hg
    obtain ⟨its, rv, p, hz⟩ := I.list hq
    obtain ⟨u, hu, ru⟩ := rv.get hx
    obtain ⟨f0, f1, f2, f3, f4, f5⟩ := hf e (by simp)
    obtain ⟨g0, g1, g2, g3, g4, g5⟩ := hf it (by simp)
    refine en_next en li p.isList (x := u) (by simpa using hu) hne fun h' eo li' tp sz kp => ⟨_, rfl, ?_⟩
    refine wpAny_letOwnedTupleGo_enum (s := { s with heap := h', toks := s.toks + 1 }) eo fun h2 en2 sb2 => ?_
    have fr : H s.heap.objs.size = none := I.hok.fresh (Nat.le_refl _)
    have kp2 : ∀ b o, b ≠ e → b ≠ it → s.heap.get? b = some o → h2.get? b = some o := fun b o n1 n2 q => (sb2.2 b n1).trans (kp b o n1 n2 q)
    have elt : e < s.heap.objs.size := Heap.lt_size en
    have I1 : Inv X pins σ (upd H s.heap.objs.size (.tup [.int (c + i), x])) { s with heap := h2, toks := s.toks + 1 } := by
      refine I.step (g' := s.gens) (d' := s.drawn) (ch := [e, it]) (fun b hb => ?_) (fun b o _ _ hc q _ => kp2 b o (fun z => hc (by simp [z])) (fun z => hc (by simp [z])) q) (fun b o _ _ hc q _ => ⟨o.slots, kp2 b o (fun z => hc (by simp [z])) (fun z => hc (by simp [z])) q⟩)
        (fun b o hc q n => by rw [upd_ne (Nat.ne_of_lt (Heap.lt_size q))]; exact n) (fun b o hc q => ⟨o, kp2 b o (fun z => hc (by simp [z])) (fun z => hc (by simp [z])) q⟩)
        (fun b ys q => by rw [upd_ne (ne_of_none q fr)]; exact q) (fun b o ys q => by rw [upd_ne (ne_of_none q fr)]; exact q) (fun b ps q => ⟨#[], by rw [upd_ne (ne_of_none q fr), q]; simp⟩) (fun m hm => ?_) (fun b o q => ?_) I.bare
      · rcases List.mem_cons.mp hb with rfl | hb
        · exact ⟨f3, f1, f4, f5⟩
        · have e' : b = it := by simpa using hb
          subst e'
          exact ⟨g3, g1, g4, g5⟩
      · obtain ⟨o, es, ep, ho, r⟩ := hm
        exact ⟨o, es, ep, kp2 _ o (Ne.symm f1) (Ne.symm g1) ho, r⟩
      · by_cases hb : b = s.heap.objs.size
        · subst hb
          rw [upd_same] at q; cases q
          refine ⟨by show 2 ≤ sizeLine; exact line3 (by decide), [.int (c + i) s.toks, u], .cons ⟨_, rfl⟩ (.cons ru .nil), ?_⟩
          exact ⟨_, (sb2.2 _ (Nat.ne_of_gt elt)).trans tp, rfl, _, rfl⟩
        · rw [upd_ne hb] at q
          refine (I.hok b o q).stay (fun d v hd z => kp2 d v ?_ ?_ z) (fun d z => by rw [upd_ne (ne_of_none z fr)]; exact z) fun d ys z => by rw [upd_ne (ne_of_none z fr)]; exact z
          · rintro rfl
            rcases hd with z | z
            · rw [← z] at q; rw [f0] at q; cases q
            · rw [f0] at z; cases z
          · rintro rfl
            rcases hd with z | z
            · rw [← z] at q; rw [g0] at q; cases q
            · rw [g0] at z; cases z
    have ec : c + (i : Int) + 1 = c + ((i + 1 : Nat) : Int) := by omega
    rw [ec] at en2
    refine ⟨.ref s.heap.objs.size, _, I1, rfl, ⟨_, x, rfl, fr, rfl, fun ys hy => by rw [I.list_inj hy hq]; exact hx⟩, ⟨⟨_, en2⟩, li'.extBut sb2.extBut (Ne.symm hne)⟩, fun b hb => ?_⟩
    rcases List.mem_cons.mp hb with rfl | hb
    · rw [upd_ne (Nat.ne_of_lt elt)]; exact f0
    · have e' : b = it := by simpa using hb
      subst e'
      obtain ⟨o, eo, _⟩ := li
      rw [upd_ne (Nat.ne_of_lt (Heap.lt_size eo))]; exact g0
  done := by
    intro X hP hw hK hc i pins s σ H E I hf st hg
    subst hP hw hK
    obtain ⟨⟨old, en⟩, li⟩ := st
    obtain ⟨xs, hq, hx⟩ := hg
    obtain ⟨its, rv, p, hz⟩ := I.list hq
    obtain ⟨g0, g1, g2, g3, g4, g5⟩ := hf it (by simp)
    have hl := rv.length
    exact en_end (I.ok.hd hc) en li p.isList (by simp; omega) fun h' eb => ⟨rfl, I.turned (t' := s.toks) (fun b o hb e => eb b o hb e) g0 g1 g3 g4 g5⟩
  self := fun _ _ _ _ _ st h => let ⟨⟨_, en⟩, _⟩ := st; wpAny_pyIter_enum en h
section
variable {X : Cx} {elts : List Expr} {x1 : _} {tpos : Pos}
/-- the iterator stands -/
theorem en_it {pins : List (Addr × Obj)} {σ : St} {H : Hp} {s : Shared} {R : It → Hp → Prop} {a : Addr} {c : Int} {h' : Heap} {E : Value → Shared → Prop} (I : Inv X pins σ H s)
    (en : IsEnum h' (s.heap.objs.size + 1) s.heap.objs.size c .none) (li : h'.IsListIter s.heap.objs.size a 0) (kp : ∀ b o, s.heap.get? b = some o → h'.get? b = some o) (q : R (Ite X.K a c) H) {tk : Nat} :
    wpAny (model X.prog X.w) X.A (pyIter (.ref (s.heap.objs.size + 1))) (PIE X pins σ (.Tuple elts x1 tpos) R) E { s with heap := h', toks := tk } := by
  refine wpAny_pyIter_enum (s := { s with heap := h', toks := tk }) en ?_
  have I1 : Inv X pins σ H { s with heap := h', toks := tk } := I.kept kp
  refine ⟨s.heap.objs.size + 1, [s.heap.objs.size + 1, s.heap.objs.size], _, _, H, rfl, I1, turn_enum a _ _ c (Nat.succ_ne_self _), ⟨⟨_, by simpa using en⟩, li⟩, fun b hb => ?_, q⟩
  rcases List.mem_cons.mp hb with rfl | hb
  · exact I.fpOk (Nat.le_succ _) (I.hok.fresh (Nat.le_succ _))
  · have e : b = s.heap.objs.size := by simpa using hb
    subst e
    exact I.fpOk (Nat.le_refl _) (I.hok.fresh (Nat.le_refl _))
def iEnum (K : PySem.W.Frag) (c : Int) (ta : TA) : TI := fun σ H R => ta σ H fun vs H1 => on1 vs fun x => onL H1 x fun a _ => R (Ite K a c) H1
theorem pi_enum {a : Expr} {ta : TA} {p pos : Pos} (hg : Gl X "enumerate") (hm : X.mg "enumerate" = none) (ha : PA X [a] ta) (hs : starEach [a] X.env = [(false, eval a X.env)] := by rfl) :
    PI X (.Tuple elts x1 tpos) (.Call (.Name "enumerate" p) [a] [] pos) (iEnum X.K 0 ta) := by
  intro pins s σ H R I h
  refine Call_ (ld_blt I hg hm (by decide +kernel : bootBuiltins "enumerate" = some (.type "enumerate")) (PyProof.Rows.callWith_type1 (thn (ha pos pins s σ H _ I h) fun us s1 ⟨vs, H1, I1, r1, q1⟩ => ?_) hs rfl))
  obtain ⟨x, rfl, q2⟩ := on1.out q1
  obtain ⟨l, xs, rfl, hl, q⟩ := onL.out q2
  obtain ⟨u, rfl, ru⟩ := r1.one
  cases ru
  obtain ⟨its, rv, pl, hz⟩ := I1.list (SqL.of (K := X.K) hl)
  exact call_enumerate_list pl.isList fun h' en li sz kp => en_it (tk := s1.toks) I1 en li kp q
end
end L2

namespace L2
open PySem PySem.Spec PyProof.Rows
/-! ## enumerate(xs, start=1) -/
abbrev kwS (v : Value) : List (Str × Value) := [(Str.ofString "start", v)]
open AutoSeq1 (wpAny_loadPart') in
section
variable {prog : Program} {w : World} {A : Around} {E : Value → Shared → Prop} {s : Shared}
end
section
variable {X : Cx} {elts : List Expr} {x1 : _} {tpos : Pos}
end
/-- for .. in enumerate(xs, start = c): the tuple of a turn is dropped -/
theorem for_enumF {K : PySem.W.Frag} {wi : TI} {g : TG} {tb : TS} {D : Ends} {σ : St} {H : Hp} (c : Int) (a : Addr) (xs : List V) (hn : ∀ N : It → Hp → Prop, N (Ite K a c) H → wi σ H N) (Pv : Nat → St → Hp → Prop) (h0 : Pv 0 σ H) (hl : ∀ i σ H, i ≤ xs.length → Pv i σ H → H a = some (.lst xs))
    (hs : ∀ i x σ H p, xs[i]? = some x → Pv i σ H → H p = none → g (.ref p) σ (upd H p (.tup [.int (c + i), x])) fun σ2 H2 => tb { D with nx := Pv (i + 1), ct := Pv (i + 1), bk := D.nx } σ2 H2) (hd : ∀ σ H, Pv xs.length σ H → D.nx σ H) : tFor wi g tb D σ H := by
  refine hn _ ?_
  refine ⟨fun i m σ H => m = xs.length - i ∧ i ≤ xs.length ∧ Pv i σ H, ⟨xs.length, by simp, Nat.zero_le _, h0⟩, ?_⟩
  rintro i m σ H ⟨rfl, hi, p⟩
  have q := hl i σ H hi p
  by_cases hlt : i < xs.length
  · refine .inr ⟨⟨xs, xs[i], SqL.of q, by simp [hlt]⟩, Pv (i + 1), fun σ' H' p' => ⟨xs.length - (i + 1), by omega, rfl, hlt, p'⟩, fun v H' y => ?_⟩
    obtain ⟨t, x, rfl, ht, rfl, hx⟩ := y
    exact hs i x σ H t (hx xs (SqL.of q)) p ht
  · have e : i = xs.length := by omega
    subst e
    exact .inl ⟨⟨xs, SqL.of q, Nat.le_refl _⟩, hd σ H p⟩
/-- (x, y) = a tuple of two -/
theorem tup2 {K : PySem.W.Frag} {i j : Nat} {p : Addr} {x y : V} {σ : St} {H : Hp} {N : St → Hp → Prop} (h : H p = some (.tup [x, y])) (q : N ((σ.set i (some x)).set j (some y)) H) : gTup K 2 (gCons (gName i) (gCons (gName j) gNil)) (.ref p) σ H N :=
  ⟨p, [x, y], rfl, SqT.of h, rfl, x, [y], rfl, y, [], rfl, rfl, q⟩
@[simp] theorem rd_enum {K : PySem.W.Frag} {c : Int} {l : TA} {σ : St} {H : Hp} {N : It → Hp → Prop} : iEnum K c l σ H N = l σ H fun vs H1 => on1 vs fun x => onL H1 x fun a _ => N (Ite K a c) H1 := rfl
/-! ## slices -/
theorem cut_to {xs : List V} {p : Nat} (h : p ≤ xs.length) : cutV xs none (some (p : Int)) = xs.take p := by
  unfold cutV
  have e1 : HT.sIx xs.length 0 none = 0 := rfl
  have e2 : HT.sIx xs.length xs.length (some (p : Int)) = p := by rw [HT.sIx_nat]; omega
  rw [e1, e2]; simp
theorem cut_from {xs : List V} {p : Nat} : cutV xs (some (p : Int)) none = xs.drop p := by
  unfold cutV
  have e1 : HT.sIx xs.length xs.length none = xs.length := rfl
  have e2 : HT.sIx xs.length 0 (some (p : Int)) = min p xs.length := HT.sIx_nat _ _ _
  rw [e1, e2]
  by_cases hp : p ≤ xs.length
  · rw [Nat.min_eq_left hp]; exact List.take_of_length_le (by simp)
  · rw [Nat.min_eq_right (by omega)]; simp
    omega
end L2

namespace L2
open PySem PySem.Spec PyProof.Rows
/-! ## sorted, index, max, min, sum, all, any, pop(i) of lists -/
def sortZ (ns : List Int) : List Int := ns.mergeSort fun a b => decide (a ≤ b)
theorem sortZ_perm (ns : List Int) : (sortZ ns).Perm ns := List.mergeSort_perm _ _
theorem sortZ_le (ns : List Int) : (sortZ ns).Pairwise (· ≤ ·) := by
  have := List.pairwise_mergeSort (le := fun (a b : Int) => decide (a ≤ b)) (fun a b c h1 h2 => by simp at *; omega) (fun a b => by simp; omega) ns
  exact this.imp fun h => by simpa using h
theorem sortZ_uniq {ns ms : List Int} (h : ms.Perm ns) (hp : ms.Pairwise (· ≤ ·)) : ms = sortZ ns :=
  List.Perm.eq_of_pairwise (le := (· ≤ ·)) (fun a b _ _ h1 h2 => Int.le_antisymm h1 h2) hp (sortZ_le ns) (h.trans (sortZ_perm ns).symm)
theorem sortZ_len (ns : List Int) : (sortZ ns).length = ns.length := (sortZ_perm ns).length_eq
theorem ints_of_vals : ∀ {ns : List Int} {us : List Value}, Vals (ns.map V.int) us → IntsAre us ns
  | [], _, .nil => .nil
  | n :: ns, _, .cons r t => by
    obtain ⟨k, rfl⟩ := r
    exact .cons n k (ints_of_vals t)
theorem ints_items : ∀ {us : List Value} {ns : List Int}, IntsAre us ns → ∃ xs : List (Int × Tok), us.toArray = intItems xs.toArray ∧ xs.map (·.1) = ns
  | _, _, .nil => ⟨[], by simp [intItems], rfl⟩
  | _, _, .cons n t r => by
    obtain ⟨xs, e1, e2⟩ := ints_items r
    refine ⟨(n, t) :: xs, ?_, by simp [e2]⟩
    have e1' := congrArg Array.toList e1
    apply Array.toList_inj.mp
    simp [intItems] at e1' ⊢
    exact e1'
section
variable {X : Cx}
def rSorted : List V → Hp → VK → Prop := fun vs H Q => on1 vs fun x => onL H x fun _ xs => ∃ ns : List Int, xs = ns.map V.int ∧ ns.length < 64 ∧ new H (.lst ((sortZ ns).map V.int)) Q
theorem f_sorted : CallR X (.builtin "sorted") rSorted := by
  intro pins s σ H xs us Q I r h
  obtain ⟨x, rfl, h1⟩ := on1.out h
  obtain ⟨p, ys, rfl, hp, ns, rfl, hz, q⟩ := onL.out h1
  obtain ⟨u, rfl, rx⟩ := vals1 r
  cases rx
  obtain ⟨its, r', pl, hz'⟩ := I.list (SqL.of hp)
  have hI := ints_of_vals r'
  have hlen := r'.length
  rw [List.length_map] at hlen
  refine sorted_ints pl.isList hI (by omega) fun out ns' a1 a2 a3 => ?_
  have e := sortZ_uniq a2 a3
  subst e
  obtain ⟨e, he⟩ := sortedAll_at s.heap its out
  have := sortZ_len ns
  have hs : sizeLine = 16777216 := sizeLine_eq
  exact ⟨.ref (s.heap.objs.size + 1), _, I.laid (t' := s.toks) (fun b o => sortedAll_old) (by omega) (show ObjOk X.prog X.w _ _ _ (.lst ((sortZ ns).map V.int)) from ⟨by rw [List.length_map]; omega, out.toList, e, vals_ints a1, he⟩), rfl, q _ (I.hok.fresh (by omega))⟩
def rIndex : V → List V → Hp → VK → Prop := fun x vs H Q => on1 vs fun y => onI y fun k => onL H x fun _ xs => ∃ ns : List Int, xs = ns.map V.int ∧ k ∈ ns ∧ Q (.int (ns.idxOf k : Nat)) H
/-- the greatest (least) of a list -/
def rMax1 : List V → Hp → VK → Prop := fun vs H Q => on1 vs fun x => onL H x fun _ xs => ∃ ns : List Int, xs = ns.map V.int ∧ ns ≠ [] ∧ ∀ M, M ∈ ns → (∀ a ∈ ns, a ≤ M) → Q (.int M) H
def rMin1 : List V → Hp → VK → Prop := fun vs H Q => on1 vs fun x => onL H x fun _ xs => ∃ ns : List Int, xs = ns.map V.int ∧ ns ≠ [] ∧ ∀ M, M ∈ ns → (∀ a ∈ ns, M ≤ a) → Q (.int M) H
/-- sum of small numbers -/
def rSum : List V → Hp → VK → Prop := fun vs H Q => on1 vs fun x => onL H x fun _ xs => ∃ ns : List Int, xs = ns.map V.int ∧ (∀ j, j < ns.length → InLong (ns.getD j 0) ∧ InLong (ns.take (j + 1)).sum) ∧ Q (.int ns.sum) H
theorem f_sum (hc : X.calm = true) : CallR X (.builtin "sum") rSum := by
  intro pins s σ H xs us Q I r h
  obtain ⟨x, rfl, h1⟩ := on1.out h
  obtain ⟨p, ys, rfl, hp, ns, rfl, hne, q⟩ := onL.out h1
  obtain ⟨u, rfl, rx⟩ := vals1 r
  cases rx
  obtain ⟨its, r', pl, hz'⟩ := I.list (SqL.of hp)
  obtain ⟨ps, e1, e2⟩ := ints_items (ints_of_vals r')
  have hl := pl.isList
  rw [e1] at hl
  have hps : ps.length = ns.length := by rw [← e2, List.length_map]
  refine sum_intList (I.ok.hd hc) hl (fun j hj => ?_) fun h' tk t' hk => ?_
  · rw [numAt_eq, preSum_eq]
    simp only [e2]
    exact hne j (by simpa [hps] using hj)
  · refine ⟨.int _, H, I.kept hk, ⟨_, rfl⟩, ?_⟩
    rw [preSum_eq, List.take_of_length_le (by simp)]
    simp only [e2]
    exact q
theorem f_popAt : MtR X "list.pop" rPopAtF := by
  intro pins s σ H x vs v us Q I rx rv h
  obtain ⟨y, rfl, h1⟩ := on1.out h
  obtain ⟨i, rfl, h2⟩ := onI.out h1
  obtain ⟨l, xs, rfl, hH, ⟨h0, h3⟩, h4⟩ := onL.out h2
  obtain ⟨y, e, q⟩ := onO.out h4
  obtain ⟨its, r', pl, hz'⟩ := I.list (SqL.of hH)
  have hs : sizeLine = 16777216 := sizeLine_eq
  exact mt_popAt pins s σ H _ _ _ _ Q I rx rv ⟨l, xs, i, i.toNat, y, rfl, rfl, hH, by omega, by omega, by
    unfold seqIndex?
    simp [show ¬ i < 0 by omega, h0, h3], e, q⟩
theorem list_iter {l : Addr} {items : Array Value} {s : Shared} {prog : Program} {w : World} {A : Around} {E : Value → Shared → Prop} {Q : Value → Shared → Prop} (hl : s.heap.IsList l items)
    (h : ∀ s₂ : Shared, s₂ = { s with heap := s.heap.push { cls := .type "list_iterator", data := .fields #[.ref l, .int 0 0] } } →
      (s₂.heap.IsListIter s.heap.objs.size l 0 ∧ s₂.heap.IsList l items) → l ≠ s.heap.objs.size → Q (.ref s.heap.objs.size) s₂) :
    wpAny (model prog w) A (pyIter (.ref l)) Q E s := by
  have hlt : l < s.heap.objs.size := by obtain ⟨_, e, _⟩ := hl; exact Heap.lt_size e
  exact wpAny_pyIter_list hl (h _ rfl ⟨⟨_, Heap.get?_push_size _ rfl, rfl, rfl⟩, hl.push _⟩ (Nat.ne_of_lt hlt))
theorem vals_bool {bs : List Bool} {us : List Value} (r : Vals (bs.map V.bl) us) (i : Nat) (v : Value) (h : us.toArray[i]? = some v) : v = .bool (bs.getD i false) := by
  rw [List.getElem?_toArray] at h
  have hl := r.length
  rw [List.length_map] at hl
  have hi : i < us.length := (List.getElem?_eq_some_iff.mp h).1
  have e : (bs.map V.bl)[i]? = some (V.bl bs[i]) := by rw [List.getElem?_map, List.getElem?_eq_getElem (by omega)]; rfl
  obtain ⟨w, hw, rw'⟩ := r.get e
  rw [h] at hw
  cases hw
  cases rw'
  rw [List.getD_eq_getElem?_getD, List.getElem?_eq_getElem (by omega)]; rfl
theorem truth_bools {prog : Program} {w : World} {A : Around} {P : Nat → Value → Prop} (val : Nat → Bool) (hval : ∀ i v, P i v → v = .bool (val i)) : TruthOf prog w A P val := fun i v s Q E hP hQ => by
  rw [hval i v hP]
  exact wpAny_pure hQ
def rAll : List V → Hp → VK → Prop := fun vs H Q => on1 vs fun x => onL H x fun _ xs => ∃ bs : List Bool, xs = bs.map V.bl ∧ Q (.bl (bs.all id)) H
def rAny : List V → Hp → VK → Prop := fun vs H Q => on1 vs fun x => onL H x fun _ xs => ∃ bs : List Bool, xs = bs.map V.bl ∧ Q (.bl (bs.any id)) H
theorem range_all (bs : List Bool) : (List.range bs.length).all (fun i => bs.getD i false) = bs.all id := by
  rw [Bool.eq_iff_iff, List.all_eq_true, List.all_eq_true]
  constructor
  · intro h b hb
    obtain ⟨i, hi, rfl⟩ := List.getElem_of_mem hb
    have := h i (List.mem_range.mpr hi)
    simpa [List.getD_eq_getElem?_getD, List.getElem?_eq_getElem hi] using this
  · intro h i hi
    have hi := List.mem_range.mp hi
    have := h _ (List.getElem_mem hi)
    simpa [List.getD_eq_getElem?_getD, List.getElem?_eq_getElem hi] using this
theorem f_all (hc : X.calm = true) : CallR X (.builtin "all") rAll := by
  intro pins s σ H xs us Q I r h
  obtain ⟨x, rfl, h1⟩ := on1.out h
  obtain ⟨p, ys, rfl, hp, bs, rfl, q⟩ := onL.out h1
  obtain ⟨u, rfl, rx⟩ := vals1 r
  cases rx
  obtain ⟨its, r', pl, hz'⟩ := I.list (SqL.of hp)
  have hlen := r'.length
  rw [List.length_map] at hlen
  refine call_all_walk (list_iter pl.isList fun s₂ e st hne => ?_)
  subst e
  refine ⟨_, _, _, _, _, _, fun i => bs.getD i false, rfl, Walks.list (A := X.A.in1) (I.ok.hd hc) _ p hne its.toArray, st, truth_bools _ (fun i v hP => vals_bool r' i v hP), fun h' tk hk => ?_⟩
  refine ⟨.bl _, H, I.kept (old_kept hk), rfl, ?_⟩
  rw [List.size_toArray, ← hlen, range_all]
  exact q
end
section
variable {H : Hp} {Q : VK}
@[simp] theorem rd_sorted {vs : List V} : rSorted vs H Q = on1 vs fun x => onL H x fun _ xs => ∃ ns : List Int, xs = ns.map V.int ∧ ns.length < 64 ∧ new H (.lst ((sortZ ns).map V.int)) Q := rfl
@[simp] theorem rd_index {x : V} {vs : List V} : rIndex x vs H Q = on1 vs fun y => onI y fun k => onL H x fun _ xs => ∃ ns : List Int, xs = ns.map V.int ∧ k ∈ ns ∧ Q (.int (ns.idxOf k : Nat)) H := rfl
@[simp] theorem rd_max1 {vs : List V} : rMax1 vs H Q = on1 vs fun x => onL H x fun _ xs => ∃ ns : List Int, xs = ns.map V.int ∧ ns ≠ [] ∧ ∀ M, M ∈ ns → (∀ a ∈ ns, a ≤ M) → Q (.int M) H := rfl
@[simp] theorem rd_min1 {vs : List V} : rMin1 vs H Q = on1 vs fun x => onL H x fun _ xs => ∃ ns : List Int, xs = ns.map V.int ∧ ns ≠ [] ∧ ∀ M, M ∈ ns → (∀ a ∈ ns, M ≤ a) → Q (.int M) H := rfl
@[simp] theorem rd_sum {vs : List V} : rSum vs H Q = on1 vs fun x => onL H x fun _ xs => ∃ ns : List Int, xs = ns.map V.int ∧ (∀ j, j < ns.length → InLong (ns.getD j 0) ∧ InLong (ns.take (j + 1)).sum) ∧ Q (.int ns.sum) H := rfl
@[simp] theorem rd_all {vs : List V} : rAll vs H Q = on1 vs fun x => onL H x fun _ xs => ∃ bs : List Bool, xs = bs.map V.bl ∧ Q (.bl (bs.all id)) H := rfl
@[simp] theorem rd_any {vs : List V} : rAny vs H Q = on1 vs fun x => onL H x fun _ xs => ∃ bs : List Bool, xs = bs.map V.bl ∧ Q (.bl (bs.any id)) H := rfl
@[simp] theorem rd_popAt {x : V} {vs : List V} : rPopAtF x vs H Q = on1 vs fun y => onI y fun i => onL H x fun l xs => (0 ≤ i ∧ i < xs.length) ∧ onO xs[i.toNat]? fun y => Q y (upd H l (.lst (xs.eraseIdx i.toNat))) := rfl
end
end L2

namespace L2
open PySem PySem.Spec PyProof.Rows
theorem RowsAt.any {H : Hp} {a : Addr} {as : List Addr} {xss : List (List Int)} (h : RowsAt H a as xss) {B : Nat} (hz : ∀ r ∈ xss, r.length ≤ B) : ∀ p ∈ as, ∃ ys, H p = some (.lst ys) ∧ ys.length ≤ B := fun p hp => by
  obtain ⟨i, hi⟩ := List.getElem?_of_mem hp
  obtain ⟨xs, e, hx⟩ := RowsL.get' h.row hi
  exact ⟨_, hx, by rw [List.length_map]; exact hz xs (List.mem_of_getElem? e)⟩
/-- the same as long as the old stays -/
theorem RowsAt.old {H0 H H' : Hp} {a : Addr} {as : List Addr} {xss : List (List Int)} (h : RowsAt H0 a as xss) (s : Same H0 H') : RowsAt H' a as xss := h.same s
end L2

namespace L2
open PySem PySem.Spec PyProof.Rows
section
variable {X : Cx} {a b c : Expr} {ta tb tc : TE} {pos : Pos}
def rMax : List V → Hp → VK → Prop := fun vs H Q => on2 vs fun x y => onI x fun i => onI y fun j => Q (.int (if i < j then j else i)) H
@[simp] theorem rd_max {vs : List V} {H : Hp} {Q : VK} : rMax vs H Q = on2 vs fun x y => onI x fun i => onI y fun j => Q (.int (if i < j then j else i)) H := rfl
end
/-- the source of a comprehension is a new list -/
theorem comp_new {K : PySem.W.Frag} {tl : TE} {cp : List Nat} {tt : TT} {te : TE} {σ : L2.St} {H : Hp} {Q : VK} {o : HO} (hl : ∀ R : VK, (∀ S, H S = none → R (.ref S) (upd H S o)) → tl σ H R) (h : ∀ S, H S = none → tComp (iL K (tC (.ref S))) cp tt te σ (upd H S o) Q) : tComp (iL K tl) cp tt te σ H Q := hl _ h
/-- an if, by what its test tells -/
theorem ifS {tA : TT} {t u : TS} {D : Ends} {σ : St} {H : Hp} (b : Bool) (H1 : Hp) (h : ∀ R : Bool → Hp → Prop, R b H1 → tA σ H R) (k : if b = true then t D σ H1 else u D σ H1) : tIfS tA t u D σ H := h _ k
end L2

namespace L2
open PySem PySem.Spec PyProof.Rows
/-! ## lists compared -/
mutual
inductive Dp (H : Hp) : V → PyData → Prop
  | non : Dp H .non .none
  | bl (b : Bool) : Dp H (.bl b) (.bool b)
  | int (i : Int) : Dp H (.int i) (.int i)
  | lst {a : Addr} {xs : List V} {ds : List PyData} : H a = some (.lst xs) → DpAll H xs ds → Dp H (.ref a) (.list ds)
  | tup {a : Addr} {xs : List V} {ds : List PyData} : H a = some (.tup xs) → DpAll H xs ds → Dp H (.ref a) (.tuple ds)
inductive DpAll (H : Hp) : List V → List PyData → Prop
  | nil : DpAll H [] []
  | cons {x : V} {d : PyData} {xs : List V} {ds : List PyData} : Dp H x d → DpAll H xs ds → DpAll H (x :: xs) (d :: ds)
end
section
variable {X : Cx} {pins : List (Addr × Obj)} {σ : St} {H : Hp} {s : Shared}
mutual
theorem dp_reads (I : Inv X pins σ H s) : ∀ {v : V} {d : PyData} {u : Value}, Dp H v d → RelV v u → ∃ as, Reads s.heap u d as
  | _, _, _, .non, r => by cases r; exact ⟨_, Reads.none⟩
  | _, _, _, .bl b, r => by cases r; exact ⟨_, Reads.bool b⟩
  | _, _, _, .int i, r => by obtain ⟨t, rfl⟩ := r; exact ⟨_, Reads.int i t⟩
  | _, _, _, .lst ha h, r => by
    cases r
    obtain ⟨its, r', pl, hz⟩ := I.list (SqL.of ha)
    obtain ⟨as, q⟩ := dp_readsAll I h r'
    obtain ⟨o, ho, hc, n, hd⟩ := pl.isList
    exact ⟨_, reads_list_at ho hc hd (by simpa using q)⟩
  | _, _, _, .tup ha h, r => by
    cases r
    obtain ⟨its, r', pl, hz⟩ := I.tuple (SqT.of ha)
    obtain ⟨as, q⟩ := dp_readsAll I h r'
    obtain ⟨o, ho, hc, n, hd⟩ := pl
    exact ⟨_, reads_tuple_at ho hc hd (by simpa using q)⟩
theorem dp_readsAll (I : Inv X pins σ H s) : ∀ {xs : List V} {ds : List PyData} {us : List Value}, DpAll H xs ds → Vals xs us → ∃ as, ReadsAll s.heap us ds as
  | _, _, _, .nil, .nil => ⟨_, ReadsAll.nil⟩
  | _, _, _, .cons h t, .cons r rt => by
    obtain ⟨as, q⟩ := dp_reads I h r
    obtain ⟨bs, p⟩ := dp_readsAll I t rt
    exact ⟨_, ReadsAll.cons q p⟩
end
end
section
variable {X : Cx}
def rEqF : R2 := fun x y H Q => match x with
  | .ref a => ∃ d e, Dp H (.ref a) d ∧ Dp H y e ∧ SeqAt.shaped d = true ∧ SeqAt.shaped e = true ∧ Q (.bl (PyData.eqv d e)) H
  | x => rEq x y H Q
def rNeF : R2 := fun x y H Q => match x with
  | .ref a => ∃ d e, Dp H (.ref a) d ∧ Dp H y e ∧ SeqAt.shaped d = true ∧ SeqAt.shaped e = true ∧ Q (.bl (!PyData.eqv d e)) H
  | x => rNe x y H Q
theorem f_eqF (hu : X.A.units + 64 < cLine) : OpR X (compareOp .Eq) rEqF := by
  intro pins s σ H x y v u Q I rx ry h
  cases x with
  | ref a =>
    obtain ⟨d, e, hd, he, sd, se, q⟩ := h
    obtain ⟨as, ra⟩ := dp_reads I hd rx
    obtain ⟨bs, rb⟩ := dp_reads I he ry
    exact eq_dataH ra rb sd se hu ⟨.bl _, H, I, rfl, q⟩
  | _ => exact op_eq pins s σ H _ y v u Q I rx ry h
theorem f_neF (hu : X.A.units + 64 < cLine) : OpR X (compareOp .NotEq) rNeF := by
  intro pins s σ H x y v u Q I rx ry h
  cases x with
  | ref a =>
    obtain ⟨d, e, hd, he, sd, se, q⟩ := h
    obtain ⟨as, ra⟩ := dp_reads I hd rx
    obtain ⟨bs, rb⟩ := dp_reads I he ry
    exact ne_dataH ra rb sd se hu ⟨.bl _, H, I, rfl, q⟩
  | _ => exact op_ne pins s σ H _ y v u Q I rx ry h
end
theorem hu64 {A : Around} {k : Nat} (hr : Room k A) : A.units + 64 < cLine := by have := hr.un; omega
section
variable {H : Hp} {Q : VK}
@[simp] theorem rd_eqFI {i : Int} {y : V} : rEqF (.int i) y H Q = rEq (.int i) y H Q := rfl
@[simp] theorem rd_eqFB {i : Bool} {y : V} : rEqF (.bl i) y H Q = rEq (.bl i) y H Q := rfl
@[simp] theorem rd_eqFN {y : V} : rEqF .non y H Q = rEq .non y H Q := rfl
@[simp] theorem rd_eqFS {i : Str} {y : V} : rEqF (.str i) y H Q = rEq (.str i) y H Q := rfl
@[simp] theorem rd_neFI {i : Int} {y : V} : rNeF (.int i) y H Q = rNe (.int i) y H Q := rfl
@[simp] theorem rd_neFB {i : Bool} {y : V} : rNeF (.bl i) y H Q = rNe (.bl i) y H Q := rfl
@[simp] theorem rd_neFN {y : V} : rNeF .non y H Q = rNe .non y H Q := rfl
@[simp] theorem rd_neFS {i : Str} {y : V} : rNeF (.str i) y H Q = rNe (.str i) y H Q := rfl
@[simp] theorem rd_eqB {i j : Bool} : rEq (.bl i) (.bl j) H Q = Q (.bl (decide (i = j))) H := by
  show (true = true ∧ Q (.bl (decide (V.bl i = V.bl j))) H) = _
  simp
@[simp] theorem rd_neB {i j : Bool} : rNe (.bl i) (.bl j) H Q = Q (.bl (!decide (i = j))) H := by
  show (true = true ∧ Q (.bl (!decide (V.bl i = V.bl j))) H) = _
  simp
end
/-! ### what is compared here: lists of numbers or none, lists of such lists -/
def leafP : V → PyData | .int i => .int i | _ => .none
def isLeaf : V → Bool | .int _ => true | .non => true | _ => false
theorem dp_leaf {H : Hp} {v : V} (h : isLeaf v = true) : Dp H v (leafP v) := by
  cases v with
  | int i => exact .int i
  | non => exact .non
  | _ => simp [isLeaf] at h
theorem dpAll_leaf {H : Hp} : ∀ {xs : List V}, xs.all isLeaf = true → DpAll H xs (xs.map leafP)
  | [], _ => .nil
  | x :: xs, h => by
    rw [List.all_cons, Bool.and_eq_true] at h
    exact .cons (dp_leaf h.1) (dpAll_leaf h.2)
theorem leaf_ints (xs : List Int) : (xs.map V.int).all isLeaf = true := by
  rw [List.all_eq_true]; intro v hv; obtain ⟨i, _, rfl⟩ := List.mem_map.mp hv; rfl
theorem leaf_lay : ∀ xs : List V, PyData.canLayAll0 (xs.map leafP) = true ∧ PyData.depthAll (xs.map leafP) = 0
  | [] => by simp [PyData.canLayAll0, PyData.depthAll]
  | x :: xs => by
    obtain ⟨h1, h2⟩ := leaf_lay xs
    cases x <;> simp [leafP, PyData.canLayAll0, PyData.depthAll, PyData.canLay0, PyData.depth, h1, h2]
theorem leaf_shaped (xs : List V) : SeqAt.shaped (.list (xs.map leafP)) = true := by
  obtain ⟨h1, h2⟩ := leaf_lay xs
  simp [SeqAt.shaped, PyData.canLay0, PyData.depth, h1, h2]
theorem leaf_eqv1 {x y : V} (hx : isLeaf x = true) (hy : isLeaf y = true) : PyData.eqv (leafP x) (leafP y) = decide (x = y) := by
  cases x <;> cases y <;> simp_all [isLeaf, leafP, PyData.eqv] <;> rfl
theorem leaf_eqv : ∀ {xs ys : List V}, xs.all isLeaf = true → ys.all isLeaf = true → PyData.eqvAll (xs.map leafP) (ys.map leafP) = decide (xs = ys)
  | [], [], _, _ => by simp [PyData.eqvAll]
  | [], _ :: _, _, _ => by simp [PyData.eqvAll]
  | _ :: _, [], _, _ => by simp [PyData.eqvAll]
  | x :: xs, y :: ys, h1, h2 => by
    rw [List.all_cons, Bool.and_eq_true] at h1 h2
    simp only [List.map_cons, PyData.eqvAll, leaf_eqv1 h1.1 h2.1, leaf_eqv h1.2 h2.2]
    by_cases h : x = y <;> simp [h]
theorem eqF_leaf {H : Hp} {Q : VK} {a b : Addr} {xs ys : List V} (ha : H a = some (.lst xs)) (hb : H b = some (.lst ys)) (fx : xs.all isLeaf = true) (fy : ys.all isLeaf = true) (q : Q (.bl (decide (xs = ys))) H) : rEqF (.ref a) (.ref b) H Q :=
  ⟨_, _, .lst ha (dpAll_leaf fx), .lst hb (dpAll_leaf fy), leaf_shaped _, leaf_shaped _, by simp only [PyData.eqv]; rw [leaf_eqv fx fy]; exact q⟩
theorem neF_leaf {H : Hp} {Q : VK} {a b : Addr} {xs ys : List V} (ha : H a = some (.lst xs)) (hb : H b = some (.lst ys)) (fx : xs.all isLeaf = true) (fy : ys.all isLeaf = true) (q : Q (.bl (!decide (xs = ys))) H) : rNeF (.ref a) (.ref b) H Q :=
  ⟨_, _, .lst ha (dpAll_leaf fx), .lst hb (dpAll_leaf fy), leaf_shaped _, leaf_shaped _, by simp only [PyData.eqv]; rw [leaf_eqv fx fy]; exact q⟩
theorem int_inj {xs ys : List Int} : (xs.map V.int = ys.map V.int) ↔ xs = ys := List.map_inj_right (fun _ _ h => by injection h)
theorem eqF_ints {H : Hp} {Q : VK} {a b : Addr} {xs ys : List Int} (ha : H a = some (.lst (xs.map V.int))) (hb : H b = some (.lst (ys.map V.int))) (q : Q (.bl (decide (xs = ys))) H) : rEqF (.ref a) (.ref b) H Q :=
  eqF_leaf ha hb (leaf_ints _) (leaf_ints _) (by simp only [int_inj]; exact q)
theorem neF_ints {H : Hp} {Q : VK} {a b : Addr} {xs ys : List Int} (ha : H a = some (.lst (xs.map V.int))) (hb : H b = some (.lst (ys.map V.int))) (q : Q (.bl (!decide (xs = ys))) H) : rNeF (.ref a) (.ref b) H Q :=
  neF_leaf ha hb (leaf_ints _) (leaf_ints _) (by simp only [int_inj]; exact q)
/-- rows of numbers -/
def rowP (xs : List Int) : PyData := .list (xs.map PyData.int)
theorem leafP_int (xs : List Int) : (xs.map V.int).map leafP = xs.map PyData.int := by rw [List.map_map]; rfl
theorem dpAll_rows {H : Hp} : ∀ {as : List Addr} {xss : List (List Int)}, RowsL H as xss → DpAll H (as.map V.ref) (xss.map rowP)
  | _, _, .nil => .nil
  | _, _, .cons h t => .cons (by rw [rowP, ← leafP_int]; exact .lst h (dpAll_leaf (leaf_ints _))) (dpAll_rows t)
theorem dp_rows {H : Hp} {a : Addr} {as : List Addr} {xss : List (List Int)} (h : RowsAt H a as xss) : Dp H (.ref a) (.list (xss.map rowP)) := .lst h.top (dpAll_rows h.row)
theorem rows_lay : ∀ xss : List (List Int), PyData.canLayAll0 (xss.map rowP) = true ∧ PyData.depthAll (xss.map rowP) ≤ 1
  | [] => by simp [PyData.canLayAll0, PyData.depthAll]
  | x :: xs => by
    obtain ⟨h1, h2⟩ := rows_lay xs
    obtain ⟨h3, h4⟩ := leaf_lay (x.map V.int)
    rw [leafP_int] at h3 h4
    simp [rowP, PyData.canLayAll0, PyData.depthAll, PyData.canLay0, PyData.depth, h1, h3, h4, h2]
theorem rows_eqv : ∀ {xs ys : List (List Int)}, PyData.eqvAll (xs.map rowP) (ys.map rowP) = decide (xs = ys)
  | [], [] => by simp [PyData.eqvAll]
  | [], _ :: _ => by simp [PyData.eqvAll]
  | _ :: _, [] => by simp [PyData.eqvAll]
  | x :: xs, y :: ys => by
    have e : PyData.eqv (rowP x) (rowP y) = decide (x = y) := by
      have := leaf_eqv (leaf_ints x) (leaf_ints y)
      rw [leafP_int, leafP_int] at this
      simp only [int_inj] at this
      simp only [rowP, PyData.eqv]; exact this
    simp only [List.map_cons, PyData.eqvAll, e, rows_eqv (xs := xs) (ys := ys)]
    by_cases h : x = y <;> simp [h]
end L2

namespace L2
open PySem PySem.Spec PyProof.Rows
/-! ## x in a list of numbers or none -/
section
variable {X : Cx}
def rInF : R2 := fun x y H Q => onS H y fun xs => flatV x = true ∧ xs.all flatV = true ∧ Q (.bl (inV x xs)) H
def rNotInF : R2 := fun x y H Q => onS H y fun xs => flatV x = true ∧ xs.all flatV = true ∧ Q (.bl (!inV x xs)) H
@[simp] theorem rd_in {x y : V} {H : Hp} {Q : VK} : rInF x y H Q = onS H y fun xs => flatV x = true ∧ xs.all flatV = true ∧ Q (.bl (inV x xs)) H := rfl
@[simp] theorem rd_notin {x y : V} {H : Hp} {Q : VK} : rNotInF x y H Q = onS H y fun xs => flatV x = true ∧ xs.all flatV = true ∧ Q (.bl (!inV x xs)) H := rfl
end
end L2
namespace L2
open PySem PySem.Spec PyProof.Rows
end L2
namespace L2
open PySem PySem.Spec PyProof.Rows
/-- a comprehension over range(n), elements and tests that make nothing -/
theorem comp_rngP {l : TA} {cp : List Nat} {tt : TT} {te : TE} {σ : St} {H : Hp} {Q : VK} {n : Nat} (hl : ∀ R : List V → Hp → Prop, R [V.int (n : Int)] H → l σ H R) (hz : n ≤ 10000) (p : Nat → Bool) (f : Nat → V)
    (ht : ∀ i, i < n → ∀ H', Same H H' → ∀ R : Bool → Hp → Prop, R (p i) H' → tt (cst cp σ (some (.int (i : Int)))) H' R) (he : ∀ i, i < n → p i = true → ∀ H', Same H H' → ∀ R : VK, R (f i) H' → te (cst cp σ (some (.int (i : Int)))) H' R)
    (hQ : ∀ D, H D = none → Q (.ref D) (upd H D (.lst (((List.range n).filter p).map f)))) : tComp (iRng1 l) cp tt te σ H Q := by
  rw [rd_comp, rd_rng1]
  refine hl _ ?_
  rw [rd_on1, rd_onI]
  refine ⟨⟨by omega, by omega⟩, ?_⟩
  rw [Int.toNat_natCast]
  refine comp_pure yields_range (fun v => match v with | .int k => p k.toNat | _ => false) (fun v => match v with | .int k => f k.toNat | _ => .non) (by simp; omega) (fun v hv H2 s2 R h => ?_) (fun v hv hp H2 s2 R h => ?_) (fun D hD => ?_)
  · obtain ⟨j, hj, rfl⟩ := List.mem_map.mp hv
    have := ht j (List.mem_range.mp hj) H2 s2 R
    simp only [Int.zero_add, Int.toNat_natCast] at h ⊢
    exact this h
  · obtain ⟨j, hj, rfl⟩ := List.mem_map.mp hv
    simp only [Int.zero_add, Int.toNat_natCast] at h hp ⊢
    exact he j (List.mem_range.mp hj) hp H2 s2 R h
  · have := hQ D hD
    rw [List.filter_map, List.map_map]
    simpa [Function.comp_def] using this
end L2

/-! ## list(reversed(xs)) -/
namespace PySem
theorem rvi_no_len : typeLookup (.type "list_reverseiterator") "__len__" = pure none := by rw [typeLookup_type, builtinLookup_eq_fast]; kernel_rfl
theorem rvi_hint : typeLookup (.type "list_reverseiterator") "__length_hint__" = pure (some (.builtin "list_reverseiterator.__length_hint__")) := by rw [typeLookup_type, builtinLookup_eq_fast]; kernel_rfl
section
variable {prog : Program} {w : World} {A : Around} {E : Value → Shared → Prop} {s : Shared}
theorem hint_rev {it l : Addr} {i : Int} {Q : Bool → Shared → Prop} (hit : s.heap.IsRevIter it l i) (h : Q false s) : wpAny (model prog w) A (Builtin.List.listLengthHint (.ref it)) Q E s := by
  unfold Builtin.List.listLengthHint
  refine wpAny_bind (wpAny_specialOf hit.typeIs rvi_no_len ?_)
  show wpAny _ A (specialOf (Value.ref it) (Str.ofString "__length_hint__") >>= _) _ _ _
  refine wpAny_bind (wpAny_specialOf hit.typeIs rvi_hint ?_)
  generalize hid : ("list_reverseiterator.__length_hint__" : String) = id0
  wp_delta
  rw [show splitId id0 = some ("list_reverseiterator", "__length_hint__") from by subst hid; decide +kernel]
  subst hid
  refine wpAny_bind (wpAny_isInstance (T := "list_reverseiterator") (b := true) hit.typeIs (by rw [isSubtype_type]; kernel_rfl) ?_)
  refine wpAny_ite_split (fun hab => absurd hab (by decide)) (fun _ => ?_)
  refine wpAny_ite_split (fun _ => ?_) (fun hab => absurd (by decide +kernel) hab)
  refine wpAny_ite_split (fun hab => absurd hab (by decide +kernel)) (fun _ => ?_)
  exact wpAny_pure h
theorem extend_rev {R : Result → Shared → Prop} {it l : Addr} {items : Array Value} (hh : A.handled = none) (hne : l ≠ it) (hit : s.heap.IsRevIter it l ((items.size : Int) - 1)) (hl : s.heap.IsList l items) (S : Addr) (res : Value) (c₀ : Nat) (hSi : S ≠ it) (hSl : S ≠ l) (hn : items.size ≤ sizeLine)
    (hS : s.heap.get? S = some { cls := .type "list", data := .seq #[] c₀ })
    (hR : ∀ s' acc' c', Moved (S :: [it]) (fun a b => b = a) s s' → s'.heap.get? S = some { cls := .type "list", dict := none, data := .seq acc' c', slots := #[] } → ItemsOf (fun i v => items[items.size - 1 - i]? = some v) acc' items.size → R (.ok (.ret res)) s') :
    wpAny (model prog w) A.in1 (Builtin.List.listExtendWith (.ref S) (.ref it) res)
      (fun fin s' => match fin with | .done f => R (.ok f) s' | .again c' => c'.quiet = true ∧ codeAny (model prog w) A c' R s') (fun e s' => R (.error e) s') s := by
  have W := (Walks.listRev (prog := prog) (w := w) (A := A.in1) hh it l hne items).toS
  have hSf : S ∉ [it, l] := fun hm => by
    rcases List.mem_cons.mp hm with e | hm
    · exact hSi e
    · exact hSl (by simpa using hm)
  unfold Builtin.List.listExtendWith
  refine wpAny_bind (wpAny_typeOf hit.typeIs ?_)
  have h1 : Builtin.List.listSameRef (.ref S) (.ref it) = false := by simp [Builtin.List.listSameRef, hSi]
  have h2 : (Value.type "list_reverseiterator" == Value.type "list") = false := by decide
  have h3 : (Value.type "list_reverseiterator" == Value.type "tuple") = false := by decide
  simp only [h1, h2, h3, Bool.or_false, Bool.false_eq_true, if_false]
  refine wpAny_bind (wpAny_pyIter_revIter hit ?_)
  refine wpAny_bind (wpAny_holding (hint_rev hit ?_))
  refine wpAny_ite_split (fun hab => absurd hab (by decide)) (fun _ => ?_)
  refine wpAny_pure ⟨plainId_quiet F.plain_extend_loop _, codeAny_extend_loopS W hn _ hSf _ items.size 0 _ _ _ rfl (Nat.zero_le _) ⟨Nat.zero_le _, by simpa using hit, hl⟩ hS (ItemsOf.nil _) fun s' acc' c' hm hS' hacc => ?_⟩
  exact hR s' acc' c' hm hS' hacc
theorem call_list_rev {Q : Value → Shared → Prop} {it l : Addr} {items : Array Value} (hh : A.handled = none) (hne : l ≠ it) (hit : s.heap.IsRevIter it l ((items.size : Int) - 1)) (hl : s.heap.IsList l items) (hn : items.size ≤ sizeLine)
    (hQ : ∀ h' tk acc' c', (∀ b o, b ≠ it → s.heap.get? b = some o → h'.get? b = some o) →
      h'.get? s.heap.objs.size = some { cls := .type "list", dict := none, data := .seq acc' c', slots := #[] } → ItemsOf (fun i v => items[items.size - 1 - i]? = some v) acc' items.size → Q (.ref s.heap.objs.size) { s with heap := h', toks := tk }) :
    wpAny (model prog w) A (call (.type "list") [.ref it]) Q E s := by
  have itlt : it < s.heap.objs.size := by obtain ⟨o, ho, _⟩ := hit; exact Heap.lt_size ho
  have llt : l < s.heap.objs.size := by obtain ⟨o, ho, _⟩ := hl; exact Heap.lt_size ho
  refine callType_codes (Q₁ := fun obj s₁ => obj = .ref s.heap.objs.size ∧ s₁ = { s with heap := s.heap.push { cls := .type "list", data := .seq #[] } }) F.called_list (F.typeCall_list_1 _) F.entry_list_init
    (code_list_new _ ⟨rfl, rfl⟩) fun obj s₁ h₁ => ?_
  obtain ⟨rfl, rfl⟩ := h₁
  have hS : (s.heap.push { cls := .type "list", data := .seq #[] }).get? s.heap.objs.size = some { cls := .type "list", data := .seq #[] } := Heap.get?_push_size _ rfl
  refine ⟨⟨_, hS, rfl⟩, F.args_list_init_2 _ _, ?_⟩
  generalize hs1 : ({ s with heap := s.heap.push { cls := .type "list", data := .seq #[] } } : Shared) = s1 at *
  have k1 : ∀ b o, s.heap.get? b = some o → s1.heap.get? b = some o := fun b o e => by rw [← hs1]; exact Heap.get?_push_of_some _ e
  have hS1 : s1.heap.get? s.heap.objs.size = some { cls := .type "list", data := .seq #[] } := by rw [← hs1]; exact hS
  have hit1 : s1.heap.IsRevIter it l ((items.size : Int) - 1) := hit.at fun o e => k1 _ _ e
  have hl1 : s1.heap.IsList l items := hl.at fun o e => k1 _ _ e
  show wpAny _ _ (do let old ← Builtin.List.listItems (.ref s.heap.objs.size); Builtin.List.listUpdate (.ref s.heap.objs.size) (fun _ => #[]); letGo old.toList.reverse; Builtin.List.listExtendWith (.ref s.heap.objs.size) (.ref it) .none) _ _ s1
  refine wpAny_bind ?_
  unfold Builtin.List.listItems
  refine wpAny_bind (wpAny_seqItems hS1 rfl (wpAny_pure ?_))
  show wpAny _ _ (updateSeq s.heap.objs.size (fun _ => #[]) >>= fun _ => letGo (#[] : Array Value).toList.reverse >>= fun _ => Builtin.List.listExtendWith (.ref s.heap.objs.size) (.ref it) .none) _ _ s1
  refine wpAny_bind (wpAny_updateSeq hS1 rfl ?_)
  have hS₂ := Heap.get?_update_self (Obj.mapSeq (fun _ => (#[] : Array Value))) hS1 rfl
  have oth : ∀ b o, b ≠ s.heap.objs.size → s1.heap.get? b = some o → (s1.heap.update s.heap.objs.size (Obj.mapSeq (fun _ => (#[] : Array Value)))).get? b = some o :=
    fun b o hb e => (Heap.get?_update_other _ _ (Ne.symm hb)).trans e
  refine wpAny_bind (wpAny_letGo ?_)
  refine extend_rev (A := A.in1) hh hne (hit1.at fun o e => oth _ _ (Nat.ne_of_lt itlt) e) (hl1.at fun o e => oth _ _ (Nat.ne_of_lt llt) e) s.heap.objs.size .none _ (Nat.ne_of_gt itlt) (Nat.ne_of_gt llt) hn hS₂ fun s' acc' c' hm hS' hacc => ?_
  refine ⟨rfl, ?_⟩
  rw [Moved.eq_with hm]
  have := hQ s'.heap s'.toks acc' c' (fun b o hb e => hm.heap b o (fun hmem => ?_) (oth b o (Nat.ne_of_lt (Heap.lt_size e)) (k1 b o e))) hS' hacc
  · rw [← hs1]; exact this
  · rcases List.mem_cons.mp hmem with e' | hmem
    · exact absurd (Heap.lt_size e) (by rw [e']; exact Nat.lt_irrefl _)
    · exact hb (by simpa using hmem)
end
end PySem
namespace L2
open PySem PySem.Spec PyProof.Rows
theorem items_rev {its : List Value} {acc : Array Value} (h : ItemsOf (fun i v => its.toArray[its.toArray.size - 1 - i]? = some v) acc its.toArray.size) : acc.toList = its.reverse := by
  obtain ⟨h1, h2⟩ := h
  simp only [List.size_toArray] at h2
  have h1 : acc.size = its.length := by rw [h1, List.size_toArray]
  apply List.ext_getElem?
  intro i
  rw [Array.getElem?_toList]
  by_cases hi : i < its.length
  · have e : acc[i]? = some (acc[i]'(by omega)) := Array.getElem?_eq_getElem (by omega)
    have := h2 i _ e
    rw [e, List.getElem?_reverse hi]
    rw [List.getElem?_toArray] at this
    exact this.symm
  · rw [Array.getElem?_eq_none (by omega), List.getElem?_eq_none (by simp; omega)]
section
variable {X : Cx}
def tLR (ta : TA) : TE := fun σ H Q => ta σ H fun vs H1 => on1 vs fun x => onL H1 x fun _ xs => new H1 (.lst xs.reverse) Q
theorem pe_listRev {a : Expr} {ta : TA} {p p' pos pos' : Pos} (hgl : Gl X "list") (hml : X.mg "list" = none) (hgr : Gl X "reversed") (hmr : X.mg "reversed" = none) (ha : PA X [a] ta) (hc : X.calm = true)
    (hs : starEach [a] X.env = [(false, eval a X.env)] := by rfl)
    (hs2 : starEach [.Call (.Name "reversed" p') [a] [] pos'] X.env = [(false, eval (.Call (.Name "reversed" p') [a] [] pos') X.env)] := by rfl) :
    PE X (.Call (.Name "list" p) [.Call (.Name "reversed" p') [a] [] pos'] [] pos) (tLR ta) := by
  intro pins s σ H Q I h
  refine wpAny_Call_Name_kw (ld_blt I hgl hml BI.list ?_ (by decide) (by decide))
  refine PyProof.Rows.callWith_type1 ?_ hs2 rfl
  rw [hs2]
  show wpAny _ _ (spliced ((false, eval (.Call (.Name "reversed" p') [a] [] pos') X.env) :: [])) _ _ s
  refine Calls.spliced_cons ?_
  refine Call_ (ld_blt I hgr hmr boot_reversed (PyProof.Rows.callWith_type1 (thn (ha pos' pins s σ H _ I h) fun us s1 ⟨vs, H1, I1, r1, q1⟩ => ?_) hs rfl))
  obtain ⟨x, rfl, q1⟩ := on1.out q1
  obtain ⟨l, xs, rfl, hl, q⟩ := onL.out q1
  obtain ⟨u, rfl, ru⟩ := r1.one
  cases ru
  obtain ⟨its, rv, pl, hz⟩ := I1.list (SqL.of (K := X.K) hl)
  refine call_reversed_list pl.isList ?_
  refine Calls.spliced_nil ?_
  have llt : l < s1.heap.objs.size := by obtain ⟨o, ho, _⟩ := pl.isList; exact Heap.lt_size ho
  have hlen := rv.length
  refine call_list_rev (s := { s1 with heap := s1.heap.push (revObj l ((its.toArray.size : Int) - 1)) }) (I1.ok.hd hc) (Nat.ne_of_lt llt) ⟨_, Heap.get?_push_size _ rfl, rfl, rfl⟩ (pl.isList.push _) (by rw [List.size_toArray]; omega) fun h' tk acc c' hk hS hacc => ?_
  have e := items_rev hacc
  have hsz : (s1.heap.push (revObj l ((its.toArray.size : Int) - 1))).objs.size = s1.heap.objs.size + 1 := Heap.size_push ..
  rw [hsz] at hS ⊢
  refine ⟨.ref (s1.heap.objs.size + 1), _, I1.laid (t' := tk) (o := .lst xs.reverse) (fun b o eo => hk b o (Nat.ne_of_lt (Heap.lt_size eo)) (Heap.get?_push_of_some _ eo)) (by omega) ⟨by rw [List.length_reverse]; exact hz, its.reverse, c', rv.reverse, ?_⟩, rfl, q _ (I1.hok.fresh (by omega))⟩
  rw [hS, ← e]
@[simp] theorem rd_LR {ta : TA} {σ : St} {H : Hp} {Q : VK} : tLR ta σ H Q = ta σ H fun vs H1 => on1 vs fun x => onL H1 x fun _ xs => new H1 (.lst xs.reverse) Q := rfl
end
end L2
namespace L2
open PySem PySem.Spec PyProof.Rows
end L2
namespace L2
open PySem PySem.Spec PyProof.Rows
end L2
namespace L2
open PySem PySem.Spec PyProof.Rows
/-- an if, by what its test tells, where the test may make something -/
theorem ifS' {tA : TT} {t u : TS} {D : Ends} {σ : St} {H : Hp} (Ps : Hp → Prop) (b : Bool) (h : ∀ R : Bool → Hp → Prop, (∀ H1, Ps H1 → R b H1) → tA σ H R) (k : ∀ H1, Ps H1 → if b = true then t D σ H1 else u D σ H1) : tIfS tA t u D σ H := h _ k
end L2

namespace L2
open PySem PySem.Spec PyProof.Rows
/-! ## sorted(xs, reverse=True) -/
def sortR (ns : List Int) : List Int := ns.mergeSort fun a b => decide (b ≤ a)
theorem sortR_perm (ns : List Int) : (sortR ns).Perm ns := List.mergeSort_perm _ _
theorem sortR_ge (ns : List Int) : (sortR ns).Pairwise (· ≥ ·) := by
  have := List.pairwise_mergeSort (le := fun (a b : Int) => decide (b ≤ a)) (fun a b c h1 h2 => by simp at *; omega) (fun a b => by simp; omega) ns
  exact this.imp fun h => by simpa using h
theorem sortR_uniq {ns ms : List Int} (h : ms.Perm ns) (hp : ms.Pairwise (· ≥ ·)) : ms = sortR ns :=
  List.Perm.eq_of_pairwise (le := (· ≥ ·)) (fun a b _ _ h1 h2 => by have : a ≥ b := h1; have : b ≥ a := h2; omega) hp (sortR_ge ns) (h.trans (sortR_perm ns).symm)
theorem sortR_len (ns : List Int) : (sortR ns).length = ns.length := (sortR_perm ns).length_eq
section
variable {X : Cx}
def tSortR (ta : TA) : TE := fun σ H Q => ta σ H fun vs H1 => on1 vs fun x => onL H1 x fun _ xs => ∃ ns : List Int, xs = ns.map V.int ∧ ns.length < 64 ∧ new H1 (.lst ((sortR ns).map V.int)) Q
theorem pe_sortedR {a : Expr} {ta : TA} {j : _} {p pos cp kp : Pos} (hg : Gl X "sorted") (hm : X.mg "sorted" = none) (ha : PA X [a] ta) (hs : starEach [a] X.env = [(false, eval a X.env)] := by rfl) :
    PE X (.Call (.Name "sorted" p) [a] [⟨some "reverse", .Constant (.bool true) j cp, kp⟩] pos) (tSortR ta) := by
  intro pins s σ H Q I h
  refine wpAny_Call_Name_kw (ld_blt I hg hm BI.sorted ?_)
  refine callWith_builtin_kwB (first := []) (by rw [hs]; rfl) rfl ?_
  have hA := ha pos pins s σ H _ I h
  rw [hs] at hA ⊢
  refine evalArgs_kwB rfl (thn hA fun us s1 ⟨vs, H1, I1, r1, q1⟩ => ?_)
  refine kws_cons (Constant_bool (kws_nil ?_))
  obtain ⟨x, rfl, q2⟩ := on1.out q1
  obtain ⟨l, xs, rfl, hl, ns, rfl, hz, q⟩ := onL.out q2
  obtain ⟨u, rfl, ru⟩ := r1.one
  cases ru
  obtain ⟨its, r', pl, hz'⟩ := I1.list (SqL.of (K := X.K) hl)
  have hI := ints_of_vals r'
  have hlen := r'.length
  rw [List.length_map] at hlen
  refine sorted_ints_rev (b := true) pl.isList hI (by omega) fun out ns' a1 a2 a3 => ?_
  have e := sortR_uniq a2 a3
  subst e
  obtain ⟨e, he⟩ := sortedAll_at s1.heap its out
  have := sortR_len ns
  have hs : sizeLine = 16777216 := sizeLine_eq
  exact ⟨.ref (s1.heap.objs.size + 1), _, I1.laid (t' := s1.toks) (fun b o => sortedAll_old) (by omega) (show ObjOk X.prog X.w _ _ _ (.lst ((sortR ns).map V.int)) from ⟨by rw [List.length_map]; omega, out.toList, e, vals_ints a1, he⟩), rfl, q _ (I1.hok.fresh (by omega))⟩
@[simp] theorem rd_sortR {ta : TA} {σ : St} {H : Hp} {Q : VK} : tSortR ta σ H Q = ta σ H fun vs H1 => on1 vs fun x => onL H1 x fun _ xs => ∃ ns : List Int, xs = ns.map V.int ∧ ns.length < 64 ∧ new H1 (.lst ((sortR ns).map V.int)) Q := rfl
/-! ## len(set(xs)) -/
theorem dedup_step (acc : List Int) (k : Int) : step_dedup acc k = if acc.any (· == k) then acc else acc ++ [k] := rfl
theorem dedup_len : ∀ (ns acc : List Int), acc.Nodup → ((ns.foldl step_dedup acc).length ≤ acc.length + ns.length) ∧ ((ns.foldl step_dedup acc).length = acc.length + ns.length ↔ (acc ++ ns).Nodup)
  | [], acc, nd => by simp [nd]
  | n :: ns, acc, nd => by
    rw [List.foldl_cons, dedup_step]
    by_cases h : acc.any (· == n) = true
    · rw [if_pos h]
      have ih := dedup_len ns acc nd
      have hm : n ∈ acc := by obtain ⟨a, ha, e⟩ := List.any_eq_true.mp h; have : a = n := by simpa using e
                              exact this ▸ ha
      refine ⟨by have := ih.1; simp; omega, ⟨fun e => ?_, fun e => ?_⟩⟩
      · have := ih.1; simp at e; omega
      · exact absurd rfl ((List.nodup_append.mp e).2.2 n hm n (by simp))
    · rw [if_neg h]
      have hm : n ∉ acc := fun z => h (List.any_eq_true.mpr ⟨n, z, by simp⟩)
      have nd' : (acc ++ [n]).Nodup := by
        rw [List.nodup_append]
        exact ⟨nd, by simp, fun a ha b hb => by rw [List.mem_singleton.mp hb]; exact fun z => hm (z ▸ ha)⟩
      have ih := dedup_len ns (acc ++ [n]) nd'
      rw [List.length_append, List.length_singleton, List.append_assoc, List.singleton_append] at ih
      refine ⟨by have := ih.1; simp; omega, ?_⟩
      rw [← ih.2]
      simp; omega
def tLenSet (ta : TA) : TE := fun σ H Q => ta σ H fun vs H1 => on1 vs fun x => onL H1 x fun _ xs => ∃ ns : List Int, xs = ns.map V.int ∧ ns.length ≤ 4000 ∧ ∀ c : Nat, c ≤ ns.length → (c = ns.length ↔ ns.Nodup) → Q (.int (c : Int)) H1
theorem pe_lenSet {a : Expr} {ta : TA} {p p' pos pos' : Pos} (hgl : Gl X "len") (hml : X.mg "len" = none) (hgr : Gl X "set") (hmr : X.mg "set" = none) (ha : PA X [a] ta) (hc : X.calm = true)
    (hs : starEach [a] X.env = [(false, eval a X.env)] := by rfl)
    (hs2 : starEach [.Call (.Name "set" p') [a] [] pos'] X.env = [(false, eval (.Call (.Name "set" p') [a] [] pos') X.env)] := by rfl) :
    PE X (.Call (.Name "len" p) [.Call (.Name "set" p') [a] [] pos'] [] pos) (tLenSet ta) := by
  intro pins s σ H Q I h
  refine wpAny_Call_Name_kw (ld_blt I hgl hml BI.len ?_ (by decide) (by decide))
  refine PyProof.Rows.callWith_builtin1 ?_ hs2 rfl
  rw [hs2]
  show wpAny _ _ (spliced ((false, eval (.Call (.Name "set" p') [a] [] pos') X.env) :: [])) _ _ s
  refine Calls.spliced_cons ?_
  refine Call_ (ld_blt I hgr hmr BI.set (PyProof.Rows.callWith_type1 (thn (ha pos' pins s σ H _ I h) fun us s1 ⟨vs, H1, I1, r1, q1⟩ => ?_) hs rfl))
  obtain ⟨x, rfl, q1⟩ := on1.out q1
  obtain ⟨l, xs, rfl, hl, ns, rfl, hz, q⟩ := onL.out q1
  obtain ⟨u, rfl, ru⟩ := r1.one
  cases ru
  obtain ⟨its, rv, pl, hz'⟩ := I1.list (SqL.of (K := X.K) hl)
  have hI := ints_of_vals rv
  have hlen := rv.length
  rw [List.length_map] at hlen
  refine call_set_list (ns := ns) (I1.ok.hd hc) pl.isList (by simpa using hI) (by rw [List.size_toArray]; show its.length + 1 < 4096; omega) fun h' tk hset hk => ?_
  refine Calls.spliced_nil ?_
  obtain ⟨o, es, ep, t, ho, hex, hd, _, _, hb, hf, hsz⟩ := hset
  have e2 : firstMet (fun i => ns.getD i 0) its.toArray.size = ns.foldl step_dedup [] := by
    unfold firstMet
    rw [List.size_toArray, ← hlen]
    congr 1
    apply List.ext_getElem?
    intro i
    rw [List.getElem?_map]
    by_cases hi : i < ns.length
    · rw [List.getElem?_range hi, List.getElem?_eq_getElem hi]
      simp [List.getD_eq_getElem?_getD, List.getElem?_eq_getElem hi]
    · rw [List.getElem?_eq_none (by simpa using hi), List.getElem?_eq_none (by omega)]; rfl
  have dl := dedup_len ns [] List.nodup_nil
  rw [e2] at hsz
  simp only [List.length_nil, Nat.zero_add, List.nil_append] at dl
  rw [← hsz] at dl
  refine call_len_set ho hex hd hf (by have : scanBound = 4096 := rfl; omega) ?_
  refine ⟨.int (es.size : Int), H1, I1.kept (t' := _) (fun b o eo => hk b o (Heap.lt_size eo) eo), ⟨_, rfl⟩, q es.size dl.1 dl.2⟩
@[simp] theorem rd_lenSet {ta : TA} {σ : St} {H : Hp} {Q : VK} : tLenSet ta σ H Q = ta σ H fun vs H1 => on1 vs fun x => onL H1 x fun _ xs => ∃ ns : List Int, xs = ns.map V.int ∧ ns.length ≤ 4000 ∧ ∀ c : Nat, c ≤ ns.length → (c = ns.length ↔ ns.Nodup) → Q (.int (c : Int)) H1 := rfl
/-! ## xs.count(None), xs * k -/
def rCount : V → List V → Hp → VK → Prop := fun x vs H Q => on1 vs fun y => onL H x fun _ xs => flatV y = true ∧ xs.all flatV = true ∧ Q (.int ((xs.countP fun z => eqV z y : Nat) : Int)) H
@[simp] theorem rd_count {x : V} {vs : List V} {H : Hp} {Q : VK} : rCount x vs H Q = on1 vs fun y => onL H x fun _ xs => flatV y = true ∧ xs.all flatV = true ∧ Q (.int ((xs.countP fun z => eqV z y : Nat) : Int)) H := rfl
/-- numbers multiplied, or a list repeated -/
def rMulF : R2 := fun x y H Q => match x with
  | .int i => onI y fun j => CMul i j ∧ Q (.int (i * j)) H
  | .ref a => onI y fun k => onL H (.ref a) fun _ xs => (0 ≤ k ∧ xs.length * k.toNat ≤ 10000 ∧ k ≤ 10000) ∧ new H (.lst (List.replicate k.toNat xs).flatten) Q
  | _ => False
theorem f_mulF : OpR X (binaryOp .Mult) rMulF := by
  intro pins s σ H x y v u Q I rx ry h
  cases x with
  | int i =>
    obtain ⟨j, rfl, c, q⟩ := onI.out h
    exact op_mul pins s σ H _ _ v u Q I rx ry ⟨i, j, rfl, rfl, c, q⟩
  | ref a =>
    obtain ⟨k, rfl, h'⟩ := onI.out h
    obtain ⟨l, xs, e, hH, ⟨h1, h2, h3⟩, q⟩ := onL.out h'
    exact op_rep pins s σ H _ _ v u Q I rx ry ⟨l, k, xs, e, rfl, hH, by omega, by omega, line100' h2, q⟩
  | _ => exact (show False from h).elim
@[simp] theorem rd_mulFI {i : Int} {y : V} {H : Hp} {Q : VK} : rMulF (.int i) y H Q = onI y fun j => CMul i j ∧ Q (.int (i * j)) H := rfl
@[simp] theorem rd_mulFL {a : Addr} {y : V} {H : Hp} {Q : VK} : rMulF (.ref a) y H Q = onI y fun k => onL H (.ref a) fun _ xs => (0 ≤ k ∧ xs.length * k.toNat ≤ 10000 ∧ k ≤ 10000) ∧ new H (.lst (List.replicate k.toNat xs).flatten) Q := rfl
end
end L2

namespace L2
open PySem PySem.Spec PyProof.Rows
/-! ## rows of any values -/
abbrev RowsW (H : Hp) (as : List Addr) (xss : List (List V)) : Prop := Paired (fun b xs => H b = some (.lst xs)) as xss
structure RowsV (H : Hp) (a : Addr) (as : List Addr) (xss : List (List V)) : Prop where
  top : H a = some (.lst (as.map V.ref))
  row : RowsW H as xss
theorem RowsW.mono {H H' : Hp} {as : List Addr} {xss : List (List V)} (h : RowsW H as xss) (k : ∀ b ∈ as, ∀ o, H b = some o → H' b = some o) : RowsW H' as xss := by
  induction h with
  | nil => exact .nil
  | cons r t ih => exact .cons (k _ List.mem_cons_self _ r) (ih fun b hb => k b (List.mem_cons_of_mem _ hb))
theorem RowsW.same {H H' : Hp} {as : List Addr} {xss : List (List V)} (h : RowsW H as xss) (s : Same H H') : RowsW H' as xss := h.mono fun b _ o e => s b o e
theorem RowsW.len {H : Hp} {as : List Addr} {xss : List (List V)} (h : RowsW H as xss) : as.length = xss.length := Paired.length h
theorem RowsW.get {H : Hp} : ∀ {as : List Addr} {xss : List (List V)} {i : Nat} {xs : List V}, RowsW H as xss → xss[i]? = some xs → ∃ b, as[i]? = some b ∧ H b = some (.lst xs)
  | _, _, _, _, .nil, e => by simp at e
  | _, _, 0, _, .cons r _, e => by simp at e; subst e; exact ⟨_, rfl, r⟩
  | _, _, i + 1, xs, .cons _ t, e => by
    obtain ⟨b, h1, h2⟩ := RowsW.get (i := i) (xs := xs) t (by simpa using e)
    exact ⟨b, by simpa using h1, h2⟩
theorem RowsW.get' {H : Hp} {as : List Addr} {xss : List (List V)} {i : Nat} {b : Addr} (h : RowsW H as xss) (e : as[i]? = some b) : ∃ xs, xss[i]? = some xs ∧ H b = some (.lst xs) := by
  have hl := h.len
  have hi : i < xss.length := by rw [← hl]; exact (List.getElem?_eq_some_iff.mp e).1
  obtain ⟨b', h1, h2⟩ := h.get (List.getElem?_eq_getElem hi)
  rw [e] at h1; cases h1
  exact ⟨_, List.getElem?_eq_getElem hi, h2⟩
theorem RowsW.snoc {H : Hp} {as : List Addr} {xss : List (List V)} {b : Addr} {xs : List V} (h : RowsW H as xss) (hb : H b = some (.lst xs)) : RowsW H (as ++ [b]) (xss ++ [xs]) := Paired.snoc h hb
theorem RowsW.set {H : Hp} : ∀ {as : List Addr} {xss : List (List V)} {i : Nat} {b : Addr} {ys : List V}, RowsW H as xss → as[i]? = some b → as.Nodup → RowsW (upd H b (.lst ys)) as (xss.set i ys)
  | _, _, _, _, _, .nil, e, _ => by simp at e
  | a :: as, _ :: xss, 0, b, ys, .cons r t, e, nd => by
    simp at e; subst e
    refine .cons upd_same (RowsW.mono t fun c hc o q => ?_)
    have ne : c ≠ a := fun z => (List.nodup_cons.mp nd).1 (z ▸ hc)
    rw [upd_ne ne]; exact q
  | a :: as, _ :: xss, i + 1, b, ys, .cons r t, e, nd => by
    have e' : as[i]? = some b := by simpa using e
    refine .cons ?_ (RowsW.set t e' (List.nodup_cons.mp nd).2)
    have ne : a ≠ b := fun z => (List.nodup_cons.mp nd).1 (by rw [z]; exact List.mem_of_getElem? e')
    rw [upd_ne ne]; exact r
theorem RowsW.app {H : Hp} : ∀ {as bs : List Addr} {xss yss : List (List V)}, RowsW H as xss → RowsW H bs yss → RowsW H (as ++ bs) (xss ++ yss)
  | _, _, _, _, .nil, h => h
  | _, _, _, _, .cons r t, h => .cons r (RowsW.app t h)
theorem RowsW.notin {H : Hp} {as : List Addr} {xss : List (List V)} {p : Addr} (h : RowsW H as xss) (hp : H p = none) : p ∉ as := fun hm => by
  obtain ⟨j, hj⟩ := List.getElem?_of_mem hm
  obtain ⟨ys, _, hy⟩ := RowsW.get' h hj
  rw [hp] at hy; cases hy
theorem RowsV.set {H : Hp} {a : Addr} {as : List Addr} {xss : List (List V)} {i : Nat} {b : Addr} {ys : List V} (h : RowsV H a as xss) (e : as[i]? = some b) (nd : (a :: as).Nodup) : RowsV (upd H b (.lst ys)) a as (xss.set i ys) := by
  have nd' := List.nodup_cons.mp nd
  refine ⟨?_, RowsW.set h.row e nd'.2⟩
  have ne : a ≠ b := fun z => nd'.1 (by rw [z]; exact List.mem_of_getElem? e)
  rw [upd_ne ne]; exact h.top
theorem RowsV.same {H H' : Hp} {a : Addr} {as : List Addr} {xss : List (List V)} (h : RowsV H a as xss) (s : Same H H') : RowsV H' a as xss := ⟨s _ _ h.top, RowsW.same h.row s⟩
theorem RowsV.app {H : Hp} {a p : Addr} {as : List Addr} {xss : List (List V)} {ys : List V} (h : RowsW H as xss) (ht : H a = some (.lst (as.map V.ref ++ [V.ref p]))) (hp : H p = some (.lst ys)) : RowsV H a (as ++ [p]) (xss ++ [ys]) :=
  ⟨by rw [ht, List.map_append]; rfl, RowsW.snoc h hp⟩
theorem RowsV.out {H : Hp} {a c : Addr} {as : List Addr} {xss : List (List V)} {o : HO} (h : RowsV H a as xss) (hc : c ∉ a :: as) : RowsV (upd H c o) a as xss :=
  ⟨by
    have ne : a ≠ c := fun z => hc (by rw [z]; exact List.mem_cons_self)
    rw [upd_ne ne]; exact h.top, RowsW.mono h.row fun b hb o' e => by
    have ne : b ≠ c := fun z => hc (List.mem_cons_of_mem _ (z ▸ hb))
    rw [upd_ne ne]; exact e⟩
theorem RowsV.live {H : Hp} {a : Addr} {as : List Addr} {xss : List (List V)} (h : RowsV H a as xss) {c : Addr} (hc : c ∈ a :: as) : H c ≠ none := fun z => by
  rcases List.mem_cons.mp hc with rfl | hc
  · rw [h.top] at z; cases z
  · exact RowsW.notin h.row z hc
theorem RowsV.notin {H : Hp} {a : Addr} {as : List Addr} {xss : List (List V)} (h : RowsV H a as xss) {c : Addr} (hc : H c = none) : c ∉ a :: as := fun z => h.live z hc
theorem RowsW.drop {H : Hp} : ∀ {as : List Addr} {xss : List (List V)} (k : Nat), RowsW H as xss → RowsW H (as.drop k) (xss.drop k)
  | _, _, 0, h => h
  | _, _, _ + 1, .nil => .nil
  | _, _, k + 1, .cons _ t => RowsW.drop k t
end L2

namespace L2
open PySem PySem.Spec PyProof.Rows
/-- a comprehension whose tests and elements may make something, and give plain values -/
theorem comp_pureG {J : It} {H : Hp} {xs : List V} {cp : List Nat} {σ : St} {tt : TT} {te : TE} {Q : VK} (Y : Yields J H xs) (p : V → Bool) (f : V → V) (hz : xs.length ≤ 10000)
    (ht : ∀ v ∈ xs, ∀ H', Same H H' → ∀ R : Bool → Hp → Prop, (∀ H'', Same H' H'' → R (p v) H'') → tt (cst cp σ (some v)) H' R)
    (he : ∀ v ∈ xs, p v = true → ∀ H', Same H H' → ∀ R : VK, (∀ H'', Same H' H'' → R (f v) H'') → te (cst cp σ (some v)) H' R)
    (hQ : ∀ D H', H D = none → Same H H' → H' D = some (.lst ((xs.filter p).map f)) → Q (.ref D) H') :
    ∀ D, H D = none → ∃ W : Nat → Nat → Hp → Prop, (∃ m, W 0 m (upd H D (.lst []))) ∧ ∀ i m H, W i m H →
      (J.stop i H ∧ Q (.ref D) H) ∨ (J.go i H ∧ ∀ v H', J.yld i H v H' → tt (cst cp σ (some v)) H' fun b H2 =>
        if b = true then te (cst cp σ (some v)) H2 fun y H3 => ∃ ys, H3 D = some (.lst ys) ∧ ys.length < sizeLine ∧ ∃ m', m' < m ∧ W (i + 1) m' (upd H3 D (.lst (ys ++ [y])))
        else ∃ m', m' < m ∧ W (i + 1) m' H2) := by
  intro D hD
  refine ⟨fun i m H' => m = xs.length - i ∧ i ≤ xs.length ∧ Same H H' ∧ H' D = some (.lst (((xs.take i).filter p).map f)), ⟨xs.length, by simp, Nat.zero_le _, Same.upd_new hD, by rw [upd_same]; rfl⟩, ?_⟩
  rintro i m H1 ⟨rfl, hi, sm, hd⟩
  by_cases hlt : i < xs.length
  · have e : xs[i]? = some xs[i] := List.getElem?_eq_getElem hlt
    have hm : xs[i] ∈ xs := List.getElem_mem hlt
    obtain ⟨gg, yl⟩ := Y.go i _ _ sm e
    refine .inr ⟨gg, fun v H' y => ?_⟩
    obtain ⟨rfl, rfl⟩ := yl v H' y
    refine ht _ hm _ sm _ fun H2 s2 => ?_
    have tk := take_next e
    have la : (((xs.take i).filter p).map f).length ≤ i := by
      have h2 := List.length_filter_le p (xs.take i)
      rw [List.length_map]
      rw [List.length_take] at h2
      omega
    by_cases hp : p xs[i] = true
    · rw [if_pos hp]
      refine he _ hm hp _ (sm.trans s2) _ fun H3 s3 => ?_
      refine ⟨_, s3 _ _ (s2 _ _ hd), line100 (by omega), xs.length - (i + 1), by omega, rfl, hlt, ((sm.trans s2).trans s3).upd_in hD, ?_⟩
      rw [upd_same, tk, List.filter_append, List.filter_cons, if_pos hp, List.filter_nil, List.map_append]; rfl
    · rw [if_neg hp]
      refine ⟨xs.length - (i + 1), by omega, rfl, hlt, sm.trans s2, ?_⟩
      rw [tk, List.filter_append, List.filter_cons, if_neg hp, List.filter_nil, List.append_nil]
      exact s2 _ _ hd
  · have e : i = xs.length := by omega
    subst e
    refine .inl ⟨Y.stop _ _ sm (Nat.le_refl _), ?_⟩
    rw [List.take_length] at hd
    exact hQ D H1 hD sm hd
theorem comp_listG {K : PySem.W.Frag} {tl : TE} {cp : List Nat} {tt : TT} {te : TE} {σ : St} {H : Hp} {Q : VK} {a : Addr} {xs : List V} (hl : ∀ R : VK, R (.ref a) H → tl σ H R) (h : H a = some (.lst xs)) (p : V → Bool) (f : V → V) (hz : xs.length ≤ 10000)
    (ht : ∀ v ∈ xs, ∀ H', Same H H' → ∀ R : Bool → Hp → Prop, (∀ H'', Same H' H'' → R (p v) H'') → tt (cst cp σ (some v)) H' R)
    (he : ∀ v ∈ xs, p v = true → ∀ H', Same H H' → ∀ R : VK, (∀ H'', Same H' H'' → R (f v) H'') → te (cst cp σ (some v)) H' R)
    (hQ : ∀ D H', H D = none → Same H H' → H' D = some (.lst ((xs.filter p).map f)) → Q (.ref D) H') : tComp (iL K tl) cp tt te σ H Q := by
  refine hl _ ?_
  rw [onL_of h]
  exact comp_pureG (yields_list h) p f hz ht he hQ
/-! ## lines of numbers and holes -/
def intsOf (l : List V) : List Int := l.filterMap fun v => match v with | .int i => some i | _ => none
def readV (vss : List (List V)) : List Int := (vss.reverse.map intsOf).flatten
def colV (vss : List (List V)) (p : Nat) : List V := (vss.filter fun r => decide (p < r.length)).map fun r => r.getD p .non
def widthV (vss : List (List V)) : Nat := (vss.headD []).length
def turnV (vss : List (List V)) : List (List V) := (List.range (widthV vss)).map (colV vss)
def holesV (l : List V) : Nat := l.countP fun z => eqV z .non
def riseV (l : List V) : Bool := decide (l = List.replicate (holesV l) .non ++ (sortZ (intsOf l)).map V.int)
def shapeB (ls : List Int) : Bool := decide (ls = sortR ls) && ls.all fun x => decide (1 ≤ x)
def lensV (vss : List (List V)) : List Int := vss.map fun r => (r.length : Int)
def holedV (vss : List (List V)) : Bool := shapeB (lensV vss) && decide (readV vss).Nodup && vss.all riseV && (turnV vss).all riseV
end L2

namespace L2
open PySem PySem.Spec PyProof.Rows RS
theorem pi_lK {X : Cx} {tg : Expr} {l : Expr} {tl : TE} {K : PySem.W.Frag} (hK : X.K = K) (hl : PE X l tl) : PI X tg l (iL K tl) := by subst hK; exact pi_l hl
/-! ## the least numbers of stairs made holes -/
/-- a number, or a hole where it is among low -/
def hol (low : List Int) (n : Int) : V := if n ∈ low then .non else .int n
def holR (low : List Int) (R : List (List Int)) : List (List V) := R.map fun r => r.map (hol low)
/-- low holds with a number all lesser ones of R -/
def Down (low : List Int) (R : List (List Int)) : Prop := ∀ x ∈ R.flatten, ∀ y ∈ R.flatten, x < y → y ∈ low → x ∈ low
end L2

namespace L2
open PySem PySem.Spec PyProof.Rows RS
section
variable {X : Cx}
def rNotT : R2 := fun x y H Q => onB x fun b => y = .bl true ∧ Q (.bl (!b)) H
def rIsT : R2 := fun x y H Q => onB x fun b => y = .bl true ∧ Q (.bl b) H
@[simp] theorem rd_notT {b : Bool} {H : Hp} {Q : VK} : rNotT (.bl b) (.bl true) H Q = Q (.bl (!b)) H := by simp [rNotT]
@[simp] theorem rd_isT {b : Bool} {H : Hp} {Q : VK} : rIsT (.bl b) (.bl true) H Q = Q (.bl b) H := by simp [rIsT]
end
/-! ## sliding -/
def cellV (X : List (List V)) (i j : Nat) : Option V := (X[i]?).bind fun r => r[j]?
def setV (X : List (List V)) (i j : Nat) (v : V) : List (List V) := X.set i ((X.getD i []).set j v)
theorem getD_row {X : List (List V)} {i : Nat} {r : List V} (h : X[i]? = some r) : X.getD i [] = r := by rw [List.getD_eq_getElem?_getD, h]; rfl
theorem setV_row {X : List (List V)} {i j : Nat} {v : V} (k : Nat) : (setV X i j v)[k]? = (X[k]?).map fun r => if k = i then r.set j v else r := by
  unfold setV
  by_cases h : k = i
  · subst h
    rw [List.getElem?_set]
    cases e : X[k]? with
    | none => simp [List.getElem?_eq_none_iff.mp e]
    | some r =>
      have := (List.getElem?_eq_some_iff.mp e).1
      rw [if_pos rfl, if_pos this, getD_row e]; simp
  · rw [List.getElem?_set_ne (Ne.symm h)]
    cases X[k]? with
    | none => rfl
    | some r => simp [h]
theorem cell_setV {X : List (List V)} {i j : Nat} {v : V} (k l : Nat) : cellV (setV X i j v) k l = (cellV X k l).map fun w => if k = i ∧ l = j then v else w := by
  unfold cellV
  rw [setV_row]
  cases X[k]? with
  | none => rfl
  | some r =>
    by_cases h : k = i
    · simp only [h, if_true, Option.map_some, Option.bind_some, true_and]
      rw [List.getElem?_set]
      by_cases hl : l = j
      · subst hl
        by_cases hlt : l < r.length
        · simp [hlt]
        · simp [hlt]
      · rw [if_neg (Ne.symm hl)]
        cases r[l]? <;> simp [hl]
    · simp only [h, if_false, Option.map_some, Option.bind_some, false_and]
      cases r[l]? <;> simp
inductive SlidR : List (List V) → Nat → Nat → List (List V) × Nat → Prop
  | stop {X : List (List V)} {i j : Nat} : cellV X i (j + 1) = none → cellV X (i + 1) j = none → SlidR X i j ((X.set i ((X.getD i []).take j)).filter (fun r => !r.isEmpty), i)
  | right {X : List (List V)} {i j : Nat} {r : Int} {F : List (List V) × Nat} : cellV X i (j + 1) = some (.int r) → (cellV X (i + 1) j = none ∨ ∃ b, cellV X (i + 1) j = some (.int b) ∧ ¬ b < r) → SlidR (setV X i j (.int r)) i (j + 1) F → SlidR X i j F
  | down {X : List (List V)} {i j : Nat} {b : Int} {F : List (List V) × Nat} : cellV X (i + 1) j = some (.int b) → (cellV X i (j + 1) = none ∨ ∃ r, cellV X i (j + 1) = some (.int r) ∧ b < r) → SlidR (setV X i j (.int b)) (i + 1) j F → SlidR X i j F
/-- numbers stand from the place hs i on in row i -/
def NumF (hs : Nat → Nat) (X : List (List V)) : Prop := ∀ i j v, cellV X i j = some v → hs i ≤ j → ∃ n, v = .int n
theorem NumF.set {hs : Nat → Nat} {X : List (List V)} (h : NumF hs X) (i j : Nat) (n : Int) : NumF hs (setV X i j (.int n)) := fun k l v e hk => by
  rw [cell_setV] at e
  cases c : cellV X k l with
  | none => rw [c] at e; cases e
  | some w =>
    rw [c] at e
    simp only [Option.map_some, Option.some.injEq] at e
    by_cases hh : k = i ∧ l = j
    · rw [if_pos hh] at e; exact ⟨n, e.symm⟩
    · rw [if_neg hh] at e; subst e; exact h k l w c hk
end L2
namespace L2
open PySem PySem.Spec PyProof.Rows
end L2
namespace L2
end L2

namespace L2
open PySem PySem.Spec PyProof.Rows RS
/-! ## stairs with holes, place by place -/
def DecV (R : List (List V)) : Prop := R.Pairwise (fun r s => s.length ≤ r.length)
theorem DecV.column_get : ∀ {R : List (List V)}, DecV R → ∀ (p q : Nat), (colV R p)[q]? = (R[q]?).bind (fun r => r[p]?)
  | [], _, p, q => by simp [colV]
  | r :: R, h, p, q => by
    have h1 := List.pairwise_cons.mp h
    have ih := DecV.column_get h1.2 p
    by_cases hp : p < r.length
    · have e : colV (r :: R) p = r.getD p .non :: colV R p := by
        unfold colV
        rw [List.filter_cons, if_pos (decide_eq_true hp), List.map_cons]
      rw [e]
      cases q with
      | zero => simp [List.getD_eq_getElem?_getD, List.getElem?_eq_getElem hp]
      | succ q => simp only [List.getElem?_cons_succ]; exact ih q
    · have e : colV (r :: R) p = [] := by
        unfold colV
        rw [List.filter_eq_nil_iff.mpr]
        · rfl
        · intro s hs
          have : s.length ≤ r.length := by
            rcases List.mem_cons.mp hs with rfl | hs
            · exact Nat.le_refl _
            · exact h1.1 s hs
          simp; omega
      rw [e]
      cases hq : (r :: R)[q]? with
      | none => simp
      | some s =>
        have hs : s ∈ r :: R := List.mem_of_getElem? hq
        have : s.length ≤ r.length := by
          rcases List.mem_cons.mp hs with rfl | hs
          · exact Nat.le_refl _
          · exact h1.1 s hs
        simp only [Option.bind_some, List.getElem?_nil]
        exact (List.getElem?_eq_none (by omega)).symm

theorem shape_dec {X : List (List V)} (h : shapeB (lensV X) = true) : DecV X ∧ ∀ r ∈ X, r ≠ [] := by
  unfold shapeB at h
  rw [Bool.and_eq_true, decide_eq_true_eq] at h
  constructor
  · have := sortR_ge (lensV X)
    rw [← h.1] at this
    unfold lensV at this
    rw [List.pairwise_map] at this
    exact this.imp fun {r s} (g : (r.length : Int) ≥ (s.length : Int)) => by omega
  · intro r hr z
    have := List.all_eq_true.mp h.2 (r.length : Int) (List.mem_map.mpr ⟨r, hr, rfl⟩)
    rw [z] at this
    simp at this
structure HolF (X : List (List V)) : Prop where
  dec : DecV X
  pos : ∀ r ∈ X, r ≠ []
  rows : ∀ r ∈ X, riseV r = true
  cols : ∀ p, p < widthV X → riseV (colV X p) = true
  nd : (readV X).Nodup
def hsV (X : List (List V)) (i : Nat) : Nat := holesV (X.getD i [])
end L2

namespace L2
open PySem PySem.Spec PyProof.Rows
/-! ## range(a, b, -1) -/
def Itd (hi : Int) (n : Nat) : It := ⟨fun i _ => i < n, fun i H x H' => H' = H ∧ x = .int (hi - i), fun i _ => n ≤ i⟩
theorem turn_down {P : Program} {w : World} {K : PySem.W.Frag} {tg : Expr} (it : Addr) (hi : Int) (n : Nat) : Turn P w K tg (Itd hi n) [it] it (fun i h => IsRangeIter h it (hi + (i : Nat) * (-1)) ((n : Int) - (i : Nat)) (-1)) where
  mem := by simp
  obj := fun i h st b hb => by
    have e : b = it := by simpa using hb
    subst e
    exact ⟨_, st, fun v z => by
      have z' : Data.fields _ = Data.cell v := z
      cases z'⟩
  keep := fun i h h' st k => k it (by simp) _ st
  item := by
    intro X hP hw hK hc i pins s σ H E I hf st hg
    subst hP hw hK
    obtain ⟨f0, f1, f2, f3, f4, f5⟩ := hf it (by simp)
    have W := Walks.range (prog := X.prog) (w := X.w) (I.ok.hd hc) it hi (-1) n
    refine W.item i s _ _ hg st fun v h' tk hv st' kk => ?_
    obtain ⟨t, rfl⟩ := hv
    have I1 : Inv X pins σ H { s with heap := h', toks := tk } := I.turned (fun b o hb e => kk b o (by simpa using hb) e) f0 f1 f3 f4 f5
    refine ⟨_, rfl, go_of (s := { s with heap := h', toks := tk }) (n := "range_iterator") st' rfl rfl (by decide) ⟨.int (hi - i), H, I1, ⟨t, ?_⟩, ⟨rfl, rfl⟩, st', fun b hb => (hf b hb).1⟩⟩
    congr 1
    omega
  done := by
    intro X hP hw hK hc i pins s σ H E I hf st hg
    subst hP hw hK
    obtain ⟨f0, f1, f2, f3, f4, f5⟩ := hf it (by simp)
    exact wpAny_pyNext_range_end (I.ok.hd hc) st (by have : n ≤ i := hg; omega) fun h' eb => ⟨rfl, I.turned (t' := s.toks) (fun b o hb e => eb b o hb e) f0 f1 f3 f4 f5⟩
  self := fun _ _ _ _ _ st h => wpAny_pyIter_rangeiter st h
section
variable {X : Cx} {tg : Expr}
def iDown (ta : TA) : TI := fun σ H R => ta σ H fun vs H1 => ∃ i j : Int, vs = [.int i, .int j, .int (-1)] ∧ (-(2 ^ 30) ≤ i ∧ i < 2 ^ 30 ∧ -(2 ^ 30) ≤ j ∧ j < 2 ^ 30) ∧ R (Itd i (i - j).toNat) H1
theorem down_it {pins : List (Addr × Obj)} {σ : St} {H : Hp} {s : Shared} {R : It → Hp → Prop} {E : Value → Shared → Prop} {lo hi : Int} {t u v : Tok} {tk : Nat} (I : Inv X pins σ H s) (h1 : -(2 ^ 30) ≤ lo) (h2 : lo < 2 ^ 30) (h3 : -(2 ^ 30) ≤ hi) (h4 : hi < 2 ^ 30)
    (q : R (Itd lo (lo - hi).toNat) H) : wpAny (model X.prog X.w) X.A (pyIter (.ref s.heap.objs.size)) (PIE X pins σ tg R) E { s with heap := s.heap.push { cls := .type "range", data := .fields #[.int lo t, .int hi u, .int (-1) v] }, toks := tk } := by
  have sz : Builtin.Range.rangeSize lo hi (-1) = ((lo - hi).toNat : Int) := by
    unfold Builtin.Range.rangeSize
    rw [if_neg (by decide)]
    by_cases h : lo > hi
    · rw [if_pos h, show (- -1 : Int) = 1 by decide, Int.ediv_one]; omega
    · rw [if_neg h]; omega
  refine wpAny_pyIter_range (IsRange.new ..) ?_ ?_
  · unfold Builtin.Range.small
    simp only [sz, Builtin.Range.rangeFitsLong, Bool.and_eq_true, Bool.or_eq_true, decide_eq_true_eq, beq_iff_eq, show ¬ ((-1 : Int) > 0) by decide, if_false]
    omega
  have I1 : Inv X pins σ H { s with heap := s.heap.push { cls := .type "range", data := .fields #[.int lo t, .int hi u, .int (-1) v] }, toks := tk } := I.kept fun b o e => Heap.get?_push_of_some _ e
  refine ⟨(s.heap.push { cls := .type "range", data := .fields #[.int lo t, .int hi u, .int (-1) v] }).objs.size, [(s.heap.push { cls := .type "range", data := .fields #[.int lo t, .int hi u, .int (-1) v] }).objs.size], _, _, H, rfl,
    I1.kept (t' := tk) fun b o e => Heap.get?_push_of_some _ e, turn_down _ lo (lo - hi).toNat, ?_, fun b hb => ?_, q⟩
  · have e1 : lo + ((0 : Nat) : Int) * (-1) = lo := by simp
    have e2 : (((lo - hi).toNat : Nat) : Int) - ((0 : Nat) : Int) = Builtin.Range.rangeSize lo hi (-1) := by rw [sz]; omega
    show IsRangeIter _ _ (lo + ((0 : Nat) : Int) * (-1)) ((((lo - hi).toNat : Nat) : Int) - ((0 : Nat) : Int)) (-1)
    rw [e1, e2]
    exact Heap.get?_push_size _ rfl
  · have e : b = (s.heap.push { cls := .type "range", data := .fields #[.int lo t, .int hi u, .int (-1) v] }).objs.size := by simpa using hb
    subst e
    exact I1.fpOk (Nat.le_refl _) (I1.hok.fresh (Nat.le_refl _))
theorem pi_range3 {a b c : Expr} {ta : TA} {p pos : Pos} (hg : Gl X "range") (hm : X.mg "range" = none) (ha : PA X [a, b, c] ta) (hs : starEach [a, b, c] X.env = (false, eval a X.env) :: starEach [b, c] X.env := by rfl) (hpl : (backTo pos (starEach [b, c] X.env)).any (·.1) = false := by rfl) :
    PI X tg (.Call (.Name "range" p) [a, b, c] [] pos) (iDown ta) := by
  intro pins s σ H R I h
  refine Call_ (ld_blt I hg hm boot_range (PyProof.Rows.callWith_type1 (thn (ha pos pins s σ H _ I h) fun us s1 ⟨vs, H1, I1, r1, q1⟩ => ?_) hs hpl))
  obtain ⟨i, j, e, ⟨q1, q2, q3, q4⟩, q⟩ := q1
  subst e
  cases r1 with
  | cons r rr =>
    cases rr with
    | cons r' rr =>
      cases rr with
      | cons r'' rr =>
        cases rr
        obtain ⟨t, rfl⟩ := r
        obtain ⟨t', rfl⟩ := r'
        obtain ⟨t'', rfl⟩ := r''
        exact call_range_3 (by decide) (down_it I1 q1 q2 q3 q4 q) (.inl (PyProof.noPylong_small (by omega)))
theorem for_downF {wi : TI} {g : TG} {tb : TS} {D : Ends} {σ : St} {H : Hp} (hi : Int) (n : Nat) (hn : ∀ N : It → Hp → Prop, N (Itd hi n) H → wi σ H N) (Pv : Nat → St → Hp → Prop) (h0 : Pv 0 σ H)
    (hs : ∀ i σ H, i < n → Pv i σ H → g (.int (hi - (i : Nat))) σ H fun σ2 H2 => tb { D with nx := Pv (i + 1), ct := Pv (i + 1), bk := D.nx } σ2 H2) (hd : ∀ σ H, Pv n σ H → D.nx σ H) : tFor wi g tb D σ H := by
  refine hn _ ⟨fun i m σ H => m = n - i ∧ i ≤ n ∧ Pv i σ H, ⟨n, by simp, Nat.zero_le _, h0⟩, ?_⟩
  rintro i m σ H ⟨rfl, hi', p⟩
  by_cases hlt : i < n
  · refine .inr ⟨hlt, Pv (i + 1), fun σ' H' p' => ⟨n - (i + 1), by omega, rfl, hlt, p'⟩, fun x H' y => ?_⟩
    obtain ⟨e, y⟩ := y
    subst e y
    exact hs i σ _ hlt p
  · have e : i = n := by omega
    subst e
    exact .inl ⟨Nat.le_refl _, hd σ H p⟩
end
end L2
namespace L2
open PySem PySem.Spec PyProof.Rows
end L2
namespace L2
open PySem PySem.Spec PyProof.Rows
theorem rd_down {ta : TA} {σ : St} {H : Hp} {R : It → Hp → Prop} : iDown ta σ H R = ta σ H fun vs H1 => ∃ i j : Int, vs = [.int i, .int j, .int (-1)] ∧ (-(2 ^ 30) ≤ i ∧ i < 2 ^ 30 ∧ -(2 ^ 30) ≤ j ∧ j < 2 ^ 30) ∧ R (Itd i (i - j).toNat) H1 := rfl
end L2

namespace L2
open PySem PySem.Spec PyProof.Rows
/-! ## a list in a list of lists -/
section
variable {X : Cx}
def deepIn (x y : V) (H : Hp) (R : Bool → Prop) : Prop := ∃ d ds, Dp H x d ∧ Dp H y (.list ds) ∧ PyData.canLayAll0 ds = true ∧ d.canLay0 = true ∧ d.depth ≤ 60 ∧ R (ds.any fun e => PyData.eqv e d)
def rInD : R2 := fun x y H Q => match x with
  | .ref a => deepIn (.ref a) y H fun b => Q (.bl b) H
  | x => rInF x y H Q
def rNotInD : R2 := fun x y H Q => match x with
  | .ref a => deepIn (.ref a) y H fun b => Q (.bl (!b)) H
  | x => rNotInF x y H Q
section
variable {H : Hp} {Q : VK}
@[simp] theorem rd_inDI {i : Int} {y : V} : rInD (.int i) y H Q = rInF (.int i) y H Q := rfl
@[simp] theorem rd_inDN {y : V} : rInD .non y H Q = rInF .non y H Q := rfl
@[simp] theorem rd_notinDI {i : Int} {y : V} : rNotInD (.int i) y H Q = rNotInF (.int i) y H Q := rfl
@[simp] theorem rd_notinDN {y : V} : rNotInD .non y H Q = rNotInF .non y H Q := rfl
end
end
end L2
namespace L2
open PySem PySem.Spec PyProof.Rows
/-! ## rows picked from rows by what stands in them -/
def rowOf (H : Hp) (b : Addr) : List Int := match H b with | some (.lst xs) => xs.map (fun v => match v with | .int i => i | _ => 0) | _ => []
theorem rowOf_of {H : Hp} {b : Addr} {x : List Int} (h : H b = some (.lst (x.map V.int))) : rowOf H b = x := by
  unfold rowOf; rw [h]; simp only [List.map_map]; exact List.map_id' x
end L2

namespace L2
open PySem PySem.Spec PyProof.Rows
/-! ## nested literals, list(range(a, b)), //, *= and sum of any size -/
theorem star_lst (es' : List Expr) (pos : Pos) (es : List Expr) (env : Env) : starEach (.List es' pos :: es) env = (false, eval (.List es' pos) env) :: starEach es env := rfl
def rngZ (i : Int) (n : Nat) : List Int := (List.range n).map fun (k : Nat) => i + (k : Int)
theorem rngZ_len (i : Int) (n : Nat) : (rngZ i n).length = n := by simp [rngZ]
theorem vals_get {xs : List V} {us : List Value} (hl : xs.length = us.length) (h : ∀ (i : Nat) x u, xs[i]? = some x → us[i]? = some u → RelV x u) : Vals xs us := by
  induction xs generalizing us with
  | nil => cases us with
    | nil => exact .nil
    | cons u us => simp at hl
  | cons x xs ih => cases us with
    | nil => simp at hl
    | cons u us => exact .cons (h 0 x u rfl rfl) (ih (by simpa using hl) fun i x u h1 h2 => h (i + 1) x u (by simpa using h1) (by simpa using h2))
section
variable {X : Cx}
def tLRng (ta : TA) : TE := fun σ H Q => ta σ H fun vs H1 => on2 vs fun x y => onI x fun i => onI y fun j => (-(2 ^ 62) ≤ i ∧ i < 2 ^ 62 ∧ -(2 ^ 62) ≤ j ∧ j < 2 ^ 62) ∧ (j - i).toNat ≤ 1000 ∧ new H1 (.lst ((rngZ i (j - i).toNat).map V.int)) Q
theorem pe_listRng {a b : Expr} {ta : TA} {p p' pos pos' : Pos} (hgl : Gl X "list") (hml : X.mg "list" = none) (hgr : Gl X "range") (hmr : X.mg "range" = none) (ha : PA X [a, b] ta) (hc : X.calm = true)
    (hs : starEach [a, b] X.env = [(false, eval a X.env), (false, eval b X.env)] := by rfl) (hs3 : starEach [b] X.env = [(false, eval b X.env)] := by rfl)
    (hs2 : starEach [.Call (.Name "range" p') [a, b] [] pos'] X.env = [(false, eval (.Call (.Name "range" p') [a, b] [] pos') X.env)] := by rfl) :
    PE X (.Call (.Name "list" p) [.Call (.Name "range" p') [a, b] [] pos'] [] pos) (tLRng ta) := by
  intro pins s σ H Q I h
  refine wpAny_Call_Name_kw (ld_blt I hgl hml BI.list ?_ (by decide) (by decide))
  refine PyProof.Rows.callWith_type1 ?_ hs2 rfl
  rw [hs2]
  show wpAny _ _ (spliced ((false, eval (.Call (.Name "range" p') [a, b] [] pos') X.env) :: [])) _ _ s
  refine Calls.spliced_cons ?_
  refine Call_ (ld_blt I hgr hmr boot_range (PyProof.Rows.callWith_type1 (thn (ha pos' pins s σ H _ I h) fun us s1 ⟨vs, H1, I1, r1, q1⟩ => ?_) (by rw [hs, hs3]) (by rw [hs3]; rfl)))
  obtain ⟨x, y, rfl, q1⟩ := on2.out q1
  obtain ⟨i, rfl, q1⟩ := onI.out q1
  obtain ⟨j, rfl, ⟨b1, b2, b3, b4⟩, hz, q⟩ := onI.out q1
  cases r1 with
  | cons r rr =>
    cases rr with
    | cons r' rr =>
      cases rr
      obtain ⟨t, rfl⟩ := r
      obtain ⟨t', rfl⟩ := r'
      refine call_range_2 ?_
      refine Calls.spliced_nil ?_
      have hrs : Builtin.Range.rangeSize i j 1 = ((j - i).toNat : Int) := by rw [rangeSize_one]; split <;> omega
      refine call_list_range (s := { s1 with heap := s1.heap.push { cls := .type "range", data := .fields #[.int i t, .int j t', .int 1 s1.toks] }, toks := s1.toks + 1 }) (I1.ok.hd hc) (IsRange.new ..) (small_one b1 b2 b3 b4) hrs (Nat.le_trans hz (by decide)) fun h' tk acc c' hk hS hacc => ?_
      have hsz : (s1.heap.push { cls := .type "range", data := .fields #[.int i t, .int j t', .int 1 s1.toks] }).objs.size = s1.heap.objs.size + 1 := Heap.size_push ..
      rw [hsz] at hS ⊢
      obtain ⟨a1, a2⟩ := hacc
      have rv : Vals ((rngZ i (j - i).toNat).map V.int) acc.toList := by
        refine vals_get (by rw [List.length_map, rngZ_len, Array.length_toList, a1]) fun k x u e1 e2 => ?_
        rw [Array.getElem?_toList] at e2
        obtain ⟨tt, rfl⟩ := a2 k u e2
        have hk' : k < (j - i).toNat := by
          have := (List.getElem?_eq_some_iff.mp e1).1
          rw [List.length_map, rngZ_len] at this
          exact this
        unfold rngZ at e1
        rw [List.map_map, List.getElem?_map, List.getElem?_range hk'] at e1
        have : x = .int (i + (k : Int)) := by simpa using e1.symm
        subst this
        exact ⟨tt, by rw [Int.mul_one]⟩
      refine ⟨.ref (s1.heap.objs.size + 1), _, I1.laid (t' := tk) (o := .lst ((rngZ i (j - i).toNat).map V.int)) (fun b o eo => hk b o (Heap.get?_push_of_some _ eo)) (by omega) ⟨by rw [List.length_map, rngZ_len]; exact Nat.le_trans hz (by decide), acc.toList, c', rv, ?_⟩, rfl, q _ (I1.hok.fresh (by omega))⟩
      rw [hS]
@[simp] theorem rd_LRng {ta : TA} {σ : St} {H : Hp} {Q : VK} : tLRng ta σ H Q = ta σ H fun vs H1 => on2 vs fun x y => onI x fun i => onI y fun j => (-(2 ^ 62) ≤ i ∧ i < 2 ^ 62 ∧ -(2 ^ 62) ≤ j ∧ j < 2 ^ 62) ∧ (j - i).toNat ≤ 1000 ∧ new H1 (.lst ((rngZ i (j - i).toNat).map V.int)) Q := rfl
/-- sum of any numbers -/
def rSumB : List V → Hp → VK → Prop := fun vs H Q => on1 vs fun x => onL H x fun _ xs => ∃ ns : List Int, xs = ns.map V.int ∧ Q (.int ns.sum) H
theorem f_sumB (hc : X.calm = true) : CallR X (.builtin "sum") rSumB := by
  intro pins s σ H xs us Q I r h
  obtain ⟨x, rfl, h1⟩ := on1.out h
  obtain ⟨p, ys, rfl, hp, ns, rfl, q⟩ := onL.out h1
  obtain ⟨u, rfl, rx⟩ := vals1 r
  cases rx
  obtain ⟨its, r', pl, hz'⟩ := I.list (SqL.of hp)
  obtain ⟨ps, e1, e2⟩ := ints_items (ints_of_vals r')
  have hl := pl.isList
  rw [e1] at hl
  have hps : ps.length = ns.length := by rw [← e2, List.length_map]
  refine sum_intListG (I.ok.hd hc) hl fun h' tk t' hk => ?_
  refine ⟨.int _, H, I.kept hk, ⟨_, rfl⟩, ?_⟩
  rw [preSum_eq, List.take_of_length_le (by simp)]
  simp only [e2]
  exact q
@[simp] theorem rd_sumB {vs : List V} {H : Hp} {Q : VK} : rSumB vs H Q = on1 vs fun x => onL H x fun _ xs => ∃ ns : List Int, xs = ns.map V.int ∧ Q (.int ns.sum) H := rfl
/-- // by a positive number of at most 2000 binary places -/
def CDivB (i j : Int) : Prop := 0 < j ∧ j < 2 ^ 2000
def ipM : TIp := fun x y H Q => onI x fun i => onI y fun j => CMul i j ∧ Q (.int (i * j)) H
end
/-- a comprehension over range(n), elements that may make something -/
theorem comp_rngG {l : TA} {cp : List Nat} {te : TE} {σ : St} {H : Hp} {Q : VK} {n : Nat} (hl : ∀ R : List V → Hp → Prop, R [V.int (n : Int)] H → l σ H R) (hz : n ≤ 10000) (f : Nat → V)
    (he : ∀ i, i < n → ∀ H', Same H H' → ∀ R : VK, (∀ H'', Same H' H'' → R (f i) H'') → te (cst cp σ (some (.int (i : Int)))) H' R)
    (hQ : ∀ D H', H D = none → Same H H' → H' D = some (.lst ((List.range n).map f)) → Q (.ref D) H') : tComp (iRng1 l) cp tNoTest te σ H Q := by
  rw [rd_comp, rd_rng1]
  refine hl _ ?_
  rw [rd_on1, rd_onI]
  refine ⟨⟨by omega, by omega⟩, ?_⟩
  rw [Int.toNat_natCast]
  refine comp_pureG yields_range (fun _ => true) (fun v => match v with | .int k => f k.toNat | _ => .non) (by simp; omega) (fun v hv H2 s2 R h => h H2 (fun _ _ e => e)) (fun v hv hp H2 s2 R h => ?_) (fun D H' hD s' hd => ?_)
  · obtain ⟨j, hj, rfl⟩ := List.mem_map.mp hv
    simp only [Int.zero_add, Int.toNat_natCast] at h ⊢
    exact he j (List.mem_range.mp hj) H2 s2 R h
  · refine hQ D H' hD s' ?_
    rw [hd, List.filter_eq_self.mpr (fun _ _ => rfl), List.map_map]
    congr 2
    apply List.map_congr_left
    intro i _
    simp
end L2

namespace L2
open PySem PySem.Spec PyProof.Rows
/-! ## exceptions of one's own: raised, flying out of a def, caught -/
theorem ObjOk.here {P : Program} {w : World} {H : Hp} {h : Heap} {a : Addr} {o : HO} (x : ObjOk P w H h a o) : ∃ u, h.get? a = some u := by
  cases o with
  | lst xs => obtain ⟨_, _, _, _, e⟩ := x; exact ⟨_, e⟩
  | tup xs => obtain ⟨_, _, _, u, e, _⟩ := x; exact ⟨u, e⟩
  | dK kvs => obtain ⟨_, _, _, _, u, _, _, e, _⟩ := x; exact ⟨u, e⟩
  | dT kvs => obtain ⟨_, _, _, _, u, _, _, e, _⟩ := x; exact ⟨u, e⟩
  | set S n => obtain ⟨u, _, _, _, e, _⟩ := x; exact ⟨u, e⟩
  | ins C dx fs => obtain ⟨_, _, _, e, _⟩ := x; exact ⟨_, e⟩
  | own y => exact x
  | xd fs => obtain ⟨_, ⟨u, _, _, e, _⟩, _⟩ := x; exact ⟨u, e⟩
  | rng lo hi => obtain ⟨_, _, _, e⟩ := x; exact ⟨_, e⟩
  | frz ob u => obtain ⟨e, _⟩ := x; exact ⟨_, e⟩
  | tbl ps => exact ⟨_, (show h.get? a = some _ from x)⟩
  | met f y => exact ⟨_, (show h.get? a = some _ from x)⟩
  | ext φ => exact x.2.1
/-- how an exception lies behind a call: flying, all that is no frame in B -/
def CXx (P : Program) (w : World) : CXT := fun outer H s E ev s' => ∃ (e : Addr) (C a0 : Value) (B : Heap) (H' : Hp),
  ev = .ref e ∧ s'.os = s.os ∧ AllBare s'.gens ∧ Heap.FlyingW B outer e C a0 s'.heap ∧ HOk P w H' B ∧ H' e = none ∧
  (∀ b o, s.heap.get? b = some o → H b = none → b ∉ frs outer → B.get? b = some o) ∧ (∀ b o, s.heap.get? b = some o → b ∉ frs outer → ∃ o', B.get? b = some o') ∧ Un (frs outer) [] H H' s.heap s'.heap ∧ E C none H'
/-- what is known of an own exception class -/
theorem exc_in {K : PySem.W.Frag} {h : Heap} {C : Addr} {tl : List Value} {nid : String} (KX : K.In h) (q : PySem.W.excIn K C tl nid = true) :
    ∃ bm N nm qn bs hd sn sub ab col dd k0 k1 k2 k3 k5 mN, h.get? C = some (excClassObj nm qn C N bs bm hd sn sub ab col dd k0 k1 k2 k3 k5 nid) ∧ h.Ns N mN ∧ mN "__init__" = none ∧ OwnTail h tl bm := by
  unfold PySem.W.excIn at q
  split at q
  · rename_i dd cd sl lk
    split at q
    · rename_i C' bm k0 k1 k2 k3 n k5 em es
      simp only [Bool.and_eq_true, beq_iff_eq, Bool.not_eq_true'] at q
      obtain ⟨⟨⟨⟨⟨rfl, rfl⟩, del⟩, tin⟩, nin⟩, ini⟩ := q
      obtain ⟨nm, bs, mro, ns, qn, hd, sn, sub, ab, col, dl⟩ := cd
      dsimp only at em del nin ini
      subst em del
      obtain ⟨lsl⟩ := sl
      simp only at es
      subst es
      exact ⟨bm, ns, nm, qn, bs, hd, sn, sub, ab, col, dd, k0, k1, k2, k3, k5, _, KX _ _ lk, .of_isNs (PySem.W.isNs_of_in KX nin), PySem.W.nsMap_none_of_in KX nin ini, PySem.W.tail_of_in KX tin⟩
    · cases q
  · cases q
abbrev veTail : List Value := [.type "ValueError", .type "Exception", .type "BaseException", .type "object"]
section
variable {P : Program} {w : World} {K : PySem.W.Frag} {mg : Str → Option Value} {base : Heap}
/-- a new exception leaves the frame in which it was raised -/
theorem left_made {N : List Str} {qual : Str} {scope : Scope} {f : Addr} {cdv : Value} {A : Around} {outer : List Env} {s0 : Shared} {H0 : Hp} {E : XK} {C : Value} {pins : List (Addr × Obj)} {σ : St} {H : Hp} {s : Shared} {h' : Heap} {e : Addr} {us : List Value}
    (I : Inv (cxOf (CXx P w) P w K mg base N qual scope f cdv A outer s0 H0 E) pins σ H s) (hx : Heap.MadeExcOf s.heap h' e C us) (h : E C none H) : (cxOf (CXx P w) P w K mg base N qual scope f cdv A outer s0 H0 E).xe (.ref e) { s with heap := h' } := by
  have hin : ∀ env ∈ (envOfC qual scope s0.heap.objs.size f cdv :: outer), ∀ b, env.frame = some b → b ∈ frs (envOfC qual scope s0.heap.objs.size f cdv :: outer) := fun env he b hb => List.mem_filterMap.mpr ⟨env, he, hb⟩
  have nofr : ∀ b, H b ≠ none → b ∉ frs (envOfC qual scope s0.heap.objs.size f cdv :: outer) := fun b hb hm => hb (I.stkFree b hm)
  have hB : HOk P w H (PySem.W.hideAll s.heap (frs (envOfC qual scope s0.heap.objs.size f cdv :: outer))) := fun a o q =>
    (I.hok a o q).stay (fun b u hb eb => PySem.W.hideAll_get _ eb (nofr b (by
      rcases hb with rfl | hb
      · rw [q]; exact fun z => nomatch z
      · rw [hb]; exact fun z => nomatch z))) (fun _ z => z) fun _ _ z => z
  have hee : H e = none := by
    cases qe : H e with
    | none => rfl
    | some o =>
      obtain ⟨u, hu⟩ := (I.hok e o qe).here
      rw [hx.new] at hu; cases hu
  show wpAny (model P w) (A.deeper (envOfC qual scope s0.heap.objs.size f cdv)) (leaving (envOfC qual scope s0.heap.objs.size f cdv) (.ref e)) _ _ { s with heap := h' }
  refine wpAny_leaves_madeW (s := { s with heap := h' }) (L := s0.heap.objs.size) I.ok.frames rfl (fun b o z => PySem.W.of_hideAll _ z) (PySem.W.funFrames_hide I.stack hin) hx fun h2 t x1 x2 x3 x4 => ?_
  have keepB : ∀ b o, s.heap.get? b = some o → b ∉ frs (envOfC qual scope s0.heap.objs.size f cdv :: outer) → (PySem.W.hideAll s.heap (frs (envOfC qual scope s0.heap.objs.size f cdv :: outer))).get? b = some o := fun b o z n => PySem.W.hideAll_get _ z n
  have nolo : ∀ b o, s0.heap.get? b = some o → b ∉ frs outer → b ∉ frs (envOfC qual scope s0.heap.objs.size f cdv :: outer) := fun b o z n hm => by
    rcases List.mem_cons.mp (I.stkSub b hm) with q | q
    · have h1 := Heap.lt_size z
      have h2 : b = s0.heap.objs.size := q
      exact absurd h1 (by rw [h2]; exact Nat.lt_irrefl _)
    · exact n q
  have stays : ∀ b o, s.heap.get? b = some o → b ∉ frs (envOfC qual scope s0.heap.objs.size f cdv :: outer) → h2.get? b = some o := fun b o z n => x1.1 b o (keepB b o z n)
  have inA : ∀ b, b ∈ frs outer → b ∈ frs (envOfC qual scope s0.heap.objs.size f cdv :: outer) := fun b hb => by
    unfold frs at hb ⊢
    rw [List.filterMap_cons]
    show b ∈ (s0.heap.objs.size : Addr) :: _
    exact List.mem_cons_of_mem _ hb
  have slots : ∀ b o, s.heap.get? b = some o → b ∈ frs (envOfC qual scope s0.heap.objs.size f cdv :: outer) → ∃ sl, h2.get? b = some { o with slots := sl } := fun b o z n => by
    obtain ⟨_, o2, ho2, nf⟩ := I.stack.mem n
    rw [z] at ho2
    cases ho2
    exact x4 b o (hx.keeps b o z) nf
  have un := I.base
  have nx : ∀ b : Addr, b ∉ (cxOf (CXx P w) P w K mg base N qual scope f cdv A outer s0 H0 E).ex := fun b z => absurd (show b ∈ ([] : List Addr) from z) (by simp)
  refine ⟨e, C, .ref t, _, H, rfl, I.os, I.bare, x1, hB, hee, fun b o z n nf => keepB b o (un.keep b o z n nf (nx b)) (nolo b o z nf), fun b o z nf => ?_, ?_, h⟩
  · obtain ⟨o2, ho2⟩ := un.there b o z (nx b)
    exact ⟨o2, keepB b o2 ho2 (nolo b o z nf)⟩
  refine ⟨fun b o z n nf _ => stays b o (un.keep b o z n nf (nx b)) (nolo b o z nf), fun b o z n nf _ => ?_, fun b o z n _ => un.free b o z n (nx b), fun b o z _ => ?_, un.tups, un.frzs, un.tbls⟩
  · obtain ⟨sl, hs⟩ := un.slot b o z n nf (nx b)
    obtain ⟨sl2, hs2⟩ := slots b _ hs (inA b nf)
    exact ⟨sl2, hs2⟩
  · obtain ⟨o2, ho2⟩ := un.there b o z (nx b)
    by_cases hm : b ∈ frs (envOfC qual scope s0.heap.objs.size f cdv :: outer)
    · obtain ⟨sl, hs⟩ := slots b o2 ho2 hm
      exact ⟨_, hs⟩
    · exact ⟨_, stays b o2 ho2 hm⟩
/-- raise C("..") -/
def tRaise (E : XK) (C : Addr) : TS := fun _ _ H => E (.ref C) none H
theorem ps_raise {N : List Str} {qual : Str} {scope : Scope} {f : Addr} {cdv : Value} {A : Around} {outer : List Env} {s0 : Shared} {H0 : Hp} {E : XK} {x txt : Str} {C : Addr} {np cpos p1 pos : Pos} {j : Nat}
    (hg : Gl (cxOf (CXx P w) P w K mg base N qual scope f cdv A outer s0 H0 E) x) (hm : mg x = some (.ref C)) (hC : PySem.W.excIn K C veTail "ValueError.__new__" = true) (hd : A.handled = none) (hxd : (x == ("__debug__" : Str)) = false := by decide) :
    PS (cxOf (CXx P w) P w K mg base N qual scope f cdv A outer s0 H0 E) (.Raise (some (.Call (.Name x np) [.Constant (.str txt) j p1] [] cpos)) none pos) (tRaise E C) := by
  intro pins s σ H D I h
  obtain ⟨bm, Na, nm, qn, bs, hdd, sn, sub, ab, col, dd, k0, k1, k2, k3, k5, mN, oC, oN, oi, oT⟩ := exc_in I.ok.mod.kin hC
  refine wpAny_Raise_call_subT (C := C) (nm := nm) (q := qn) (N := Na) (bs := bs) (bm := bm) (hdct := hdd) (sn := sn) (sub := sub) (ab := ab) (col := col) (dd := dd) (k0 := k0) (k1 := k1) (k2 := k2) (k3 := k3) (k5 := k5) F.excBase_ValueError (mN := mN) (oT.hasType F.excBase_ValueError.hasBase) hd rfl oi (ld_glob I hg hm ⟨rfl, ?_⟩ hxd)
  have pa : PA (cxOf (CXx P w) P w K mg base N qual scope f cdv A outer s0 H0 E) [.Constant (.str txt) j p1] (tCons (tC (.str txt)) tNil) := pa_cons pe_str pa_nil
  refine Calls.evalArgs_plain (thn (pa cpos pins s σ H (fun vs H1 => vs.length = 1 ∧ H1 = H) I ⟨rfl, rfl⟩) fun us s2 ⟨vs, H1, I2, rv, lv, e1⟩ => ?_)
  subst e1
  have lu : us.length = 1 := by rw [← rv.length]; exact lv
  refine ⟨rfl, by show us.length ≤ sizeLine; rw [lu]; decide, I2.bk _ _ oC, oN.keeps I2.bk, oT.keeps I2.bk, fun h' e hx => ?_⟩
  exact left_made I2 hx h
end
end L2

namespace L2
open PySem PySem.Spec PyProof.Rows
section
variable {P : Program} {w : World} {K : PySem.W.Frag} {mg : Str → Option Value} {base : Heap}
/-- a def that may raise -/
theorem Fun.okX {x qual : Str} {st : Stmt} {f : Addr} {fd : FuncData} {N ps : List Str} {k : Nat} {sp : Sp} (F : Fun K x qual st f fd) (S : FnScope N ps (defScope st)) (len : ∀ vs H Q E, sp vs H Q E → vs.length = ps.length)
    (hbody : ∀ (cdv : Value) (A : Around) (outer : List Env) (s : Shared) (H : Hp) (vs : List V) (Q : VK) (E : XK), Room k (A.deeper (envOfC qual (defScope st) s.heap.objs.size f cdv)) → sp vs H Q E →
      ∃ t, PSs (cxOf (CXx P w) P w K mg base N qual (defScope st) f cdv A outer s H E) (defBody st) t ∧ t { nx := fun _ H' => Q .non H', rt := Q } (start N vs) H) : FnOk P w K mg base (CXx P w) (k + 1) f fd ps sp := by
  obtain ⟨oc, od, kV, doc, pm, an, cdv, ct, osl, rfl, lk, hcd⟩ := F.ex
  exact fn_of lk hcd S len fun A outer s H vs Q E hr hsp => hbody cdv A outer s H vs Q E hr hsp
structure CalX (P : Program) (w : World) (K : PySem.W.Frag) (mg : Str → Option Value) (base : Heap) (k : Nat) (x : Str) (ps : List Str) (sp : Sp) : Prop where
  ex : ∃ (f : Addr) (fd : FuncData), FnOk P w K mg base (CXx P w) k f fd ps sp ∧ mg x = some (.ref f) ∧ PySem.W.keepIn K (.ref f) = true ∧ Binds K fd ps []
end
section
variable {X : Cx}
/-- a call that may raise, with what is known when it does -/
theorem call_x {k : Nat} {x : Str} {ps : List Str} {sp : Sp} {p pos : Pos} {e : Expr} {es : List Expr} {t : TA} (C : CalX X.prog X.w X.K X.mg X.base k x ps sp) (hr : Room k X.A) (hg : Gl X x) (ha : PA X (e :: es) t) (hxe : ∀ v s, ¬ X.xe v s)
    (hdb : (x == ("__debug__" : Str)) = false) (he : starEach (e :: es) X.env = (false, eval e X.env) :: starEach es X.env) (hpl : (backTo pos (starEach es X.env)).any (·.1) = false)
    {pins : List (Addr × Obj)} {σ : St} {H : Hp} {s : Shared} {Q : VK} {E : XK} (I : Inv X pins σ H s) (h : t σ H fun vs H1 => sp vs H1 Q E) :
    wpAny (model X.prog X.w) X.A (eval (.Call (.Name x p) (e :: es) [] pos) X.env) (EP X pins σ Q) (fun ev s' => ∃ H1 s1, Inv X pins σ H1 s1 ∧ CXx X.prog X.w X.stack H1 s1 E ev s') s := by
  obtain ⟨f, fd, F, hm, hk, hb⟩ := C.ex
  refine wpAny_Call_Name_kw (ld_glob I hg hm ?_ hdb)
  refine PySem.W.callWith_K (h₀ := X.base) I.ok.mod.kin hk (wpAny_mono (ha pos pins s σ H _ I h) (fun us s1 ⟨vs, H1, I1, r, q⟩ => ⟨I1.kIn, ?_⟩) fun v s1 z => (hxe v s1 z).elim) he hpl
  have hl : us.length = ps.length := by rw [← r.length]; exact F.len _ _ _ _ q
  have b := hb s1 us I1.kIn (by simpa using hl)
  rw [List.append_nil] at b
  refine wpAny_call (codeAny_mono (F.run X.A X.stack s1 H1 ⟨us, []⟩ us vs Q E hr I1.env0 b r q) fun r s' hq => ?_)
  cases r with
  | error ev => exact ⟨H1, s1, I1, hq⟩
  | ok fl =>
    cases fl with
    | ret u => exact I1.after hq
    | next => exact hq.elim
    | brk => exact hq.elim
    | cont => exact hq.elim
/-- v is among the classes that C is made of -/
def hasIn (K : PySem.W.Frag) (C : Addr) (v : Value) : Bool := match K.lookup C with
  | some ⟨_, _, .cls cd, _⟩ => cd.mro.contains v
  | _ => false
theorem has_bm {K : PySem.W.Frag} {h : Heap} {C : Addr} {v : Value} {nm qn : Str} {N : Addr} {bs bm : List Value} {hd : Bool} {sn : List Str} {sub : List Value} {ab : Bool} {col : Option Bool} {dd : Option Addr} {k0 k1 k2 k3 k5 : Option Value} {nid : String}
    (KX : K.In h) (oC : h.get? C = some (excClassObj nm qn C N bs bm hd sn sub ab col dd k0 k1 k2 k3 k5 nid)) (q : hasIn K C v = true) : (Value.ref C :: bm).contains v = true := by
  unfold hasIn at q
  split at q
  · rename_i c1 d1 cd s1 lk
    have e := KX _ _ lk
    rw [oC] at e
    injection e with e
    unfold excClassObj at e
    injection e with _ _ e _
    injection e with e
    rw [← e] at q
    exact q
  · cases q
def ExcAt (e : Addr) (C : Value) : Heap → Prop := fun h => ∃ o, h.get? e = some o ∧ o.cls = C
/-- an own class, under ValueError -/
structure Own (K : PySem.W.Frag) (mg : Str → Option Value) (x : Str) (C : Addr) : Prop where
  mg : mg x = some (.ref C)
  exc : PySem.W.excIn K C veTail "ValueError.__new__" = true
theorem exc_match {M : Model} {A : Around} {E : Value → Shared → Prop} {Q : Bool → Shared → Prop} {s : Shared} {K : PySem.W.Frag} {C D e : Addr} (KX : K.In s.heap) (hC : PySem.W.excIn K C veTail "ValueError.__new__" = true) (hD : PySem.W.excIn K D veTail "ValueError.__new__" = true)
    (hs : hasIn K C (.ref D) = true) (he : ExcAt e (.ref C) s.heap) (h : Q true s) : wpAny M A (excMatches (.ref e) (.ref D)) Q E s := by
  obtain ⟨bm, Na, nm, qn, bs, hdd, sn, sub, ab, col, dd, k0, k1, k2, k3, k5, mN, oC, oN, oi, oT⟩ := exc_in KX hC
  obtain ⟨bm2, Na2, nm2, qn2, bs2, hd2, sn2, sub2, ab2, col2, dd2, l0, l1, l2, l3, l5, mN2, oD, oN2, oi2, oT2⟩ := exc_in KX hD
  have c1 := has_bm KX oC hs
  have c2 : (Value.ref D :: bm2).contains (.type "BaseException") = true := by rw [List.contains_cons, oT2.hasType F.excBase_ValueError.hasBase, Bool.or_true]
  obtain ⟨hp, g, d, t, os⟩ := s
  obtain ⟨oe, he1, he2⟩ := he
  have f := tc_notTuple
  unfold excMatches
  repeat (first | (with_reducible refine wpAny_loadPart_at he1 ?_; rw [he2]) | with_reducible refine wpAny_loadPart_at oD ?_ | (with_reducible refine wpAny_isSubtype_exc oD ?_; rw [c2]) | (with_reducible refine wpAny_isSubtype_exc oC ?_; rw [c1]) | wp_step)
  exact h
end
end L2

namespace L2
open PySem PySem.Spec PyProof.Rows
section
variable {X : Cx} {pins : List (Addr × Obj)} {σ : St} {H : Hp} {s : Shared}
/-! ## try: x = f(..), except C as n -/
/-- the block behind except: the exception at e is pinned -/
abbrev Cx.hand (X : Cx) (e : Addr) (oe : Obj) : Cx := { X with A := X.A.mark (some (.ref e)), calm := false, xe := fun _ _ => False, pn := (e, oe) :: X.pn }
theorem Cx.Ok.hand {e : Addr} {oe : Obj} (k : X.Ok) : (X.hand e oe).Ok :=
  ⟨k.mod, k.kind, k.glob, k.blt, k.above, k.inj, k.has, k.cab, (fun z => nomatch z), k.frames, k.stk, k.exf, k.bs, k.bsz, k.noex, k.exfs, k.funs, k.frf⟩
theorem Cx.Ok.unhand {e : Addr} {oe : Obj} (k : (X.hand e oe).Ok) (hc : X.calm = true → X.A.handled = none) : X.Ok :=
  ⟨k.mod, k.kind, k.glob, k.blt, k.above, k.inj, k.has, k.cab, hc, k.frames, k.stk, k.exf, k.bs, k.bsz, k.noex, k.exfs, k.funs, k.frf⟩
theorem Inv.hand {e : Addr} {oe : Obj} (I : Inv X pins σ H s) (he : s.heap.get? e = some oe) (hH : H e = none) (h1 : e ≠ X.env.locals) (h2 : e ∉ X.fs) (h3 : ∀ v, oe.data ≠ .cell v) : Inv (X.hand e oe) pins σ H s :=
  ⟨I.ok.hand, I.os, I.bare, I.base, I.loc, I.cell, I.free, I.freeC, fun p hp => by
    rcases List.mem_cons.mp hp with rfl | hp
    · exact ⟨he, hH, h1, h2, h3⟩
    · exact I.pin p hp, I.hok, I.len⟩
theorem Inv.unhand {e : Addr} {oe : Obj} (I : Inv (X.hand e oe) pins σ H s) (hc : X.calm = true → X.A.handled = none) : Inv X pins σ H s :=
  ⟨I.ok.unhand hc, I.os, I.bare, I.base, I.loc, I.cell, I.free, I.freeC, fun p hp => I.pin p (List.mem_cons_of_mem _ hp), I.hok, I.len⟩
/-- a local name is gone -/
theorem Inv.gone {h' : Heap} {tk ie : Nat} {n : Str} {m : Str → Option Value} {v : Option Value} (I : Inv X pins σ H s) (hN : X.N.Nodup) (hi : X.N[ie]? = some n) (hn : s.heap.Ns X.env.locals m)
    (hl : ∀ (i : Nat) (x : Str) (v : V), X.N[i]? = some x → σ[i]? = some (some v) → Vis X.env.scope x → ∃ u, RelV v u ∧ Look X.env s.heap m x u)
    (hn' : h'.Ns X.env.locals (fun x => if x = n then v else m x)) (hs : Heap.SameBut X.env.locals s.heap h') : Inv X pins (σ.set ie none) H { s with heap := h', toks := tk } := by
  have far : ∀ b o, X.s₀.heap.get? b = some o → b ≠ X.env.locals := fun b o e => Nat.ne_of_lt (Nat.lt_of_lt_of_le (Heap.lt_size e) I.ok.above)
  have old : ∀ b, b ≠ X.env.locals → h'.get? b = s.heap.get? b := fun b hb => hs.2 b hb
  have iσ : ie < σ.length := by rw [I.len]; exact (List.getElem?_eq_some_iff.mp hi).1
  refine ⟨I.ok, I.os, I.bare, ⟨fun b o z q hb hx => ?_, fun b o z q hb hx => ?_, I.base.free, fun b o z hx => ?_, I.base.tups, I.base.frzs, I.base.tbls⟩, ⟨_, hn', fun j y v' z1 z2 z3 => ?_⟩, fun y c z => ?_, I.free, I.freeC, fun p hp => ?_, ?_, by rw [List.length_set]; exact I.len⟩
  · rw [old b (far b o z)]; exact I.base.keep b o z q hb hx
  · rw [old b (far b o z)]; exact I.base.slot b o z q hb hx
  · rw [old b (far b o z)]; exact I.base.there b o z hx
  · by_cases hj : j = ie
    · subst hj
      rw [List.getElem?_set_self iσ] at z2
      cases z2
    · rw [List.getElem?_set_ne (Ne.symm hj)] at z2
      obtain ⟨u', r', l⟩ := hl j y v' z1 z2 z3
      refine ⟨u', r', ?_⟩
      rcases l with ⟨k, l⟩ | ⟨k, c, l, ic⟩
      · have yn : y ≠ n := fun q => hj (nodup_ix hN z1 (q ▸ hi))
        exact .inl ⟨k, by show (if y = n then v else m y) = some u'; rw [if_neg yn]; exact l⟩
      · exact .inr ⟨k, c, l, ic.sameBut hs (I.cne y c l)⟩
  · obtain ⟨w', ic⟩ := I.cell y c z
    exact ⟨w', ic.sameBut hs (I.cne y c z)⟩
  · obtain ⟨z, q, ne, nf, d⟩ := I.pin p hp
    exact ⟨by rw [old p.1 ne]; exact z, q, ne, nf, d⟩
  · intro b ob z
    refine (I.hok b ob z).stay (fun c u hc q => ?_) (fun _ q => q) fun _ _ q => q
    have hcl : c ≠ X.env.locals := fun q2 => by
      rcases hc with r | r
      · rw [← r, q2, I.free] at z; cases z
      · rw [q2, I.free] at r; cases r
    show h'.get? c = some u
    rw [old c hcl]; exact q
/-- behind a call that raised: where the exception lies, the frame as it was -/
theorem Inv.flew {e : Addr} {C a0 : Value} {B h5 : Heap} {H1 H' : Hp} {s1 s' : Shared} {tk : Nat} (I : Inv X pins σ H1 s1) (os : s'.os = s1.os) (bare : AllBare s'.gens) (st : B.StaysIn h5) (hok : HOk X.prog X.w H' B)
    (kB : ∀ b o, s1.heap.get? b = some o → H1 b = none → b ∉ frs X.stack → B.get? b = some o) (un : Un (frs X.stack) [] H1 H' s1.heap s'.heap) (fr : s'.heap.FunFrames B X.stack) (sm : s'.heap.UpToSlots h5) (tr : ∀ b o, s1.heap.get? b = some o → b ∉ frs X.stack → ∃ o', B.get? b = some o') :
    Inv X pins σ H' { s' with heap := h5, toks := tk } := by
  refine I.call' (s' := { s' with heap := h5, toks := tk }) os ⟨fun b o z n nf _ => st b o (kB b o z n nf), fun b o z n nf _ => ?_, un.free, fun b o z _ => ?_, un.tups, un.frzs, un.tbls⟩ (hok.kept st) bare (fun b z => absurd z (by simp))
  · obtain ⟨sl, q⟩ := un.slot b o z n nf (by simp)
    obtain ⟨_, o2, q2, nfd⟩ := fr.mem nf
    rw [q] at q2; cases q2
    obtain ⟨sl2, q3⟩ := sm b _ q nfd
    exact ⟨sl2, q3⟩
  · by_cases hf : b ∈ frs X.stack
    · obtain ⟨sl, q⟩ := un.slot b o z (I.stkFree b hf) hf (by simp)
      obtain ⟨_, o2, q2, nfd⟩ := fr.mem hf
      rw [q] at q2; cases q2
      obtain ⟨sl2, q3⟩ := sm b _ q nfd
      exact ⟨_, q3⟩
    · obtain ⟨o2, q⟩ := tr b o z hf
      exact ⟨o2, st b o2 q⟩
end
end L2

namespace L2
open PySem PySem.Spec PyProof.Rows
section
variable {X : Cx}
def tTryA (K : PySem.W.Frag) (D : Addr) (sp : Sp) (i ie : Nat) (ta : TA) (th : Addr → Addr → TS) : TS := fun Dn σ H => ta σ H fun vs H1 => sp vs H1 (fun v H2 => Dn.nx (σ.set i (some v)) H2) (fun Cv _ H2 => ∃ C : Addr, Cv = .ref C ∧ PySem.W.excIn K C veTail "ValueError.__new__" = true ∧ hasIn K C (.ref D) = true ∧
  ∀ e, H2 e = none → th e C { nx := fun σ' H' => Dn.nx (σ'.set ie none) H', rt := Dn.rt, bk := fun σ' H' => Dn.bk (σ'.set ie none) H', ct := fun σ' H' => Dn.ct (σ'.set ie none) H' } (σ.set ie (some (.ref e))) H2)
end
end L2

namespace L2
open PySem PySem.Spec PyProof.Rows PySem.W
/-! ## isinstance of a caught exception, where it holds -/
theorem isi_yes {prog : Program} {w : World} {A : Around} {E : Value → Shared → Prop} {s : Shared} {Q : Value → Shared → Prop} {K : Frag} {e C : Addr} {c : Value} (KX : K.In s.heap) (he : ExcAt e (.ref C) s.heap) (q : kitOne K (.ref C) c = some true) (h : ∀ tk, Q (.bool true) { s with toks := tk }) :
    wpAny (model prog w) A (call (.builtin "isinstance") [.ref e, c]) Q E s := by
  refine call_isinstance (S := fun _ R s => (K.In s.heap ∧ ExcAt e (.ref C) s.heap) ∧ ∀ tk, R (.ok (.ret (.bool true))) { s with toks := tk }) (fun prog w A R s hs => isinstance_outer ?_ (by intro z; cases z)) ⟨⟨KX, he⟩, h⟩
  obtain ⟨h0, g, d, tt, os⟩ := s
  obtain ⟨⟨KX, o, h1, h2⟩, hq⟩ := hs
  have LT : Looks (model prog w) h0 (typeOf (.ref e)) (.ref C) := h2 ▸ (Looks.ld h1).andThen .now
  unfold Builtin.«isinstance.nested»
  refine wpAny_bind (LT.at ?_)
  by_cases qq : (Value.ref C == c) = true
  · rw [if_pos qq]
    first
      | exact wpAny_bind (wpAny_rule (wpAny_pure (hq tt)))
      | ((repeat lk); exact hq tt)
      | exact wpAny_bind (wpAny_rule (hq tt))
  · unfold kitOne at q
    rw [if_neg qq] at q ⊢
    obtain ⟨t1, t2, t3⟩ := kit_cls (M := model prog w) KX q
    refine wpAny_bind (t1.at ?_)
    rw [if_pos (by decide)]
    k_delta "plainIsInstance"
    refine wpAny_bind (wpAny_bind (t2.at ?_))
    simp only [Bool.not_true, Bool.false_eq_true, if_false]
    refine wpAny_bind ((LT.andThen t3 : Looks (model prog w) h0 (isInstance (.ref e) c) true).at ?_)
    first
      | exact wpAny_pure (wpAny_pure (hq tt))
      | (simp only [if_true]; first | exact wpAny_pure (wpAny_pure (hq tt)) | exact wpAny_pure (hq tt))
section
variable {X : Cx}
/-- isinstance(e, D), isinstance(e, T) in the block behind except -/
def rIsiX (K : Frag) (e C : Addr) : List V → Hp → VK → Prop := fun vs H Q => on2 vs fun x y => x = .ref e ∧ match y with
  | .ref D => kitOne K (.ref C) (.ref D) = some true ∧ Q (.bl true) H
  | .ty T => kitOne K (.ref C) (.type T) = some true ∧ Q (.bl true) H
  | _ => False
end
end L2

namespace L2
open PySem PySem.Spec PyProof.Rows
theorem has_of {K : PySem.W.Frag} {C : Addr} {v : Value} (h : PySem.W.mroIn K C v = some true) : hasIn K C v = true := by
  unfold PySem.W.mroIn PySem.W.clsIn at h
  unfold hasIn
  obtain ⟨cd, a, b⟩ := Option.bind_eq_some_iff.mp h
  split at a
  · rename_i e
    cases a
    rw [e]
    dsimp only
    split at b
    · cases b
    · exact Option.some.inj b
  · cases a
end L2

namespace L2
open PySem PySem.Spec PySem.Calls PyProof.Rows PySem.W PySem.Builtin PySem.Builtin.ObjectAttr PySem.Builtin.Getset_descriptor
/-! ## isinstance of a caught exception, where it does not hold -/
structure ExK (K : Frag) (C : Addr) : Prop where
  ga : findIn K (.ref C) "__getattribute__" = some (some (.builtin "BaseException.__getattribute__"))
  gh : findIn K (.ref C) "__getattr__" = some none
  ha : findIn K (.ref C) "__class__" = some (some (.builtin "object.__class__"))
  hn : specialIn K (.builtin "object.__class__") "__get__" = some (some (.builtin "getset_descriptor.__get__"))
  ht : takesIn K (.builtin "object.__class__") = some true
  ho : mroIn K C (.type "object") = some true
  hb : mroIn K C (.type "BaseException") = some true
section
variable {prog : Program} {w : World} {A : Around} {E : Value → Shared → Prop} {s : Shared} {K : Frag} {e C : Addr}
theorem exc_type {M : Model} {h : Heap} (he : ExcAt e (.ref C) h) : Looks M h (typeOf (.ref e)) (.ref C) := by
  obtain ⟨o, h1, h2⟩ := he
  exact h2 ▸ (Looks.ld h1).andThen .now
theorem exc_class_get {tp : Value} {R : Result → Shared → Prop} (B : ExK K C) (X : K.In s.heap) (he : ExcAt e (.ref C) s.heap) (h : R (.ok (.ret (.ref C))) s) : codeAny (model prog w) A (.call (.builtin "getset_descriptor.__get__") ⟨[.builtin "object.__class__", .ref e, tp], []⟩) R s := by
  obtain ⟨hh, g, dr, t, os⟩ := s
  have L0 := exc_type (M := model prog w) he
  have L1 := looks_mroIn (M := model prog w) X B.ho
  refine codeAny_call_builtin KF.slot_gs.plain KF.entry_gs (KF.slot_gs.check _ _ _ _ _ _ _ _ KF.type_class (KF.args_gs _ _ _) ?_)
  unfold Builtin.«getset_descriptor.__get__» descrGet
  rw [dga_obj]
  refine wpAny_bind (wpAny_pure ?_)
  unfold descrGetter descrCheckInstance descrNameAndClass isInstance
  simp only [KF.owner_class]
  repeat lk
  refine ⟨Code.quiet_builtin _ (by decide +kernel), codeAny_builtin KF.entry_class ?_⟩
  unfold Builtin.«object.__class__» shownTypeOf
  repeat lk
  exact h
theorem exc_find {M : Model} {h : Heap} (B : ExK K C) (X : K.In h) : Looks M h (find (.ref e) (.ref C) "__class__") (.bind (.builtin "getset_descriptor.__get__") (.builtin "object.__class__")) := by
  have L1 := looks_findIn (M := M) X B.ha
  have L2 : Looks M h (getOf (some (.builtin "object.__class__"))) (some (.builtin "getset_descriptor.__get__")) := looks_specialIn X B.hn
  have L3 : Looks M h (dataDescriptor? (some (.builtin "object.__class__")) (some (.builtin "getset_descriptor.__get__"))) (some (.builtin "getset_descriptor.__get__", .builtin "object.__class__")) := (looks_takesIn X B.ht).andThen .now
  exact L1.andThen (L2.andThen (L3.andThen (Looks.tag .now)))
theorem exc_ga {tk : Tok} {Q : PySem.Fin → Shared → Prop} (B : ExK K C) (X : K.In s.heap) (he : ExcAt e (.ref C) s.heap) (h : Q (.done (.ret (.ref C))) s) : wpAny (model prog w) A (Builtin.«object.__getattribute__» ⟨[.ref e, .str "__class__" tk], []⟩) Q E s := by
  obtain ⟨hh, g, dr, t, os⟩ := s
  have L0 := exc_type (M := model prog w) he
  have L1 := exc_find (e := e) (M := model prog w) B X
  refine wpAny_bind (wpAny_pure (wpAny_bind (wpAny_pure (wpAny_bind (L0.at (wpAny_bind (L1.at ?_)))))))
  show wpAny _ _ (holding [.builtin "object.__class__"] (call (.builtin "getset_descriptor.__get__") [.builtin "object.__class__", .ref e, .ref C]) >>= ret) _ _ _
  exact wpAny_bind (wpAny_holding (wpAny_call (exc_class_get B X he (wpAny_pure h))))
theorem bexc_kind : builtinKind "BaseException.__getattribute__" = some .slot := by decide +kernel
theorem bexc_split : splitId "BaseException.__getattribute__" = some ("BaseException", "__getattribute__") := by decide +kernel
theorem exc_check {M : Model} {rest : List Value} {Q : Unit → Shared → Prop} (B : ExK K C) (X : K.In s.heap) (he : ExcAt e (.ref C) s.heap) (ha : argsOk "BaseException.__getattribute__" ⟨.ref e :: rest, []⟩) (h : Q () s) : wpAny M A (checkBuiltinCall "BaseException.__getattribute__" ⟨.ref e :: rest, []⟩) Q E s := by
  have L0 := exc_type (M := M) he
  have L1 := looks_mroIn (M := M) X B.hb
  have LI : Looks M s.heap (isInstance (.ref e) (.type "BaseException")) true := L0.andThen L1
  unfold argsOk at ha
  simp only [checkBuiltinCall, bexc_kind, bexc_split]
  refine wpAny_bind (LI.at ?_)
  simp only [Bool.not_true, Bool.false_eq_true, if_false]
  cases hsig : Manifest.signature? "BaseException.__getattribute__" with
  | none => exact wpAny_pure h
  | some sig =>
    simp only [hsig] at ha
    have h2 : Bind.checkArgs "BaseException.__getattribute__" sig ⟨.ref e :: rest, []⟩ = pure () := ha
    show wpAny M A (Bind.checkArgs "BaseException.__getattribute__" sig ⟨.ref e :: rest, []⟩) Q E s
    rw [h2]; exact wpAny_pure h
theorem exc_class {Q : Option Value → Shared → Prop} (B : ExK K C) (X : K.In s.heap) (he : ExcAt e (.ref C) s.heap) (h : Q (some (.ref C)) { s with toks := s.toks + 1 }) : wpAny (model prog w) A (getAttr? (.ref e) "__class__") Q E s := by
  obtain ⟨hh, g, d, t, os⟩ := s
  have L0 := exc_type (M := model prog w) he
  have L1 := looks_findIn (M := model prog w) X B.ga
  have L2 := looks_findIn (M := model prog w) X B.gh
  unfold getAttr? getAttrBy? getAttrBy
  refine wpAny_bind (wpAny_mkText (wpAny_bind (wpAny_attempt (wpAny_holding (wpAny_bind (L0.at (wpAny_bind (L1.at ?_))))))))
  show wpAny _ _ (getAttrByItsOwn _ _ _ _ _ _) _ _ _
  unfold getAttrByItsOwn
  refine wpAny_bind (L2.at (wpAny_bind (wpAny_attempt (wpAny_holding ?_))))
  show wpAny _ _ (boundAndCalled _ _ _) _ _ _
  unfold boundAndCalled
  rw [F.excAttr_ValueError.ga.bind (.ref e)]
  refine wpAny_bind (wpAny_pure ?_)
  show wpAny _ _ (call (.builtin "BaseException.__getattribute__") [.ref e, .str "__class__" _]) _ _ _
  refine wpAny_call (codeAny_call_builtin F.excAttr_ValueError.ga.plain F.entry_bexc_ga (exc_check B X he (F.args_bexc_ga _ _) (exc_ga B X he ?_)))
  show wpAny _ _ (handedOut (.ref C)) _ _ _
  exact handed_on rfl (wpAny_pure h)
theorem isi_no {Q : Value → Shared → Prop} {c : Value} (B : ExK K C) (KX : K.In s.heap) (he : ExcAt e (.ref C) s.heap) (q : kitOne K (.ref C) c = some false) (h : ∀ tk, Q (.bool false) { s with toks := tk }) :
    wpAny (model prog w) A (call (.builtin "isinstance") [.ref e, c]) Q E s := by
  refine call_isinstance (S := fun _ R s => (K.In s.heap ∧ ExcAt e (.ref C) s.heap) ∧ ∀ tk, R (.ok (.ret (.bool false))) { s with toks := tk }) (fun prog w A R s hs => isinstance_outer ?_ (by intro z; cases z)) ⟨⟨KX, he⟩, h⟩
  obtain ⟨⟨KX, he⟩, hq⟩ := hs
  unfold kitOne at q
  by_cases qq : (Value.ref C == c) = true
  · rw [if_pos qq] at q; cases q
  rw [if_neg qq] at q
  obtain ⟨t1, t2, t3⟩ := kit_cls (M := model prog w) KX q
  obtain ⟨cd, hcd, _⟩ := Option.bind_eq_some_iff.mp B.ho
  have hisD : Looks (model prog w) s.heap (isType (.ref C)) true := by
    unfold clsIn at hcd
    split at hcd
    · rename_i c' d' cd' sl' ho
      intro A' Q' E' s' k q
      unfold isType loadHead
      exact wpAny_bind (wpAny_loadPart (k _ _ (KX _ _ ho)) (wpAny_pure q))
    · cases hcd
  have LT := exc_type (M := model prog w) he
  obtain ⟨h0, g, d, tt, os⟩ := s
  unfold Builtin.«isinstance.nested»
  refine wpAny_bind (LT.at ?_)
  rw [if_neg qq]
  refine wpAny_bind (t1.at ?_)
  rw [if_pos (by decide)]
  k_delta "plainIsInstance"
  refine wpAny_bind (wpAny_bind (t2.at ?_))
  simp only [Bool.not_true, Bool.false_eq_true, if_false]
  refine wpAny_bind ((LT.andThen t3 : Looks (model prog w) h0 (isInstance (.ref e) c) false).at ?_)
  simp only [Bool.false_eq_true, if_false]
  refine wpAny_bind (exc_class B KX he ?_)
  refine wpAny_bind (hisD.at ?_)
  simp only [Bool.not_true, Bool.false_eq_true, if_false]
  refine wpAny_bind (wpAny_rule ?_)
  refine t3.at ?_
  first
    | exact wpAny_pure (hq _)
    | exact wpAny_pure (wpAny_pure (hq _))
    | exact wpAny_bind (wpAny_pure (wpAny_pure (hq _)))
end
section
variable {X : Cx}
/-- isinstance(e, D), isinstance(e, T) in the block behind except, whether it holds or not -/
def rIsiY (K : Frag) (e C : Addr) : List V → Hp → VK → Prop := fun vs H Q => on2 vs fun x y => x = .ref e ∧ match y with
  | .ref D => ∃ b, kitOne K (.ref C) (.ref D) = some b ∧ Q (.bl b) H
  | .ty T => ∃ b, kitOne K (.ref C) (.type T) = some b ∧ Q (.bl b) H
  | _ => False
theorem f_isiY {e : Addr} {oe : Obj} {C : Addr} (hc : oe.cls = .ref C) (B : ExK X.K C) : CallR (X.hand e oe) (.builtin "isinstance") (rIsiY X.K e C) := by
  intro pins s σ H vs us Q I r h
  obtain ⟨x, y, rfl, h1⟩ := on2.out h
  obtain ⟨rfl, h2⟩ := h1
  have ex : ExcAt e (.ref C) s.heap := ⟨oe, (I.pin (e, oe) (List.mem_cons_self)).1, hc⟩
  cases r with
  | cons r1 rr =>
    cases rr with
    | cons r2 rr =>
      cases rr
      cases (show _ = Value.ref e from r1)
      have all : ∀ c : Value, (∃ b, kitOne X.K (.ref C) c = some b ∧ Q (.bl b) H) → wpAny (model X.prog X.w) (X.hand e oe).A (call (.builtin "isinstance") [.ref e, c]) (EP (X.hand e oe) pins σ Q) (X.hand e oe).xe s := fun c ⟨b, hb, q⟩ => by
        cases b with
        | true => exact isi_yes I.kIn ex hb fun tk => ⟨.bl true, H, I.tok _, rfl, q⟩
        | false => exact isi_no B I.kIn ex hb fun tk => ⟨.bl false, H, I.tok _, rfl, q⟩
      cases y with
      | ref D => cases (show _ = Value.ref D from r2); exact all _ h2
      | ty T => cases (show _ = Value.type T from r2); exact all _ h2
      | _ => exact h2.elim
end
end L2

namespace L2
open PySem PySem.Spec PyProof.Rows
section
variable {X : Cx}
/-! ## try: one statement that may raise, except C as n -/
abbrev TX := (St → Hp → Prop) → XK → St → Hp → Prop
/-- one statement that goes on or raises -/
def PX (X : Cx) (bs : List Stmt) (tb : TX) : Prop := ∀ (pins : List (Addr × Obj)) (s : Shared) (σ : St) (H : Hp) (N : St → Hp → Prop) (E : XK), Inv X pins σ H s → tb N E σ H →
  wpAny (model X.prog X.w) X.A (execs bs X.env) (fun f s' => f = .next ∧ ∃ σ' H', Inv X pins σ' H' s' ∧ N σ' H') (fun ev s' => ∃ H1 s1, Inv X pins σ H1 s1 ∧ CXx X.prog X.w X.stack H1 s1 E ev s') s
def xAsg (sp : Sp) (i : Nat) (ta : TA) : TX := fun N E σ H => ta σ H fun vs H1 => sp vs H1 (fun v H2 => N (σ.set i (some v)) H2) E
def xDrop (sp : Sp) (ta : TA) : TX := fun N E σ H => ta σ H fun vs H1 => sp vs H1 (fun _ H2 => N σ H2) E
def xIf (tc : TT) (a b : TX) : TX := fun N E σ H => tc σ H fun d H1 => if d = true then a N E σ H1 else b N E σ H1
theorem px_expr {k : Nat} {fn : Str} {ps : List Str} {sp : Sp} {p2 p3 p4 : Pos} {e0 : Expr} {es : List Expr} {ta : TA}
    (hxe : ∀ v s, ¬ X.xe v s) (C : CalX X.prog X.w X.K X.mg X.base k fn ps sp) (hr : Room k X.A) (hg : Gl X fn) (ha : PA X (e0 :: es) ta) (hs : swapsWith (.Call (.Name fn p2) (e0 :: es) [] p3) none p4.line X.env = pure false := by rfl)
    (hd1 : (fn == ("__debug__" : Str)) = false := by decide) (hse : starEach (e0 :: es) X.env = (false, eval e0 X.env) :: starEach es X.env := by rfl) (hpl : (backTo p3 (starEach es X.env)).any (·.1) = false := by rfl) :
    PX X [.Expr (.Call (.Name fn p2) (e0 :: es) [] p3) p4] (xDrop sp ta) := by
  intro pins s σ H N E I h
  exact wpAny_execs_cons (wpAny_Expr_any (wpAny_mono (call_x C hr hg ha hxe hd1 hse hpl I h) (fun v s1 ⟨y, H1, I1, r1, q1⟩ => wpAny_execs_nil ⟨rfl, σ, H1, I1, q1⟩) (fun ev s' z => z)) I.quiet hs)
def tTry (K : PySem.W.Frag) (D : Addr) (ie : Nat) (tb : TX) (th : Addr → Addr → TS) : TS := fun Dn σ H => tb Dn.nx (fun Cv _ H2 => ∃ C : Addr, Cv = .ref C ∧ PySem.W.excIn K C veTail "ValueError.__new__" = true ∧ hasIn K C (.ref D) = true ∧ ExK K C ∧
  ∀ e, H2 e = none → th e C { nx := fun σ' H' => Dn.nx (σ'.set ie none) H', rt := Dn.rt, bk := fun σ' H' => Dn.bk (σ'.set ie none) H', ct := fun σ' H' => Dn.ct (σ'.set ie none) H' } (σ.set ie (some (.ref e))) H2) σ H
theorem ps_try {ie : Nat} {n cls : Str} {p5 p6 p7 : Pos} {bs : List Stmt} {b0 : Stmt} {suite : List Stmt} {tb : TX} {D : Addr} {th : Addr → Addr → TS}
    (hst : X.stack = X.env :: X.outer) (hfm : X.env.frame = some X.env.locals) (hxe : ∀ v s, ¬ X.xe v s) (hN : X.N.Nodup) (hie : X.N[ie]? = some n) (hloc : X.env.scope.names.lookup n = some .local)
    (hb : PX X bs tb) (hD : Own X.K X.mg cls D) (hgc : Gl X cls)
    (hsuite : ∀ (e : Addr) (oe : Obj) (C : Addr), oe.cls = .ref C → ExK X.K C → PSs (X.hand e oe) (b0 :: suite) (th e C)) (hd2 : (cls == ("__debug__" : Str)) = false := by decide) :
    PS X (.Try bs [.ExceptHandler (some (.Name cls p5)) (some n) (b0 :: suite) p6] [] [] p7) (tTry X.K D ie tb th) := by
  intro pins s σ H Dn I h
  refine wpAny_Try_except (wpAny_mono (hb pins s σ H _ _ I h) (fun f s1 ⟨e, σ', H', I', q⟩ => ?_) (fun ev s' ⟨H1, s1, I1, cx⟩ => ?_))
  · subst e
    exact wpAny_execs_nil ⟨σ', H', I', q⟩
  · obtain ⟨e, Cv, a0, B, H', rfl, os, bare, fl, hok, hne, kB, tr, un, Ca, rfl, hC, hs, ek, q⟩ := cx
    have hcalm : X.calm = true → X.A.handled = none := I.ok.hd
    have fl' : Heap.FlyingW B (X.env :: X.outer) e (.ref Ca) a0 s'.heap := hst ▸ fl
    refine wpAny_looks_onW (by rw [I.ok.frames, hst]) hfm fl' fun h4 held sm4 => ?_
    refine wpAny_landsW held fun h5 fl5 sm5 => ?_
    have sm45 := sm4.trans sm5
    have I5 : Inv X pins σ H' { s' with heap := h5 } := I1.flew (tk := s'.toks) (e := e) (C := .ref Ca) (a0 := a0) os bare fl5.1 hok kB un fl.2.2.1 sm45 tr
    have info : ∀ {hh : Heap}, Heap.FlyingW B (X.env :: X.outer) e (.ref Ca) a0 hh → Inv X pins σ H' { s' with heap := hh } → ∃ oe, hh.get? e = some oe ∧ oe.cls = .ref Ca ∧ e ≠ X.env.locals ∧ e ∉ X.fs ∧ ∀ v, oe.data ≠ .cell v := fun {hh} f J => by
      obtain ⟨oe, vs, _, _, _, g1, g2, g3, _⟩ := f.2.2.2
      refine ⟨oe, g1, g2.1, fun z => ?_, fun z => ?_, fun v z => by rw [g3] at z; cases z⟩
      · obtain ⟨m, ⟨o, _, _, ho, hd, _⟩, _⟩ := J.loc
        have ho' : hh.get? X.env.locals = some o := ho
        rw [← z, g1] at ho'
        cases ho'
        rw [g3] at hd; cases hd
      · obtain ⟨_, o, ho, nf⟩ := J.funs.mem z
        have ho' : hh.get? e = some o := ho
        rw [g1] at ho'
        cases ho'
        exact nf _ g3
    obtain ⟨oe5, g1, g2, g3, g4, g5⟩ := info fl5 I5
    have J5 := I5.hand (oe := oe5) g1 hne g3 g4 g5
    refine wpAny_handleBy_cons (codeAny_handlers_test (ld_glob (X := X.hand e oe5) J5 hgc hD.mg (exc_match I5.kIn hC hD.exc hs ⟨oe5, g1, g2⟩ ?_) hd2)) (by intro z; cases z)
    refine codeAny_handlers_suite_as (lands_againW fl5 fun h6 fl6 sm6 => ?_)
    have I6 : Inv X pins σ H' { s' with heap := h6 } := I1.flew (tk := s'.toks) (e := e) (C := .ref Ca) (a0 := a0) os bare fl6.1 hok kB un fl.2.2.1 (sm45.trans sm6) tr
    obtain ⟨oe, f1, f2, f3, f4, f5⟩ := info fl6 I6
    have J6 := I6.hand (oe := oe) f1 hne f3 f4 f5
    refine store_ok (X := X.hand e oe) (v := .ref e) J6 hN hie (.inl hloc) rfl (fun s7 I7 => ?_) (.inr hloc)
    refine wpAny_mono (hsuite e oe Ca f2 ek pins s7 _ H' _ I7 (q e hne)) (fun fw s8 sp8 => ?_) (fun _ _ z => z.elim)
    show wpAny _ _ (do bindName X.env n .none; unbindBehindTheSuite X.env n p6) _ _ s8
    have fin : ∀ {σ' : St} {H8 : Hp}, Inv (X.hand e oe) pins σ' H8 s8 → (∀ s9, Inv X pins (σ'.set ie none) H8 s9 → SP X pins Dn fw s9) → wpAny (model X.prog X.w) X.A (do bindName X.env n .none; unbindBehindTheSuite X.env n p6) (fun _ s₃ => SP X pins Dn fw s₃) X.xe s8 := fun {σ' H8} J k => by
      have J2 := J.unhand hcalm
      obtain ⟨m, hm, hl⟩ := id J2.loc
      exact wpAny_nameGoes_keeps hloc hm (by rw [J2.ok.kind]; rfl) fun h9 v hn9 hs9 => k _ (J2.gone hN hie hm hl hn9 hs9)
    cases fw with
    | next => obtain ⟨σ', H8, J, z⟩ := sp8; exact fin J fun s9 I9 => ⟨_, H8, I9, z⟩
    | brk => obtain ⟨σ', H8, J, z⟩ := sp8; exact fin J fun s9 I9 => ⟨_, H8, I9, z⟩
    | cont => obtain ⟨σ', H8, J, z⟩ := sp8; exact fin J fun s9 I9 => ⟨_, H8, I9, z⟩
    | ret u => obtain ⟨v, σ', H8, J, r, z⟩ := sp8; exact fin J fun s9 I9 => ⟨v, _, H8, I9, r, z⟩
end
end L2

namespace L2
open PySem PySem.Spec PyProof.Rows
/-! ## a comprehension whose own variable is a cell: another one inside it reads it -/
def Cx.compC (X : Cx) (M : List Str) (scope : Scope) (cl : List (Str × Addr)) (x : Str) (C : Addr) (s : Shared) (H : Hp) (ex : List Addr) : Cx := { X.comp M scope ((x, C + 1) :: cl) C s H ex with fn := fun y => y == x }
structure CompScopeC (N : List Str) (env : Env) (x : Str) (cp : List Nat) (M : List Str) (scope : Scope) : Prop where
  hM : M = x :: cp.map fun i => N.getD i x
  kind : scope.kind = .function
  hx : (relabel scope env).names.lookup x = some .cell
  cf : ∀ (n : Nat) (acc : List (Str × Addr)), cellsFrom n scope.names acc = (x, n) :: acc
  pc : ∀ h : Heap, pushCells h scope.names = h.push { cls := .type "cell", data := .cell none }
  cellB : scope.names.all (fun y => !(y.2 == .cell) || y.1 == x) = true
  locB : scope.names.all (fun y => !(y.2 == .local) || scope.names.lookup y.1 == some .local) = true
  freeB : scope.names.all (fun y => !(y.2 == .free) || (env.scope.names.lookup y.1 == some .cell || env.scope.names.lookup y.1 == some .free)) = true
  capB : cp.all (fun i => decide (i < N.length) && scope.names.lookup (N.getD i x) == some .free) = true
section
variable {N : List Str} {env : Env} {x : Str} {cp : List Nat} {M : List Str} {scope : Scope}
theorem CompScopeC.cellX (S : CompScopeC N env x cp M scope) : ∀ y ∈ scope.names, y.2 = .cell → y.1 = x := fun y hy e => by
  have := List.all_eq_true.mp S.cellB y hy
  simpa [e] using this
theorem CompScopeC.loc (S : CompScopeC N env x cp M scope) : ∀ y ∈ scope.names, y.2 = .local → scope.names.lookup y.1 = some .local := fun y hy e => by
  have := List.all_eq_true.mp S.locB y hy
  simpa [e] using this
theorem CompScopeC.free (S : CompScopeC N env x cp M scope) : ∀ y ∈ scope.names, y.2 = .free → (env.scope.names.lookup y.1 = some .cell ∨ env.scope.names.lookup y.1 = some .free) := fun y hy e => by
  have := List.all_eq_true.mp S.freeB y hy
  simpa [e] using this
theorem CompScopeC.cap (S : CompScopeC N env x cp M scope) : ∀ i ∈ cp, i < N.length ∧ scope.names.lookup (N.getD i x) = some .free := fun i hi => by
  have := List.all_eq_true.mp S.capB i hi
  rw [Bool.and_eq_true] at this
  exact ⟨of_decide_eq_true this.1, by simpa using this.2⟩
theorem newEnv_cell {MM : Model} {A : Around} {E : Value → Shared → Prop} {s : Shared} {cl : List (Str × Addr)} {globals : Addr} {qual : Str} {Q : Env → Shared → Prop} (S : CompScopeC N env x cp M scope)
    (h : Q (newEnv scope s.heap.objs.size globals ((x, s.heap.objs.size + 1) :: cl) qual none .none (some env) builtinsNs) { s with heap := (s.heap.push { cls := .type "dict", data := .dict #[] }).push { cls := .type "cell", data := .cell none } }) :
    wpAny MM A (newFunctionEnv scope globals cl [] qual none .none (some env)) Q E s := by
  simp only [newFunctionEnv, Option.isSome_some, if_true]
  refine wpAny_bind (wpAny_alloc ?_)
  refine wpAny_bind (wpAny_layCells _ (fun name kind cells => by cases hkc : kind == NameKind.cell <;> simp [hkc]) _ _ _ _ ?_)
  rw [S.cf, S.pc]
  rw [show ({ s with heap := s.heap.push { cls := .type "dict", data := .dict #[] } } : Shared).heap.objs.size = s.heap.objs.size + 1 from Heap.size_push ..]
  refine wpAny_bind ?_
  rw [List.forIn_nil]
  exact wpAny_pure (wpAny_pure h)
end
section
variable {X : Cx} {pins : List (Addr × Obj)} {σ : St} {H : Hp}
theorem Inv.compC {s3 s4 : Shared} {x : Str} {cp : List Nat} {M : List Str} {scope : Scope} {cl : List (Str × Addr)} {fp : List Addr} (I : Inv X pins σ H s3) (S : CompScopeC X.N X.env x cp M scope)
    (hcl : ∀ y c, cl.lookup y = some c → X.env.cells.lookup y = some c) (hcf : ∀ y, (y, NameKind.free) ∈ scope.names → ∃ c, cl.lookup y = some c)
    (hfp : ∀ b ∈ fp, FpOk X pins H b) (hfo : ∀ b ∈ fp, b < s3.heap.objs.size) (hs : s4 = { s3 with heap := s4.heap, toks := s4.toks }) (hk : ∀ b o, s3.heap.get? b = some o → s4.heap.get? b = some o)
    {m : Str → Option Value} (hn : s4.heap.Ns s3.heap.objs.size m) (hnd : M.Nodup) (hcc : s4.heap.IsCell (s3.heap.objs.size + 1) none) :
    Inv (X.compC M scope cl x s3.heap.objs.size s3 H fp) [] (cst cp σ none) H s4 := by
  have os4 : s4.os = s3.os := by rw [hs]
  have g4 : s4.gens = s3.gens := by rw [hs]
  have cl_has : ∀ {y : Str}, (∃ c, cl.lookup y = some c) → ∃ c, (X.compC M scope cl x s3.heap.objs.size s3 H fp).env.cells.lookup y = some c := fun {y} ⟨c, e⟩ => by
    show ∃ c, ((x, s3.heap.objs.size + 1) :: cl).lookup y = some c
    rw [List.lookup_cons]
    split
    · exact ⟨_, rfl⟩
    · exact ⟨c, e⟩
  have cl_in : ∀ {y : Str} {c : Addr}, (X.compC M scope cl x s3.heap.objs.size s3 H fp).env.cells.lookup y = some c → (y = x ∧ c = s3.heap.objs.size + 1) ∨ (y ≠ x ∧ cl.lookup y = some c) := fun {y c} e => by
    have e' : ((x, s3.heap.objs.size + 1) :: cl).lookup y = some c := e
    rw [List.lookup_cons] at e'
    split at e'
    · rename_i h
      exact .inl ⟨by simpa using h, (Option.some.inj e').symm⟩
    · rename_i h
      exact .inr ⟨by simpa using h, e'⟩
  have cl_lt : ∀ {y : Str} {c : Addr}, cl.lookup y = some c → c < s3.heap.objs.size := fun {y c} e => by
    obtain ⟨v, o, ho, _⟩ := I.cell y c (hcl y c e)
    exact Heap.lt_size ho
  have I4 : Inv X pins σ H s4 := by
    have := I.kept (h' := s4.heap) (t' := s4.toks) hk
    rw [hs]; exact this
  refine ⟨⟨I.ok.mod, S.kind, I.ok.glob, I.ok.blt, Nat.le_refl _, fun y z c h1 h2 => ?inj, fun y hy => ?_, fun y c h e => ?cab, I.ok.hd, I.ok.frames, .inl rfl, fun b hb => ⟨Nat.ne_of_lt (hfo b hb), fun y c e => ?exf⟩,
    I.bs, Nat.le_trans I.ok.bsz I.sz, fun b o e hb => ?_, fun b hb hs => ?_, I.stack, I.stkFree⟩,
    os4, ?_, Un.kept hk, ⟨m, hn, fun i y v h1 h2 h3 => ?_⟩, fun y c e => ?cell, I.hok.fresh (Nat.le_refl _), fun y c e => ?freeC, fun p hp => absurd hp (by intro z; cases z), I.hok.kept hk, ?_⟩
  case cell =>
    rcases cl_in e with ⟨rfl, rfl⟩ | ⟨_, e⟩
    · exact ⟨_, hcc⟩
    · obtain ⟨v, q⟩ := I4.cell y c (hcl y c e)
      exact ⟨v, q⟩
  case inj =>
    rcases cl_in h1 with ⟨rfl, rfl⟩ | ⟨n1, e1⟩ <;> rcases cl_in h2 with ⟨rfl, e2'⟩ | ⟨n2, e2⟩
    · rfl
    · exact absurd (cl_lt e2) (Nat.not_lt.mpr (Nat.le_succ _))
    · subst e2'; exact absurd (cl_lt e1) (Nat.not_lt.mpr (Nat.le_succ _))
    · exact I.ok.inj y z c (hcl y c e1) (hcl z c e2)
  case cab =>
    have yx : y = x := by simpa [Cx.compC] using h
    rcases cl_in e with ⟨_, rfl⟩ | ⟨n, _⟩
    · exact Nat.le_succ _
    · exact absurd yx n
  case exf =>
    rcases cl_in e with ⟨_, rfl⟩ | ⟨_, e⟩
    · exact Nat.ne_of_gt (Nat.lt_succ_of_lt (hfo b hb))
    · exact (hfp b hb).2.2.2.2.1 y c (hcl y c e)
  case freeC =>
    rcases cl_in e with ⟨_, rfl⟩ | ⟨_, e⟩
    · exact I.hok.fresh (Nat.le_succ _)
    · exact I.freeC y c (hcl y c e)
  · have hy' : ∃ k, (k = NameKind.cell ∨ k = .free) ∧ (relabel scope X.env).names.lookup y = some k := by
      rcases hy with hy | hy
      · exact ⟨_, .inl rfl, hy⟩
      · exact ⟨_, .inr rfl, hy⟩
    obtain ⟨k, hk, e⟩ := hy'
    obtain ⟨k0, e0, h0⟩ := relabel_lookup (names := scope.names) e
    have mem := PySem.mem_of_lookup e0
    rcases h0 with rfl | ⟨rfl, rfl⟩
    · rcases hk with rfl | rfl
      · have yx := S.cellX _ mem rfl
        exact ⟨_, by show ((x, s3.heap.objs.size + 1) :: cl).lookup y = _; rw [show y = x from yx, List.lookup_cons_self]⟩
      · exact cl_has (hcf y mem)
    · exact cl_has (hcf y mem)
  · obtain ⟨_, _, _, h4, _⟩ := hfp b hb
    rcases h4 with h4 | h4
    · exact I.ok.noex b o e h4
    · exact absurd (Nat.lt_of_lt_of_le (Heap.lt_size e) (Nat.le_trans I.ok.bsz h4)) (Nat.lt_irrefl _)
  · obtain ⟨_, h1, h2, _⟩ := hfp b hb
    rcases List.mem_cons.mp (I.stkSub b hs) with e | e
    · exact h1 e
    · exact h2 e
  · rw [g4]; exact I.bare
  · -- names
    have hM : (X.compC M scope cl x s3.heap.objs.size s3 H fp).N = x :: cp.map fun i => X.N.getD i x := S.hM
    rw [hM] at h1
    cases i with
    | zero => unfold cst at h2; simp at h2
    | succ i =>
      unfold cst at h2
      simp only [List.getElem?_cons_succ, List.getElem?_map] at h1 h2
      cases hi : cp[i]? with
      | none => rw [hi] at h1; cases h1
      | some j =>
        rw [hi] at h1 h2
        simp only [Option.map_some, Option.some.injEq] at h1 h2
        obtain ⟨hj, hf⟩ := S.cap j (List.mem_of_getElem? hi)
        have hNj : X.N[j]? = some y := by
          rw [← h1, List.getD_eq_getElem?_getD]
          rw [List.getElem?_eq_getElem hj]; rfl
        have hσj : σ[j]? = some (some v) := by
          rw [List.getD_eq_getElem?_getD] at h2
          cases e : σ[j]? with
          | none => rw [e] at h2; cases h2
          | some a => rw [e] at h2; simp at h2; rw [h2]
        rw [h1] at hf
        have memf := PySem.mem_of_lookup hf
        have ho := S.free _ memf rfl
        have hvis : Vis X.env.scope y := ho.elim (fun z => .inr (.inl z)) fun z => .inr (.inr z)
        obtain ⟨m0, hn0, hl0⟩ := I4.loc
        obtain ⟨u, r, l⟩ := hl0 j y v hNj hσj hvis
        refine ⟨u, r, ?_⟩
        rcases l with ⟨k, _⟩ | ⟨k, c, e, z⟩
        · exfalso
          have k' : X.env.scope.names.lookup y = some .local := k
          rcases ho with ho | ho
          · rw [k'] at ho; cases ho
          · rw [k'] at ho; cases ho
        · obtain ⟨c', e'⟩ := hcf y memf
          have : c' = c := by have := hcl y c' e'; rw [e] at this; cases this; rfl
          subst this
          have yx : y ≠ x := fun zz => by
            have h0 : M[0]? = some x := by rw [S.hM]; rfl
            have h1' : M[i + 1]? = some y := by rw [S.hM, List.getElem?_cons_succ, List.getElem?_map, hi, Option.map_some, h1]
            exact absurd (nodup_ix hnd h0 (zz ▸ h1')) (by omega)
          refine .inr ⟨?_, c', ?_, z⟩
          · exact (relabel_free (env := X.env) hf).elim .inr .inl
          · show ((x, s3.heap.objs.size + 1) :: cl).lookup y = some c'
            rw [List.lookup_cons, show (y == x) = false by simpa using yx]
            exact e'
  · show (cst cp σ none).length = M.length
    rw [S.hM]; simp [cst]

/-- behind it -/
theorem Inv.uncompC {s3 s' : Shared} {σ' : St} {H' : Hp} {M : List Str} {scope : Scope} {cl : List (Str × Addr)} {fp : List Addr} {x : Str} {h' : Heap} (I : Inv X pins σ H s3) (hfp : ∀ b ∈ fp, FpOk X pins H b)
    (J : Inv (X.compC M scope cl x s3.heap.objs.size s3 H fp) [] σ' H' s') (hs : Heap.SameBut s3.heap.objs.size s'.heap h') : Inv X pins σ H' { s' with heap := h' } := by
  have hC : H' s3.heap.objs.size = none := J.free
  have u := J.base
  have hok : HOk X.prog X.w H' h' := fun b o e => by
    refine (J.hok b o e).stay (fun c v hc q => (hs.2 c ?_).trans q) (fun _ q => q) fun _ _ q => q
    rintro rfl
    rcases hc with z | z
    · rw [← z, hC] at e; cases e
    · rw [hC] at z; cases z
  have ne : ∀ b o, s3.heap.get? b = some o → b ≠ s3.heap.objs.size := fun b o e => Nat.ne_of_lt (Heap.lt_size e)
  have un : Un (frs X.stack) fp H H' s3.heap h' :=
    ⟨fun b o e n hb hx => (hs.2 b (ne b o e)).trans (u.keep b o e n hb hx), fun b o e n hb hx => by
      obtain ⟨sl, q⟩ := u.slot b o e n hb hx
      exact ⟨sl, (hs.2 b (ne b o e)).trans q⟩, u.free, fun b o e hx => by
      obtain ⟨o', q⟩ := u.there b o e hx
      exact ⟨o', (hs.2 b (ne b o e)).trans q⟩, u.tups, u.frzs, u.tbls⟩
  refine I.call' (s' := { s' with heap := h' }) (ch := fp) J.os un hok J.bare fun b hb => ?_
  obtain ⟨_, h1, _, h3, h4, h5⟩ := hfp b hb
  exact ⟨h3, h1, h4, h5⟩
end
section
variable {X : Cx}
theorem comp_runC {elt iter : Expr} {x : Str} {px : Pos} {ifs : List Expr} {scope : Scope} {pos : Pos} {cp : List Nat} {M : List Str} {tt : TT} {te : TE} {cl : List (Str × Addr)}
    (hc : X.calm = true) (S : CompScopeC X.N X.env x cp M scope) (hnd : M.Nodup)
    (hcl : ∀ y c, cl.lookup y = some c → X.env.cells.lookup y = some c) (hcf : ∀ y, (y, NameKind.free) ∈ scope.names → ∃ c, cl.lookup y = some c)
    (ht : ∀ C s H ex, PTs (X.compC M scope cl x C s H ex) ifs tt) (he : ∀ C s H ex, PE (X.compC M scope cl x C s H ex) elt te)
    {pins : List (Addr × Obj)} {σ : St} {s2 : Shared} {H2 : Hp} {Q : VK} {it : Addr} {fp : List Addr} {tn : Nat → Heap → Prop} {J : It} {RR : Value → Addr → Result → Shared → Prop} {E : Value → Shared → Prop}
    (I2 : Inv X pins σ H2 s2) (T : Turn X.prog X.w X.K (.Name x px) J fp it tn) (st2 : tn 0 s2.heap) (f2 : ∀ b ∈ fp, FpOk X pins H2 b)
    (q : ∀ D, H2 D = none → ∃ W : Nat → Nat → Hp → Prop, (∃ m, W 0 m (upd H2 D (.lst []))) ∧ ∀ i m H, W i m H →
      (J.stop i H ∧ Q (.ref D) H) ∨ (J.go i H ∧ ∀ v H', J.yld i H v H' → tt (cst cp σ (some v)) H' fun b H2 =>
        if b = true then te (cst cp σ (some v)) H2 fun y H3 => ∃ ys, H3 D = some (.lst ys) ∧ ys.length < sizeLine ∧ ∃ m', m' < m ∧ W (i + 1) m' (upd H3 D (.lst (ys ++ [y])))
        else ∃ m', m' < m ∧ W (i + 1) m' H2))
    (fin : ∀ (D C : Addr) (s' : Shared) (H' : Hp) (m : Str → Option Value), s'.heap.Ns C m → (∀ h', Heap.SameBut C s'.heap h' → Inv X pins σ H' { s' with heap := h' }) → FpOk X pins H' C → Q (.ref D) H' → RR (.ref D) C (.ok .next) s') :
    wpAny (model X.prog X.w) X.A (newList []) (fun acc s₃ => wpAny (model X.prog X.w) X.A (newFunctionEnv scope X.env.globals cl [] X.env.qual none .none (some X.env)) (fun cenv s₄ =>
      codeAny (model X.prog X.w) X.A (.compStart (.ListComp elt [⟨.Name x px, iter, ifs, 0⟩] scope pos) 0 (.ref it) acc { cenv with scope := relabel scope X.env }) (RR acc cenv.locals) s₄) E s₃) E s2 := by
  have fobj : ∀ b ∈ fp, b < s2.heap.objs.size := fun b hb => by
    obtain ⟨o, e, _⟩ := T.obj 0 _ st2 b hb
    exact Heap.lt_size e
  refine wpAny_newObj_type (newEnv_cell S ?_)
  have hf : H2 s2.heap.objs.size = none := I2.hok.fresh (Nat.le_refl _)
  obtain ⟨W, ⟨m0, w0⟩, turn⟩ := q _ hf
  generalize hs3 : ({ s2 with heap := s2.heap.push { cls := .type "list", dict := none, data := .seq ([] : List Value).toArray } } : Shared) = s3 at *
  have I3 : Inv X pins σ (upd H2 s2.heap.objs.size (.lst [])) s3 := by
    rw [← hs3]
    exact I2.laid (t' := s2.toks) (fun b u e => Heap.get?_push_of_some _ e) (Nat.le_refl _) ⟨Nat.zero_le _, [], 0, .nil, Heap.get?_push_size _ rfl⟩
  have sz3 : s2.heap.objs.size < s3.heap.objs.size := by rw [← hs3]; show _ < (s2.heap.push _).objs.size; rw [Heap.size_push]; exact Nat.lt_succ_self _
  have f3 : ∀ b ∈ fp, FpOk X pins (upd H2 s2.heap.objs.size (.lst [])) b := fun b hb => by
    obtain ⟨h0, r⟩ := f2 b hb
    exact ⟨by rw [upd_ne (Nat.ne_of_lt (fobj b hb))]; exact h0, r⟩
  obtain ⟨h₁, eh⟩ : ∃ h₁, h₁ = (s3.heap.push { cls := .type "dict", data := .dict #[] }).push { cls := .type "cell", data := .cell none } := ⟨_, rfl⟩
  rw [← eh]
  have keep34 : ∀ b o, s3.heap.get? b = some o → h₁.get? b = some o := fun b o e => by rw [eh]; exact Heap.get?_push_of_some _ (Heap.get?_push_of_some _ e)
  have hns₁ : h₁.Ns s3.heap.objs.size (fun _ => none) := by rw [eh]; exact (Heap.Ns.new s3.heap (.type "dict")).keeps fun b o e => Heap.get?_push_of_some _ e
  have hcc : h₁.IsCell (s3.heap.objs.size + 1) none := by
    rw [eh]
    have := Heap.get?_push_size (s3.heap.push { cls := .type "dict", data := .dict #[] }) (o := ({ cls := .type "cell", data := .cell none } : Obj)) rfl
    rw [Heap.size_push] at this
    exact ⟨_, this, rfl⟩
  have keep24 : ∀ b o, s2.heap.get? b = some o → h₁.get? b = some o := fun b o e => keep34 b o (by rw [← hs3]; exact Heap.get?_push_of_some _ e)
  have Ic : Inv (X.compC M scope cl x s3.heap.objs.size s3 (upd H2 s2.heap.objs.size (.lst [])) fp) [] (cst cp σ none) (upd H2 s2.heap.objs.size (.lst [])) { s3 with heap := h₁, toks := s3.toks + ([] : List (Str × Value)).length } :=
    I3.compC S hcl hcf f3 (fun b hb => Nat.lt_trans (fobj b hb) sz3) rfl keep34 hns₁ hnd hcc
  have fst : ∀ {H' : Hp}, (∀ b ∈ fp, H' b = none) → ∀ b ∈ fp, FpOk (X.compC M scope cl x s3.heap.objs.size s3 (upd H2 s2.heap.objs.size (.lst [])) fp) [] H' b := fun hn b hb => by
    obtain ⟨_, h1, h2, _, h4, _⟩ := f2 b hb
    refine ⟨hn b hb, Nat.ne_of_lt (Nat.lt_trans (fobj b hb) sz3), fun hs => ?_, .inl hb, fun y c e => by
      have e' : ((x, s3.heap.objs.size + 1) :: cl).lookup y = some c := e
      rw [List.lookup_cons] at e'
      split at e'
      · cases e'
        exact Nat.ne_of_gt (Nat.lt_succ_of_lt (Nat.lt_trans (fobj b hb) sz3))
      · exact h4 y c (hcl y c e'), fun p hp => absurd hp (by intro z; cases z)⟩
    rcases List.mem_cons.mp (I3.stkSub b hs) with e | e
    · exact h1 e
    · exact h2 e
  have loop : codeAny (model X.prog X.w) X.A (.compLoop (.ListComp elt [⟨.Name x px, iter, ifs, 0⟩] scope pos) 0 (.ref it) (.ref s2.heap.objs.size) (compEnvC scope ((x, s3.heap.objs.size + 1) :: cl) s3.heap.objs.size X.env)) (RR (.ref s2.heap.objs.size) s3.heap.objs.size)
      { s3 with heap := h₁, toks := s3.toks + ([] : List (Str × Value)).length } := by
    refine compLoop_any (fun n s' => ∃ i vo H', Inv (X.compC M scope cl x s3.heap.objs.size s3 (upd H2 s2.heap.objs.size (.lst [])) fp) [] (cst cp σ vo) H' s' ∧ tn i s'.heap ∧ (∀ b ∈ fp, H' b = none) ∧ W i n H') ?_ m0
      ⟨0, none, _, Ic, T.keep _ _ _ st2 (fun b hb o e => keep24 b o e), fun b hb => (f3 b hb).1, w0⟩
    rintro n s5 ⟨i, vo, H5, I5, st5, fr5, w5⟩
    rcases turn i n H5 w5 with ⟨stop, qn⟩ | ⟨go, step⟩
    · refine thn (T.done (X.compC M scope cl x s3.heap.objs.size s3 (upd H2 s2.heap.objs.size (.lst [])) fp) rfl rfl rfl hc i [] s5 _ H5 _ I5 (fst fr5) st5 stop) fun r s6 ⟨hr, I6⟩ => ?_
      subst hr
      obtain ⟨m', hm', _⟩ := id I6.loc
      exact fin _ _ s6 H5 m' hm' (fun h' hb => I3.uncompC f3 I6 hb) (I3.fpOk (Nat.le_refl _) I6.free) qn
    · refine thn (T.item (X.compC M scope cl x s3.heap.objs.size s3 (upd H2 s2.heap.objs.size (.lst [])) fp) rfl rfl rfl hc i [] s5 _ H5 _ I5 (fst fr5) st5 go) fun r s6 ⟨u, hr, h6⟩ => ?_
      subst hr
      refine thn h6 fun _ s7 ⟨v, H7, I7, r7, y7, st7, fr7⟩ => ?_
      have I7' := I7.pinned (fst fr7) (T.obj _ _ st7)
      have hMx : (X.compC M scope cl x s3.heap.objs.size s3 (upd H2 s2.heap.objs.size (.lst [])) fp).N[0]? = some x := by
        show M[0]? = some x
        rw [S.hM]; rfl
      refine wpAny_assign_Name (store_ok I7' hnd hMx (.inr S.hx) r7 (fun s8 I8 => ?_) (.inl (by simp [Cx.compC])))
      have I8' : Inv (X.compC M scope cl x s3.heap.objs.size s3 (upd H2 s2.heap.objs.size (.lst [])) fp) ([] ++ pinsAt fp s7.heap) (cst cp σ (some v)) H7 s8 := I8
      have again : ∀ {H9 : Hp} {s9 : Shared} {m' : Nat}, Inv (X.compC M scope cl x s3.heap.objs.size s3 (upd H2 s2.heap.objs.size (.lst [])) fp) ([] ++ pinsAt fp s7.heap) (cst cp σ (some v)) H9 s9 → m' < n → W (i + 1) m' H9 →
          ∃ m, m < n ∧ ∃ i vo H', Inv (X.compC M scope cl x s3.heap.objs.size s3 (upd H2 s2.heap.objs.size (.lst [])) fp) [] (cst cp σ vo) H' s9 ∧ tn i s9.heap ∧ (∀ b ∈ fp, H' b = none) ∧ W i m H' := fun {H9 s9 m'} I9 hm w9 => by
        refine ⟨m', hm, i + 1, some v, H9, I9.unpinned, T.keep _ _ _ st7 fun b hb o e => (I9.pin (b, o) (List.mem_append_right _ (List.mem_append_right _ (mem_pinsAt hb e)))).1, fun b hb => ?_, w9⟩
        obtain ⟨o, e, d⟩ := T.obj _ _ st7 b hb
        exact (I9.pin (b, o) (List.mem_append_right _ (List.mem_append_right _ (mem_pinsAt hb e)))).2.1
      refine thn (ht _ _ _ _ _ s8 _ H7 _ I8' (step v H7 y7)) fun b s9 ⟨H9, I9, q9⟩ => ?_
      cases b with
      | false =>
        rw [if_neg Bool.false_ne_true] at q9
        rw [if_neg Bool.false_ne_true]
        obtain ⟨m', hm, w9⟩ := q9
        exact again I9 hm w9
      | true =>
        rw [if_pos rfl] at q9
        rw [if_pos rfl]
        refine thn (he _ _ _ _ _ s9 _ H9 _ I9 q9) fun yv s10 ⟨y, H10, I10, ry, ys, hD, hlen, m', hm, w10⟩ => ?_
        exact thn (mt_append _ s10 _ H10 (.ref s2.heap.objs.size) [y] (.ref s2.heap.objs.size) [yv] (fun _ H' => H' = upd H10 s2.heap.objs.size (.lst (ys ++ [y]))) I10 rfl (.cons ry .nil) ⟨_, ys, y, rfl, rfl, hD, hlen, rfl⟩)
          fun _ s11 ⟨_, H11, I11, _, e11⟩ => again I11 hm (e11 ▸ w10)
  exact codeAny_compStart_list loop (T.self _ 0 _ _ _ (T.keep _ _ _ st2 fun b hb o e => keep24 b o e) loop)

theorem ps_compC {elt iter : Expr} {x y : Str} {px py : Pos} {ifs : List Expr} {scope : Scope} {pos spos : Pos} {cp : List Nat} {M : List Str} {wi : TI} {tt : TT} {te : TE} {i : Nat}
    (hN : X.N.Nodup) (hy : X.N[i]? = some y) (hloc : X.env.scope.names.lookup y = some .local)
    (hc : X.calm = true) (S : CompScopeC X.N X.env x cp M scope) (hnd : M.Nodup) (hi : PI X (.Name x px) iter wi)
    (ht : ∀ cl C s H ex, PTs (X.compC M scope cl x C s H ex) ifs tt) (he : ∀ cl C s H ex, PE (X.compC M scope cl x C s H ex) elt te)
    (hsw : swapsWith (.ListComp elt [⟨.Name x px, iter, ifs, 0⟩] scope pos) (some (.Name y py)) spos.line X.env = pure true := by rfl)
    (hs : ∀ v, foldedSetIterable iter X.env v = pure v := by intro _; rfl) : PS X (.Assign [.Name y py] (.ListComp elt [⟨.Name x px, iter, ifs, 0⟩] scope pos) spos) (tAsg (tComp wi cp tt te) (gName i)) := by
  intro pins s σ H D I h
  obtain ⟨cl, e, hcl, hcf⟩ := closure_ok (scope := scope) (env := X.env) fun y hy hf => I.ok.has y.1 (S.free y hy hf)
  rw [exec_Assign_Name_used _ _ _ _ hsw]
  refine wpAny_bind (wpAny_standAt (wpAny_bind ?_))
  show wpAny _ X.A (do let _ ← comprehension (.ListComp elt [⟨.Name x px, iter, ifs, 0⟩] scope pos) scope X.env _ (newList []) false (eval iter X.env) (some (assign (.Name y py) X.env))) _ _ s
  refine wpAny_bind (wpAny_mono (wpAny_comprehension_free (use := some (assign (.Name y py) X.env)) (Q := fun _ s' => SP X pins D .next s') rfl hs e S.kind S.loc
    (thn (hi pins s σ H _ I h) fun xv s1 h1 => thn h1 fun itv s2 h2 => ?_)) (fun _ s' hq => wpAny_pure (wpAny_pure hq)) fun _ _ e => e)
  obtain ⟨it, fp, tn, J, H2, rfl, I2, T, st2, f2, q⟩ := h2
  refine comp_runC (Q := fun v H' => D.nx (σ.set i (some v)) H') (RR := fun acc C => compPost (model X.prog X.w) X.A X.xe (some (assign (.Name y py) X.env)) (fun _ s' => SP X pins D .next s') acc C) hc S hnd hcl hcf (ht cl) (he cl) I2 T st2 f2 q ?_
  intro D' C s' H' m hn hI fC qD
  obtain ⟨f0, f1, f2', f3, f4, f5⟩ := fC
  have I' : Inv X pins σ H' s' := hI s'.heap (Heap.SameBut.refl ..)
  show wpAny _ X.A (assign (.Name y py) X.env (.ref D')) _ _ _
  refine wpAny_assign_Name (store_ok2 (v := .ref D') I' hN hy (.inl hloc) rfl (fun s'' I'' ch => ?_) (.inr hloc))
  obtain ⟨a, sb, ha⟩ := ch
  have haC : C ≠ a := by
    rcases ha with rfl | ha
    · exact f1
    · exact fun z => f4 y a ha z.symm
  refine ⟨m, hn.sameBut sb haC, fun h' hb => ⟨_, H', ?_, qD⟩⟩
  exact I''.turned (t' := s''.toks) (fun b o hbC e => (hb.2 b hbC).trans e) f0 f1 f3 f4 f5
end
end L2

namespace L2
open PySem PySem.Spec PyProof.Rows
/-! ### lists of pairs as tables -/
section
variable {κ : Type} [DecidableEq κ]
def valV (kvs : List (κ × V)) (k : κ) : Option V := (kvs.find? fun kv => decide (kv.1 = k)).map (·.2)
/-- in its place, or at the end -/
def putK (kvs : List (κ × V)) (k : κ) (v : V) : List (κ × V) :=
  if (kvs.any fun kv => decide (kv.1 = k)) = true then kvs.map (fun kv => if kv.1 = k then (kv.1, v) else kv) else kvs ++ [(k, v)]
def dropK (kvs : List (κ × V)) (k : κ) : List (κ × V) := kvs.filter fun kv => decide (kv.1 ≠ k)

theorem valV_pos {p : κ × V} {r : List (κ × V)} {k : κ} (e : p.1 = k) : valV (p :: r) k = some p.2 := by simp [valV, List.find?_cons, e]
theorem valV_neg {p : κ × V} {r : List (κ × V)} {k : κ} (e : ¬ p.1 = k) : valV (p :: r) k = valV r k := by simp [valV, List.find?_cons, e]
theorem valV_any (k : κ) : ∀ kvs : List (κ × V), (kvs.any fun kv => decide (kv.1 = k)) = (valV kvs k).isSome
  | [] => rfl
  | p :: r => by
    rw [List.any_cons]
    by_cases e : p.1 = k
    · simp only [valV_pos e, decide_eq_true e, Bool.true_or, Option.isSome_some]
    · rw [valV_neg e, decide_eq_false e, Bool.false_or]; exact valV_any k r
theorem length_putK (kvs : List (κ × V)) (k : κ) (v : V) : (putK kvs k v).length ≤ kvs.length + 1 := by
  unfold putK
  split
  · rw [List.length_map]; omega
  · rw [List.length_append, List.length_cons, List.length_nil]; omega
theorem putK_new {kvs : List (κ × V)} {k : κ} (v : V) (h : valV kvs k = none) : putK kvs k v = kvs ++ [(k, v)] := by
  unfold putK
  rw [valV_any, h]
  exact if_neg (by decide)

theorem RelO.isSome_eq {o : Option V} {u : Option Value} (r : RelO o u) : o.isSome = u.isSome := by
  cases o with
  | none => cases u with
    | none => rfl
    | some _ => exact (show False from r).elim
  | some _ => cases u with
    | none => exact (show False from r).elim
    | some _ => rfl
theorem RelO.getD {o : Option V} {u : Option Value} {d : V} {d' : Value} (r : RelO o u) (rd : RelV d d') : RelV (o.getD d) (u.getD d') := by
  cases o with
  | none => cases u with
    | none => exact rd
    | some _ => exact (show False from r).elim
  | some _ => cases u with
    | none => exact (show False from r).elim
    | some _ => exact r

/-- raw tables of the same keys -/
theorem KV.val {kvs : List (κ × V)} {vs : List (κ × Value)} (r : KV kvs vs) (k : κ) : RelO (valV kvs k) (valueAt vs k) := by
  unfold KV at r
  induction r with
  | nil => exact True.intro
  | @cons p q ps qs h t ih =>
    obtain ⟨h1, h2⟩ := h
    by_cases e : p.1 = k
    · have e' : q.1 = k := h1.symm.trans e
      have b : valueAt (q :: qs) k = some q.2 := by simp [valueAt, List.find?_cons, e']
      rw [valV_pos e, b]; exact h2
    · have e' : ¬ q.1 = k := fun z => e (h1.trans z)
      have b : valueAt (q :: qs) k = valueAt qs k := by simp [valueAt, List.find?_cons, e']
      rw [valV_neg e, b]; exact ih
theorem KV.any {kvs : List (κ × V)} {vs : List (κ × Value)} (r : KV kvs vs) (k : κ) : (kvs.any fun kv => decide (kv.1 = k)) = vs.any fun kv => decide (kv.1 = k) := by
  unfold KV at r
  induction r with
  | nil => rfl
  | cons h t ih => rw [List.any_cons, List.any_cons, ih, h.1]
theorem KV.repl {kvs : List (κ × V)} {vs : List (κ × Value)} (r : KV kvs vs) (k : κ) {y : V} {u : Value} (ry : RelV y u) :
    KV (kvs.map fun kv => if kv.1 = k then (kv.1, y) else kv) (vs.map fun kv => if kv.1 = k then (kv.1, u) else kv) := by
  unfold KV at r ⊢
  induction r with
  | nil => exact .nil
  | @cons p q ps qs h t ih =>
    rw [List.map_cons, List.map_cons]
    refine .cons ?_ ih
    obtain ⟨h1, h2⟩ := h
    by_cases e : p.1 = k
    · rw [if_pos e, if_pos (h1.symm.trans e)]; exact ⟨h1, ry⟩
    · rw [if_neg e, if_neg (fun z => e (h1.trans z))]; exact ⟨h1, h2⟩
theorem KV.put {kvs : List (κ × V)} {vs : List (κ × Value)} (r : KV kvs vs) (k : κ) {y : V} {u : Value} (ry : RelV y u) : KV (putK kvs k y) (stored vs k u) := by
  unfold putK stored
  rw [r.any k]
  by_cases e : (vs.any fun kv => decide (kv.1 = k)) = true
  · rw [if_pos e, if_pos e]; exact r.repl k ry
  · rw [if_neg e, if_neg e]; exact Paired.snoc r ⟨rfl, ry⟩
theorem KV.drop {kvs : List (κ × V)} {vs : List (κ × Value)} (r : KV kvs vs) (k : κ) : KV (dropK kvs k) (without vs k) := by
  unfold KV at r ⊢
  unfold dropK without
  induction r with
  | nil => exact .nil
  | @cons p q ps qs h t ih =>
    obtain ⟨h1, h2⟩ := h
    rw [List.filter_cons, List.filter_cons]
    by_cases e : p.1 = k
    · have a : ¬ decide (p.1 ≠ k) = true := by simp [e]
      have b : ¬ decide (q.1 ≠ k) = true := by simp [h1.symm.trans e]
      rw [if_neg a, if_neg b]; exact ih
    · have e' : ¬ q.1 = k := fun z => e (h1.trans z)
      have a : decide (p.1 ≠ k) = true := by simp [e]
      have b : decide (q.1 ≠ k) = true := by simp [e']
      rw [if_pos a, if_pos b]; exact .cons ⟨h1, h2⟩ ih
theorem KV.keys {kvs : List (κ × V)} {vs : List (κ × Value)} (r : KV kvs vs) : kvs.map (·.1) = vs.map (·.1) := by
  unfold KV at r
  induction r with
  | nil => rfl
  | cons h t ih => rw [List.map_cons, List.map_cons, ih, h.1]
theorem KV.length {kvs : List (κ × V)} {vs : List (κ × Value)} (r : KV kvs vs) : kvs.length = vs.length := Paired.length r
end

/-! ### a tracked dict, its keys ints and texts or tuples of these -/
theorem kV_is {P : Program} {w : World} {k : Key} {u : Value} (r : RelV (kV k) u) : (mixKind P w).is k u = true := by
  cases k with
  | inl i => obtain ⟨t, e⟩ := (show ∃ t, u = Value.int i t from r); subst e; exact mixKind_int P w i t
  | inr x => obtain ⟨t, e⟩ := (show ∃ t, u = Value.str x t from r); subst e; exact mixKind_str P w x t
theorem items_are {P : Program} {w : World} : ∀ {ks : List Key} {us : List Value}, Vals (ks.map kV) us → ItemsAre (mixKind P w) ks us
  | [], _, r => by rw [List.map_nil] at r; cases r; exact .nil
  | k :: ks, _, r => by
    rw [List.map_cons] at r
    cases r with
    | cons h t => exact .cons (kV_is h) (items_are t)

/-- raw entries of a dict with tuple keys -/
abbrev KT (H : Hp) : List (List Key × V) → List (List Key × Addr × Value) → Prop := Paired fun p q => p.1 = q.1 ∧ H q.2.1 = some (.tup (p.1.map kV)) ∧ RelV p.2 q.2.2
theorem KT.val {H : Hp} {kvs : List (List Key × V)} {xs : List (List Key × Addr × Value)} (r : KT H kvs xs) (k : List Key) : RelO (valV kvs k) ((atKey xs k).map (·.2)) := by
  induction r with
  | nil => exact True.intro
  | @cons p q ps qs h t ih =>
    obtain ⟨h1, _, h2⟩ := h
    by_cases e : p.1 = k
    · have e' : q.1 = k := h1.symm.trans e
      have b : atKey (q :: qs) k = some q.2 := by simp [atKey, List.find?_cons, e']
      rw [valV_pos e, b]; exact h2
    · have e' : ¬ q.1 = k := fun z => e (h1.trans z)
      have b : atKey (q :: qs) k = atKey qs k := by simp [atKey, List.find?_cons, e']
      rw [valV_neg e, b]; exact ih
theorem KT.repl {H : Hp} {kvs : List (List Key × V)} {xs : List (List Key × Addr × Value)} (r : KT H kvs xs) (k : List Key) {y : V} {u : Value} (ry : RelV y u) :
    KT H (kvs.map fun kv => if kv.1 = k then (kv.1, y) else kv) (xs.map (putAt k u)) := by
  induction r with
  | nil => exact .nil
  | @cons p q ps qs h t ih =>
    rw [List.map_cons, List.map_cons]
    refine .cons ?_ ih
    obtain ⟨h1, h2, h3⟩ := h
    unfold putAt
    by_cases e : p.1 = k
    · rw [if_pos e, if_pos (h1.symm.trans e)]; exact ⟨h1, h2, ry⟩
    · rw [if_neg e, if_neg (fun z => e (h1.trans z))]; exact ⟨h1, h2, h3⟩
theorem KT.put {H : Hp} {kvs : List (List Key × V)} {xs : List (List Key × Addr × Value)} (r : KT H kvs xs) (k : List Key) {b : Addr} {y : V} {u : Value} (hb : H b = some (.tup (k.map kV))) (ry : RelV y u) :
    KT H (putK kvs k y) (storedH xs k b u) := by
  have e : (kvs.any fun kv => decide (kv.1 = k)) = (atKey xs k).isSome := by
    rw [valV_any, (r.val k).isSome_eq, Option.isSome_map]
  unfold putK storedH
  rw [e]
  by_cases q : (atKey xs k).isSome = true
  · rw [if_pos q, if_pos q]; exact r.repl k ry
  · rw [if_neg q, if_neg q]; exact Paired.snoc r ⟨rfl, hb, ry⟩
theorem KT.keeps {H H' : Hp} {kvs : List (List Key × V)} {xs : List (List Key × Addr × Value)} (r : KT H kvs xs) (ht : ∀ b ys, H b = some (.tup ys) → H' b = some (.tup ys)) : KT H' kvs xs :=
  Paired.mapP r fun _ _ z => ⟨z.1, ht _ _ z.2.1, z.2.2⟩

section
variable {P : Program} {w : World} {H : Hp} {h : Heap} {a : Addr}
theorem rd_of {u : HO} (ok : HOk P w H h) (e : Rd H a u) : ObjOk P w H h a u := e.ok ok
theorem dk_rd {kvs : List (Key × V)} (ok : HOk P w H h) (e : Rd H a (.dK kvs)) : kvs.length ≤ sizeLine ∧ (a == sysModules) = false ∧ ∃ vs, KV kvs vs ∧ h.DictOf (mixKind P w) a vs :=
  show ObjOk P w H h a (.dK kvs) from rd_of ok e
theorem dk_of {kvs : List (Key × V)} (ok : HOk P w H h) (e : H a = some (.dK kvs)) : kvs.length ≤ sizeLine ∧ (a == sysModules) = false ∧ ∃ vs, KV kvs vs ∧ h.DictOf (mixKind P w) a vs := dk_rd ok (.inl e)
/-- a tracked tuple of ints and texts is a key -/
theorem key_of {ks : List Key} (ok : HOk P w H h) (e : H a = some (.tup (ks.map kV))) : (tupleKind (mixKind P w)).is h ks a := by
  obtain ⟨_, its, r, o, h1, h2, n, h3⟩ := (show ObjOk P w H h a (.tup (ks.map kV)) from ok a _ e)
  exact ⟨o, its.toArray, n, h1, h2, h3, by simpa using items_are r⟩
theorem dt_rd {kvs : List (List Key × V)} (ok : HOk P w H h) (e : Rd H a (.dT kvs)) : kvs.length ≤ sizeLine ∧ (a == sysModules) = false ∧
    ∃ xs, KT H kvs xs ∧ h.DictOfH (tupleKind (mixKind P w)) a xs := by
  obtain ⟨z, y, xs, r, o, es, ep, h1, h2, h3, h4, h5⟩ := (show ObjOk P w H h a (.dT kvs) from rd_of ok e)
  refine ⟨z, y, xs, r, o, es, ep, h1, h2, h3, h4, fun x hx => ?_, h5⟩
  have all : ∀ {l : List (List Key × V)} {m : List (List Key × Addr × Value)}, KT H l m → ∀ x ∈ m, (tupleKind (mixKind P w)).is h x.1 x.2.1 := by
    intro l m q
    induction q with
    | nil => intro x hx; exact nomatch hx
    | @cons p q ps qs hq t ih =>
      intro x hx
      rcases List.mem_cons.mp hx with e | hx
      · subst e
        exact key_of ok (by rw [← hq.1]; exact hq.2.1)
      · exact ih x hx
  exact all r x hx
theorem dt_of {kvs : List (List Key × V)} (ok : HOk P w H h) (e : H a = some (.dT kvs)) : kvs.length ≤ sizeLine ∧ (a == sysModules) = false ∧
    ∃ xs, KT H kvs xs ∧ h.DictOfH (tupleKind (mixKind P w)) a xs := dt_rd ok (.inl e)
end

/-- what the dict at a holds at the key y -/
def DGet (H : Hp) (a : Addr) (y : V) (r : Option V) : Prop :=
  (∃ kvs k, Rd H a (.dK kvs) ∧ y = kV k ∧ r = valV kvs k) ∨ ∃ kvs k b, Rd H a (.dT kvs) ∧ y = .ref b ∧ H b = some (.tup (k.map kV)) ∧ r = valV kvs k
/-- the heap behind a[y] = v -/
def DPut (H : Hp) (a : Addr) (y v : V) (H' : Hp) : Prop :=
  (∃ kvs k, H a = some (.dK kvs) ∧ y = kV k ∧ kvs.length < sizeLine ∧ H' = upd H a (.dK (putK kvs k v))) ∨
  ∃ kvs k b, H a = some (.dT kvs) ∧ y = .ref b ∧ H b = some (.tup (k.map kV)) ∧ kvs.length < sizeLine ∧ H' = upd H a (.dT (putK kvs k v))
theorem DGet.k {H : Hp} {a : Addr} {kvs : List (Key × V)} {k : Key} (e : H a = some (.dK kvs)) : DGet H a (kV k) (valV kvs k) := .inl ⟨kvs, k, .inl e, rfl, rfl⟩
theorem DGet.t {H : Hp} {a b : Addr} {kvs : List (List Key × V)} {k : List Key} (e : H a = some (.dT kvs)) (eb : H b = some (.tup (k.map kV))) : DGet H a (.ref b) (valV kvs k) := .inr ⟨kvs, k, b, .inl e, rfl, eb, rfl⟩
theorem DPut.k {H : Hp} {a : Addr} {kvs : List (Key × V)} {k : Key} {v : V} (e : H a = some (.dK kvs)) (hl : kvs.length < sizeLine) : DPut H a (kV k) v (upd H a (.dK (putK kvs k v))) := .inl ⟨kvs, k, e, rfl, hl, rfl⟩
theorem DPut.t {H : Hp} {a b : Addr} {kvs : List (List Key × V)} {k : List Key} {v : V} (e : H a = some (.dT kvs)) (eb : H b = some (.tup (k.map kV))) (hl : kvs.length < sizeLine) :
    DPut H a (.ref b) v (upd H a (.dT (putK kvs k v))) := .inr ⟨kvs, k, b, e, rfl, eb, hl, rfl⟩

section
variable {X : Cx} {pins : List (Addr × Obj)} {σ : St} {H : Hp} {s : Shared} {a : Addr} {y v : V} {u r : Value} {o : Option V} {A : Around} {E : Value → Shared → Prop}

theorem Inv.big (I : Inv X pins σ H s) : sysModules < s.heap.objs.size := by
  have h : mainGlobals < s.heap.objs.size := (I.mod.glob.keeps I.bk).lt
  exact Nat.lt_trans (by decide) h

/-- d[y], there -/
theorem d_getItem {Q : Value → Shared → Prop} (hu : A.units + 1 < cLine) (I : Inv X pins σ H s) (g : DGet H a y (some v)) (ry : RelV y u) (h : ∀ w' s', Inv X pins σ H s' → RelV v w' → Q w' s') :
    wpAny (model X.prog X.w) A (getItem (.ref a) u) Q E s := by
  rcases g with ⟨kvs, k, e, ey, l⟩ | ⟨kvs, k, b, e, ey, eb, l⟩
  · subst ey
    obtain ⟨z, hd, vs, rel, dd⟩ := dk_rd I.hok e
    obtain ⟨w', hw, rw'⟩ := RelO.some_of (v := v) (o := valueAt vs k) (by rw [l]; exact rel.val k)
    exact wpAny_getItem_of (kV_is ry) dd.mapOf hw (h w' _ (I.tok _) rw')
  · subst ey
    cases (show u = Value.ref b from ry)
    obtain ⟨z, hd, xs, rel, dd⟩ := dt_rd I.hok e
    obtain ⟨w', hw, rw'⟩ := RelO.some_of (v := v) (o := (atKey xs k).map (·.2)) (by rw [l]; exact rel.val k)
    obtain ⟨p, hp, hp2⟩ := Option.map_eq_some_iff.mp hw
    refine wpAny_getItem_heap (tupleKind_room_in1 hu) (key_of I.hok eb) dd hp ?_
    rw [hp2]
    exact h w' _ (I.tok _) rw'
/-- a dict's object is replaced -/
theorem d_write {h' : Heap} {t' : Nat} {ob : HO} (I : Inv X pins σ H s) (mu : Mut (H a)) (hs : Heap.SameBut a s.heap h') (he : ∃ q, h'.get? a = some q) (new : ObjOk X.prog X.w (upd H a ob) h' a ob) :
    Inv X pins σ (upd H a ob) { s with heap := h', toks := t' } :=
  I.write (x := a) (e := a) mu (.inl rfl) (fun b q hb z => (hs.2 b hb).trans z) he new
theorem dk_new {P : Program} {w : World} {H' : Hp} {h' : Heap} {kvs : List (Key × V)} {vs : List (Key × Value)} (z : kvs.length ≤ sizeLine) (hd : (a == sysModules) = false) (rel : KV kvs vs) (dd : h'.DictOf (mixKind P w) a vs) :
    ObjOk P w H' h' a (.dK kvs) := ⟨z, hd, vs, rel, dd⟩
/-- d[y] = v -/
theorem d_setItem {H' : Hp} {Q : Unit → Shared → Prop} (hu : A.units + 1 < cLine) (I : Inv X pins σ H s) (g : DPut H a y v H') (ry : RelV y u) (rv : RelV v r) (h : ∀ s', Inv X pins σ H' s' → Q () s') :
    wpAny (model X.prog X.w) A (setItem (.ref a) u r) Q E s := by
  rcases g with ⟨kvs, k, e, ey, l, eH⟩ | ⟨kvs, k, b, e, ey, eb, l, eH⟩
  · subst ey eH
    obtain ⟨z, hd, vs, rel, dd⟩ := dk_of I.hok e
    have hz : vs.length ≤ sizeLine := by rw [← rel.length]; exact z
    have hl : (putK kvs k v).length ≤ sizeLine := by have := length_putK kvs k v; omega
    refine wpAny_setItem_pairs (hsz := hz) (kV_is ry) dd fun h' dd' hs => h _ ?_
    have he : ∃ q, h'.get? a = some q := let ⟨q, _, _, hq, _⟩ := dd'; ⟨q, hq⟩
    exact d_write I (by rw [e]; exact True.intro) hs he (dk_new hl hd (rel.put k rv) dd')
  · subst ey eH
    cases (show u = Value.ref b from ry)
    obtain ⟨z, hd, xs, rel, dd⟩ := dt_of I.hok e
    have hz : xs.length ≤ sizeLine := by rw [← Paired.length rel]; exact z
    have hl : (putK kvs k v).length ≤ sizeLine := by have := length_putK kvs k v; omega
    refine wpAny_setItem_heap (hsz := hz) (tupleKind_room_in1 hu) (key_of I.hok eb) dd fun h' dd' hs => h _ ?_
    obtain ⟨q, es, ep, hq, h2, h3, h4, _, h5⟩ := dd'
    refine d_write I (by rw [e]; exact True.intro) hs ⟨q, hq⟩ ⟨hl, hd, _, (rel.put k eb rv).keeps fun c ys ec => ?_, q, es, ep, hq, h2, h3, h4, h5⟩
    rw [upd_ne (ne_of ec e (fun z => nomatch z))]
    exact ec
end

section
variable {X : Cx} {pins : List (Addr × Obj)} {σ : St} {H : Hp} {s : Shared} {a : Addr} {kvs : List (Key × V)} {k : Key} {u : Value} {A : Around} {E : Value → Shared → Prop}
end

/-! ### readings and rules -/
/-- the element of a subscription, not a slice -/
def NoSl (i : Expr) : Prop := ∀ ov iv, subscripted i false ov iv = operate [ov, iv] (getItem ov iv)
theorem subD_of {prog : Program} {w : World} {A : Around} {E : Value → Shared → Prop} {s : Shared} {env : Env} {value slice : Expr} {pos : Pos} {T id : String} {Q : Value → Shared → Prop}
    (hl : typeLookup (.type T) "__getitem__" = pure (some (.builtin id))) (hs : NoSl slice)
    (h : wpAny (model prog w) A (eval value env) (fun o s₁ => wpAny (model prog w) A (eval slice env) (fun i s₂ => s₂.TypeIs o T ∧ wpAny (model prog w) A (getItem o i) Q E s₂) E s₁) E s) :
    wpAny (model prog w) A (eval (.Subscript value slice pos) env) Q E s := by
  refine Subscript_ (wpAny_mono h (fun o s₁ h₁ => wpAny_mono h₁ (fun i s₂ h₂ => ?_) fun _ _ x => x) fun _ _ x => x)
  obtain ⟨hT, h₂⟩ := h₂
  unfold subscriptTail
  refine wpAny_bind ?_
  rw [getitemInPython_of_ne hT.not_modules]
  refine wpAny_bind (wpAny_specialOf hT hl ?_)
  have fin : wpAny (model prog w) A (subscripted slice false o i) (fun r s₃ => wpAny (model prog w) A (letTemporaryGo value o r >>= fun _ => pure r) Q E s₃) E s₂ := by
    rw [hs o i]
    exact wpAny_operating (wpAny_mono h₂ (fun r s₃ h₃ => wpAny_bind (wpAny_letTemporaryGo (wpAny_pure h₃))) fun _ _ x => x)
  first
    | exact wpAny_pure (wpAny_bind fin)
    | exact wpAny_bind (wpAny_pure (wpAny_bind fin))
    | exact wpAny_bind fin

theorem dict_typeIs {X : Cx} {pins : List (Addr × Obj)} {σ : St} {H : Hp} {s : Shared} {a : Addr} {y : V} {o : Option V} (I : Inv X pins σ H s) (g : DGet H a y o) : s.TypeIs (.ref a) "dict" := by
  rcases g with ⟨kvs, k, e, _, _⟩ | ⟨kvs, k, b, e, _, _, _⟩
  · obtain ⟨_, _, vs, _, dd⟩ := dk_rd I.hok e
    exact dd.typeIs
  · obtain ⟨_, _, xs, _, dd⟩ := dt_rd I.hok e
    exact dd.typeIs
/-- d[y] -/
def tDGet (td ty : TE) : TE := fun σ H Q => td σ H fun x H1 => ty σ H1 fun y H2 => ∃ a v, x = .ref a ∧ DGet H2 a y (some v) ∧ Q v H2
/-- y in d, y not in d -/
def tDIn (ty td : TE) : TE := fun σ H Q => ty σ H fun y H1 => td σ H1 fun x H2 => ∃ a o, x = .ref a ∧ DGet H2 a y o ∧ Q (.bl o.isSome) H2
def tDNotIn (ty td : TE) : TE := fun σ H Q => ty σ H fun y H1 => td σ H1 fun x H2 => ∃ a o, x = .ref a ∧ DGet H2 a y o ∧ Q (.bl (!o.isSome)) H2
/-- d[y] = v -/
def sDPut (td ty tv : TE) : TS := fun D σ H => tv σ H fun v H1 => td σ H1 fun x H2 => ty σ H2 fun y H3 => ∃ a H4, x = .ref a ∧ DPut H3 a y v H4 ∧ D.nx σ H4
/-- d[y] op= v -/
def sDAug (td ty tv : TE) (rd : V → V → Hp → VK → Prop) : TS := fun D σ H => td σ H fun x H1 => ty σ H1 fun y H2 => ∃ a v, x = .ref a ∧ DGet H2 a y (some v) ∧
  tv σ H2 fun y2 H3 => rd v y2 H3 fun z H4 => ∃ H5, DPut H4 a y z H5 ∧ D.nx σ H5
/-- del d[y] -/
def sDDel (td ty : TE) : TS := fun D σ H => td σ H fun x H1 => ty σ H1 fun y H2 => ∃ a kvs k, x = .ref a ∧ H2 a = some (.dK kvs) ∧ y = kV k ∧ (valV kvs k).isSome = true ∧ D.nx σ (upd H2 a (.dK (dropK kvs k)))

section
variable {X : Cx} {o i e value : Expr} {pos pos' tpos : Pos} {td ty tv : TE}
theorem pe_dget (hu : X.A.units + 1 < cLine) (ho : PE X o td) (hi : PE X i ty) (hs : NoSl i) : PE X (.Subscript o i pos) (tDGet td ty) := by
  intro pins s σ H Q I h
  refine subD_of PySem.F.slot_dict_getitem.lookup hs (thn (ho pins s σ H _ I h) fun u s1 ⟨x, H1, I1, rx, q1⟩ => thn (hi pins s1 σ H1 _ I1 q1) fun iv s2 ⟨y, H2, I2, ry, a, v, ex, g, q2⟩ => ?_)
  subst ex
  obtain rfl : u = Value.ref a := rx
  exact ⟨dict_typeIs I2 g, d_getItem hu I2 g ry fun w' s3 I3 rw' => ⟨v, H2, I3, rw', q2⟩⟩
theorem ps_dput (hu : X.A.units + 1 < cLine) (ho : PE X o td) (hi : PE X i ty) (hv : PE X value tv) (hs : swapsWith value (some (.Subscript o i pos')) pos.line X.env = pure false) :
    PS X (.Assign [.Subscript o i pos'] value pos) (sDPut td ty tv) := by
  intro pins s σ H D I h
  refine wpAny_Assign_Subscript (thn (hv pins s σ H _ I h) fun r s1 ⟨v, H1, I1, rv, q1⟩ => thn (ho pins s1 σ H1 _ I1 q1) fun u s2 ⟨x, H2, I2, rx, q2⟩ => thn (hi pins s2 σ H2 _ I2 q2) fun iv s3 ⟨y, H3, I3, ry, a, H4, ex, g, q3⟩ => ?_) hs
  subst ex
  obtain rfl : u = Value.ref a := rx
  exact d_setItem hu I3 g ry rv fun s4 I4 => ⟨σ, H4, I4, q3⟩
end

/-! ### displays -/
theorem dk_empty {P : Program} {w : World} {H : Hp} (h : Heap) (hb : sysModules < h.objs.size) : ObjOk P w H (h.push { cls := .type "dict", data := .dict #[] }) h.objs.size (.dK []) :=
  ⟨Nat.zero_le _, beq_eq_false_iff_ne.mpr (Ne.symm (Nat.ne_of_lt hb)), [], .nil, Heap.DictOf.new h⟩
/-- {}, to be a dict of the kind that is wanted -/
def tDNewK : TE := fun _ H Q => ∀ p, H p = none → Q (.ref p) (upd H p (.dK []))
def tDNewT : TE := fun _ H Q => ∀ p, H p = none → Q (.ref p) (upd H p (.dT []))
section
variable {X : Cx} {pos : Pos}
theorem pe_dnewK : PE X (.Dict [] [] pos) tDNewK := fun pins s σ H Q I h =>
  wpAny_Dict_empty ⟨.ref s.heap.objs.size, _, I.laid (a := s.heap.objs.size) (o := .dK []) (t' := s.toks) (fun _ _ q => Heap.get?_push_of_some _ q) (Nat.le_refl _) (dk_empty s.heap I.big), rfl, h _ (I.hok.fresh (Nat.le_refl _))⟩
end
end L2

namespace L2
open PySem PySem.Spec PyProof.Rows
/-! ## dicts of whole numbers: made, filled, read, their keys sorted -/
/-- a loop over what an expression makes -/
theorem for_evJ {wi : TI} {g : TG} {tb : TS} {D : Ends} {σ : St} {H : Hp} {J : Addr → It} (Ps : Addr → Hp → Prop) (hn : ∀ N : It → Hp → Prop, (∀ S H', Ps S H' → N (J S) H') → wi σ H N)
    (h : ∀ S H', Ps S H' → tFor (fun _ H2 N => N (J S) H2) g tb D σ H') : tFor wi g tb D σ H := hn _ fun S H' p => h S H' p
section
open PySem.W
variable {prog : Program} {w : World} {A : Around} {E : Value → Shared → Prop} {s : Shared} {T : String} {r d : Addr} {n : Nat} {P : Nat → Value → Prop} {OK : Heap → Prop}
/-- what walking r gives, gathered; the gathering list stays at the heap's old end -/
theorem gather {R : List Value → Shared → Prop} (S : KdlSrc prog w T r d n P OK) (hh : A.handled = none) (ok : OK s.heap) (hn : n ≤ sizeLine)
    (h : ∀ h' tk acc, s.heap.objs.size < (h' : Heap).objs.size → (∀ b o, s.heap.get? b = some o → h'.get? b = some o) → ItemsOf P acc n → R acc.toList { s with heap := h', toks := tk }) : wpAny (model prog w) A (collect (.ref r)) R E s := by
  obtain ⟨l1, l2⟩ := S.there _ ok
  let End : Result → Shared → Prop := fun q s' => ∃ h' tk acc c, q = .ok (.ret (.ref s.heap.objs.size)) ∧ s' = { s with heap := h', toks := tk } ∧ (∀ b o, s.heap.get? b = some o → h'.get? b = some o) ∧ h'.get? s.heap.objs.size = some ⟨.type "list", none, .seq acc c, #[]⟩ ∧ ItemsOf P acc n
  have key := kdl_extend (A := A) (R := End) (s := { s with heap := s.heap.push { cls := .type "list", data := .seq ([] : List Value).toArray } }) S hh (S.keep _ _ ok fun b _ o e => Heap.get?_push_of_some _ e) s.heap.objs.size (Nat.ne_of_gt l1) (Nat.ne_of_gt l2) (.ref s.heap.objs.size) 0 (Heap.get?_push_size _ rfl) (fun h' tk acc c k1 k2 k3 => ⟨h', tk, acc, c, rfl, rfl, fun b o e => k1 b o (Nat.ne_of_lt (Heap.lt_size e)) (Heap.get?_push_of_some _ e), k2, k3⟩) hn
  have fin : ∀ {q : Result} {s' : Shared}, End q s' → ∃ h' tk acc c, q = .ok (.ret (.ref s.heap.objs.size)) ∧ s' = { s with heap := h', toks := tk } ∧ h'.get? s.heap.objs.size = some ⟨.type "list", none, .seq acc c, #[]⟩ ∧ R acc.toList s' := fun {q s'} e => by
    obtain ⟨h', tk, acc, c, e1, e2, k1, k2, k3⟩ := e
    exact ⟨h', tk, acc, c, e1, e2, k2, by rw [e2]; exact h h' tk acc (Heap.lt_size k2) k1 k3⟩
  unfold collect
  refine wpAny_bind (wpAny_runValue (codeAny_builtin entry_proto_collect' ?_))
  rw [Around.under_plainId PySem.F.plain_proto_collect _]
  show wpAny _ A.in1 (newList [] >>= fun g => again (.builtin "list.__iadd__" ⟨[g, .ref r], []⟩)) _ _ s
  refine wpAny_bind (wpAny_newObj_type (wpAny_pure ⟨plainId_quiet PySem.F.plain_list_iadd _, codeAny_builtin entry_list_iadd' ?_⟩))
  rw [Around.under_plainId PySem.F.plain_list_iadd _]
  refine wpAny_mono key (fun f s' x => ?_) fun e s' x => ?_
  · cases f with
    | done f =>
      obtain ⟨h', tk, acc, c, e1, rfl, k2, k3⟩ := fin x
      cases e1
      exact wpAny_bind (wpAny_load k2 (wpAny_pure k3))
    | again c₁ =>
      refine ⟨x.1, codeAny_mono x.2 fun q s₂ y => ?_⟩
      obtain ⟨h', tk, acc, c, rfl, rfl, k2, k3⟩ := fin y
      exact wpAny_bind (wpAny_load k2 (wpAny_pure k3))
  · obtain ⟨_, _, _, _, e', _⟩ := fin x
    cases e'
end
section
variable {X : Cx}
def rSortedD : List V → Hp → VK → Prop := fun vs H Q => on1 vs fun x => ∃ (a : Addr) (kvs : List (Key × V)) (ns : List Int), x = .ref a ∧ H a = some (.dK kvs) ∧ kvs.map (·.1) = ns.map Sum.inl ∧ ns.length < 64 ∧ new H (.lst ((sortZ ns).map V.int)) Q
theorem ints_by {ns : List Int} {us : List Value} (hl : us.length = ns.length) (h : ∀ (i : Nat) n u, ns[i]? = some n → us[i]? = some u → ∃ t, u = .int n t) : IntsAre us ns := by
  induction ns generalizing us with
  | nil => cases us with
    | nil => exact .nil
    | cons u us => simp at hl
  | cons n ns ih => cases us with
    | nil => simp at hl
    | cons u us =>
      obtain ⟨t, rfl⟩ := h 0 n u rfl rfl
      exact .cons n t (ih (by simpa using hl) fun i x u h1 h2 => h (i + 1) x u (by simpa using h1) (by simpa using h2))
theorem f_sortedD (hc : X.calm = true) : CallR X (.builtin "sorted") rSortedD := by
  intro pins s σ H xs us Q I r h
  obtain ⟨x, rfl, p, kvs, ns, rfl, hp, hk, hz, q⟩ := on1.out h
  obtain ⟨u, rfl, rx⟩ := vals1 r
  cases rx
  obtain ⟨hz1, hS, vs, rkv, m⟩ := dk_of I.hok hp
  obtain ⟨ep, hat⟩ := m.dictAt
  have ek := rkv.keys
  rw [hk] at ek
  have lk : vs.length = ns.length := by have := congrArg List.length ek; simpa using this.symm
  refine Calls.call_function_entry kind_sorted plain_sorted entry_sorted (args_sorted1 _) ?_
  unfold Builtin.«sorted»
  refine wpAny_bind (m := checkCount "sorted" 1 1 _) (wpAny_pure ?_)
  have hs : sizeLine = 16777216 := sizeLine_eq
  refine wpAny_bind (gather (A := X.A.in1) (PySem.W.kdl_dict (knd := mixKind X.prog X.w) (kvs := vs) (ep := ep) hS) (I.ok.hd hc) hat (by omega) fun h' tk acc hsz hk' hacc => ?_)
  have hl : acc.toList.length = ns.length := by rw [Array.length_toList]; exact hacc.1.trans lk
  have hI : IntsAre acc.toList ns := ints_by hl fun i n u h1 h2 => by
    rw [Array.getElem?_toList] at h2
    obtain ⟨k, x, e1, e2⟩ := hacc.2 i u h2
    have e3 : (vs.map (·.1))[i]? = some k := by rw [List.getElem?_map, e1]; rfl
    rw [← ek, List.getElem?_map, h1] at e3
    have : k = Sum.inl n := by simpa using e3.symm
    subst this
    obtain ⟨t, e⟩ := Value.isInt_shape (k := n) (v := u) e2
    exact ⟨t, e⟩
  refine wpAny_bind (wpAny_newList ?_ (by rw [hl]; omega))
  have hoL : (h'.push (seqObj "list" acc.toList.toArray 0)).get? h'.objs.size = some (seqObj "list" acc.toList.toArray 0) := Heap.get?_push_size _ rfl
  refine wpAny_bind (wpAny_holding (wpAny_call_entry slot_list_sort ⟨_, hoL, rfl⟩ entry_list_sort (list_sort_tree (s := { s with heap := h'.push (seqObj "list" acc.toList.toArray 0), toks := tk }) hoL hI (by rw [hl]; exact hz) fun out ns' a1 a2 a3 => ⟨_, rfl, ?_⟩) (args_list_sort _)))
  refine wpAny_pure ⟨_, rfl, ?_⟩
  have e := sortZ_uniq a2 a3
  subst e
  obtain ⟨ee, he⟩ := sortedHeap_at (vs := acc.toList) (out := out) hoL
  have := sortZ_len ns
  have hsz := Nat.le_of_lt hsz
  refine ⟨.ref h'.objs.size, _, I.laid (t' := tk) (fun b o eo => ?_) hsz (show ObjOk X.prog X.w _ _ _ (.lst ((sortZ ns).map V.int)) from ⟨by rw [List.length_map]; omega, out.toList, ee, vals_ints a1, he⟩), rfl, q _ (I.hok.fresh hsz)⟩
  have hb := hk' b o eo
  have hlt := Heap.lt_size hb
  rw [sortedHeap_old (Nat.ne_of_lt hlt) (by rw [Heap.size_push]; exact Nat.lt_succ_of_lt hlt), Heap.get?_push_of_some _ hb]
@[simp] theorem rd_sortedD {vs : List V} {H : Hp} {Q : VK} : rSortedD vs H Q = on1 vs fun x => ∃ (a : Addr) (kvs : List (Key × V)) (ns : List Int), x = .ref a ∧ H a = some (.dK kvs) ∧ kvs.map (·.1) = ns.map Sum.inl ∧ ns.length < 64 ∧ new H (.lst ((sortZ ns).map V.int)) Q := rfl
end
end L2

namespace SR
open PySem
def top (i : Nat) : Stmt := PySem.Challenge.pw_stairrows_k08_pairs_refused.main.body.getD i (.Pass ⟨0, 0, 0, 0⟩)
end SR
namespace SR
open PySem L2 RS PySem.Spec PyProof.Rows
section
variable {P : Program} {w : World} {K : PySem.W.Frag} {mg : Str → Option Value} {base : Heap}
/-! ### _law_drawn -/
abbrev s_law_drawn : Stmt := top 26
theorem sc_law_drawn : FnScope ["script", "k", "many", "cell", "mixed"] ["script", "k", "many"] (defScope s_law_drawn) := ⟨rfl, rfl, rfl, by decide +kernel, rfl, by decide +kernel, by decide +kernel⟩

def spDrawn (K : PySem.W.Frag) : Sp := fun vs H Q _ => ∃ (a : Addr) (ns : List Int) (k m : Int), vs = [.ref a, .int k, .int m] ∧ SqL K H a (ns.map V.int) ∧ ns.length ≤ 63 ∧ 0 ≤ k ∧ k < 1000 ∧ 0 < m ∧ Q (.int (drawnZ ns k m)) H
theorem ok_drawn {f : Addr} {fd : FuncData} (F : Fun K "_law_drawn" "_law_drawn" s_law_drawn f fd) (T : Bl mg) : FnOk P w K mg base CX0 1 f fd ["script", "k", "many"] (spDrawn K) := by
  refine F.ok sc_law_drawn (fun vs H Q E h => ?_) (fun cdv A outer s H vs Q E hr h => ?_)
  · obtain ⟨a, ns, k, m, rfl, _⟩ := h; rfl
  · obtain ⟨a, ns, k, m, rfl, hS, hl, hk0, hk1, hm, q⟩ := h
    refine ⟨_, (pss_cons (ps_set (i := 3) sc_law_drawn.nd rfl (Or.inl rfl) pe_int)
      (pss_cons (ps_if (pt_cmpR f_gt (pe_callB call_len_seq (by rfl) T.len BI.len (pa_cons (pv 0) pa_nil)) pe_int (nomark _)) (pss_one (ps_set (i := 3) sc_law_drawn.nd rfl (Or.inl rfl) (pe_ix ix_list (pv 0) (pe_op f_mod (pv 1) (pe_callB call_len_seq (by rfl) T.len BI.len (pa_cons (pv 0) pa_nil))) (fun _ _ => rfl)))) pss_nil)
      (pss_cons (ps_set (i := 4) sc_law_drawn.nd rfl (Or.inl rfl) (pe_op f_add (pe_op f_add (pe_op f_mulF (pv 3) (pe_op f_add pe_int (pe_op f_mulF pe_int (pe_op f_mod (pv 1) pe_int)))) (pe_op f_mulF (pe_op f_mulF (pe_op f_add (pv 1) pe_int) (pe_op f_add (pv 1) pe_int)) pe_int)) (pe_callB call_len_seq (by rfl) T.len BI.len (pa_cons (pv 0) pa_nil))))
      (pss_one (ps_ret (pe_op f_mod (pe_op f_fdiv (pe_op f_mod (pv 4) pe_int) pe_int) (pv 2))))))), ?_⟩
    have e0 : start ["script", "k", "many", "cell", "mixed"] [V.ref a, V.int k, V.int m] = [some (.ref a), some (.int k), some (.int m), none, none] := rfl
    rw [e0]
    simp
    have c1 : CMul 9973 (k % 97) := .inl ⟨by decide, by decide⟩
    have c2 : ∀ i, CMul i (48271 + 9973 * (k % 97)) := fun i => .inr ⟨by omega, by omega⟩
    have c3 : CMul (k + 1) (k + 3) := .inl ⟨by omega, by omega⟩
    have c4 : CMul ((k + 1) * (k + 3)) 16807 := .inr ⟨by decide, by decide⟩
    have c5 : ∀ i, CDiv i 16 := fun i => ⟨by decide, by decide⟩
    refine ⟨_, .inl hS, ?_⟩
    by_cases h0 : ns.length = 0
    · rw [if_neg (by simp [h0])]
      refine ⟨c1, c2 7, c3, c4, _, .inl hS, c5 _, hm, ?_⟩
      have e : drawnZ ns k m = (7 * (48271 + 9973 * (k % 97)) + (k + 1) * (k + 3) * 16807 + ((ns.map V.int).length : Int)) % 2147483647 / 16 % m := by
        unfold drawnZ
        rw [if_pos h0, List.length_map]
      rw [← e]
      exact q
    · have hp : 0 < ns.length := by omega
      rw [if_pos (by rw [List.length_map]; exact hp)]
      have hi0 : 0 ≤ k % (ns.length : Int) := Int.emod_nonneg _ (by omega)
      have hi1 : k % (ns.length : Int) < ns.length := Int.emod_lt_of_pos _ (by omega)
      have ex : ns[(k % (ns.length : Int)).toNat]? = some (ns.getD (k % (ns.length : Int)).toNat 0) := by
        have : (k % (ns.length : Int)).toNat < ns.length := by omega
        rw [List.getD_eq_getElem?_getD, List.getElem?_eq_getElem this]; rfl
      refine ⟨_, .inl hS, by rw [List.length_map]; exact hp, a, _, _, .int (ns.getD (k % (ns.length : Int)).toNat 0), rfl, rfl, hS, by rw [List.length_map]; exact atI_map hi0 ex, c1, c2 _, c3, c4, _, .inl hS, c5 _, hm, ?_⟩
      have e : drawnZ ns k m = (ns.getD (k % (ns.length : Int)).toNat 0 * (48271 + 9973 * (k % 97)) + (k + 1) * (k + 3) * 16807 + ((ns.map V.int).length : Int)) % 2147483647 / 16 % m := by
        unfold drawnZ
        rw [if_neg h0, List.length_map]
      rw [← e]
      exact q
end
end SR

namespace SR
open PySem L2 RS PySem.Spec PyProof.Rows
section
variable {P : Program} {w : World} {K : PySem.W.Frag} {mg : Str → Option Value} {base : Heap}
theorem drawn_step {H : Hp} {a : Addr} {ns : List Int} {k m : Int} {Q : VK} {E : XK} (hS : SqL K H a (ns.map V.int)) (hl : ns.length ≤ 63) (hk0 : 0 ≤ k) (hk1 : k < 1000) (hm : 0 < m) (q : Q (.int (drawnZ ns k m)) H) : spDrawn K [.ref a, .int k, .int m] H Q E := ⟨a, ns, k, m, rfl, hS, hl, hk0, hk1, hm, q⟩
theorem insAt_map {α β : Type} (f : α → β) (i : Nat) (x : α) (l : List α) : (insAt i x l).map f = (l.map f).take i ++ f x :: (l.map f).drop i := by
  unfold insAt
  rw [List.map_append, List.map_cons, List.map_take, List.map_drop]
/-! ### _law_row_by -/
abbrev s_law_row_by : Stmt := top 27
theorem sc_law_row_by : FnScope ["script", "bound", "many", "number", "great", "order", "numbers", "k"] ["script", "bound"] (defScope s_law_row_by) := ⟨rfl, rfl, rfl, by decide +kernel, rfl, by decide +kernel, by decide +kernel⟩

def spRowBy (K : PySem.W.Frag) : Sp := fun vs H Q _ => ∃ (a : Addr) (ns : List Int) (b : Int), vs = [.ref a, .int b] ∧ SqL K H a (ns.map V.int) ∧ ns.length ≤ 63 ∧ 0 ≤ b ∧ b ≤ 40 ∧
  ∀ r H', Same H H' → H r = none → H' r = some (.lst ((rowZ ns b).map V.int)) → Q (.ref r) H'
theorem ok_row_by {f : Addr} {fd : FuncData} (F : Fun K "_law_row_by" "_law_row_by" s_law_row_by f fd) (T : Bl mg) (C_law_drawn : Cal P w K mg base 1 "_law_drawn" ["script", "k", "many"] (spDrawn K)) : FnOk P w K mg base CX0 2 f fd ["script", "bound"] (spRowBy K) := by
  refine F.ok sc_law_row_by (fun vs H Q E h => ?_) (fun cdv A outer s H vs Q E hr h => ?_)
  · obtain ⟨a, ns, b, rfl, _⟩ := h; rfl
  · obtain ⟨a, ns, b, rfl, hS, hl, hb0, hb1, q⟩ := h
    refine ⟨_, (pss_cons (ps_set (i := 2) sc_law_row_by.nd rfl (Or.inl rfl) (pe_cl C_law_drawn (hr.mono (by decide)) (by rfl) (pa_cons (pv 0) (pa_cons pe_int (pa_cons (pe_callB (f_min rfl) (by rfl) T.min BI.min (pa_cons pe_int (pa_cons (pe_op f_add (pv 1) pe_int) pa_nil))) pa_nil)))))
      (pss_cons (ps_if (pt_cmpR (f_eqF (hu64 hr)) (pe_cl C_law_drawn (hr.mono (by decide)) (by rfl) (pa_cons (pv 0) (pa_cons pe_int (pa_cons pe_int pa_nil)))) pe_int (nomark _)) (pss_one (ps_set (i := 2) sc_law_row_by.nd rfl (Or.inl rfl) (pe_cl C_law_drawn (hr.mono (by decide)) (by rfl) (pa_cons (pv 0) (pa_cons pe_int (pa_cons (pe_op f_add (pv 1) pe_int) pa_nil)))))) pss_nil)
      (pss_cons (ps_set (i := 3) sc_law_row_by.nd rfl (Or.inl rfl) (pe_op f_sub (pe_cl C_law_drawn (hr.mono (by decide)) (by rfl) (pa_cons (pv 0) (pa_cons pe_int (pa_cons pe_int pa_nil)))) pe_int))
      (pss_cons (ps_set (i := 4) sc_law_row_by.nd rfl (Or.inl rfl) (pe_ix f_ix (pe_lst (pa_cons pe_int (pa_cons pe_int (pa_cons (pe_op f_pow pe_int pe_int) pa_nil)))) (pe_cl C_law_drawn (hr.mono (by decide)) (by rfl) (pa_cons (pv 0) (pa_cons pe_int (pa_cons pe_int pa_nil)))) (fun _ _ => rfl)))
      (pss_cons (ps_set (i := 5) sc_law_row_by.nd rfl (Or.inl rfl) (pe_lst pa_nil))
      (pss_cons (ps_set (i := 6) sc_law_row_by.nd rfl (Or.inr rfl) (pe_lst pa_nil))
      (pss_cons (ps_for PassesOwn.never rfl (pi_range1 (by rfl) T.range (pa_cons (pv 2) pa_nil)) (pg_name (i := 7) sc_law_row_by.nd rfl (Or.inl rfl)) (pss_cons (ps_expr (pe_ml PySem.F.slot_list_insert PySem.F.type_list_insert f_insert (pv 5) (pa_cons (pe_cl C_law_drawn (hr.mono (by decide)) (by rfl) (pa_cons (pv 0) (pa_cons (pe_op f_add pe_int (pe_op f_mulF pe_int (pv 7))) (pa_cons (pe_op f_add (pv 7) pe_int) pa_nil)))) (pa_cons (pv 7) pa_nil))))
      (pss_cons (ps_set (i := 3) sc_law_row_by.nd rfl (Or.inl rfl) (pe_op f_add (pe_op f_add (pv 3) pe_int) (pe_op f_mulF (pe_cl C_law_drawn (hr.mono (by decide)) (by rfl) (pa_cons (pv 0) (pa_cons (pe_op f_add pe_int (pe_op f_mulF pe_int (pv 7))) (pa_cons pe_int pa_nil)))) (pv 4))))
      (pss_one (ps_expr (pe_ml PySem.F.slot_list_append PySem.F.type_list_append f_append (pv 6) (pa_cons (pv 3) pa_nil)))))))
      (pss_one (ps_ret (pe_comp (cp := [6]) (M := ["k", "numbers"]) rfl ⟨rfl, rfl, rfl, rfl, rfl, rfl, rfl⟩ (by decide +kernel) (pi_l (pv 5)) (fun _ _ _ _ _ => pts_nil) (fun _ _ _ _ _ => (pe_ix f_ix (pv 1) (pv 0) (fun _ _ => rfl))))))))))))), ?_⟩
    have e0 : start ["script", "bound", "many", "number", "great", "order", "numbers", "k"] [V.ref a, V.int b] = [some (.ref a), some (.int b), none, none, none, none, none, none] := rfl
    rw [e0]
    refine cut2 (fun σ H' => σ = [some (.ref a), some (.int b), some (.int (manyZ ns b)), none, none, none, none, none] ∧ H' = H) (fun R' h => ?_) ?_
    · simp
      refine drawn_step hS hl (by decide) (by decide) (by split <;> omega) ?_
      refine drawn_step hS hl (by decide) (by decide) (by decide) ?_
      simp
      by_cases h1 : drawnZ ns 1 4 = 1
      · rw [if_pos h1]
        refine drawn_step hS hl (by decide) (by decide) (by omega) ?_
        refine h _ _ ⟨?_, rfl⟩
        unfold manyZ
        rw [if_pos h1]
      · rw [if_neg h1]
        refine h _ _ ⟨?_, rfl⟩
        unfold manyZ
        rw [if_neg h1]
    · rintro σ H' ⟨rfl, rfl⟩
      have hm0 := many_lo ns hb0
      have hm1 := many_hi ns hb0
      simp
      refine drawn_step hS hl (by decide) (by decide) (by decide) ?_
      simp
      refine ⟨⟨by decide, by decide, by decide⟩, line3 (by decide), fun p0 hp0 => ?_⟩
      have s0 := Same.upd_new (o := HO.lst [V.int 1, V.int 1, V.int 1000000000000000000000000000]) hp0
      refine drawn_step (s0.seq hS) hl (by decide) (by decide) (by decide) ?_
      have eg : atI [V.int 1, V.int 1, V.int 1000000000000000000000000000] (drawnZ ns 4 3) = some (.int (greatZ ns)) := by
        have h0 := drawn_lo ns 4 (m := 3) (by decide)
        have h1 := drawn_hi ns 4 (m := 3) (by decide)
        unfold greatZ
        have : drawnZ ns 4 3 = 0 ∨ drawnZ ns 4 3 = 1 ∨ drawnZ ns 4 3 = 2 := by omega
        rcases this with e | e | e <;> rw [e] <;> rfl
      simp [onS_of upd_same, eg]
      intro p1 hp1 p2 hp2
      generalize hH0 : upd H' p0 (HO.lst [V.int 1, V.int 1, V.int 1000000000000000000000000000]) = H0 at *
      have hS0 := s0.seq hS
      have n12 : p1 ≠ p2 := fun z => by rw [z, upd_same] at hp2; cases hp2
      have hp2' : H0 p2 = none := by rw [upd_ne n12.symm] at hp2; exact hp2
      have g1 : H' p1 = none := s0.free hp1
      have g2 : H' p2 = none := s0.free hp2'
      have sI : Same H' (upd (upd H0 p1 (.lst [])) p2 (.lst [])) := (s0.trans (Same.upd_new hp1)).trans (Same.upd_new hp2)
      have hg1 := great_pos ns
      generalize hn0 : drawnZ ns 3 2001 - 1000 = n0 at *
      generalize hgr : greatZ ns = gr at *
      refine for_rangeF (manyZ ns b).toNat (fun N h => by simp; exact ⟨⟨by omega, by omega⟩, h⟩)
        (fun i σ H1 => (∃ o, σ = [some (.ref a), some (.int b), some (.int (manyZ ns b)), some (.int (numZ ns n0 gr i)), some (.int gr), some (.ref p1), some (.ref p2), o]) ∧ Same H' H1 ∧ H1 p1 = some (.lst ((ordZ ns i).map V.int)) ∧ H1 p2 = some (.lst ((numsZ ns n0 gr i).map V.int)))
        ⟨⟨_, rfl⟩, sI, by rw [upd_ne n12, upd_same]; rfl, by rw [upd_same]; rfl⟩ ?_ ?_
      · rintro i σ H1 hi ⟨⟨o, rfl⟩, s1, h1, h2⟩
        have d0 := drawn_lo ns (10 + 2 * (i : Int)) (m := (i : Int) + 1) (by omega)
        have d1 := drawn_hi ns (10 + 2 * (i : Int)) (m := (i : Int) + 1) (by omega)
        have d2 := drawn_lo ns (11 + 2 * (i : Int)) (m := 3) (by decide)
        have d3 := drawn_hi ns (11 + 2 * (i : Int)) (m := 3) (by decide)
        have lo := ordZ_len ns i
        have ln := numsZ_len ns n0 gr i
        simp [onL_of h1]
        refine ⟨.inl ⟨by decide, by decide⟩, drawn_step (s1.seq hS) hl (by omega) (by omega) (by omega) ?_⟩
        simp [onL_of h1]
        refine ⟨⟨d0, by omega, line100 (by omega)⟩, .inl ⟨by decide, by decide⟩, drawn_step ((s1.upd_in g1).seq hS) hl (by omega) (by omega) (by decide) ?_⟩
        have h2' : upd H1 p1 (.lst ((ordZ ns (i + 1)).map V.int)) p2 = some (.lst ((numsZ ns n0 gr i).map V.int)) := by rw [upd_ne n12.symm]; exact h2
        have eo : (ordZ ns (i + 1)).map V.int = (List.take (drawnZ ns (10 + 2 * (i : Int)) ((i : Int) + 1)).toNat (ordZ ns i)).map V.int ++ V.int (i : Int) :: (List.drop (drawnZ ns (10 + 2 * (i : Int)) ((i : Int) + 1)).toNat (ordZ ns i)).map V.int := by
          show (insAt _ _ _).map V.int = _
          rw [insAt_map, List.map_take, List.map_drop]
        simp only [List.map_take, List.map_drop] at eo
        simp [← eo, onL_of h2']
        refine ⟨.inl ⟨by omega, by omega⟩, line100 (by omega), rfl, (s1.upd_in g1).upd_in g2, ?_, ?_⟩
        · rw [upd_ne n12, upd_same]
        · rw [upd_same, numsZ_succ]; simp; rfl
      · rintro σ H1 ⟨⟨o, rfl⟩, s1, h1, h2⟩
        have lo := ordZ_len ns (manyZ ns b).toNat
        have ln := numsZ_len ns n0 gr (manyZ ns b).toNat
        simp only [rd_ret]
        refine comp_listP (a := p1) (xs := (ordZ ns (manyZ ns b).toNat).map V.int) (fun R h => by simpa using h) h1 (fun _ => true) (fun v => match v with | .int k => .int ((numsZ ns n0 gr (manyZ ns b).toNat).getD k.toNat 0) | _ => .non) (by rw [List.length_map]; omega)
          (fun v hv H2 s2 R h => by simpa using h) (fun v hv _ H2 s2 R h => ?_) (fun D hD => ?_)
        · obtain ⟨k, hk, rfl⟩ := List.mem_map.mp hv
          have hk' := ordZ_mem hk
          have ek : (numsZ ns n0 gr (manyZ ns b).toNat)[k.toNat]? = some ((numsZ ns n0 gr (manyZ ns b).toNat).getD k.toNat 0) := by
            have : k.toNat < (numsZ ns n0 gr (manyZ ns b).toNat).length := by omega
            rw [List.getD_eq_getElem?_getD, List.getElem?_eq_getElem this]; rfl
          simp [cst, onS_of (s2 _ _ h2), atI_map hk'.1 ek]
          simpa using h
        · refine q D _ (s1.upd_in (s1.free hD)) (s1.free hD) ?_
          rw [upd_same, List.filter_eq_self.mpr (fun _ _ => rfl), List.map_map]
          unfold rowZ
          simp [hn0, hgr, Function.comp_def]
end
end SR

namespace SR
open PySem L2 RS PySem.Spec PyProof.Rows
section
variable {P : Program} {w : World} {K : PySem.W.Frag} {mg : Str → Option Value} {base : Heap}
/-! ### _law_lay -/
abbrev s_law_lay : Stmt := top 28
theorem sc_law_lay : FnScope ["rows", "number", "made", "at", "greater", "place"] ["rows", "number"] (defScope s_law_lay) := ⟨rfl, rfl, rfl, by decide +kernel, rfl, by decide +kernel, by decide +kernel⟩

def spLay : Sp := fun vs H Q _ => ∃ (a : Addr) (as : List Addr) (xss : List (List Int)) (n : Int), vs = [.ref a, .int n] ∧ RowsAt H a as xss ∧ xss.length ≤ 5000 ∧ (∀ r ∈ xss, r.length ≤ 5000) ∧
  ∀ r b bs H', Same H H' → H r = none → H' r = some (.tup [.ref b, .int (layL xss n).2]) → RowsAt H' b bs (layL xss n).1 → Fresh H (b :: bs) → Q (.ref r) H'
def LayIn (H : Hp) (a D : Addr) (bs : List Addr) (xss : List (List Int)) (n : Int) (m : Nat) (σ : L2.St) (H' : Hp) : Prop := ∃ (t : Nat) (c : Int) (dn : List (List Int)) (o4 o5 : Option V), m = xss.length - t ∧ t ≤ xss.length ∧
  σ = [some (.ref a), some (.int c), some (.ref D), some (.int (t : Int)), o4, o5] ∧ Same H H' ∧ RowsAt H' D bs (dn ++ xss.drop t) ∧ dn.length = t ∧ layL xss n = (dn ++ (layL (xss.drop t) c).1, t + (layL (xss.drop t) c).2)
theorem ok_lay {f : Addr} {fd : FuncData} (F : Fun K "_law_lay" "_law_lay" s_law_lay f fd) (T : Bl mg) : FnOk P w K mg base CX0 1 f fd ["rows", "number"] spLay := by
  refine F.ok sc_law_lay (fun vs H Q E h => ?_) (fun cdv A outer s H vs Q E hr h => ?_)
  · obtain ⟨a, as, xss, n, rfl, _⟩ := h; rfl
  · obtain ⟨a, as, xss, n, rfl, ha, hz, hz2, q⟩ := h
    refine ⟨_, (pss_cons (ps_comp (i := 2) sc_law_lay.nd rfl rfl (cp := []) (M := ["row"]) rfl ⟨rfl, rfl, rfl, rfl, rfl, rfl, rfl⟩ (by decide +kernel) (pi_l (pv 0)) (fun _ _ _ _ _ => pts_nil) (fun _ _ _ _ _ => (pe_callTy f_list (by rfl) T.list BI.list (pa_cons (pv 0) pa_nil))))
      (pss_cons (ps_set (i := 3) sc_law_lay.nd rfl (Or.inl rfl) pe_int)
      (pss_cons (ps_while PassesOwn.never (pt_cmpR f_lt (pv 3) (pe_callB f_len (by rfl) T.len BI.len (pa_cons (pv 2) pa_nil)) (nomark _)) (pss_cons (ps_comp (i := 4) sc_law_lay.nd rfl rfl (cp := [1]) (M := ["other", "number"]) rfl ⟨rfl, rfl, rfl, rfl, rfl, rfl, rfl⟩ (by decide +kernel) (pi_l (pe_ix f_ix (pv 2) (pv 3) (fun _ _ => rfl))) (fun _ _ _ _ _ => (pts_one (pt_cmpR f_gt (pv 0) (pv 1) (nomark _)))) (fun _ _ _ _ _ => (pv 0)))
      (pss_cons (ps_if (pt_cmpR (f_eqF (hu64 hr)) (pe_callB f_len (by rfl) T.len BI.len (pa_cons (pv 4) pa_nil)) pe_int (nomark _)) (pss_cons (ps_expr (pe_ml PySem.F.slot_list_append PySem.F.type_list_append f_append (pe_ix f_ix (pv 2) (pv 3) (fun _ _ => rfl)) (pa_cons (pv 1) pa_nil)))
      (pss_one (ps_ret (pe_tup (pa_cons (pv 2) (pa_cons (pv 3) pa_nil)))))) pss_nil)
      (pss_cons (ps_set (i := 5) sc_law_lay.nd rfl (Or.inl rfl) (pe_op f_sub (pe_callB f_len (by rfl) T.len BI.len (pa_cons (pe_ix f_ix (pv 2) (pv 3) (fun _ _ => rfl)) pa_nil)) (pe_callB f_len (by rfl) T.len BI.len (pa_cons (pv 4) pa_nil))))
      (pss_cons (ps_asg (pv 1) (pg_sub (pe_ix f_ix (pv 2) (pv 3) (fun _ _ => rfl)) (pv 5) f_set))
      (pss_cons (ps_set (i := 1) sc_law_lay.nd rfl (Or.inr rfl) (pe_ix f_ix (pv 4) pe_int (fun _ _ => rfl)))
      (pss_one (ps_set (i := 3) sc_law_lay.nd rfl (Or.inl rfl) (pe_op f_add (pv 3) pe_int)))))))))
      (pss_one (ps_ret (pe_tup (pa_cons (pe_op f_add (pv 2) (pe_lst (pa_cons (pe_lst (pa_cons (pv 1) pa_nil)) pa_nil (star_lst _ _ _ _)))) (pa_cons (pv 3) pa_nil)))))))), ?_⟩
    have e0 : start ["rows", "number", "made", "at", "greater", "place"] [V.ref a, V.int n] = [some (.ref a), some (.int n), none, none, none, none] := rfl
    rw [e0]
    simp only [rd_seq, rd_asg]
    refine comp_copy (a := a) (fun R h => by simpa using h) ha (by omega) (fun D bs H1 hD s1 hr1 fr => ?_)
    simp
    have lb := RowsL.len hr1.row
    have hDn := (List.nodup_cons.mp fr.nd).1
    have ndb := (List.nodup_cons.mp fr.nd).2
    refine while_F (LayIn H a D bs xss n) (xss.length) ⟨0, n, [], none, none, by simp, Nat.zero_le _, rfl, s1, by simpa using hr1, rfl, by simp⟩ ?_ (fun σ H Q Q' i h => by
      simp only [rd_test, rd_op, rd_cb, rd_cons, rd_nil, rd_II, rd_len, rd_var, rd_on1] at h ⊢
      obtain ⟨v, e, h⟩ := onO.out h
      rw [e, rd_onO]
      obtain ⟨u, e, h⟩ := onO.out h
      rw [e, rd_onO]
      obtain ⟨p, xs, rfl, hp, h⟩ := onS.out h
      obtain ⟨k, rfl, h⟩ := onI.out h
      rcases hp with hp | hp
      · rw [onS_of hp]; exact i _ _ h
      · rw [onS_ofT hp]; exact i _ _ h)
    rintro m σ H2 ⟨t, c, dn, o4, o5, rfl, ht, rfl, s2, ra, ld, eL⟩
    simp [onS_of ra.top]
    by_cases hlt : t < bs.length
    · rw [if_pos (by omega)]
      have hx : t < xss.length := by omega
      have er : (dn ++ xss.drop t)[t]? = some xss[t] := by
        rw [List.getElem?_append_right (by omega), ld, Nat.sub_self, List.getElem?_drop, Nat.add_zero, List.getElem?_eq_getElem hx]
      have ed : xss.drop t = xss[t] :: xss.drop (t + 1) := List.drop_eq_getElem_cons hx
      obtain ⟨p, ep, hp⟩ := RowsL.get ra.row er
      have lr : xss[t].length ≤ 5000 := hz2 _ (List.getElem_mem hx)
      generalize xss[t] = r at *
      have pD : p ≠ D := fun z => hDn (z ▸ List.mem_of_getElem? ep)
      have pH : H p = none := fr.no p (List.mem_cons_of_mem _ (List.mem_of_getElem? ep))
      refine comp_listP (a := p) (xs := r.map V.int) (fun R h => by simpa [onS_of ra.top, atI_ref ep] using h) hp (fun v => match v with | .int o => decide (c < o) | _ => false) id (by rw [List.length_map]; omega)
        (fun v hv H3 s3 R h => ?_) (fun v hv _ H3 s3 R h => by simpa [cst] using h) (fun G hG => ?_)
      · obtain ⟨x, _, rfl⟩ := List.mem_map.mp hv
        simpa [cst] using h
      · have eg : ((r.map V.int).filter (fun v => match v with | .int o => decide (c < o) | _ => false)).map id = (gt r c).map V.int := by
          rw [List.map_id, List.filter_map]; rfl
        rw [eg]
        have gG : H G = none := s2.free hG
        have pG : p ≠ G := ne_of_none hp hG
        rw [ed] at ra eL
        have hgl : (gt r c).length ≤ r.length := List.length_filter_le _ _
        cases hg : gt r c with
        | nil =>
          have s3 : Same H2 (upd H2 G (.lst [])) := Same.upd_new hG
          have hp3 := s3 _ _ hp
          have hD3 := s3 _ _ ra.top
          simp [onS_of upd_same, onS_of hD3, atI_ref ep, onL_of hp3]
          refine ⟨line100 (by omega), line3 (by decide), fun p1 hp1 => ?_⟩
          obtain ⟨n1, z1⟩ := upd_none hp1
          have e1 : r.map V.int ++ [V.int c] = (r ++ [c]).map V.int := by simp
          rw [e1] at hp1 ⊢
          have eL' : layL xss n = (dn ++ (r ++ [c]) :: xss.drop (t + 1), t) := by rw [eL, layL, if_pos (by simp [hg])]; rfl
          have es : (dn ++ r :: xss.drop (t + 1)).set t (r ++ [c]) = dn ++ (r ++ [c]) :: xss.drop (t + 1) := by rw [← ld]; exact set_mid _ _ _ _
          have r3 := RowsAt.set (ys := r ++ [c]) (ra.same s3) ep fr.nd
          rw [es] at r3
          have s5 : Same H (upd (upd (upd H2 G (.lst [])) p (.lst ((r ++ [c]).map V.int))) p1 (.tup [.ref D, .int (t : Int)])) := ((s2.upd_in gG).upd_in pH).trans (Same.upd_new hp1)
          refine q p1 D bs _ s5 ?_ (by rw [upd_same, eL']) (by rw [eL']; exact r3.same (Same.upd_new hp1)) fr
          exact ((s2.upd_in gG).upd_in pH).free hp1
        | cons x g =>
          have s3 : Same H2 (upd H2 G (.lst ((x :: g).map V.int))) := Same.upd_new hG
          have hp3 := s3 _ _ hp
          have hD3 := s3 _ _ ra.top
          have hx0 : atI ((x :: g).map V.int) 0 = some (.int x) := atI_nat (j := 0) rfl
          have hG3 : ∀ o, upd (upd H2 G (.lst ((x :: g).map V.int))) p o G = some (.lst ((x :: g).map V.int)) := fun o => by rw [upd_ne pG.symm, upd_same]
          rw [hg] at hgl
          simp only [List.map_cons] at hG3 hx0 hp3 hD3 s3
          simp [onS_of upd_same, onS_of hD3, atI_ref ep, onS_of hp3, onL_of hp3, onS_of (hG3 _), hx0]
          have e1 : (r.map V.int).set (r.length - (g.length + 1)) (V.int c) = (r.set (r.length - (g.length + 1)) c).map V.int := by rw [List.map_set]
          simp only [List.length_cons] at hgl
          refine ⟨⟨by omega, by omega⟩, xss.length - (t + 1), by omega, t + 1, x, dn ++ [r.set (r.length - (g.length + 1)) c], some (.ref G), some (.int ((r.length : Int) - ((g.length : Int) + 1))), rfl, by omega, by simp, (s2.upd_in gG).upd_in pH, ?_, by simp [ld], ?_⟩
          · rw [e1, List.append_assoc]
            have es : (dn ++ r :: xss.drop (t + 1)).set t (r.set (r.length - (g.length + 1)) c) = dn ++ r.set (r.length - (g.length + 1)) c :: xss.drop (t + 1) := by rw [← ld]; exact set_mid _ _ _ _
            have r3 := RowsAt.set (ys := r.set (r.length - (g.length + 1)) c) (ra.same s3) ep fr.nd
            rw [es] at r3
            exact r3
          · rw [eL, layL, if_neg (by simp [hg])]
            simp [hg]
            omega
    · rw [if_neg (by omega)]
      have et : t = xss.length := by omega
      subst et
      refine ⟨line3 (by decide), fun p hp => ⟨line3 (by decide), fun p1 hp1 => ?_⟩⟩
      have s3 : Same H2 (upd (upd H2 p (.lst [.int c])) p1 (.lst [.ref p])) := (Same.upd_new hp).trans (Same.upd_new hp1)
      have hD4 := s3 _ _ ra.top
      rw [onL_of hD4, onL_of upd_same]
      refine ⟨line3 (by simp; omega), fun p2 hp2 => ⟨line3 (by decide), fun p3 hp3 => ?_⟩⟩
      have s4 := s3.trans (Same.upd_new (o := HO.lst (bs.map V.ref ++ [V.ref p])) hp2)
      have s5 := s4.trans (Same.upd_new (o := HO.tup [V.ref p2, V.int ((xss.length : Nat) : Int)]) hp3)
      obtain ⟨n21, z2⟩ := upd_none hp2
      obtain ⟨n20, z2⟩ := upd_none z2
      obtain ⟨n10, z1⟩ := upd_none hp1
      obtain ⟨n32, z3⟩ := upd_none hp3
      obtain ⟨n31, z3⟩ := upd_none z3
      obtain ⟨n30, z3⟩ := upd_none z3
      have el : xss.drop xss.length = [] := List.drop_length
      rw [el] at ra eL
      simp only [List.append_nil] at ra
      have eL' : layL xss n = (dn ++ [[c]], xss.length) := by rw [eL]; simp [layL]
      refine q p3 p2 (bs ++ [p]) _ (s2.trans s5) (s2.free z3) (by rw [upd_same, eL']) ?_ ?_
      · rw [eL']
        refine RowsAt.app (RowsL.same ra.row s5) ?_ ?_
        · rw [upd_ne n32.symm, upd_same]
        · rw [upd_ne n30.symm, upd_ne n20.symm, upd_ne n10.symm, upd_same]; rfl
      · have pb := RowsL.notin ra.row hp
        have p2b := RowsL.notin ra.row z2
        refine Fresh.cons (Fresh.snoc (fr.sub (List.sublist_cons_self _ _)) (s2.free hp) pb) (s2.free z2) ?_
        intro hm
        rcases List.mem_append.mp hm with hm | hm
        · exact p2b hm
        · exact n20 (by simpa using hm)
end
end SR

namespace SR
open PySem L2 RS PySem.Spec PyProof.Rows
section
variable {P : Program} {w : World} {K : PySem.W.Frag} {mg : Str → Option Value} {base : Heap}
/-! ### _law_laid -/
abbrev s_law_laid : Stmt := top 29
theorem sc_law_laid : FnScope ["row", "first", "second", "k", "grown"] ["row"] (defScope s_law_laid) := ⟨rfl, rfl, rfl, by decide +kernel, rfl, by decide +kernel, by decide +kernel⟩

def spLaid : Sp := fun vs H Q _ => ∃ (a : Addr) (row : List Int), vs = [.ref a] ∧ H a = some (.lst (row.map V.int)) ∧ row.length ≤ 1000 ∧
  ∀ r f fs g gs H', Same H H' → H r = none → H' r = some (.tup [.ref f, .ref g]) → RowsAt H' f fs (laidL row).1 → RowsAt H' g gs (laidL row).2 → Fresh H ((f :: fs) ++ (g :: gs)) → Q (.ref r) H'
def LaidIn (H : Hp) (a : Addr) (row : List Int) (i : Nat) (σ : L2.St) (H' : Hp) : Prop := ∃ (f g : Addr) (fs gs : List Addr) (o3 o4 : Option V),
  σ = [some (.ref a), some (.ref f), some (.ref g), o3, o4] ∧ Same H H' ∧ RowsAt H' f fs (laidL (row.take i)).1 ∧ RowsAt H' g gs (laidL (row.take i)).2 ∧ Fresh H ((f :: fs) ++ (g :: gs))
theorem ok_laid {f : Addr} {fd : FuncData} (F : Fun K "_law_laid" "_law_laid" s_law_laid f fd) (T : Bl mg) (C_law_lay : Cal P w K mg base 1 "_law_lay" ["rows", "number"] spLay) : FnOk P w K mg base CX0 2 f fd ["row"] spLaid := by
  refine F.ok sc_law_laid (fun vs H Q E h => ?_) (fun cdv A outer s H vs Q E hr h => ?_)
  · obtain ⟨a, row, rfl, _⟩ := h; rfl
  · obtain ⟨a, row, rfl, ha, hz, q⟩ := h
    refine ⟨_, (pss_cons (ps_set (i := 1) sc_law_laid.nd rfl (Or.inl rfl) (pe_lst pa_nil))
      (pss_cons (ps_set (i := 2) sc_law_laid.nd rfl (Or.inl rfl) (pe_lst pa_nil))
      (pss_cons (ps_for PassesOwn.never rfl (pi_range1 (by rfl) T.range (pa_cons (pe_callB f_len (by rfl) T.len BI.len (pa_cons (pv 0) pa_nil)) pa_nil)) (pg_name (i := 3) sc_law_laid.nd rfl (Or.inl rfl)) (pss_cons (ps_set (i := 4) sc_law_laid.nd rfl (Or.inl rfl) (pe_cl C_law_lay (hr.mono (by decide)) (by rfl) (pa_cons (pv 1) (pa_cons (pe_ix f_ix (pv 0) (pv 3) (fun _ _ => rfl)) pa_nil))))
      (pss_cons (ps_set (i := 1) sc_law_laid.nd rfl (Or.inl rfl) (pe_ix f_ix (pv 4) pe_int (fun _ _ => rfl)))
      (pss_cons (ps_if (pt_cmpR (f_eqF (hu64 hr)) (pe_ix f_ix (pv 4) pe_int (fun _ _ => rfl)) (pe_callB f_len (by rfl) T.len BI.len (pa_cons (pv 2) pa_nil)) (nomark _)) (pss_one (ps_expr (pe_ml PySem.F.slot_list_append PySem.F.type_list_append f_append (pv 2) (pa_cons (pe_lst pa_nil) pa_nil (star_lst _ _ _ _))))) pss_nil)
      (pss_one (ps_expr (pe_ml PySem.F.slot_list_append PySem.F.type_list_append f_append (pe_ix f_ix (pv 2) (pe_ix f_ix (pv 4) pe_int (fun _ _ => rfl)) (fun _ _ => rfl)) (pa_cons (pe_op f_add (pv 3) pe_int) pa_nil))))))))
      (pss_one (ps_ret (pe_tup (pa_cons (pv 1) (pa_cons (pv 2) pa_nil)))))))), ?_⟩
    have e0 : start ["row", "first", "second", "k", "grown"] [V.ref a] = [some (.ref a), none, none, none, none] := rfl
    rw [e0]
    simp
    intro p1 hp1 p2 hp2
    obtain ⟨n21, z2⟩ := upd_none hp2
    have sI : Same H (upd (upd H p1 (.lst [])) p2 (.lst [])) := (Same.upd_new hp1).trans (Same.upd_new hp2)
    refine for_rangeF row.length (fun N h => by simp [onS_of (sI _ _ ha), h]; omega) (LaidIn H a row) ⟨p1, p2, [], [], none, none, rfl, sI, ⟨by rw [upd_ne n21.symm, upd_same]; rfl, by simpa [laidL, laidFrom] using Paired.nil⟩, ⟨by rw [upd_same]; rfl, by simpa [laidL, laidFrom] using Paired.nil⟩, ⟨by simp [n21.symm], by simp [hp1, z2]⟩⟩ ?_ ?_
    · rintro i σ H1 hi ⟨f, g, fs, gs, o3, o4, rfl, s1, hf, hg, fr⟩
      have ei : row[i]? = some row[i] := List.getElem?_eq_getElem hi
      obtain ⟨z1, z2, z3, z4⟩ := laid_size (row.take i)
      rw [List.length_take] at z2 z3 z4
      have ha1 := s1 _ _ ha
      simp [onS_of ha1, atI_int ei]
      refine ⟨f, fs, _, _, rfl, hf, by omega, fun r hr => by have := z3 r hr; omega, fun r b bs H2 s2 hr2 ht hb frb => ?_⟩
      have tn := take_next ei
      have eS := laidL_snoc (row.take i) row[i]
      rw [← tn] at eS
      have hlen : (row.take i).length = i := by rw [List.length_take]; omega
      rw [hlen] at eS
      obtain ⟨t1, t2⟩ := lay_at (laidL (row.take i)).1 row[i]
      generalize hq : layL (laidL (row.take i)).1 row[i] = L at *
      have e1 : atI [V.ref b, V.int (L.2 : Int)] 0 = some (.ref b) := atI_nat (j := 0) rfl
      have e2 : atI [V.ref b, V.int (L.2 : Int)] 1 = some (.int (L.2 : Int)) := atI_nat (j := 1) rfl
      have hg2 := hg.same s2
      have lg := RowsL.len hg.row
      have frg : Fresh H (g :: gs) := fr.sub (List.sublist_append_right _ _)
      -- nothing of the second stairs is among the new first ones
      have dj : ∀ c ∈ b :: bs, c ∉ g :: gs := fun c h1 h2 => hg.live h2 (frb.no c h1)
      have frb' : Fresh H (b :: bs) := frb.old s1
      have s12 := s1.trans s2
      have rg : r ≠ g := ne_of ht hg2.top (by intro z; cases z)
      simp [onS_ofT ht, e1, e2, onS_of hg2.top, onL_of hg2.top]
      by_cases hlast : L.2 = gs.length
      · rw [if_pos (by omega)]
        intro p hp
        have hgp := (Same.upd_new (o := HO.lst []) hp) _ _ hg2.top
        have pg : p ≠ g := (ne_of_none hg2.top hp).symm
        have pr : r ≠ p := ne_of_none ht hp
        rw [onL_of hgp]
        refine ⟨line100 (by rw [List.length_map]; omega), ?_⟩
        have hr3 : upd (upd H2 p (.lst [])) g (.lst (gs.map V.ref ++ [V.ref p])) r = some (.tup [.ref b, .int (L.2 : Int)]) := by rw [upd_ne rg, upd_ne pr]; exact ht
        have hp3 : upd (upd H2 p (.lst [])) g (.lst (gs.map V.ref ++ [V.ref p])) p = some (.lst []) := by rw [upd_ne pg, upd_same]
        have e3 : atI (gs.map V.ref ++ [V.ref p]) (L.2 : Int) = some (.ref p) := by
          have : gs.map V.ref ++ [V.ref p] = (gs ++ [p]).map V.ref := by simp
          rw [this]
          exact atI_ref (by rw [hlast]; simp)
        rw [onS_ofT hr3, e2, rd_onO, rd_onI, onS_of upd_same, e3, rd_onO, onL_of hp3, onL_of hp3]
        have pH : H p = none := s12.free hp
        have gH : H g = none := frg.no g List.mem_cons_self
        have pb : p ∉ b :: bs := hb.notin hp
        have pgs : p ∉ g :: gs := hg2.notin hp
        have eS' : laidL (row.take (i + 1)) = (L.1, (laidL (row.take i)).2 ++ [[(i : Int) + 1]]) := by rw [eS]; unfold grow; rw [if_pos (by omega)]
        refine ⟨line100 (by simp), b, g, bs, gs ++ [p], _, _, rfl, ((s12.upd_in pH).upd_in gH).upd_in pH, ?_, ?_, ?_⟩
        · rw [eS']
          exact ((hb.out pb).out (fun z => dj g z List.mem_cons_self)).out pb
        · rw [eS']
          refine RowsAt.app (RowsL.mono hg2.row fun c hc o e => ?_) ?_ ?_
          · have cg : c ≠ g := fun z => (List.nodup_cons.mp frg.nd).1 (z ▸ hc)
            have cp : c ≠ p := fun z => pgs (List.mem_cons_of_mem _ (z ▸ hc))
            rw [upd_ne cp, upd_ne cg, upd_ne cp]; exact e
          · rw [upd_ne pg.symm, upd_same]
          · rw [upd_same]; rfl
        · have frg' : Fresh H ((g :: gs) ++ [p]) := Fresh.snoc frg pH pgs
          refine Fresh.append frb' frg' fun c h1 h2 => ?_
          rcases List.mem_append.mp (show c ∈ (g :: gs) ++ [p] from h2) with h2 | h2
          · exact dj c h1 h2
          · have : c = p := by simpa using h2
            exact pb (this ▸ h1)
      · rw [if_neg (by omega)]
        have hlt : L.2 < gs.length := by omega
        have eg : gs[L.2]? = some gs[L.2] := List.getElem?_eq_getElem hlt
        obtain ⟨ys, ey, hy⟩ := RowsL.get' hg2.row eg
        rw [atI_ref eg, rd_onO, onL_of hy, onL_of hy]
        have hm : gs[L.2] ∈ gs := List.getElem_mem hlt
        have lys := z4 ys (List.mem_of_getElem? ey)
        have e1' : ys.map V.int ++ [V.int ((i : Int) + 1)] = (ys ++ [(i : Int) + 1]).map V.int := by simp
        have eS' : laidL (row.take (i + 1)) = (L.1, (laidL (row.take i)).2.set L.2 (ys ++ [(i : Int) + 1])) := by
          rw [eS]; unfold grow; rw [if_neg (by omega), List.getD_eq_getElem?_getD, ey]; rfl
        refine ⟨line100 (by rw [List.length_map]; omega), b, g, bs, gs, _, _, rfl, s12.upd_in (frg.no _ (List.mem_cons_of_mem _ hm)), ?_, ?_, Fresh.append frb' frg dj⟩
        · rw [eS']
          exact hb.out (fun z => dj _ z (List.mem_cons_of_mem _ hm))
        · rw [eS', e1']
          exact RowsAt.set hg2 eg frg.nd
    · rintro σ H1 ⟨f, g, fs, gs, o3, o4, rfl, s1, hf, hg, fr⟩
      simp
      rw [List.take_length] at hf hg
      refine ⟨line3 (by decide), fun p hp => q p f fs g gs _ (s1.trans (Same.upd_new hp)) (s1.free hp) upd_same (hf.same (Same.upd_new hp)) (hg.same (Same.upd_new hp)) fr⟩
end
end SR

namespace SR
open PySem L2 RS PySem.Spec PyProof.Rows
section
variable {P : Program} {w : World} {K : PySem.W.Frag} {mg : Str → Option Value} {base : Heap}
theorem RowsL.drop {H : Hp} : ∀ {as : List Addr} {xss : List (List Int)} (k : Nat), RowsL H as xss → RowsL H (as.drop k) (xss.drop k)
  | _, _, 0, h => h
  | _, _, _ + 1, .nil => .nil
  | _, _, k + 1, .cons _ t => RowsL.drop k t
/-! ### how_many_less -/
abbrev s_how_many_less : Stmt := top 17
theorem sc_how_many_less : FnScope ["row", "number"] ["row", "number"] (defScope s_how_many_less) := ⟨rfl, rfl, rfl, by decide +kernel, rfl, by decide +kernel, by decide +kernel⟩

def spLess : Sp := fun vs H Q _ => ∃ (a : Addr) (xs : List Int) (n : Int), vs = [.ref a, .int n] ∧ H a = some (.lst (xs.map V.int)) ∧ xs.length ≤ 5000 ∧ ∀ H', Same H H' → Q (.int ((RS.lt xs n).length : Int)) H'
theorem ok_less {f : Addr} {fd : FuncData} (F : Fun K "how_many_less" "how_many_less" s_how_many_less f fd) (T : Bl mg) : FnOk P w K mg base CX0 1 f fd ["row", "number"] spLess := by
  refine F.ok sc_how_many_less (fun vs H Q E h => ?_) (fun cdv A outer s H vs Q E hr h => ?_)
  · obtain ⟨a, xs, n, rfl, _⟩ := h; rfl
  · obtain ⟨a, xs, n, rfl, ha, hz, q⟩ := h
    refine ⟨_, (pss_one (ps_ret (pe_callB f_len (by rfl) T.len BI.len (pa_cons (pe_comp (cp := [1]) (M := ["other", "number"]) rfl ⟨rfl, rfl, rfl, rfl, rfl, rfl, rfl⟩ (by decide +kernel) (pi_l (pv 0)) (fun _ _ _ _ _ => (pts_one (pt_cmpR f_lt (pv 0) (pv 1) (nomark _)))) (fun _ _ _ _ _ => (pv 0))) pa_nil)))), ?_⟩
    have e0 : start ["row", "number"] [V.ref a, V.int n] = [some (.ref a), some (.int n)] := rfl
    rw [e0]
    simp
    refine comp_listP (a := a) (xs := xs.map V.int) (fun R h => by simpa using h) ha (fun v => match v with | .int o => decide (o < n) | _ => false) id (by rw [List.length_map]; omega) (fun v hv H3 s3 R h => ?_) (fun v hv _ H3 s3 R h => by simpa [cst] using h) (fun G hG => ?_)
    · obtain ⟨x, _, rfl⟩ := List.mem_map.mp hv
      simpa [cst] using h
    · have eg : ((xs.map V.int).filter (fun v => match v with | .int o => decide (o < n) | _ => false)).map id = (RS.lt xs n).map V.int := by
        rw [List.map_id, List.filter_map]; rfl
      rw [eg]
      simp [onS_of upd_same]
      exact q _ (Same.upd_new hG)
/-! ### with_number_at -/
abbrev s_with_number_at : Stmt := top 18
theorem sc_with_number_at : FnScope ["row", "place", "number"] ["row", "place", "number"] (defScope s_with_number_at) := ⟨rfl, rfl, rfl, by decide +kernel, rfl, by decide +kernel, by decide +kernel⟩

def spWith : Sp := fun vs H Q _ => ∃ (a : Addr) (xs : List Int) (p : Nat) (n : Int), vs = [.ref a, .int (p : Int), .int n] ∧ H a = some (.lst (xs.map V.int)) ∧ xs.length ≤ 5000 ∧ p ≤ xs.length ∧
  ∀ r H', Same H H' → H r = none → H' r = some (.lst ((xs.take p ++ [n] ++ xs.drop (p + 1)).map V.int)) → Q (.ref r) H'
theorem ok_with {f : Addr} {fd : FuncData} (F : Fun K "with_number_at" "with_number_at" s_with_number_at f fd) (T : Bl mg) : FnOk P w K mg base CX0 1 f fd ["row", "place", "number"] spWith := by
  refine F.ok sc_with_number_at (fun vs H Q E h => ?_) (fun cdv A outer s H vs Q E hr h => ?_)
  · obtain ⟨a, xs, p, n, rfl, _⟩ := h; rfl
  · obtain ⟨a, xs, p, n, rfl, ha, hz, hp, q⟩ := h
    refine ⟨_, (pss_one (ps_ret (pe_op f_add (pe_op f_add (pe_slice f_sl (pv 0) po_none (po_some (pv 1))) (pe_lst (pa_cons (pv 2) pa_nil))) (pe_slice f_sl (pv 0) (po_some (pe_op f_add (pv 1) pe_int)) po_none)))), ?_⟩
    have e0 : start ["row", "place", "number"] [V.ref a, V.int (p : Int), V.int n] = [some (.ref a), some (.int (p : Int)), some (.int n)] := rfl
    rw [e0]
    have c1 : cutV (xs.map V.int) none (some (p : Int)) = (xs.take p).map V.int := by rw [cut_to (by rw [List.length_map]; exact hp), List.map_take]
    have c2 : cutV (xs.map V.int) (some ((p : Int) + 1)) none = (xs.drop (p + 1)).map V.int := by
      have := cut_from (xs := xs.map V.int) (p := p + 1)
      rw [show ((p + 1 : Nat) : Int) = (p : Int) + 1 by omega] at this
      rw [this, List.map_drop]
    simp [onL_of ha, c1]
    intro p1 h1
    refine ⟨line3 (by decide), fun p2 h2 => ?_⟩
    have s1 := Same.upd_new (o := HO.lst (List.take p (List.map V.int xs))) h1
    have s2 := Same.upd_new (o := HO.lst [V.int n]) h2
    have a1 := s2 _ _ upd_same
    rw [onL_of a1, onL_of upd_same]
    refine ⟨line3 (by simp; omega), fun p3 h3 => ?_⟩
    have s3 := Same.upd_new (o := HO.lst (List.take p (List.map V.int xs) ++ [V.int n])) h3
    have s13 := (s1.trans s2).trans s3
    rw [onL_of (s13 _ _ ha)]
    intro p4 h4
    rw [c2, List.map_drop]
    have s4 := Same.upd_new (o := HO.lst (List.drop (p + 1) (List.map V.int xs))) h4
    rw [onL_of (s4 _ _ upd_same), onL_of upd_same]
    refine ⟨line3 (by simp; omega), fun p5 h5 => ?_⟩
    refine q p5 _ ((s13.trans s4).trans (Same.upd_new h5)) ((s13.trans s4).free h5) ?_
    rw [upd_same]
    simp
end
end SR

namespace SR
open PySem L2 RS PySem.Spec PyProof.Rows
section
variable {P : Program} {w : World} {K : PySem.W.Frag} {mg : Str → Option Value} {base : Heap}
theorem rows_map {H : Hp} {α : Type} {as : List Addr} {xss : List (List Int)} (h : RowsL H as xss) (f : V → α) (g : List Int → α) (hf : ∀ b xs, b ∈ as → xs ∈ xss → H b = some (.lst (xs.map V.int)) → f (.ref b) = g xs) : (as.map V.ref).map f = xss.map g := by
  induction h with
  | nil => rfl
  | cons r t ih =>
    rw [List.map_cons, List.map_cons, List.map_cons, hf _ _ List.mem_cons_self List.mem_cons_self r, ih fun b xs hb hx => hf b xs (List.mem_cons_of_mem _ hb) (List.mem_cons_of_mem _ hx)]
theorem rows_filt {H : Hp} {as : List Addr} {xss : List (List Int)} (h : RowsL H as xss) (p : V → Bool) (q : List Int → Bool) (hp : ∀ b xs, H b = some (.lst (xs.map V.int)) → p (.ref b) = q xs) : ∃ bs, (as.map V.ref).filter p = bs.map V.ref ∧ RowsL H bs (xss.filter q) := by
  induction h with
  | nil => exact ⟨[], rfl, .nil⟩
  | @cons b xs as xss r t ih =>
    obtain ⟨bs, e, hb⟩ := ih
    rw [List.map_cons, List.filter_cons, List.filter_cons, hp b xs r]
    cases q xs with
    | true => exact ⟨b :: bs, by rw [if_pos rfl, e]; rfl, by rw [if_pos rfl]; exact .cons r hb⟩
    | false => exact ⟨bs, by rw [if_neg Bool.false_ne_true]; exact e, by rw [if_neg Bool.false_ne_true]; exact hb⟩
/-- the list at a value -/
def lstAt (H : Hp) (v : V) : List V := match v with | .ref b => (match H b with | some (.lst ys) => ys | _ => []) | _ => []
theorem lstAt_of {H : Hp} {b : Addr} {ys : List V} (h : H b = some (.lst ys)) : lstAt H (.ref b) = ys := by simp [lstAt, h]
theorem mem_row {H : Hp} {as : List Addr} {xss : List (List Int)} {v : V} (h : RowsL H as xss) (hv : v ∈ as.map V.ref) : ∃ b xs, v = .ref b ∧ b ∈ as ∧ xs ∈ xss ∧ H b = some (.lst (xs.map V.int)) := by
  obtain ⟨b, hb, rfl⟩ := List.mem_map.mp hv
  obtain ⟨i, hi⟩ := List.getElem?_of_mem hb
  obtain ⟨xs, ex, hx⟩ := RowsL.get' h hi
  exact ⟨b, xs, rfl, hb, List.mem_of_getElem? ex, hx⟩
end
end SR

namespace SR
open PySem L2 RS PySem.Spec PyProof.Rows
section
variable {P : Program} {w : World} {K : PySem.W.Frag} {mg : Str → Option Value} {base : Heap}
/-! ### shape -/
abbrev s_shape : Stmt := top 13
theorem sc_shape : FnScope ["rows"] ["rows"] (defScope s_shape) := ⟨rfl, rfl, rfl, by decide +kernel, rfl, by decide +kernel, by decide +kernel⟩

def spShape : Sp := fun vs H Q _ => ∃ (a : Addr) (as : List Addr) (xss : List (List Int)), vs = [.ref a] ∧ RowsAt H a as xss ∧ xss.length ≤ 5000 ∧
  ∀ r H', Same H H' → H r = none → H' r = some (.lst ((xss.map fun r => (r.length : Int)).map V.int)) → Q (.ref r) H'
/-- [len(row) for row in rows], wherever it stands -/
theorem comp_lens {K : PySem.W.Frag} {tl : TE} {cp : List Nat} {σ : L2.St} {H : Hp} {Q : VK} {a : Addr} {as : List Addr} {xss : List (List Int)} (hl : ∀ R : VK, R (.ref a) H → tl σ H R) (ha : RowsAt H a as xss) (hz : xss.length ≤ 5000)
    (hQ : ∀ D, H D = none → Q (.ref D) (upd H D (.lst ((xss.map fun r => (r.length : Int)).map V.int)))) : tComp (iL K tl) cp tNoTest (tCB rLen (tCons (tVar 0) tNil)) σ H Q := by
  have la := RowsL.len ha.row
  refine comp_listP hl ha.top (fun _ => true) (fun v => .int ((lstAt H v).length : Int)) (by rw [List.length_map]; omega) (fun v hv H' s R h => by simpa using h) (fun v hv _ H' s R h => ?_) (fun D hD => ?_)
  · obtain ⟨b, xs, rfl, hb, hx, e⟩ := mem_row ha.row hv
    simp [cst, onS_of (s _ _ e)]
    simpa [lstAt_of e] using h
  · have := hQ D hD
    rw [List.filter_eq_self.mpr (fun _ _ => rfl), rows_map ha.row _ (fun r => V.int (r.length : Int)) (fun b xs _ _ e => by rw [lstAt_of e, List.length_map])]
    simpa [Function.comp_def] using this
theorem ok_shape {f : Addr} {fd : FuncData} (F : Fun K "shape" "shape" s_shape f fd) (T : Bl mg) : FnOk P w K mg base CX0 1 f fd ["rows"] spShape := by
  refine F.ok sc_shape (fun vs H Q E h => ?_) (fun cdv A outer s H vs Q E hr h => ?_)
  · obtain ⟨a, as, xss, rfl, _⟩ := h; rfl
  · obtain ⟨a, as, xss, rfl, ha, hz, q⟩ := h
    refine ⟨_, (pss_one (ps_ret (pe_comp (cp := []) (M := ["row"]) rfl ⟨rfl, rfl, rfl, rfl, rfl, rfl, rfl⟩ (by decide +kernel) (pi_l (pv 0)) (fun _ _ _ _ _ => pts_nil) (fun _ _ _ _ _ => (pe_callB f_len (by rfl) T.len BI.len (pa_cons (pv 0) pa_nil)))))), ?_⟩
    have e0 : start ["rows"] [V.ref a] = [some (.ref a)] := rfl
    rw [e0]
    simp only [rd_ret]
    exact comp_lens (fun R h => by simpa using h) ha hz fun D hD => q D _ (Same.upd_new hD) hD upd_same
end
end SR

namespace SR
open PySem L2 RS PySem.Spec PyProof.Rows
section
variable {P : Program} {w : World} {K : PySem.W.Frag} {mg : Str → Option Value} {base : Heap}
/-! ### column -/
abbrev s_column : Stmt := top 16
theorem sc_column : FnScope ["rows", "place"] ["rows", "place"] (defScope s_column) := ⟨rfl, rfl, rfl, by decide +kernel, rfl, by decide +kernel, by decide +kernel⟩

def spColumn : Sp := fun vs H Q _ => ∃ (a : Addr) (as : List Addr) (xss : List (List Int)) (p : Nat), vs = [.ref a, .int (p : Int)] ∧ RowsAt H a as xss ∧ xss.length ≤ 5000 ∧
  ∀ r H', Same H H' → H r = none → H' r = some (.lst ((RS.column xss p).map V.int)) → Q (.ref r) H'
theorem ok_column {f : Addr} {fd : FuncData} (F : Fun K "column" "column" s_column f fd) (T : Bl mg) : FnOk P w K mg base CX0 1 f fd ["rows", "place"] spColumn := by
  refine F.ok sc_column (fun vs H Q E h => ?_) (fun cdv A outer s H vs Q E hr h => ?_)
  · obtain ⟨a, as, xss, p, rfl, _⟩ := h; rfl
  · obtain ⟨a, as, xss, p, rfl, ha, hz, q⟩ := h
    refine ⟨_, (pss_one (ps_ret (pe_comp (cp := [1]) (M := ["row", "place"]) rfl ⟨rfl, rfl, rfl, rfl, rfl, rfl, rfl⟩ (by decide +kernel) (pi_l (pv 0)) (fun _ _ _ _ _ => (pts_one (pt_cmpR f_lt (pv 1) (pe_callB f_len (by rfl) T.len BI.len (pa_cons (pv 0) pa_nil)) (nomark _)))) (fun _ _ _ _ _ => (pe_ix f_ix (pv 0) (pv 1) (fun _ _ => rfl)))))), ?_⟩
    have e0 : start ["rows", "place"] [V.ref a, V.int (p : Int)] = [some (.ref a), some (.int (p : Int))] := rfl
    rw [e0]
    simp only [rd_ret]
    have la := RowsL.len ha.row
    refine comp_listP (fun R h => by simpa using h) ha.top (fun v => decide (p < (lstAt H v).length)) (fun v => (lstAt H v).getD p .non) (by rw [List.length_map]; omega) (fun v hv H' s R h => ?_) (fun v hv hp H' s R h => ?_) (fun D hD => ?_)
    · obtain ⟨b, xs, rfl, hb, hx, e⟩ := mem_row ha.row hv
      simp [cst, onS_of (s _ _ e)]
      simpa [lstAt_of e] using h
    · obtain ⟨b, xs, rfl, hb, hx, e⟩ := mem_row ha.row hv
      rw [lstAt_of e, List.length_map] at hp
      have hp' := of_decide_eq_true hp
      have ex : xs[p]? = some xs[p] := List.getElem?_eq_getElem hp'
      simp [cst, onS_of (s _ _ e), atI_int ex]
      simpa [lstAt_of e, List.getD_eq_getElem?_getD, ex] using h
    · refine q D _ (Same.upd_new hD) hD ?_
      rw [upd_same]
      obtain ⟨bs, eb, hb⟩ := rows_filt ha.row (fun v => decide (p < (lstAt H v).length)) (fun r => decide (p < r.length)) (fun b xs e => by rw [lstAt_of e, List.length_map])
      rw [eb, rows_map hb _ (fun r => V.int (r.getD p 0)) (fun b xs _ hx e => by
        rw [lstAt_of e]
        have hp := of_decide_eq_true (List.mem_filter.mp hx).2
        simp [List.getD_eq_getElem?_getD, List.getElem?_eq_getElem hp])]
      unfold RS.column
      simp [Function.comp_def]
/-! ### turned -/
abbrev s_turned : Stmt := top 15
theorem sc_turned : FnScope ["rows", "width"] ["rows"] (defScope s_turned) := ⟨rfl, rfl, rfl, by decide +kernel, rfl, by decide +kernel, by decide +kernel⟩

def spTurned : Sp := fun vs H Q _ => ∃ (a : Addr) (as : List Addr) (xss : List (List Int)), vs = [.ref a] ∧ RowsAt H a as xss ∧ xss.length ≤ 5000 ∧ (∀ r ∈ xss, r.length ≤ 5000) ∧
  ∀ r rs H', Same H H' → RowsAt H' r rs (turnedP xss) → Fresh H (r :: rs) → Q (.ref r) H'
theorem ok_turned {f : Addr} {fd : FuncData} (F : Fun K "turned" "turned" s_turned f fd) (T : Bl mg) (C_column : Cal P w K mg base 1 "column" ["rows", "place"] spColumn) : FnOk P w K mg base CX0 2 f fd ["rows"] spTurned := by
  refine F.ok sc_turned (fun vs H Q E h => ?_) (fun cdv A outer s H vs Q E hr h => ?_)
  · obtain ⟨a, as, xss, rfl, _⟩ := h; rfl
  · obtain ⟨a, as, xss, rfl, ha, hz, hz2, q⟩ := h
    refine ⟨_, (pss_cons (ps_set (i := 1) sc_turned.nd rfl (Or.inl rfl) (pe_ifExp (pt_tru (pv 0) (fun _ => rfl)) (pe_callB f_len (by rfl) T.len BI.len (pa_cons (pe_ix f_ix (pv 0) pe_int (fun _ _ => rfl)) pa_nil)) pe_int))
      (pss_one (ps_ret (pe_comp (cp := [0]) (M := ["place", "rows"]) rfl ⟨rfl, rfl, rfl, rfl, rfl, rfl, rfl⟩ (by decide +kernel) (pi_range1 (by rfl) T.range (pa_cons (pv 1) pa_nil)) (fun _ _ _ _ _ => pts_nil) (fun _ _ _ _ _ => (pe_cl C_column (hr.mono (by decide)) (by rfl) (pa_cons (pv 1) (pa_cons (pv 0) pa_nil)))))))), ?_⟩
    have e0 : start ["rows", "width"] [V.ref a] = [some (.ref a), none] := rfl
    rw [e0]
    have la := RowsL.len ha.row
    have hw : width xss ≤ 5000 := by
      unfold width
      cases xss with
      | nil => simp
      | cons r rs => exact hz2 r List.mem_cons_self
    refine cut1 (fun σ H' => σ = [some (.ref a), some (.int (width xss : Int))] ∧ H' = H) (fun R' h => ?_) ?_
    · simp [onL_of ha.top, onS_of ha.top]
      cases xss with
      | nil =>
        have : as = [] := List.length_eq_zero_iff.mp la
        subst this
        simp
        exact h _ _ ⟨by simp [width], rfl⟩
      | cons r rs =>
        obtain ⟨b, eb, hb⟩ := RowsL.get (i := 0) ha.row rfl
        have hne : as ≠ [] := fun z => by rw [z] at eb; cases eb
        have eb' : atI (as.map V.ref) 0 = some (.ref b) := atI_nat (j := 0) (map_get eb)
        simp [hne, eb', onS_of hb]
        exact h _ _ ⟨by simp [width], rfl⟩
    · rintro σ H' ⟨rfl, rfl⟩
      simp only [rd_ret, rd_comp]
      simp only [rd_rng1, rd_cons, rd_nil, rd_var1, rd_var0, rd_onO, rd_on1, rd_onI]
      refine ⟨⟨by omega, by omega⟩, ?_⟩
      refine comp_rows yields_range (turnedP xss) (by simp [turnedP]) (by simp; omega) (fun i v g ev eg H1 s1 R k => ?_) (fun D bs H1 hD s1 ra fr => q D bs H1 s1 ra fr)
      have hi : i < width xss := by
        have := (List.getElem?_eq_some_iff.mp eg).1
        simpa [turnedP] using this
      have ev' : v = .int (i : Int) := by
        rw [List.getElem?_map, Int.toNat_natCast, List.getElem?_range hi] at ev
        simpa using ev.symm
      rw [turnedP_get, if_pos hi] at eg
      cases eg
      subst ev'
      simp [cst]
      exact ⟨a, as, xss, i, rfl, ha.same s1, hz, fun r H2 s2 hr h2 => k r H2 s2 hr h2⟩
end
end SR

namespace SR
open PySem L2 RS PySem.Spec PyProof.Rows
section
variable {P : Program} {w : World} {K : PySem.W.Frag} {mg : Str → Option Value} {base : Heap}
theorem flat_take {xss : List (List Int)} (i : Nat) : (xss.take i).flatten.length ≤ xss.flatten.length := by
  conv => rhs; rw [← List.take_append_drop i xss, List.flatten_append, List.length_append]
  omega
/-! ### reading -/
abbrev s_reading : Stmt := top 14
theorem sc_reading : FnScope ["rows", "numbers", "row"] ["rows"] (defScope s_reading) := ⟨rfl, rfl, rfl, by decide +kernel, rfl, by decide +kernel, by decide +kernel⟩

def spReading : Sp := fun vs H Q _ => ∃ (a : Addr) (as : List Addr) (xss : List (List Int)), vs = [.ref a] ∧ RowsAt H a as xss ∧ xss.length ≤ 5000 ∧ xss.flatten.length ≤ 5000 ∧ (∀ r ∈ xss, r.length ≤ 5000) ∧
  ∀ r H', Same H H' → H r = none → H' r = some (.lst ((readL xss).map V.int)) → Q (.ref r) H'
def ReadIn (H : Hp) (a : Addr) (n : Addr) (xss : List (List Int)) (i : Nat) (σ : L2.St) (H' : Hp) : Prop := ∃ o, σ = [some (.ref a), some (.ref n), o] ∧ Same H H' ∧ H' n = some (.lst ((xss.reverse.take i).flatten.map V.int))
theorem ok_reading {f : Addr} {fd : FuncData} (F : Fun K "reading" "reading" s_reading f fd) (T : Bl mg) : FnOk P w K mg base CX0 1 f fd ["rows"] spReading := by
  refine F.ok sc_reading (fun vs H Q E h => ?_) (fun cdv A outer s H vs Q E hr h => ?_)
  · obtain ⟨a, as, xss, rfl, _⟩ := h; rfl
  · obtain ⟨a, as, xss, rfl, ha, hz, hz2, hz3, q⟩ := h
    refine ⟨_, (pss_cons (ps_set (i := 1) sc_reading.nd rfl (Or.inl rfl) (pe_lst pa_nil))
      (pss_cons (ps_for PassesOwn.never rfl (pi_rev (by rfl) T.reversed (pa_cons (pv 0) pa_nil)) (pg_name (i := 2) sc_reading.nd rfl (Or.inl rfl)) (pss_one (ps_expr (pe_ml PySem.F.slot_list_extend PySem.F.type_list_extend f_extend (pv 1) (pa_cons (pe_comp (cp := []) (M := ["number"]) rfl ⟨rfl, rfl, rfl, rfl, rfl, rfl, rfl⟩ (by decide +kernel) (pi_l (pv 2)) (fun _ _ _ _ _ => (pts_one (pt_cmpR f_notN (pv 0) pe_non (nomark _)))) (fun _ _ _ _ _ => (pv 0))) pa_nil)))))
      (pss_one (ps_ret (pv 1))))), ?_⟩
    have e0 : start ["rows", "numbers", "row"] [V.ref a] = [some (.ref a), none, none] := rfl
    rw [e0]
    have la := RowsL.len ha.row
    simp
    intro n hn
    have s0 := Same.upd_new (o := HO.lst []) hn
    refine for_revF (K := K) a (as.map V.ref) (fun N h => by simp [onL_of (s0 _ _ ha.top)]; rw [List.length_map] at h; exact h) (ReadIn H a n xss) ⟨none, rfl, s0, by rw [upd_same]; rfl⟩ (fun i σ H' _ ⟨o, _, s1, _⟩ => s1 _ _ ha.top) ?_ ?_
    · rintro i v σ H1 ev ⟨o, rfl, s1, h1⟩
      have hi : i < as.length := by have := (List.getElem?_eq_some_iff.mp ev).1; simpa using this
      have ex : xss.reverse[i]? = some (xss.reverse[i]'(by simp; omega)) := List.getElem?_eq_getElem _
      generalize hr' : xss.reverse[i]'(by simp; omega) = r at *
      have hrm : r ∈ xss := List.mem_reverse.mp (List.mem_of_getElem? ex)
      have lr := hz3 r hrm
      obtain ⟨b, rfl, hb⟩ : ∃ b, v = .ref b ∧ H b = some (.lst (r.map V.int)) := by
        rw [List.getElem?_reverse (by simpa using hi), List.length_map, List.getElem?_map] at ev
        rw [List.getElem?_reverse (by omega), ← la] at ex
        obtain ⟨b, eb, hb⟩ := RowsL.get ha.row ex
        rw [eb] at ev
        exact ⟨b, by simpa using ev.symm, hb⟩
      simp [onL_of h1]
      refine comp_listP (a := b) (xs := r.map V.int) (fun R h => by simpa using h) (s1 _ _ hb) (fun v => !decide (v = V.non)) id (by rw [List.length_map]; omega) (fun v hv H2 s2 R h => ?_) (fun v hv _ H2 s2 R h => by simpa [cst] using h) (fun D hD => ?_)
      · simpa [cst] using h
      · have er : ((r.map V.int).filter fun v => !decide (v = V.non)).map id = r.map V.int := by
          rw [List.map_id, List.filter_eq_self.mpr]
          intro v hv
          obtain ⟨x, _, rfl⟩ := List.mem_map.mp hv
          simp
        rw [er]
        have s2 := Same.upd_new (o := HO.lst (r.map V.int)) hD
        have h1' := s2 _ _ h1
        have tn := take_next ex
        have tf : (xss.reverse.take (i + 1)).flatten = (xss.reverse.take i).flatten ++ r := by rw [tn, List.flatten_append]; simp
        have fl : (xss.reverse.take (i + 1)).flatten.length ≤ 5000 := by
          refine Nat.le_trans (flat_take _) ?_
          rw [(List.Perm.flatten (List.reverse_perm xss)).length_eq]; exact hz2
        unfold ReadIn
        rw [tf] at fl ⊢
        generalize (xss.reverse.take i).flatten = Fl at *
        rw [List.length_append] at fl
        simp [onL_of upd_same, onL_of h1']
        exact ⟨line3 (by omega), (s1.trans s2).upd_in hn, upd_same⟩
    · rintro σ H1 ⟨o, rfl, s1, h1⟩
      simp
      refine q n H1 s1 hn ?_
      rw [h1, List.length_map, la]
      have : xss.reverse.take xss.length = xss.reverse := List.take_of_length_le (by simp)
      rw [this]; rfl
end
end SR

namespace SR
open PySem L2 RS PySem.Spec PyProof.Rows
section
variable {P : Program} {w : World} {K : PySem.W.Frag} {mg : Str → Option Value} {base : Heap}
/-! ### is_shape -/
abbrev s_is_shape : Stmt := top 8
theorem sc_is_shape : FnScope ["lengths"] ["lengths"] (defScope s_is_shape) := ⟨rfl, rfl, rfl, by decide +kernel, rfl, by decide +kernel, by decide +kernel⟩

def spIsShape : Sp := fun vs H Q _ => ∃ (a : Addr) (ls : List Int), vs = [.ref a] ∧ H a = some (.lst (ls.map V.int)) ∧ ls.length < 64 ∧ ∀ H', Same H H' → Q (.bl (shapeB ls)) H'
theorem ok_is_shape {f : Addr} {fd : FuncData} (F : Fun K "is_shape" "is_shape" s_is_shape f fd) (T : Bl mg) : FnOk P w K mg base CX0 1 f fd ["lengths"] spIsShape := by
  refine F.ok sc_is_shape (fun vs H Q E h => ?_) (fun cdv A outer s H vs Q E hr h => ?_)
  · obtain ⟨a, ls, rfl, _⟩ := h; rfl
  · obtain ⟨a, ls, rfl, ha, hz, q⟩ := h
    refine ⟨_, (pss_one (ps_ret (pe_and (pe_cmpR (f_eqF (hu64 hr)) (pv 0) (pe_sortedR (by rfl) T.sorted (pa_cons (pv 0) pa_nil)) (nomark _)) (pe_one (pe_callB (f_all rfl) (by rfl) T.all BI.all (pa_cons (pe_comp (cp := []) (M := ["length"]) rfl ⟨rfl, rfl, rfl, rfl, rfl, rfl, rfl⟩ (by decide +kernel) (pi_l (pv 0)) (fun _ _ _ _ _ => pts_nil) (fun _ _ _ _ _ => (pe_cmpR f_ge (pv 0) pe_int (nomark _)))) pa_nil)))))), ?_⟩
    have e0 : start ["lengths"] [V.ref a] = [some (.ref a)] := rfl
    rw [e0]
    simp [onL_of ha]
    refine ⟨ls, rfl, hz, fun p hp => ?_⟩
    have s1 := Same.upd_new (o := HO.lst ((sortR ls).map V.int)) hp
    refine eqF_ints (s1 _ _ ha) upd_same ?_
    rw [rd_onB]
    by_cases he : ls = sortR ls
    · rw [if_pos (by simpa using he)]
      refine comp_listP (a := a) (xs := ls.map V.int) (fun R h => by simpa using h) (s1 _ _ ha) (fun _ => true) (fun v => match v with | .int k => .bl (decide (1 ≤ k)) | _ => .non) (by rw [List.length_map]; omega) (fun v hv H2 s2 R h => by simpa using h) (fun v hv _ H2 s2 R h => ?_) (fun D hD => ?_)
      · obtain ⟨k, hk, rfl⟩ := List.mem_map.mp hv
        simpa [cst] using h
      · rw [onL_of upd_same]
        refine ⟨ls.map fun k => decide (1 ≤ k), by rw [List.filter_eq_self.mpr (fun _ _ => rfl), List.map_map, List.map_map]; rfl, ?_⟩
        have : (ls.map fun k => decide (1 ≤ k)).all id = shapeB ls := by
          unfold shapeB
          rw [decide_eq_true he, Bool.true_and, List.all_map]; rfl
        rw [this]
        exact q _ (s1.trans (Same.upd_new hD))
    · rw [if_neg (by simpa using he)]
      have : shapeB ls = false := by unfold shapeB; rw [decide_eq_false he, Bool.false_and]
      have := q _ s1
      simpa [*] using this
end
end SR

namespace SR
open PySem L2 RS PySem.Spec PyProof.Rows
section
variable {P : Program} {w : World} {K : PySem.W.Frag} {mg : Str → Option Value} {base : Heap}
/-! ### all_unlike -/
def lenZ (xss : List (List Int)) : List Int := xss.map fun r => (r.length : Int)
theorem lenZ_sum (xss : List (List Int)) : (lenZ xss).sum = (xss.flatten.length : Int) := by
  unfold lenZ
  induction xss with
  | nil => rfl
  | cons r xss ih => rw [List.map_cons, List.sum_cons, ih, List.flatten_cons, List.length_append]; omega
theorem lenZ_long {xss : List (List Int)} (h : xss.flatten.length ≤ 4000) : ∀ j, j < (lenZ xss).length → InLong ((lenZ xss).getD j 0) ∧ InLong ((lenZ xss).take (j + 1)).sum := fun j hj => by
  have lj : j < xss.length := by simpa [lenZ] using hj
  have e1 : ((lenZ xss).take (j + 1)).sum = ((xss.take (j + 1)).flatten.length : Int) := by
    rw [← lenZ_sum]; unfold lenZ; rw [List.map_take]
  have f1 : (xss.take (j + 1)).flatten.length ≤ xss.flatten.length := by
    conv => rhs; rw [← List.take_append_drop (j + 1) xss, List.flatten_append, List.length_append]
    omega
  have e2 : (lenZ xss).getD j 0 = (xss[j].length : Int) := by
    unfold lenZ
    rw [List.getD_eq_getElem?_getD, List.getElem?_map, List.getElem?_eq_getElem lj]; rfl
  have f2 : xss[j].length ≤ xss.flatten.length := by
    have : xss[j].length ≤ (xss.take (j + 1)).flatten.length := by
      rw [List.take_succ_eq_append_getElem lj, List.flatten_append, List.length_append]; simp
    omega
  rw [e1, e2]
  constructor <;> (unfold InLong; omega)
abbrev s_all_unlike : Stmt := top 10
theorem sc_all_unlike : FnScope ["rows"] ["rows"] (defScope s_all_unlike) := ⟨rfl, rfl, rfl, by decide +kernel, rfl, by decide +kernel, by decide +kernel⟩

def spAllUnlike : Sp := fun vs H Q _ => ∃ (a : Addr) (as : List Addr) (xss : List (List Int)), vs = [.ref a] ∧ RowsAt H a as xss ∧ xss.length ≤ 5000 ∧ xss.flatten.length ≤ 4000 ∧ ∀ H', Same H H' → Q (.bl (decide xss.flatten.Nodup)) H'
theorem row_le {xss : List (List Int)} {B : Nat} (h : xss.flatten.length ≤ B) : ∀ r ∈ xss, r.length ≤ B := fun r hr => by
  obtain ⟨s, t, rfl⟩ := List.append_of_mem hr
  rw [List.flatten_append, List.flatten_cons, List.length_append, List.length_append] at h
  omega
theorem ok_all_unlike {f : Addr} {fd : FuncData} (F : Fun K "all_unlike" "all_unlike" s_all_unlike f fd) (T : Bl mg) (C_reading : Cal P w K mg base 1 "reading" ["rows"] spReading) (C_shape : Cal P w K mg base 1 "shape" ["rows"] spShape) : FnOk P w K mg base CX0 2 f fd ["rows"] spAllUnlike := by
  refine F.ok sc_all_unlike (fun vs H Q E h => ?_) (fun cdv A outer s H vs Q E hr h => ?_)
  · obtain ⟨a, as, xss, rfl, _⟩ := h; rfl
  · obtain ⟨a, as, xss, rfl, ha, hz, hz2, q⟩ := h
    refine ⟨_, (pss_one (ps_ret (pe_cmpR (f_eqF (hu64 hr)) (pe_lenSet (by rfl) T.len (by rfl) T.set (pa_cons (pe_cl C_reading (hr.mono (by decide)) (by rfl) (pa_cons (pv 0) pa_nil)) pa_nil) rfl) (pe_callB (f_sum rfl) (by rfl) T.sum BI.sum (pa_cons (pe_cl C_shape (hr.mono (by decide)) (by rfl) (pa_cons (pv 0) pa_nil)) pa_nil)) (nomark _)))), ?_⟩
    have e0 : start ["rows"] [V.ref a] = [some (.ref a)] := rfl
    rw [e0]
    simp
    refine ⟨a, as, xss, rfl, ha, by omega, by omega, fun r hr => by have := row_le hz2 r hr; omega, fun r H1 s1 hr1 h1 => ?_⟩
    have rp : (readL xss).Perm xss.flatten := List.Perm.flatten (List.reverse_perm xss)
    have lrp := rp.length_eq
    show onL _ _ _
    rw [onL_of h1]
    refine ⟨_, rfl, by omega, fun c hc1 hc2 => ?_⟩
    refine ⟨a, as, xss, rfl, ha.same s1, by omega, fun r2 H2 s2 hr2 h2 => ?_⟩
    show onL _ _ _
    rw [onL_of h2]
    refine ⟨lenZ xss, rfl, lenZ_long hz2, ?_⟩
    rw [lenZ_sum]
    simp
    have : decide ((c : Int) = (xss.flatten.length : Int)) = decide xss.flatten.Nodup := by
      rw [decide_eq_decide, ← rp.nodup_iff, ← hc2]; omega
    have e3 := q _ (s1.trans s2)
    rw [← this] at e3
    simpa using e3
/-! ### all_sorted -/
theorem rowOf_map {α : Type} {g : List Int → α} {H : Hp} : ∀ {as : List Addr} {xss : List (List Int)}, RowsL H as xss → as.map (fun b => g (rowOf H b)) = xss.map g
  | _, _, .nil => rfl
  | _, _, .cons h t => by rw [List.map_cons, List.map_cons, rowOf_of h, rowOf_map t]
abbrev s_all_sorted : Stmt := top 11
theorem sc_all_sorted : FnScope ["rows"] ["rows"] (defScope s_all_sorted) := ⟨rfl, rfl, rfl, by decide +kernel, rfl, by decide +kernel, by decide +kernel⟩

def spAllSorted : Sp := fun vs H Q _ => ∃ (a : Addr) (as : List Addr) (xss : List (List Int)), vs = [.ref a] ∧ RowsAt H a as xss ∧ xss.length ≤ 5000 ∧ (∀ r ∈ xss, r.length < 64) ∧ ∀ H', Same H H' → Q (.bl (xss.all fun r => decide (r = sortZ r))) H'
theorem ok_all_sorted {f : Addr} {fd : FuncData} (F : Fun K "all_sorted" "all_sorted" s_all_sorted f fd) (T : Bl mg) : FnOk P w K mg base CX0 1 f fd ["rows"] spAllSorted := by
  refine F.ok sc_all_sorted (fun vs H Q E h => ?_) (fun cdv A outer s H vs Q E hr h => ?_)
  · obtain ⟨a, as, xss, rfl, _⟩ := h; rfl
  · obtain ⟨a, as, xss, rfl, ha, hz, hz2, q⟩ := h
    refine ⟨_, (pss_one (ps_ret (pe_callB (f_all rfl) (by rfl) T.all BI.all (pa_cons (pe_comp (cp := []) (M := ["row"]) rfl ⟨rfl, rfl, rfl, rfl, rfl, rfl, rfl⟩ (by decide +kernel) (pi_l (pv 0)) (fun _ _ _ _ _ => pts_nil) (fun _ _ _ _ _ => (pe_cmpR (f_eqF (hu64 hr)) (pv 0) (pe_callB f_sorted (by rfl) T.sorted BI.sorted (pa_cons (pv 0) pa_nil)) (nomark _)))) pa_nil)))), ?_⟩
    have e0 : start ["rows"] [V.ref a] = [some (.ref a)] := rfl
    rw [e0]
    have lx := RowsL.len ha.row
    simp only [rd_ret, rd_cb, rd_cons]
    refine comp_listG (fun R h => by simpa using h) ha.top (fun _ => true) (fun v => match v with | .ref b => .bl (decide (rowOf H b = sortZ (rowOf H b))) | _ => .non) (by rw [List.length_map]; omega) (fun v hv H' s R h => by simpa using h H' (fun _ _ e => e)) (fun v hv _ H' s R h => ?_) (fun D H' hD s1 hd => ?_)
    · obtain ⟨b, hb, rfl⟩ := List.mem_map.mp hv
      obtain ⟨i, hi⟩ := List.getElem?_of_mem hb
      obtain ⟨x, ex, e⟩ := RowsL.get' ha.row hi
      simp only [rowOf_of e] at h
      simp [cst, onL_of (s _ _ e)]
      refine ⟨x, rfl, hz2 x (List.mem_of_getElem? ex), fun p hp => ?_⟩
      have s2 := Same.upd_new (o := HO.lst ((sortZ x).map V.int)) hp
      exact eqF_ints (s2 _ _ (s _ _ e)) upd_same (h _ s2)
    · rw [rd_nil, rd_all, rd_on1, onL_of hd]
      refine ⟨xss.map fun r => decide (r = sortZ r), ?_, ?_⟩
      · rw [List.filter_eq_self.mpr (fun _ _ => rfl), List.map_map, List.map_map, ← rowOf_map ha.row]
        rfl
      · rw [List.all_map]
        exact q _ s1
/-! ### is_stairs -/
abbrev s_is_stairs : Stmt := top 9
theorem sc_is_stairs : FnScope ["rows"] ["rows"] (defScope s_is_stairs) := ⟨rfl, rfl, rfl, by decide +kernel, rfl, by decide +kernel, by decide +kernel⟩

def stairsB (xss : List (List Int)) : Bool := shapeB (lenZ xss) && decide xss.flatten.Nodup && xss.all (fun r => decide (r = sortZ r)) && (turnedP xss).all (fun r => decide (r = sortZ r))
def spIsStairs : Sp := fun vs H Q _ => ∃ (a : Addr) (as : List Addr) (xss : List (List Int)), vs = [.ref a] ∧ RowsAt H a as xss ∧ xss.length < 64 ∧ xss.flatten.length ≤ 4000 ∧ (∀ r ∈ xss, r.length < 64) ∧ ∀ H', Same H H' → Q (.bl (stairsB xss)) H'
theorem ok_is_stairs {f : Addr} {fd : FuncData} (F : Fun K "is_stairs" "is_stairs" s_is_stairs f fd) (T : Bl mg) (C_shape : Cal P w K mg base 1 "shape" ["rows"] spShape) (C_is_shape : Cal P w K mg base 1 "is_shape" ["lengths"] spIsShape) (C_all_unlike : Cal P w K mg base 2 "all_unlike" ["rows"] spAllUnlike) (C_all_sorted : Cal P w K mg base 1 "all_sorted" ["rows"] spAllSorted) (C_turned : Cal P w K mg base 2 "turned" ["rows"] spTurned) : FnOk P w K mg base CX0 3 f fd ["rows"] spIsStairs := by
  refine F.ok sc_is_stairs (fun vs H Q E h => ?_) (fun cdv A outer s H vs Q E hr h => ?_)
  · obtain ⟨a, as, xss, rfl, _⟩ := h; rfl
  · obtain ⟨a, as, xss, rfl, ha, hz, hz2, hz3, q⟩ := h
    refine ⟨_, (pss_one (ps_ret (pe_and (pe_cl C_is_shape (hr.mono (by decide)) (by rfl) (pa_cons (pe_cl C_shape (hr.mono (by decide)) (by rfl) (pa_cons (pv 0) pa_nil)) pa_nil)) (pe_and (pe_cl C_all_unlike (hr.mono (by decide)) (by rfl) (pa_cons (pv 0) pa_nil)) (pe_and (pe_cl C_all_sorted (hr.mono (by decide)) (by rfl) (pa_cons (pv 0) pa_nil)) (pe_one (pe_cl C_all_sorted (hr.mono (by decide)) (by rfl) (pa_cons (pe_cl C_turned (hr.mono (by decide)) (by rfl) (pa_cons (pv 0) pa_nil)) pa_nil)))))))), ?_⟩
    have e0 : start ["rows"] [V.ref a] = [some (.ref a)] := rfl
    rw [e0]
    unfold stairsB at q
    simp
    refine ⟨a, as, xss, rfl, ha, by omega, fun r H1 s1 hr1 h1 => ?_⟩
    refine ⟨r, lenZ xss, rfl, h1, by simp [lenZ]; omega, fun H2 s2 => ?_⟩
    have s12 := s1.trans s2
    show if _ then _ else _
    by_cases c1 : shapeB (lenZ xss) = true
    · rw [if_pos c1]
      rw [c1, Bool.true_and] at q
      refine ⟨a, as, xss, rfl, ha.same s12, by omega, hz2, fun H3 s3 => ?_⟩
      have s13 := s12.trans s3
      show if _ then _ else _
      by_cases c2 : xss.flatten.Nodup
      · rw [if_pos (by simpa using c2)]
        rw [decide_eq_true c2, Bool.true_and] at q
        refine ⟨a, as, xss, rfl, ha.same s13, by omega, hz3, fun H4 s4 => ?_⟩
        have s14 := s13.trans s4
        show if _ then _ else _
        by_cases c3 : (xss.all fun r => decide (r = sortZ r)) = true
        · rw [if_pos c3]
          rw [c3, Bool.true_and] at q
          refine ⟨a, as, xss, rfl, ha.same s14, by omega, fun r hr => by have := hz3 r hr; omega, fun t ts H5 s5 h5 fr5 => ?_⟩
          refine ⟨t, ts, turnedP xss, rfl, h5, ?_, fun r hr => ?_, fun H6 s6 => q _ ((s14.trans s5).trans s6)⟩
          · simp [turnedP, width]
            cases xss with
            | nil => simp
            | cons r0 R => have := hz3 r0 List.mem_cons_self; simp; omega
          · obtain ⟨p, _, rfl⟩ := List.mem_map.mp hr
            have : (RS.column xss p).length ≤ xss.length := by
              unfold RS.column; rw [List.length_map]; exact List.length_filter_le _ _
            omega
        · rw [if_neg c3]
          simp only [Bool.not_eq_true] at c3
          have := q _ s14
          rw [c3] at this
          exact this
      · rw [if_neg (by simpa using c2)]
        have := q _ s13
        rw [decide_eq_false c2] at this
        simpa using this
    · rw [if_neg c1]
      simp only [Bool.not_eq_true] at c1
      have := q _ s12
      rw [c1] at this
      simpa using this
end
end SR

namespace SR
open PySem L2 RS PySem.Spec PyProof.Rows
section
variable {P : Program} {w : World} {K : PySem.W.Frag} {mg : Str → Option Value} {base : Heap}
/-! ### can_take -/
abbrev s_can_take : Stmt := top 21
theorem sc_can_take : FnScope ["rows", "at"] ["rows", "at"] (defScope s_can_take) := ⟨rfl, rfl, rfl, by decide +kernel, rfl, by decide +kernel, by decide +kernel⟩

def canB (R : List (List Int)) (i : Int) : Bool := if i < 0 ∨ (R.length : Int) ≤ i then false else decide (i = (R.length : Int) - 1) || decide ((R.getD (i.toNat + 1) []).length < (R.getD i.toNat []).length)
theorem canB_corner {R : List (List Int)} {i : Nat} (h : Corner R i) : canB R (i : Int) = true := by
  obtain ⟨r, e, hl⟩ := h
  have hi := (List.getElem?_eq_some_iff.mp e).1
  unfold canB
  rw [if_neg (by omega), Bool.or_eq_true]
  right
  have e1 : R.getD i [] = r := by rw [List.getD_eq_getElem?_getD, e]; rfl
  rw [Int.toNat_natCast, e1]
  simpa using hl
def spCanT : Sp := fun vs H Q _ => ∃ (a : Addr) (as : List Addr) (R : List (List Int)) (i : Int), vs = [.ref a, .int i] ∧ RowsAt H a as R ∧ R.length ≤ 5000 ∧ Q (.bl (canB R i)) H
theorem ok_can_take {f : Addr} {fd : FuncData} (F : Fun K "can_take" "can_take" s_can_take f fd) (T : Bl mg) : FnOk P w K mg base CX0 1 f fd ["rows", "at"] spCanT := by
  refine F.ok sc_can_take (fun vs H Q E h => ?_) (fun cdv A outer s H vs Q E hr h => ?_)
  · obtain ⟨a, as, R, i, rfl, _⟩ := h; rfl
  · obtain ⟨a, as, R, i, rfl, ha, hz, q⟩ := h
    refine ⟨_, (pss_cons (ps_if (PW.pt (pw_or (pt_cmpR f_lt (pv 1) pe_int (nomark _)) (pw_or1 (pt_cmpR f_ge (pv 1) (pe_callB f_len (by rfl) T.len BI.len (pa_cons (pv 0) pa_nil)) (nomark _))))) (pss_one (ps_ret pe_bl)) pss_nil)
      (pss_one (ps_ret (pe_or (pe_cmpR (f_eqF (hu64 hr)) (pv 1) (pe_op f_sub (pe_callB f_len (by rfl) T.len BI.len (pa_cons (pv 0) pa_nil)) pe_int) (nomark _)) (pe_one (pe_cmpR f_lt (pe_callB f_len (by rfl) T.len BI.len (pa_cons (pe_ix f_ix (pv 0) (pe_op f_add (pv 1) pe_int) (fun _ _ => rfl)) pa_nil)) (pe_callB f_len (by rfl) T.len BI.len (pa_cons (pe_ix f_ix (pv 0) (pv 1) (fun _ _ => rfl)) pa_nil)) (nomark _))))))), ?_⟩
    have e0 : start ["rows", "at"] [V.ref a, V.int i] = [some (.ref a), some (.int i)] := rfl
    rw [e0, rd_seq]
    have la := RowsL.len ha.row
    refine ifS (decide (i < 0) || decide ((R.length : Int) ≤ i)) H (fun R' h => ?_) ?_
    · by_cases h1 : i < 0
      · simp [h1]
        simpa [h1] using h
      · simp [h1, onS_of ha.top, la]
        simpa [h1] using h
    by_cases hc : i < 0 ∨ (R.length : Int) ≤ i
    · rw [if_pos (by simpa using hc)]
      simp
      unfold canB at q
      rw [if_pos hc] at q
      exact q
    · rw [if_neg (by simpa using hc), rd_next]
      dsimp only
      unfold canB at q
      rw [if_neg hc] at q
      obtain ⟨j, rfl⟩ : ∃ j : Nat, i = (j : Int) := ⟨i.toNat, by omega⟩
      rw [Int.toNat_natCast] at q
      have hj : j < R.length := by omega
      have eR : R[j]? = some R[j] := List.getElem?_eq_getElem hj
      obtain ⟨b, eb, hb⟩ := RowsL.get ha.row eR
      by_cases hl : (j : Int) = (R.length : Int) - 1
      · simp [onS_of ha.top, la, hl]
        simpa [hl] using q
      · have eR1 : R[j + 1]? = some R[j + 1] := List.getElem?_eq_getElem (by omega)
        obtain ⟨b1, eb1, hb1⟩ := RowsL.get ha.row eR1
        have a1 := atI_ref eb1
        rw [show ((j + 1 : Nat) : Int) = (j : Int) + 1 by omega] at a1
        rw [List.getD_eq_getElem?_getD, List.getD_eq_getElem?_getD, eR, eR1] at q
        simp [onS_of ha.top, la, hl, a1, onS_of hb1, atI_ref eb, onS_of hb]
        simpa [hl] using q
/-! ### take_out -/
abbrev s_take_out : Stmt := top 20
theorem sc_take_out : FnScope ["rows", "at", "moving", "shorter", "left", "row", "place"] ["rows", "at"] (defScope s_take_out) := ⟨rfl, rfl, rfl, by decide +kernel, rfl, by decide +kernel, by decide +kernel⟩

def spTakeOut : Sp := fun vs H Q _ => ∃ (a : Addr) (as : List Addr) (R : List (List Int)) (i : Nat), vs = [.ref a, .int (i : Int)] ∧ RowsAt H a as R ∧ R.length ≤ 1000 ∧ (∀ r ∈ R, r.length ≤ 1000) ∧ Stairs R ∧ R.flatten.Nodup ∧ Corner R i ∧
  ∀ t b bs H', Same H H' → H t = none → H' t = some (.tup [.ref b, .int (takeP R i).2]) → RowsAt H' b bs (takeP R i).1 → Fresh H (b :: bs) → Q (.ref t) H'
def TkIn (H : Hp) (a sh S : Addr) (ss : List V) (i : Nat) (R : List (List Int)) (t : Nat) (σ : L2.St) (H' : Hp) : Prop := ∃ (b : Addr) (bs : List Addr) (o5 o6 : Option V), σ = [some (.ref a), some (.int (i : Int)), some (.int (takeP (R.drop (i - t)) t).2), some (.ref sh), some (.ref b), o5, o6] ∧ Same H H' ∧ RowsAt H' b bs (takeP (R.drop (i - t)) t).1 ∧ Fresh H (b :: bs) ∧ H' S = some (.lst ss) ∧ S ∉ b :: bs
theorem cut_init (xs : List V) : cutV xs none (some (-1)) = xs.dropLast := by
  unfold cutV HT.sIx
  simp
  rw [List.dropLast_eq_take]
  congr 1
  try omega
theorem RowsL.cons' {H : Hp} {p : Addr} {as : List Addr} {r : List Int} {xss : List (List Int)} (h : H p = some (.lst (r.map V.int))) (t : RowsL H as xss) : RowsL H (p :: as) (r :: xss) := .cons h t
theorem ok_take_out {f : Addr} {fd : FuncData} (F : Fun K "take_out" "take_out" s_take_out f fd) (T : Bl mg) (C_how_many_less : Cal P w K mg base 1 "how_many_less" ["row", "number"] spLess) (C_with_number_at : Cal P w K mg base 1 "with_number_at" ["row", "place", "number"] spWith) (C_can_take : Cal P w K mg base 1 "can_take" ["rows", "at"] spCanT) : FnOk P w K mg base CX0 2 f fd ["rows", "at"] spTakeOut := by
  refine F.ok sc_take_out (fun vs H Q E h => ?_) (fun cdv A outer s H vs Q E hr h => ?_)
  · obtain ⟨a, as, R, i, rfl, _⟩ := h; rfl
  · obtain ⟨a, as, R, i, rfl, ha, hz, hz2, hS, nd, hc, q⟩ := h
    refine ⟨_, (pss_cons (ps_if (pt_not (pt_val (pe_cl C_can_take (hr.mono (by decide)) (by rfl) (pa_cons (pv 0) (pa_cons (pv 1) pa_nil))))) (pss_one ps_never) pss_nil)
      (pss_cons (ps_set (i := 2) sc_take_out.nd rfl (Or.inl rfl) (pe_ix f_ix (pe_ix f_ix (pv 0) (pv 1) (fun _ _ => rfl)) (pe_un f_neg pe_int) (fun _ _ => rfl)))
      (pss_cons (ps_set (i := 3) sc_take_out.nd rfl (Or.inl rfl) (pe_slice f_sl (pe_ix f_ix (pv 0) (pv 1) (fun _ _ => rfl)) po_none (po_some (pe_un f_neg pe_int))))
      (pss_cons (ps_comp (i := 4) sc_take_out.nd rfl rfl (cp := []) (M := ["row"]) rfl ⟨rfl, rfl, rfl, rfl, rfl, rfl, rfl⟩ (by decide +kernel) (pi_l (pe_slice f_sl (pv 0) (po_some (pe_op f_add (pv 1) pe_int)) po_none)) (fun _ _ _ _ _ => pts_nil) (fun _ _ _ _ _ => (pe_callTy f_list (by rfl) T.list BI.list (pa_cons (pv 0) pa_nil))))
      (pss_cons (ps_if (pt_tru (pv 3) (fun _ => rfl)) (pss_one (ps_expr (pe_ml PySem.F.slot_list_insert PySem.F.type_list_insert f_insert (pv 4) (pa_cons pe_int (pa_cons (pv 3) pa_nil))))) pss_nil)
      (pss_cons (ps_for PassesOwn.never rfl (pi_rev (by rfl) T.reversed (pa_cons (pe_slice f_sl (pv 0) po_none (po_some (pv 1))) pa_nil)) (pg_name (i := 5) sc_take_out.nd rfl (Or.inl rfl)) (pss_cons (ps_set (i := 6) sc_take_out.nd rfl (Or.inl rfl) (pe_op f_sub (pe_cl C_how_many_less (hr.mono (by decide)) (by rfl) (pa_cons (pv 5) (pa_cons (pv 2) pa_nil))) pe_int))
      (pss_cons (ps_expr (pe_ml PySem.F.slot_list_insert PySem.F.type_list_insert f_insert (pv 4) (pa_cons pe_int (pa_cons (pe_cl C_with_number_at (hr.mono (by decide)) (by rfl) (pa_cons (pv 5) (pa_cons (pv 6) (pa_cons (pv 2) pa_nil)))) pa_nil))))
      (pss_one (ps_set (i := 2) sc_take_out.nd rfl (Or.inl rfl) (pe_ix f_ix (pv 5) (pv 6) (fun _ _ => rfl)))))))
      (pss_one (ps_ret (pe_tup (pa_cons (pv 4) (pa_cons (pv 2) pa_nil))))))))))), ?_⟩
    have e0 : start ["rows", "at", "moving", "shorter", "left", "row", "place"] [V.ref a, V.int (i : Int)] = [some (.ref a), some (.int (i : Int)), none, none, none, none, none] := rfl
    rw [e0, rd_seq]
    have la := RowsL.len ha.row
    refine ifS false H (fun R' h => ?_) ?_
    · simp
      exact ⟨a, as, R, _, rfl, ha, by omega, by rw [canB_corner hc]; simpa using h⟩
    rw [if_neg (by simp), rd_next]
    dsimp only
    obtain ⟨r, eR, hlr⟩ := id hc
    have hi := (List.getElem?_eq_some_iff.mp eR).1
    obtain ⟨c, ec, hcr⟩ := RowsL.get ha.row eR
    have hrm := List.mem_of_getElem? eR
    have hne := hS.pos r hrm
    have hlr' := hz2 r hrm
    rcases List.eq_nil_or_concat r with rfl | ⟨r', m, er⟩
    · exact absurd rfl hne
    rw [List.concat_eq_append] at er
    subst er
    have dr : R.drop i = (r' ++ [m]) :: R.drop (i + 1) := by rw [List.drop_eq_getElem_cons hi, (List.getElem?_eq_some_iff.mp eR).2]
    have t0 : takeP (R.drop i) 0 = ((if r' = [] then R.drop (i + 1) else r' :: R.drop (i + 1)), m) := by rw [dr, takeP, dropLast_snoc, getLastD_snoc]
    -- moving, shorter, left
    refine cut4 (fun σ H1 => ∃ (sh b : Addr) (bs : List Addr), σ = [some (.ref a), some (.int (i : Int)), some (.int m), some (.ref sh), some (.ref b), none, none] ∧ Same H H1 ∧ RowsAt H1 b bs (takeP (R.drop i) 0).1 ∧ Fresh H (b :: bs)) (fun R' h => ?_) ?_
    · have aL : atI (List.map V.int (r' ++ [m])) (-1) = some (.int m) := by rw [List.map_append]; exact atI_last _ _
      have c0 : cutV (List.map V.int (r' ++ [m])) none (some (-1)) = r'.map V.int := by rw [cut_init, List.map_append]; simp
      rw [rd_seq, rd_asg]
      simp only [rd_var0, rd_var1, rd_ix, rd_op, rd_onO, rd_onI, onS_of ha.top, atI_ref ec, rd_un, rd_c, rd_neg, onS_of hcr, aL, rd_name, List.set_cons_succ, List.set_cons_zero]
      rw [rd_seq, rd_asg]
      simp only [rd_var0, rd_var1, rd_sl, rd_ix, rd_op, rd_onO, rd_onI, onS_of ha.top, atI_ref ec, rd_nopart, rd_part, rd_un, rd_c, rd_neg, rd_cut, onL_of hcr, c0, rd_new]
      intro sh hsh
      have s1 := Same.upd_new (o := HO.lst (r'.map V.int)) hsh
      simp only [rd_name, List.set_cons_succ, List.set_cons_zero]
      rw [rd_seq, rd_asg]
      have ha1 := ha.same s1
      have hsh1 : upd H sh (HO.lst (r'.map V.int)) sh = some (HO.lst (r'.map V.int)) := upd_same
      generalize upd H sh (HO.lst (r'.map V.int)) = H1 at *
      have c2 : cutV (as.map V.ref) (some ((i : Int) + 1)) none = (as.drop (i + 1)).map V.ref := by
        have := cut_from (xs := as.map V.ref) (p := i + 1)
        rw [show ((i + 1 : Nat) : Int) = (i : Int) + 1 by omega] at this
        rw [this, List.map_drop]
      refine comp_new (o := .lst ((as.drop (i + 1)).map V.ref)) (fun R h => by simp [onL_of ha1.top, c2]; simpa using h) (fun S hS' => ?_)
      have s2 := Same.upd_new (o := HO.lst ((as.drop (i + 1)).map V.ref)) hS'
      refine comp_copy (a := S) (fun R h => by simpa using h) (⟨upd_same, RowsL.drop (i + 1) (ha1.same s2).row⟩ : RowsAt _ S (as.drop (i + 1)) (R.drop (i + 1))) (by rw [List.length_drop]; omega) (fun b bs H3 hb s3 hbR frb => ?_)
      simp only [rd_name, List.set_cons_succ, List.set_cons_zero]
      have s13 := s2.trans s3
      have sh3 := s13 _ _ hsh1
      have frb1 : Fresh H (b :: bs) := frb.old (s1.trans s2)
      have lb := RowsL.len hbR.row
      rw [List.length_drop] at lb
      rw [rd_seq]
      refine ifS (!r'.isEmpty) H3 (fun R h => by simp [onL_of sh3]; simpa using h) ?_
      by_cases h0 : r' = []
      · rw [if_neg (by simp [h0]), rd_next]
        refine h _ _ ⟨sh, b, bs, rfl, s1.trans s13, by rw [t0, if_pos h0]; exact hbR, frb1⟩
      · rw [if_pos (by simpa using h0)]
        simp [onL_of hbR.top]
        refine ⟨line3 (by omega), ?_⟩
        have shb : sh ≠ b := fun z => by
          have := frb.no b List.mem_cons_self
          rw [← z, s2 _ _ hsh1] at this; cases this
        have bH := frb1.no b List.mem_cons_self
        have shn : sh ∉ b :: bs := fun z => by
          have := frb.no sh z
          rw [s2 _ _ hsh1] at this; cases this
        refine h _ _ ⟨sh, b, sh :: bs, rfl, (s1.trans s13).upd_in bH, ?_, ?_⟩
        · rw [t0, if_neg h0]
          refine ⟨by rw [upd_same]; simp, RowsL.cons' (by rw [upd_ne shb]; exact sh3) (RowsL.mono hbR.row fun c hc o e => ?_)⟩
          have cb : c ≠ b := fun z => (List.nodup_cons.mp frb1.nd).1 (z ▸ hc)
          rw [upd_ne cb]; exact e
        · have n1 := List.nodup_cons.mp frb1.nd
          refine ⟨?_, fun x hx => ?_⟩
          · refine List.nodup_cons.mpr ⟨fun z => ?_, List.nodup_cons.mpr ⟨fun z => shn (List.mem_cons_of_mem _ z), n1.2⟩⟩
            rcases List.mem_cons.mp z with z | z
            · exact shb z.symm
            · exact n1.1 z
          · rcases List.mem_cons.mp hx with rfl | hx
            · exact bH
            · rcases List.mem_cons.mp hx with rfl | hx
              · exact hsh
              · exact frb1.no x (List.mem_cons_of_mem _ hx)
    rintro σ H1 ⟨sh, b, bs, rfl, s1, hb, frb⟩
    rw [rd_seq]
    have c1 : cutV (as.map V.ref) none (some (i : Int)) = (as.take i).map V.ref := by rw [cut_to (by rw [List.length_map]; omega), List.map_take]
    refine for_evJ (J := fun S => Itv K S i) (fun S H2 => H2 S = some (.lst ((as.take i).map V.ref)) ∧ H1 S = none ∧ Same H1 H2) (fun N h => ?_) ?_
    · simp [onL_of (ha.same s1).top, c1]
      intro p hp
      rw [onL_of upd_same]
      have := h p _ ⟨upd_same, hp, Same.upd_new hp⟩
      rw [show (List.take i (List.map V.ref as)).length = i by simp; omega]
      rw [List.map_take] at this
      exact this
    rintro S H2 ⟨hSl, hS1, s2⟩
    have hlen : ((as.take i).map V.ref).length = i := by rw [List.length_map, List.length_take]; omega
    have e00 : i - 0 = i := rfl
    refine for_revF S ((as.take i).map V.ref) (fun N h => by rw [hlen] at h; exact h) (TkIn H a sh S ((as.take i).map V.ref) i R) ⟨b, bs, none, none, by rw [e00, t0], s1.trans s2, by rw [e00]; exact hb.same s2, frb, hSl, hb.notin hS1⟩ ?_ ?_ ?_
    · rintro t σ H3 ht ⟨b, bs, o5, o6, rfl, s3, hb3, frb3, hS3, Sn⟩
      exact hS3
    · rintro t x σ H3 ex ⟨b, bs, o5, o6, rfl, s3, hb3, frb3, hS3, Sn⟩
      have ht : t < i := by
        have := (List.getElem?_eq_some_iff.mp ex).1
        rw [List.length_reverse, hlen] at this; exact this
      rw [List.getElem?_reverse (by rw [hlen]; exact ht), hlen, List.getElem?_map, List.getElem?_take, if_pos (by omega)] at ex
      cases ec' : as[i - 1 - t]? with
      | none => rw [ec'] at ex; cases ex
      | some d =>
        rw [ec'] at ex
        have : x = .ref d := by simpa using ex.symm
        subst this
        obtain ⟨y, ey, hd⟩ := RowsL.get' ha.row ec'
        have hd3 := s3 _ _ hd
        obtain ⟨dd, hlt⟩ := take_step hS nd hc ht ey
        have ly := hz2 y (List.mem_of_getElem? ey)
        have tk : takeP (R.drop (i - (t + 1))) (t + 1) = (outAt y (takeP (R.drop (i - t)) t).2 :: (takeP (R.drop (i - t)) t).1, outN y (takeP (R.drop (i - t)) t).2) := by rw [dd, takeP]
        have hsz := take_sizes (hS.drop (i - t)) (nodup_drop (i - t) nd) (by have := corner_drop (k := i - t) (by omega) hc; rwa [show i - (i - t) = t by omega] at this) (B := 1000) (fun r hr => hz2 r (List.mem_of_mem_drop hr))
        have lR : (R.drop (i - t)).length ≤ 1000 := by rw [List.length_drop]; omega
        generalize (takeP (R.drop (i - t)) t).2 = n at *
        generalize (takeP (R.drop (i - t)) t).1 = L at *
        have lpos := List.length_pos_iff.mpr hlt
        have llt : (lt y n).length ≤ y.length := by unfold lt; exact List.length_filter_le _ _
        have lb := RowsL.len hb3.row
        simp only [rd_name, List.set_cons_succ, List.set_cons_zero]
        rw [rd_seq, rd_asg, rd_op, rd_cl]
        simp only [rd_var0, rd_var1, rd_var2, rd_var3, rd_var4, rd_var5, rd_cons, rd_nil, rd_onO]
        refine ⟨d, y, n, rfl, hd3, by omega, fun H4 s4 => ?_⟩
        simp only [rd_c, rd_II, rd_onI, rd_name, List.set_cons_succ, List.set_cons_zero]
        have ep : ((lt y n).length : Int) - 1 = (((lt y n).length - 1 : Nat) : Int) := by omega
        rw [ep]
        have hb4 := hb3.same s4
        rw [rd_seq]
        simp only [rd_var0, rd_var1, rd_var2, rd_var3, rd_var4, rd_var5, rd_var6, rd_drop, rd_ml, rd_onO, rd_cons, rd_c, rd_nil, rd_cl]
        rw [onL_of hb4.top]
        refine ⟨d, y, _, n, rfl, s4 _ _ hd3, by omega, by omega, fun p H5 s5 hp h5 => ?_⟩
        have hb5 := hb4.same s5
        simp [onL_of hb5.top]
        refine ⟨line3 (by omega), ?_⟩
        have s35 := (s3.trans s4).trans s5
        have bH := frb3.no b List.mem_cons_self
        have pb : p ≠ b := fun z => by rw [z, hb4.top] at hp; cases hp
        have pn : p ∉ b :: bs := hb4.notin hp
        have db : d ≠ b := fun z => by
          have := frb3.no b List.mem_cons_self
          rw [← z, hd] at this; cases this
        have ev : y[(lt y n).length - 1]? = some (y.getD ((lt y n).length - 1) 0) := by
          have : (lt y n).length - 1 < y.length := by omega
          rw [List.getD_eq_getElem?_getD, List.getElem?_eq_getElem this]; rfl
        have ai : atI (y.map V.int) (((lt y n).length - 1 : Nat) : Int) = some (.int (outN y n)) := atI_int ev
        have Sb : S ≠ b := fun z => Sn (by rw [z]; exact List.mem_cons_self)
        have n1 := List.nodup_cons.mp frb3.nd
        rw [onS_of (by rw [upd_ne db]; exact (s4.trans s5) _ _ hd3), ai]
        simp
        refine ⟨b, p :: bs, some (.ref d), some (.int (((lt y n).length - 1 : Nat) : Int)), ?_, s35.upd_in bH, ?_, ?_, ?_, ?_⟩
        · rw [tk]
        · rw [tk]
          refine ⟨by rw [upd_same]; simp, RowsL.cons' (by rw [upd_ne pb]; exact h5) (RowsL.mono hb5.row fun c hc o e => ?_)⟩
          have cb : c ≠ b := fun z => n1.1 (z ▸ hc)
          rw [upd_ne cb]; exact e
        · refine ⟨List.nodup_cons.mpr ⟨fun z => ?_, List.nodup_cons.mpr ⟨fun z => pn (List.mem_cons_of_mem _ z), n1.2⟩⟩, fun x hx => ?_⟩
          · rcases List.mem_cons.mp z with z | z
            · exact pb z.symm
            · exact n1.1 z
          · rcases List.mem_cons.mp hx with rfl | hx
            · exact bH
            · rcases List.mem_cons.mp hx with rfl | hx
              · exact (s3.trans s4).free hp
              · exact frb3.no x (List.mem_cons_of_mem _ hx)
        · rw [upd_ne Sb]; simpa using (s4.trans s5) _ _ hS3
        · intro z
          rcases List.mem_cons.mp z with z | z
          · exact Sb z
          · rcases List.mem_cons.mp z with z | z
            · rw [← z, s4 _ _ hS3] at hp; cases hp
            · exact Sn (List.mem_cons_of_mem _ z)
    · rintro σ H3 ⟨b, bs, o5, o6, rfl, s3, hb3, frb3, hS3, Sn⟩
      rw [hlen, Nat.sub_self, List.drop_zero] at hb3
      rw [hlen, Nat.sub_self, List.drop_zero]
      simp
      refine ⟨line3 (by decide), fun t ht => ?_⟩
      exact q t b bs _ (s3.trans (Same.upd_new ht)) (s3.free ht) upd_same (hb3.same (Same.upd_new ht)) frb3
end
end SR

namespace SR
open PySem L2 RS PySem.Spec PyProof.Rows
section
variable {P : Program} {w : World} {K : PySem.W.Frag} {mg : Str → Option Value} {base : Heap}
/-! ### grown_rows -/
def kvRow (r : List Int) (k : Nat) : List (Key × V) := r.map fun c => (Sum.inl c, V.int (k : Int))
def kvFrom : List (List Int) → Nat → List (Key × V)
  | [], _ => []
  | r :: R, k => kvRow r k ++ kvFrom R (k + 1)
theorem kvFrom_snoc : ∀ (R : List (List Int)) (r : List Int) (k : Nat), kvFrom (R ++ [r]) k = kvFrom R k ++ kvRow r (k + R.length)
  | [], r, k => by simp [kvFrom]
  | s :: R, r, k => by
    rw [List.cons_append, kvFrom, kvFrom_snoc R r (k + 1), kvFrom, List.append_assoc]
    congr 3
    simp; omega
theorem kvFrom_keys : ∀ (R : List (List Int)) (k : Nat), (kvFrom R k).map (·.1) = R.flatten.map Sum.inl
  | [], _ => rfl
  | r :: R, k => by
    rw [kvFrom, List.map_append, kvFrom_keys R, List.flatten_cons, List.map_append]
    congr 1
    unfold kvRow
    rw [List.map_map]; rfl
theorem valV_none {kvs : List (Key × V)} {k : Key} (h : k ∉ kvs.map (·.1)) : valV kvs k = none := by
  unfold valV
  rw [List.find?_eq_none.mpr fun p hp => ?_]
  · rfl
  · simp only [decide_eq_true_eq]
    intro z
    exact h (List.mem_map.mpr ⟨p, hp, z⟩)
theorem valV_kv : ∀ {R : List (List Int)} {c : Int} (k : Nat), c ∈ R.flatten → valV (kvFrom R k) (Sum.inl c) = some (.int ((k + rowIx R c : Nat) : Int))
  | [], _, _, h => by simp at h
  | r :: R, c, k, h => by
    rw [kvFrom, rowIx]
    by_cases hc : c ∈ r
    · rw [if_pos hc]
      unfold valV
      have : ∃ p, (kvRow r k).find? (fun kv => decide (kv.1 = Sum.inl c)) = some p ∧ p.2 = V.int (k : Int) := by
        cases e : (kvRow r k).find? (fun kv => decide (kv.1 = Sum.inl c)) with
        | none =>
          have := List.find?_eq_none.mp e (Sum.inl c, V.int (k : Int)) (List.mem_map.mpr ⟨c, hc, rfl⟩)
          simp at this
        | some p =>
          refine ⟨p, rfl, ?_⟩
          have := List.mem_of_find?_eq_some e
          unfold kvRow at this
          obtain ⟨x, _, rfl⟩ := List.mem_map.mp this
          rfl
      obtain ⟨p, e1, e2⟩ := this
      rw [List.find?_append, e1]
      simp [e2]
    · rw [if_neg hc]
      have h2 : c ∈ R.flatten := by rw [List.flatten_cons] at h; exact (List.mem_append.mp h).resolve_left hc
      have ih := valV_kv (k + 1) h2
      unfold valV at ih ⊢
      rw [List.find?_append]
      have : (kvRow r k).find? (fun kv => decide (kv.1 = Sum.inl c)) = none := by
        rw [List.find?_eq_none]
        intro p hp
        unfold kvRow at hp
        obtain ⟨x, hx, rfl⟩ := List.mem_map.mp hp
        simp only [decide_eq_true_eq]
        intro z
        injection z with z
        exact hc (z ▸ hx)
      rw [this]
      show Option.map _ (List.find? _ (kvFrom R (k + 1))) = _
      rw [ih]
      congr 2
      omega
abbrev s_grown_rows : Stmt := top 24
theorem sc_grown_rows : FnScope ["second", "row_of", "at", "row", "count"] ["second"] (defScope s_grown_rows) := ⟨rfl, rfl, rfl, by decide +kernel, rfl, by decide +kernel, by decide +kernel⟩

def grownZ (R : List (List Int)) : List Int := (sortZ R.flatten).map fun c => ((rowIx R c : Nat) : Int)
def spGrown : Sp := fun vs H Q _ => ∃ (a : Addr) (as : List Addr) (R : List (List Int)), vs = [.ref a] ∧ RowsAt H a as R ∧ R.length ≤ 1000 ∧ R.flatten.Nodup ∧ R.flatten.length < 64 ∧ ∀ r H', Same H H' → H r = none → H' r = some (.lst ((grownZ R).map V.int)) → Q (.ref r) H'
def GrIn (H : Hp) (a d : Addr) (R : List (List Int)) (i : Nat) (σ : L2.St) (H' : Hp) : Prop := ∃ o2 o3 o4, σ = [some (.ref a), some (.ref d), o2, o3, o4] ∧ Same H H' ∧ H d = none ∧ H' d = some (.dK (kvFrom (R.take i) 0))
def GrJn (H : Hp) (a d b : Addr) (R : List (List Int)) (r : List Int) (i : Nat) (j : Nat) (σ : L2.St) (H' : Hp) : Prop := ∃ o4, σ = [some (.ref a), some (.ref d), some (.int (i : Int)), some (.ref b), o4] ∧ Same H H' ∧ H d = none ∧ H' d = some (.dK (kvFrom (R.take i) 0 ++ kvRow (r.take j) i))
theorem ok_grown {f : Addr} {fd : FuncData} (F : Fun K "grown_rows" "grown_rows" s_grown_rows f fd) (T : Bl mg) : FnOk P w K mg base CX0 1 f fd ["second"] spGrown := by
  refine F.ok sc_grown_rows (fun vs H Q E h => ?_) (fun cdv A outer s H vs Q E hr h => ?_)
  · obtain ⟨a, as, R, rfl, _⟩ := h; rfl
  · obtain ⟨a, as, R, rfl, ha, hz, nd, hz2, q⟩ := h
    refine ⟨_, (pss_cons (ps_set (i := 1) sc_grown_rows.nd rfl (Or.inr rfl) pe_dnewK)
      (pss_cons (ps_for PassesOwn.never rfl (pi_enum (by rfl) T.enumerate (pa_cons (pv 0) pa_nil)) (pg_tup rfl (pgs_cons (pg_name (i := 2) sc_grown_rows.nd rfl (Or.inl rfl)) (pgs_cons (pg_name (i := 3) sc_grown_rows.nd rfl (Or.inl rfl)) pgs_nil))) (pss_one (ps_for PassesOwn.never rfl (pi_l (pv 3)) (pg_name (i := 4) sc_grown_rows.nd rfl (Or.inl rfl)) (pss_one (ps_dput (hu_of hr) (pv 1) (pv 4) (pv 2) rfl)))))
      (pss_one (ps_ret (pe_comp (cp := [1]) (M := ["count", "row_of"]) rfl ⟨rfl, rfl, rfl, rfl, rfl, rfl, rfl⟩ (by decide +kernel) (pi_l (pe_callB (f_sortedD rfl) (by rfl) T.sorted BI.sorted (pa_cons (pv 1) pa_nil))) (fun _ _ _ _ _ => pts_nil) (fun _ _ _ _ _ => (pe_dget (hu_of hr) (pv 1) (pv 0) (fun _ _ => rfl)))))))), ?_⟩
    have e0 : start ["second", "row_of", "at", "row", "count"] [V.ref a] = [some (.ref a), none, none, none, none] := rfl
    rw [e0, rd_seq, rd_asg]
    intro d hd
    have s0 := Same.upd_new (o := HO.dK []) hd
    rw [rd_name]
    dsimp only [List.set_cons_succ, List.set_cons_zero]
    rw [rd_seq]
    have la := RowsL.len ha.row
    refine for_enumF 0 a (as.map V.ref) (fun N h => by simp [onL_of (s0 _ _ ha.top)]; exact h) (GrIn H a d R) ⟨none, none, none, rfl, s0, hd, by rw [upd_same]; rfl⟩ ?_ ?_ ?_
    · rintro i σ H1 hi ⟨o2, o3, o4, rfl, s1, _, _⟩
      exact s1 _ _ ha.top
    · rintro i x σ H1 p ex ⟨o2, o3, o4, rfl, s1, _, hd1⟩ hp
      rw [List.getElem?_map] at ex
      cases ea : as[i]? with
      | none => rw [ea] at ex; cases ex
      | some b =>
        rw [ea] at ex
        have : x = .ref b := by simpa using ex.symm
        subst this
        obtain ⟨r, er, hb⟩ := RowsL.get' ha.row ea
        have hi : i < R.length := (List.getElem?_eq_some_iff.mp er).1
        have sp := Same.upd_new (o := HO.tup [V.int (0 + (i : Int)), V.ref b]) hp
        have hdp := sp _ _ hd1
        have s2 := s1.trans sp
        refine tup2 upd_same ?_
        generalize upd H1 p (HO.tup [V.int (0 + (i : Int)), V.ref b]) = H2 at *
        have tk := take_next er
        have nd3 : ((R.take i).flatten ++ r).Nodup := by
          have e : R.flatten = (R.take (i + 1)).flatten ++ (R.drop (i + 1)).flatten := by rw [← List.flatten_append, List.take_append_drop]
          rw [e, List.nodup_append] at nd
          have := nd.1
          rw [tk, List.flatten_append] at this
          simpa using this
        have ln3 : ((R.take i).flatten ++ r).length < 64 := by
          have e : R.flatten = (R.take (i + 1)).flatten ++ (R.drop (i + 1)).flatten := by rw [← List.flatten_append, List.take_append_drop]
          rw [e, List.length_append, tk, List.flatten_append, List.length_append, List.flatten_cons, List.flatten_nil, List.append_nil] at hz2
          rw [List.length_append]
          omega
        simp
        refine for_listF b (r.map V.int) (fun N h => by simp [onL_of (s2 _ _ hb)]; exact h) (GrJn H a d b R r i) ⟨o4, rfl, s2, hd, by rw [hdp]; simp [kvRow]⟩ ?_ ?_ ?_
        · rintro j σ H3 hj ⟨o, rfl, s3, _, _⟩
          exact s3 _ _ hb
        · rintro j y σ H3 ey ⟨o, rfl, s3, _, hd3⟩
          rw [List.getElem?_map] at ey
          cases ec : r[j]? with
          | none => rw [ec] at ey; cases ey
          | some c =>
            rw [ec] at ey
            have : y = .int c := by simpa using ey.symm
            subst this
            have tj := take_next ec
            have hn : Sum.inl c ∉ (kvFrom (R.take i) 0 ++ kvRow (r.take j) i).map (·.1) := fun z => by
              rw [List.map_append, kvFrom_keys] at z
              have e3 : (kvRow (r.take j) i).map (·.1) = (r.take j).map Sum.inl := by unfold kvRow; rw [List.map_map]; rfl
              rw [e3, ← List.map_append] at z
              obtain ⟨c', hc', z⟩ := List.mem_map.mp z
              injection z with z
              subst z
              have e4 : (R.take i).flatten ++ r = ((R.take i).flatten ++ r.take j) ++ r.drop j := by rw [List.append_assoc, List.take_append_drop]
              rw [e4, List.nodup_append] at nd3
              refine nd3.2.2 _ hc' _ ?_ rfl
              rw [List.drop_eq_getElem_cons (List.getElem?_eq_some_iff.mp ec).1, (List.getElem?_eq_some_iff.mp ec).2]
              exact List.mem_cons_self
            have lkv : (kvFrom (R.take i) 0 ++ kvRow (r.take j) i).length < 64 := by
              have e5 : (kvFrom (R.take i) 0).length = (R.take i).flatten.length := by have := congrArg List.length (kvFrom_keys (R.take i) 0); rw [List.length_map, List.length_map] at this; exact this
              rw [List.length_append, e5]
              unfold kvRow
              rw [List.length_map, List.length_take]
              rw [List.length_append] at ln3
              omega
            simp only [rd_name, List.set_cons_succ, List.set_cons_zero]
            show sDPut _ _ _ _ _ _
            unfold sDPut
            simp only [rd_var0, rd_var1, rd_var2, rd_var3, rd_var4, rd_onO]
            refine ⟨d, _, rfl, DPut.k (k := Sum.inl c) hd3 (line100 (by omega)), ?_⟩
            refine ⟨_, rfl, s3.upd_in hd, hd, ?_⟩
            rw [upd_same, putK_new _ (valV_none hn), tj]
            unfold kvRow
            simp
        · rintro σ H3 ⟨o, rfl, s3, _, hd3⟩
          refine ⟨_, _, _, rfl, s3, hd, ?_⟩
          rw [hd3, tk, kvFrom_snoc]
          congr 3
          rw [List.length_map, List.take_length, List.length_take]
          congr 1
          omega
    · rintro σ H1 ⟨o2, o3, o4, rfl, s1, _, hd1⟩
      rw [List.length_map, la, List.take_length] at hd1
      simp only [rd_ret]
      refine comp_new (o := .lst ((sortZ R.flatten).map V.int)) (fun R' h => ?_) (fun S hS => ?_)
      · simp
        exact ⟨_, hd1, R.flatten, kvFrom_keys R 0, hz2, by simpa using h⟩
      have sS := Same.upd_new (o := HO.lst ((sortZ R.flatten).map V.int)) hS
      refine comp_listP (a := S) (xs := (sortZ R.flatten).map V.int) (fun R h => by simpa using h) upd_same (fun _ => true) (fun v => match v with | .int c => .int ((rowIx R c : Nat) : Int) | _ => .non) (by rw [List.length_map, sortZ_len]; omega) (fun v hv H2 s2 R h => by simpa using h) (fun v hv _ H2 s2 R' h => ?_) (fun D hD => ?_)
      · obtain ⟨c, hc, rfl⟩ := List.mem_map.mp hv
        have hc' := (sortZ_perm _).mem_iff.mp hc
        simp [cst]
        unfold tDGet
        simp only [rd_var0, rd_var1, rd_onO]
        refine ⟨d, _, rfl, ?_, h⟩
        have := DGet.k (k := Sum.inl c) ((sS.trans s2) _ _ hd1)
        rw [valV_kv 0 hc', Nat.zero_add] at this
        exact this
      · refine q D _ ((s1.trans sS).trans (Same.upd_new hD)) ((s1.trans sS).free hD) ?_
        rw [upd_same, List.filter_eq_self.mpr (fun _ _ => rfl), List.map_map]
        unfold grownZ
        rw [List.map_map]; rfl
/-! ### does_count -/
abbrev s_does_count : Stmt := top 12
theorem sc_does_count : FnScope ["rows", "numbers"] ["rows"] (defScope s_does_count) := ⟨rfl, rfl, rfl, by decide +kernel, rfl, by decide +kernel, by decide +kernel⟩

def countB (R : List (List Int)) : Bool := decide (sortZ (readL R) = rngZ 1 (readL R).length)
def spCountB : Sp := fun vs H Q _ => ∃ (a : Addr) (as : List Addr) (R : List (List Int)), vs = [.ref a] ∧ RowsAt H a as R ∧ R.length ≤ 1000 ∧ R.flatten.length < 64 ∧ ∀ H', Same H H' → Q (.bl (countB R)) H'
theorem readL_len (R : List (List Int)) : (readL R).length = R.flatten.length := by
  unfold readL
  rw [List.length_flatten, List.length_flatten, List.map_reverse, List.sum_reverse]
theorem ok_does_count {f : Addr} {fd : FuncData} (F : Fun K "does_count" "does_count" s_does_count f fd) (T : Bl mg) (C_reading : Cal P w K mg base 1 "reading" ["rows"] spReading) : FnOk P w K mg base CX0 2 f fd ["rows"] spCountB := by
  refine F.ok sc_does_count (fun vs H Q E h => ?_) (fun cdv A outer s H vs Q E hr h => ?_)
  · obtain ⟨a, as, R, rfl, _⟩ := h; rfl
  · obtain ⟨a, as, R, rfl, ha, hz, hz2, q⟩ := h
    refine ⟨_, (pss_cons (ps_set (i := 1) sc_does_count.nd rfl (Or.inl rfl) (pe_cl C_reading (hr.mono (by decide)) (by rfl) (pa_cons (pv 0) pa_nil)))
      (pss_one (ps_ret (pe_cmpR (f_eqF (hu64 hr)) (pe_callB f_sorted (by rfl) T.sorted BI.sorted (pa_cons (pv 1) pa_nil)) (pe_listRng (by rfl) T.list (by rfl) T.range (pa_cons pe_int (pa_cons (pe_op f_add (pe_callB f_len (by rfl) T.len BI.len (pa_cons (pv 1) pa_nil)) pe_int) pa_nil)) rfl) (nomark _))))), ?_⟩
    have e0 : start ["rows", "numbers"] [V.ref a] = [some (.ref a), none] := rfl
    rw [e0]
    simp
    refine ⟨a, as, R, rfl, ha, by omega, by omega, fun r hr => Nat.le_trans (row_le (Nat.le_refl _) r hr) (by omega), fun r H1 s1 hr1 h1 => ?_⟩
    have lr := readL_len R
    simp [onL_of h1, onS_of h1]
    refine ⟨readL R, rfl, by omega, fun p hp => ?_⟩
    have s2 := Same.upd_new (o := HO.lst ((sortZ (readL R)).map V.int)) hp
    rw [onS_of (s2 _ _ h1)]
    simp
    refine ⟨by omega, by omega, fun p2 hp2 => ?_⟩
    have s3 := Same.upd_new (o := HO.lst ((rngZ 1 (readL R).length).map V.int)) hp2
    refine eqF_ints (s3 _ _ upd_same) upd_same ?_
    exact q _ ((s1.trans s2).trans s3)
/-! ### is_pair -/
abbrev s_is_pair : Stmt := top 23
theorem sc_is_pair : FnScope ["first", "second"] ["first", "second"] (defScope s_is_pair) := ⟨rfl, rfl, rfl, by decide +kernel, rfl, by decide +kernel, by decide +kernel⟩

def pairB (A B : List (List Int)) : Bool := stairsB A && stairsB B && decide (lenZ A = lenZ B) && countB B
def spPair : Sp := fun vs H Q _ => ∃ (a : Addr) (as : List Addr) (A : List (List Int)) (b : Addr) (bs : List Addr) (B : List (List Int)), vs = [.ref a, .ref b] ∧ RowsAt H a as A ∧ RowsAt H b bs B ∧ A.length < 64 ∧ B.length < 64 ∧ A.flatten.length < 64 ∧ B.flatten.length < 64 ∧ ∀ H', Same H H' → Q (.bl (pairB A B)) H'
theorem ok_pair {f : Addr} {fd : FuncData} (F : Fun K "is_pair" "is_pair" s_is_pair f fd) (T : Bl mg) (C_is_stairs : Cal P w K mg base 3 "is_stairs" ["rows"] spIsStairs) (C_shape : Cal P w K mg base 1 "shape" ["rows"] spShape) (C_does_count : Cal P w K mg base 2 "does_count" ["rows"] spCountB) : FnOk P w K mg base CX0 4 f fd ["first", "second"] spPair := by
  refine F.ok sc_is_pair (fun vs H Q E h => ?_) (fun cdv A outer s H vs Q E hr h => ?_)
  · obtain ⟨a, as, A, b, bs, B, rfl, _⟩ := h; rfl
  · obtain ⟨a, as, A, b, bs, B, rfl, ha, hb, z1, z2, z3, z4, q⟩ := h
    refine ⟨_, (pss_cons (ps_if (PW.pt (pw_or (pt_not (pt_val (pe_cl C_is_stairs (hr.mono (by decide)) (by rfl) (pa_cons (pv 0) pa_nil)))) (pw_or1 (pt_not (pt_val (pe_cl C_is_stairs (hr.mono (by decide)) (by rfl) (pa_cons (pv 1) pa_nil))))))) (pss_one (ps_ret pe_bl)) pss_nil)
      (pss_one (ps_ret (pe_and (pe_cmpR (f_eqF (hu64 hr)) (pe_cl C_shape (hr.mono (by decide)) (by rfl) (pa_cons (pv 0) pa_nil)) (pe_cl C_shape (hr.mono (by decide)) (by rfl) (pa_cons (pv 1) pa_nil)) (nomark _)) (pe_one (pe_cl C_does_count (hr.mono (by decide)) (by rfl) (pa_cons (pv 1) pa_nil))))))), ?_⟩
    have e0 : start ["first", "second"] [V.ref a, V.ref b] = [some (.ref a), some (.ref b)] := rfl
    rw [e0, rd_seq]
    have rA : ∀ r ∈ A, r.length < 64 := fun r hr => Nat.lt_of_le_of_lt (row_le (Nat.le_refl _) r hr) z3
    have rB : ∀ r ∈ B, r.length < 64 := fun r hr => Nat.lt_of_le_of_lt (row_le (Nat.le_refl _) r hr) z4
    refine ifS' (fun H1 => Same H H1) (!stairsB A || !stairsB B) (fun R h => ?_) ?_
    · simp
      refine ⟨a, as, A, rfl, ha, z1, by omega, rA, fun H1 s1 => ?_⟩
      show if _ then _ else _
      by_cases c1 : stairsB A = true
      · rw [c1] at h ⊢
        simp
        refine ⟨b, bs, B, rfl, hb.same s1, z2, by omega, rB, fun H2 s2 => ?_⟩
        simpa using h H2 (s1.trans s2)
      · have c1' : stairsB A = false := by simpa using c1
        rw [c1'] at h ⊢
        simpa using h H1 s1
    intro H1 s1
    unfold pairB at q
    by_cases c : (!stairsB A || !stairsB B) = true
    · rw [if_pos c]
      simp
      have := q H1 s1
      rw [show (stairsB A && stairsB B) = false by revert c; cases stairsB A <;> cases stairsB B <;> simp, Bool.false_and, Bool.false_and] at this
      exact this
    · rw [if_neg c, rd_next]
      dsimp only
      rw [show (stairsB A && stairsB B) = true by revert c; cases stairsB A <;> cases stairsB B <;> simp, Bool.true_and] at q
      simp
      refine ⟨a, as, A, rfl, ha.same s1, by omega, fun r H2 s2 hr2 h2 => ?_⟩
      refine ⟨b, bs, B, rfl, (hb.same s1).same s2, by omega, fun r' H3 s3 hr3 h3 => ?_⟩
      refine eqF_ints (s3 _ _ h2) h3 ?_
      have s13 := (s1.trans s2).trans s3
      show if _ then _ else _
      by_cases c2 : lenZ A = lenZ B
      · rw [if_pos (by simpa [lenZ] using c2)]
        rw [decide_eq_true c2, Bool.true_and] at q
        exact ⟨b, bs, B, rfl, hb.same s13, by omega, z4, fun H4 s4 => q H4 (s13.trans s4)⟩
      · rw [if_neg (by simpa [lenZ] using c2)]
        have := q H3 s13
        rw [decide_eq_false c2, Bool.false_and] at this
        simpa using this
/-! ### taken -/
abbrev s_taken : Stmt := top 22
theorem sc_taken : FnScope ["first", "second", "left", "numbers", "at", "out"] ["first", "second"] (defScope s_taken) := ⟨rfl, rfl, rfl, by decide +kernel, rfl, by decide +kernel, by decide +kernel⟩

theorem shape_told {R : List (List Int)} (h1 : Dec R) (h2 : ∀ r ∈ R, r ≠ []) : shapeB (lenZ R) = true := by
  unfold shapeB
  rw [Bool.and_eq_true, decide_eq_true_eq, List.all_eq_true]
  refine ⟨sortR_uniq (List.Perm.refl _) ?_, fun x hx => ?_⟩
  · unfold lenZ
    refine List.Pairwise.map _ (fun r s (h : s.length ≤ r.length) => ?_) h1
    show (r.length : Int) ≥ (s.length : Int)
    omega
  · unfold lenZ at hx
    obtain ⟨r, hr, rfl⟩ := List.mem_map.mp hx
    have := List.length_pos_iff.mpr (h2 r hr)
    simp; omega
theorem rows_le {R : List (List Int)} (h : ∀ r ∈ R, r ≠ []) : R.length ≤ R.flatten.length := by
  induction R with
  | nil => simp
  | cons r R ih =>
    have := ih fun s hs => h s (List.mem_cons_of_mem _ hs)
    have := List.length_pos_iff.mpr (h r List.mem_cons_self)
    rw [List.flatten_cons, List.length_append, List.length_cons]; omega
theorem stairs_told {R : List (List Int)} (h : Stairs R) (nd : R.flatten.Nodup) : stairsB R = true := by
  have rs : ∀ {r : List Int}, r.Pairwise (· < ·) → r = sortZ r := fun {r} hr => sortZ_uniq (List.Perm.refl _) (hr.imp fun {a b} h => Int.le_of_lt h)
  unfold stairsB
  rw [Bool.and_eq_true, Bool.and_eq_true, Bool.and_eq_true, decide_eq_true_eq, List.all_eq_true, List.all_eq_true]
  refine ⟨⟨⟨?_, nd⟩, fun r hr => by simpa using rs (h.rise r hr)⟩, fun r hr => ?_⟩
  · exact shape_told h.dec h.pos
  · unfold turnedP at hr
    obtain ⟨p, _, rfl⟩ := List.mem_map.mp hr
    simpa using rs (column_rise h p)
def spTaken : Sp := fun vs H Q _ => ∃ (a : Addr) (as : List Addr) (A : List (List Int)) (b : Addr) (bs : List Addr) (ps : List Nat), vs = [.ref a, .ref b] ∧ RowsAt H a as A ∧ RowsAt H b bs (growAll ps) ∧ Stairs A ∧ A.flatten.Nodup ∧ lensN A = lensN (growAll ps) ∧ Val ps ∧ ps.length < 64 ∧ ∀ r H', Same H H' → H' r = some (.lst ((takeAll A ps.reverse).reverse.map V.int)) → Q (.ref r) H'
theorem grown_val {ps : List Nat} (h : Val ps) : grownZ (growAll ps) = ps.map fun (x : Nat) => (x : Int) := by
  unfold grownZ
  have e : sortZ (growAll ps).flatten = (List.range ps.length).map fun (i : Nat) => (i : Int) + 1 := by
    symm
    refine sortZ_uniq (val_perm h).symm ?_
    refine List.Pairwise.map _ (fun a b (hab : a < b) => ?_) List.pairwise_lt_range
    show (a : Int) + 1 ≤ (b : Int) + 1
    omega
  rw [e, List.map_map]
  conv => rhs; rw [← val_rows h]
  rw [List.map_map]
  rfl
theorem count_val {ps : List Nat} (h : Val ps) : countB (growAll ps) = true := by
  unfold countB
  rw [decide_eq_true_eq]
  symm
  have e1 : (readL (growAll ps)).length = ps.length := by rw [readL_len, (val_perm h).length_eq]; simp
  have pm : (readL (growAll ps)).Perm (growAll ps).flatten := by unfold readL; exact (List.reverse_perm _).flatten
  have e2 : rngZ 1 (readL (growAll ps)).length = (List.range ps.length).map fun (i : Nat) => (i : Int) + 1 := by
    rw [e1]; unfold rngZ; apply List.map_congr_left; intro i _; omega
  rw [e2]
  refine sortZ_uniq ((val_perm h).symm.trans pm.symm) ?_
  refine List.Pairwise.map _ (fun a b (hab : a < b) => ?_) List.pairwise_lt_range
  show (a : Int) + 1 ≤ (b : Int) + 1
  omega
def TnIn (H : Hp) (a b S nu : Addr) (ss : List V) (A : List (List Int)) (rp : List Nat) (t : Nat) (σ : L2.St) (H' : Hp) : Prop := ∃ (c : Addr) (cs : List Addr) (o4 o5 : Option V), σ = [some (.ref a), some (.ref b), some (.ref c), some (.ref nu), o4, o5] ∧ Same H H' ∧ H nu = none ∧ RowsAt H' c cs (leftAt A rp t) ∧ nu ∉ c :: cs ∧ H' nu = some (.lst ((takeAll A (rp.take t)).map V.int)) ∧ H' S = some (.lst ss) ∧ nu ≠ S
theorem leftAt_zero (A : List (List Int)) (ps : List Nat) : leftAt A ps 0 = A := by cases ps <;> rfl
theorem takeAll_len : ∀ (ps : List Nat) (A : List (List Int)), (takeAll A ps).length = ps.length
  | [], _ => rfl
  | p :: ps, A => by simp [takeAll, takeAll_len ps]
end
end SR

namespace SR
open PySem L2 RS PySem.Spec PyProof.Rows
section
variable {P : Program} {w : World} {K : PySem.W.Frag} {mg : Str → Option Value} {base : Heap}
/-! ### stairs, told by is_stairs -/
theorem stairs_of : ∀ {A : List (List Int)}, (∀ r ∈ A, r ≠ []) → (∀ r ∈ A, Rise r) → (∀ q r s, A[q]? = some r → A[q + 1]? = some s → Below r s) → Stairs A
  | [], _, _, _ => .nil
  | [r], h1, h2, _ => .one (h1 r List.mem_cons_self) (h2 r List.mem_cons_self)
  | r :: s :: A, h1, h2, h3 => .cons (h1 r List.mem_cons_self) (h2 r List.mem_cons_self) (h3 0 r s rfl rfl)
      (stairs_of (fun x hx => h1 x (List.mem_cons_of_mem _ hx)) (fun x hx => h2 x (List.mem_cons_of_mem _ hx)) fun q x y hx hy => h3 (q + 1) x y hx hy)
theorem shape_dec {R : List (List Int)} (h : shapeB (lenZ R) = true) : Dec R ∧ ∀ r ∈ R, r ≠ [] := by
  unfold shapeB at h
  rw [Bool.and_eq_true, decide_eq_true_eq, List.all_eq_true] at h
  refine ⟨?_, fun r hr z => ?_⟩
  · have hp : (lenZ R).Pairwise (· ≥ ·) := by rw [h.1]; exact sortR_ge _
    unfold lenZ at hp
    exact (List.pairwise_map.mp hp).imp fun {a b} (hab : (a.length : Int) ≥ (b.length : Int)) => by omega
  · have := h.2 (r.length : Int) (by unfold lenZ; exact List.mem_map.mpr ⟨r, hr, rfl⟩)
    rw [z] at this
    simp at this
theorem rise_of_sorted {r : List Int} (h : r = sortZ r) (nd : r.Nodup) : Rise r := by
  have hp : r.Pairwise (· ≤ ·) := by rw [h]; exact sortZ_le r
  exact (List.pairwise_and_iff.mpr ⟨hp, nd⟩).imp fun {a b} (hab : a ≤ b ∧ a ≠ b) => by omega
theorem told_stairs {R : List (List Int)} (h : stairsB R = true) : Stairs R ∧ R.flatten.Nodup := by
  unfold stairsB at h
  rw [Bool.and_eq_true, Bool.and_eq_true, Bool.and_eq_true, decide_eq_true_eq, List.all_eq_true, List.all_eq_true] at h
  obtain ⟨⟨⟨h1, nd⟩, h2⟩, h3⟩ := h
  obtain ⟨dec, pos⟩ := shape_dec h1
  refine ⟨stairs_of pos (fun r hr => ?_) (fun q r s hr hs => ?_), nd⟩
  · exact rise_of_sorted (by simpa using h2 r hr) ((List.pairwise_flatten.mp nd).1 r hr)
  · have hq := (List.getElem?_eq_some_iff.mp hr).1
    have hq1 := (List.getElem?_eq_some_iff.mp hs).1
    have hle : s.length ≤ r.length := by
      have := List.pairwise_iff_getElem.mp dec q (q + 1) hq hq1 (by omega)
      rw [(List.getElem?_eq_some_iff.mp hr).2, (List.getElem?_eq_some_iff.mp hs).2] at this
      exact this
    refine ⟨hle, fun j x y hx hy => ?_⟩
    have hjs := (List.getElem?_eq_some_iff.mp hy).1
    have c1 : (column R j)[q]? = some x := by rw [dec.column_get, hr]; exact hx
    have c2 : (column R j)[q + 1]? = some y := by rw [dec.column_get, hs]; exact hy
    have hne : column R j ≠ [] := fun z => by rw [z] at c1; simp at c1
    have hjw := (dec.col_ne j).mp hne
    have hc := h3 (column R j) (by unfold turnedP; exact List.mem_map.mpr ⟨j, List.mem_range.mpr hjw, rfl⟩)
    have hs' : column R j = sortZ (column R j) := by simpa using hc
    have hp : (column R j).Pairwise (· ≤ ·) := by rw [hs']; exact sortZ_le _
    have l1 := (List.getElem?_eq_some_iff.mp c1).1
    have l2 := (List.getElem?_eq_some_iff.mp c2).1
    have le := List.pairwise_iff_getElem.mp hp q (q + 1) l1 l2 (by omega)
    rw [(List.getElem?_eq_some_iff.mp c1).2, (List.getElem?_eq_some_iff.mp c2).2] at le
    have ne : x ≠ y := fun z => by
      have dj := (List.pairwise_flatten.mp nd).2
      have := List.pairwise_iff_getElem.mp dj q (q + 1) hq hq1 (by omega)
      rw [(List.getElem?_eq_some_iff.mp hr).2, (List.getElem?_eq_some_iff.mp hs).2] at this
      exact this x (List.mem_of_getElem? hx) y (List.mem_of_getElem? hy) z
    omega
theorem count_of {R : List (List Int)} (h : countB R = true) : R.flatten.Perm ((List.range R.flatten.length).map fun (i : Nat) => (i : Int) + 1) := by
  unfold countB at h
  rw [decide_eq_true_eq] at h
  have pm : (readL R).Perm R.flatten := by unfold readL; exact (List.reverse_perm _).flatten
  have e2 : rngZ 1 (readL R).length = (List.range R.flatten.length).map fun (i : Nat) => (i : Int) + 1 := by
    rw [pm.length_eq]; unfold rngZ; apply List.map_congr_left; intro i _; omega
  rw [← e2, ← h]
  exact pm.symm.trans (sortZ_perm _).symm
theorem pair_grow {A B : List (List Int)} (h : pairB A B = true) : ∃ ps, Val ps ∧ B = growAll ps ∧ Stairs A ∧ A.flatten.Nodup ∧ lensN A = lensN (growAll ps) ∧ ps.length = B.flatten.length := by
  unfold pairB at h
  rw [Bool.and_eq_true, Bool.and_eq_true, Bool.and_eq_true, decide_eq_true_eq] at h
  obtain ⟨⟨⟨h1, h2⟩, h3⟩, h4⟩ := h
  obtain ⟨sA, nA⟩ := told_stairs h1
  obtain ⟨sB, nB⟩ := told_stairs h2
  obtain ⟨ps, hv, hl, e⟩ := counts_grow _ sB (count_of h4)
  refine ⟨ps, hv, e, sA, nA, ?_, hl⟩
  rw [← e]
  unfold lenZ at h3
  unfold lensN
  have := congrArg (List.map Int.toNat) h3
  rw [List.map_map, List.map_map] at this
  simpa [Function.comp_def] using this
/-! ### taken, that may raise -/
def spTakenX (NP : Addr) : Sp := fun vs H Q E => ∃ (a : Addr) (as : List Addr) (A : List (List Int)) (b : Addr) (bs : List Addr) (B : List (List Int)), vs = [.ref a, .ref b] ∧ RowsAt H a as A ∧ RowsAt H b bs B ∧ A.length < 64 ∧ B.length < 64 ∧ A.flatten.length < 64 ∧ B.flatten.length < 64 ∧
  (∀ H', pairB A B = false → Same H H' → E (.ref NP) none H') ∧ (∀ r H', pairB A B = true → Same H H' → Q (.ref r) H')
theorem ok_takenX {f : Addr} {fd : FuncData} {NP : Addr} (F : Fun K "taken" "taken" s_taken f fd) (T : Bl mg) (O_NoPair : Own K mg "NoPair" NP) (C_is_pair : Cal P w K mg base 4 "is_pair" ["first", "second"] spPair) (C_grown_rows : Cal P w K mg base 1 "grown_rows" ["second"] spGrown) (C_take_out : Cal P w K mg base 2 "take_out" ["rows", "at"] spTakeOut) : FnOk P w K mg base (CXx P w) 5 f fd ["first", "second"] (spTakenX NP) := by
  refine F.okX sc_taken (fun vs H Q E h => ?_) (fun cdv A outer s H vs Q E hr h => ?_)
  · obtain ⟨a, as, A, b, bs, ps, rfl, _⟩ := h; rfl
  · obtain ⟨a, as, A, b, bs, B, rfl, ha, hb, z1, z2, z3, z4, qe, q0⟩ := h
    refine ⟨_, (pss_cons (ps_if (pt_not (pt_val (pe_cl C_is_pair (hr.mono (by decide)) (by rfl) (pa_cons (pv 0) (pa_cons (pv 1) pa_nil))))) (pss_one (ps_raise (by rfl) O_NoPair.mg O_NoPair.exc hr.hd)) pss_nil)
      (PSs.nox (pss_cons (ps_set (i := 2) sc_taken.nd rfl (Or.inl rfl) (pv 0))
      (pss_cons (ps_set (i := 3) sc_taken.nd rfl (Or.inl rfl) (pe_lst pa_nil))
      (pss_cons (ps_for PassesOwn.never rfl (pi_rev (by rfl) T.reversed (pa_cons (pe_cl C_grown_rows (hr.mono (by decide)) (by rfl) (pa_cons (pv 1) pa_nil)) pa_nil)) (pg_name (i := 4) sc_taken.nd rfl (Or.inl rfl)) (pss_cons (ps_set (i := 5) sc_taken.nd rfl (Or.inl rfl) (pe_cl C_take_out (hr.mono (by decide)) (by rfl) (pa_cons (pv 2) (pa_cons (pv 4) pa_nil))))
      (pss_cons (ps_set (i := 2) sc_taken.nd rfl (Or.inl rfl) (pe_ix f_ix (pv 5) pe_int (fun _ _ => rfl)))
      (pss_one (ps_expr (pe_ml PySem.F.slot_list_append PySem.F.type_list_append f_append (pv 3) (pa_cons (pe_ix f_ix (pv 5) pe_int (fun _ _ => rfl)) pa_nil)))))))
      (pss_one (ps_ret (pe_listRev (by rfl) T.list (by rfl) T.reversed (pa_cons (pv 3) pa_nil) rfl)))))))), ?_⟩
    have e0 : start ["first", "second", "left", "numbers", "at", "out"] [V.ref a, V.ref b] = [some (.ref a), some (.ref b), none, none, none, none] := rfl
    rw [e0, rd_seq]
    cases hpp : pairB A B with
    | false =>
      refine ifS' (fun H1 => Same H H1) true (fun R h => ?_) ?_
      · simp
        refine ⟨a, as, A, b, bs, B, rfl, ha, hb, z1, z2, z3, z4, fun H1 s1 => ?_⟩
        rw [hpp]
        simpa using h H1 s1
      intro H1 s1
      rw [if_pos rfl]
      exact qe H1 hpp s1
    | true =>
    obtain ⟨ps, hv, rfl, hS, nd, hl, hz'⟩ := pair_grow hpp
    have hz : ps.length < 64 := by omega
    have q : ∀ r H', Same H H' → H' r = some (.lst ((takeAll A ps.reverse).reverse.map V.int)) → Q (.ref r) H' := fun r H' s _ => q0 r H' hpp s
    have hSQ := val_stairs hv
    have ndQ := val_nodup hv
    have fl : A.flatten.length = (growAll ps).flatten.length := by rw [List.length_flatten, List.length_flatten]; unfold lensN at hl; rw [hl]
    have fq : (growAll ps).flatten.length = ps.length := by rw [(val_perm hv).length_eq]; simp
    have lA : A.length ≤ A.flatten.length := rows_le hS.pos
    have lQ : (growAll ps).length ≤ (growAll ps).flatten.length := rows_le hSQ.pos
    have rA : ∀ r ∈ A, r.length ≤ 63 := fun r hr => row_le (B := 63) (by omega) r hr
    have hp : pairB A (growAll ps) = true := by
      unfold pairB
      rw [stairs_told hS nd, stairs_told hSQ ndQ, count_val hv]
      simp
      unfold lenZ
      unfold lensN at hl
      have := congrArg (List.map fun (x : Nat) => (x : Int)) hl
      rw [List.map_map, List.map_map] at this
      exact this
    refine ifS' (fun H1 => Same H H1) false (fun R h => ?_) ?_
    · simp
      refine ⟨a, as, A, b, bs, _, rfl, ha, hb, by omega, by omega, by omega, by omega, fun H1 s1 => ?_⟩
      rw [hp]
      simpa using h H1 s1
    intro H1 s1
    rw [if_neg (by simp), rd_next]
    dsimp only
    rw [rd_seq, rd_asg, rd_var0, rd_onO, rd_name]
    dsimp only [List.set_cons_succ, List.set_cons_zero]
    rw [rd_seq, rd_asg, rd_lst, rd_nil]
    refine ⟨line3 (by decide), fun nu hnu => ?_⟩
    have s2 := Same.upd_new (o := HO.lst []) hnu
    have hn2 : upd H1 nu (HO.lst []) nu = some (HO.lst []) := upd_same
    rw [rd_name]
    dsimp only [List.set_cons_succ, List.set_cons_zero]
    have s02 := s1.trans s2
    generalize upd H1 nu (HO.lst []) = H2 at *
    rw [rd_seq]
    have nuH := s1.free hnu
    have eG := grown_val hv
    refine for_evJ (J := fun S => Itv K S ps.length) (fun S H3 => H3 S = some (.lst ((ps.map fun (x : Nat) => (x : Int)).map V.int)) ∧ H2 S = none ∧ Same H2 H3) (fun N h => ?_) ?_
    · simp
      refine ⟨b, bs, _, rfl, hb.same s02, by omega, ndQ, by omega, fun r H3 s3 hr3 h3 => ?_⟩
      rw [eG] at h3
      show onL _ _ _
      rw [onL_of h3]
      have := h r H3 ⟨h3, hr3, s3⟩
      rw [show (List.map V.int (List.map (fun (x : Nat) => (x : Int)) ps)).length = ps.length by simp]
      exact this
    rintro S H3 ⟨hSl, hS2, s3⟩
    have nuS : nu ≠ S := fun z => by rw [← z, hn2] at hS2; cases hS2
    have hlen : ((ps.map fun (x : Nat) => (x : Int)).map V.int).length = ps.length := by simp
    have s03 := s02.trans s3
    refine for_revF S ((ps.map fun (x : Nat) => (x : Int)).map V.int) (fun N h => by rw [hlen] at h; exact h) (TnIn H a b S nu ((ps.map fun (x : Nat) => (x : Int)).map V.int) A ps.reverse) ⟨a, as, none, none, rfl, s03, nuH, by rw [leftAt_zero]; exact ha.same s03, (ha.same s1).notin hnu, by rw [s3 _ _ hn2]; rfl, hSl, nuS⟩ ?_ ?_ ?_
    · rintro t σ H4 ht ⟨c, cs, o4, o5, rfl, s4, _, _, _, _, h, _⟩
      exact h
    · rintro t x σ H4 ex ⟨c, cs, o4, o5, rfl, s4, _, hc, nc, hnu4, hS4, _⟩
      have ex2 : ((ps.reverse.map fun (x : Nat) => (x : Int)).map V.int)[t]? = some x := by
        rw [List.map_reverse, List.map_reverse]; exact ex
      rw [List.getElem?_map, List.getElem?_map] at ex2
      cases ep : ps.reverse[t]? with
      | none => rw [ep] at ex2; cases ex2
      | some p =>
        rw [ep] at ex2
        have : x = .int (p : Int) := by simpa using ex2.symm
        subst this
        obtain ⟨k1, k2, k3, k4, k5⟩ := left_ok hv hS nd hl ep
        obtain ⟨g1, g2⟩ := left_step (A := A) ep
        have k6 := k5 63 rA
        have ht : t < ps.length := by have := (List.getElem?_eq_some_iff.mp ep).1; simpa using this
        have lt' : (takeAll A (ps.reverse.take t)).length = t := by rw [takeAll_len, List.length_take, List.length_reverse]; omega
        simp only [rd_name, List.set_cons_succ, List.set_cons_zero]
        rw [rd_seq, rd_asg, rd_cl]
        simp only [rd_var0, rd_var1, rd_var2, rd_var3, rd_var4, rd_cons, rd_nil, rd_onO]
        refine ⟨c, cs, _, p, rfl, hc, by omega, fun r hr => by have := k6 r hr; omega, k1, k2, k3, fun u d ds H5 s5 hu hu5 hd frd => ?_⟩
        have a0 : atI [V.ref d, V.int (takeP (leftAt A ps.reverse t) p).2] 0 = some (.ref d) := atI_nat (j := 0) rfl
        have a1 : atI [V.ref d, V.int (takeP (leftAt A ps.reverse t) p).2] 1 = some (.int (takeP (leftAt A ps.reverse t) p).2) := atI_nat (j := 1) rfl
        have hnu5 := s5 _ _ hnu4
        simp [onS_ofT hu5, a0, a1, onL_of hnu5]
        refine ⟨line3 (by omega), ?_⟩
        have nud : nu ∉ d :: ds := fun z => by
          have := frd.no nu z
          rw [hnu4] at this; cases this
        refine ⟨d, ds, _, _, rfl, (s4.trans s5).upd_in nuH, nuH, ?_, nud, ?_, ?_, nuS⟩
        · rw [g1]; exact hd.out nud
        · rw [upd_same, g2]; simp
        · rw [upd_ne nuS.symm]; simpa using s5 _ _ hS4
    · rintro σ H4 ⟨c, cs, o4, o5, rfl, s4, _, hc, nc, hnu4, hS4, _⟩
      rw [hlen, List.take_of_length_le (by simp)] at hnu4
      simp [onL_of hnu4]
      intro r hr
      refine q r _ (s4.trans (Same.upd_new hr)) ?_
      rw [upd_same, List.map_reverse]
end
end SR

namespace SR
open PySem L2 RS PySem.Spec PyProof.Rows
section
variable {P : Program} {w : World} {K : PySem.W.Frag} {mg : Str → Option Value} {base : Heap}
theorem isiY_ref {K : PySem.W.Frag} {e C D : Addr} {b : Bool} {H : Hp} {Q : VK} (h : PySem.W.kitOne K (.ref C) (.ref D) = some b) (q : Q (.bl b) H) : rIsiY K e C [.ref e, .ref D] H Q := ⟨rfl, b, h, q⟩
theorem isiY_ty {K : PySem.W.Frag} {e C : Addr} {T : String} {b : Bool} {H : Hp} {Q : VK} (h : PySem.W.kitOne K (.ref C) (.type T) = some b) (q : Q (.bl b) H) : rIsiY K e C [.ref e, .ty T] H Q := ⟨rfl, b, h, q⟩
/-! ### _law_marks -/
def marksB (b : Bool) : List Bool := if b then [] else [true, true, false, false, false, false]
abbrev s_law_marks : Stmt := top 37
theorem sc_law_marks : FnScope ["first", "second", "e", "found"] ["first", "second"] (defScope s_law_marks) := ⟨rfl, rfl, rfl, by decide +kernel, rfl, by decide +kernel, by decide +kernel⟩

def spMarks : Sp := fun vs H Q _ => ∃ (a : Addr) (as : List Addr) (A : List (List Int)) (b : Addr) (bs : List Addr) (B : List (List Int)), vs = [.ref a, .ref b] ∧ RowsAt H a as A ∧ RowsAt H b bs B ∧ A.length < 64 ∧ B.length < 64 ∧ A.flatten.length < 64 ∧ B.flatten.length < 64 ∧
  ∀ m H', Same H H' → H' m = some (.lst ((marksB (pairB A B)).map V.bl)) → Q (.ref m) H'
theorem ok_marks {f : Addr} {fd : FuncData} {NH SE NS NP NL NN : Addr} (F : Fun K "_law_marks" "_law_marks" s_law_marks f fd) (T : Bl mg) (O_NoShape : Own K mg "NoShape" NH) (O_StairError : Own K mg "StairError" SE) (O_NoStairs : Own K mg "NoStairs" NS) (O_NoPair : Own K mg "NoPair" NP) (O_NoPlace : Own K mg "NoPlace" NL) (O_NoNote : Own K mg "NoNote" NN)
    (ek : ExK K NP) (hNS : hasIn K NP (.ref SE) = true) (hV : PySem.W.kitOne K (.ref NP) (.type "ValueError") = some true) (h1 : PySem.W.kitOne K (.ref NP) (.ref NS) = some false) (h2 : PySem.W.kitOne K (.ref NP) (.ref NL) = some false) (h3 : PySem.W.kitOne K (.ref NP) (.ref NH) = some false) (h4 : PySem.W.kitOne K (.ref NP) (.ref NN) = some false) (VE : BtT mg "ValueError" "ValueError")
    (C_taken : CalX P w K mg base 5 "taken" ["first", "second"] (spTakenX NP)) : FnOk P w K mg base CX0 6 f fd ["first", "second"] spMarks := by
  refine F.ok sc_law_marks (fun vs H Q E h => ?_) (fun cdv A outer s H vs Q E hr h => ?_)
  · obtain ⟨a, as, A, b, bs, B, rfl, _⟩ := h; rfl
  · obtain ⟨a, as, A, b, bs, B, rfl, ha, hb, z1, z2, z3, z4, q⟩ := h
    have ek0 := ek
    clear ek
    refine ⟨_, (pss_cons (ps_try rfl rfl (fun _ _ z => z) sc_law_marks.nd (ie := 2) rfl rfl (px_expr (fun _ _ z => z) C_taken (hr.mono (by decide)) (by rfl) (pa_cons (pv 0) (pa_cons (pv 1) pa_nil))) O_StairError (by rfl) (fun e oe C hc ek => (pss_cons (ps_set (i := 3) sc_law_marks.nd rfl (Or.inl rfl) (pe_lst (pa_cons (pe_callB (f_isiY hc ek) (by rfl) T.isinstance BI.isinstance (pa_cons (pv 2) (pa_cons (pe_glob (v := .ref _) (by rfl) O_NoPair.mg rfl) pa_nil))) (pa_cons (pe_callB (f_isiY hc ek) (by rfl) T.isinstance BI.isinstance (pa_cons (pv 2) (pa_cons (pe_ty (by rfl) VE) pa_nil))) (pa_cons (pe_callB (f_isiY hc ek) (by rfl) T.isinstance BI.isinstance (pa_cons (pv 2) (pa_cons (pe_glob (v := .ref _) (by rfl) O_NoStairs.mg rfl) pa_nil))) (pa_cons (pe_callB (f_isiY hc ek) (by rfl) T.isinstance BI.isinstance (pa_cons (pv 2) (pa_cons (pe_glob (v := .ref _) (by rfl) O_NoPlace.mg rfl) pa_nil))) pa_nil))))))
      (pss_one (ps_ret (pe_op f_add (pv 3) (pe_lst (pa_cons (pe_callB (f_isiY hc ek) (by rfl) T.isinstance BI.isinstance (pa_cons (pv 2) (pa_cons (pe_glob (v := .ref _) (by rfl) O_NoShape.mg rfl) pa_nil))) (pa_cons (pe_callB (f_isiY hc ek) (by rfl) T.isinstance BI.isinstance (pa_cons (pv 2) (pa_cons (pe_glob (v := .ref _) (by rfl) O_NoNote.mg rfl) pa_nil))) pa_nil)))))))))
      (pss_one (ps_ret (pe_lst pa_nil)))), ?_⟩
    have e0 : start ["first", "second", "e", "found"] [V.ref a, V.ref b] = [some (.ref a), some (.ref b), none, none] := rfl
    rw [e0, rd_seq]
    unfold tTry xDrop
    simp only [rd_cons, rd_nil, rd_var0, rd_var1, rd_onO]
    refine ⟨a, as, A, b, bs, B, rfl, ha, hb, z1, z2, z3, z4, fun H1 hp s1 => ⟨NP, rfl, O_NoPair.exc, hNS, ek0, fun e he => ?_⟩, fun r H1 hp s1 => ?_⟩
    · rw [hp] at q
      have k1 : PySem.W.kitOne K (.ref NP) (.ref NP) = some true := by unfold PySem.W.kitOne; simp
      dsimp only [List.set_cons_succ, List.set_cons_zero]
      simp
      refine isiY_ref k1 (isiY_ty hV (isiY_ref h1 (isiY_ref h2 ⟨line3 (by decide), fun p hp => ?_⟩)))
      refine isiY_ref h3 (isiY_ref h4 ⟨line3 (by decide), fun p1 hp1 => ?_⟩)
      have s2 := Same.upd_new (o := HO.lst [V.bl true, V.bl true, V.bl false, V.bl false]) hp
      have s3 := Same.upd_new (o := HO.lst [V.bl false, V.bl false]) hp1
      simp [onL_of (s3 _ _ upd_same), onL_of upd_same]
      refine ⟨line3 (by decide), fun p2 hp2 => ?_⟩
      have s4 := Same.upd_new (o := HO.lst ([V.bl true, V.bl true, V.bl false, V.bl false] ++ [V.bl false, V.bl false])) hp2
      exact q p2 _ (((s1.trans s2).trans s3).trans s4) upd_same
    · rw [hp] at q
      simp
      intro p hp
      exact q p _ (s1.trans (Same.upd_new hp)) upd_same
end
end SR

namespace SR
open PySem L2 RS PySem.Spec PyProof.Rows
section
variable {P : Program} {w : World} {K : PySem.W.Frag} {mg : Str → Option Value} {base : Heap}
/-! ### _law_stairs -/
theorem stairs_below : ∀ {A : List (List Int)}, Stairs A → ∀ {q : Nat} {r s : List Int}, A[q]? = some r → A[q + 1]? = some s → Below r s
  | _, .nil, _, _, _, h, _ => by simp at h
  | _, .one _ _, q, _, _, _, h => by simp at h
  | _, .cons _ _ hB _, 0, _, _, h1, h2 => by simp at h1 h2; subst h1 h2; exact hB
  | _, .cons _ _ _ hT, q + 1, _, _, h1, h2 => stairs_below hT (q := q) (by simpa using h1) (by simpa using h2)
theorem stairs_snoc {R : List (List Int)} {i : Nat} {s : List Int} (h : Stairs (R.take i)) (e : R[i]? = some s) (h1 : s ≠ []) (h2 : Rise s) (h3 : ∀ r, 0 < i → R[i - 1]? = some r → Below r s) : Stairs (R.take (i + 1)) := by
  have hi := (List.getElem?_eq_some_iff.mp e).1
  have tn := take_next e
  refine stairs_of (fun r hr => ?_) (fun r hr => ?_) (fun q r t hr ht => ?_)
  · rw [tn] at hr
    rcases List.mem_append.mp hr with z | z
    · exact h.pos r z
    · rw [List.mem_singleton.mp z]; exact h1
  · rw [tn] at hr
    rcases List.mem_append.mp hr with z | z
    · exact h.rise r z
    · rw [List.mem_singleton.mp z]; exact h2
  · have hq : q + 1 < i + 1 := by have := (List.getElem?_eq_some_iff.mp ht).1; rw [List.length_take] at this; omega
    rw [List.getElem?_take_of_lt (by omega)] at hr ht
    by_cases c : q + 1 = i
    · subst c
      rw [e] at ht
      cases ht
      exact h3 r (by omega) (by simpa using hr)
    · have a1 : (R.take i)[q]? = some r := by rw [List.getElem?_take_of_lt (by omega)]; exact hr
      have a2 : (R.take i)[q + 1]? = some t := by rw [List.getElem?_take_of_lt (by omega)]; exact ht
      exact stairs_below h a1 a2
theorem not_stairs {R : List (List Int)} (h : ¬ Stairs R) : stairsB R = false := by
  cases e : stairsB R with
  | false => rfl
  | true => exact absurd (told_stairs e).1 h
theorem stairs_nodup {R : List (List Int)} (h : Stairs R) : stairsB R = decide R.flatten.Nodup := by
  by_cases nd : R.flatten.Nodup
  · rw [stairs_told h nd, decide_eq_true nd]
  · rw [decide_eq_false nd]
    cases e : stairsB R with
    | false => rfl
    | true => exact absurd (told_stairs e).2 nd
abbrev s_law_stairs : Stmt := top 34
theorem sc_law_stairs : FnScope ["rows", "numbers", "at", "row", "j"] ["rows"] (defScope s_law_stairs) := ⟨rfl, rfl, rfl, by decide +kernel, rfl, by decide +kernel, by decide +kernel⟩

def spLSt : Sp := fun vs H Q _ => ∃ (a : Addr) (as : List Addr) (R : List (List Int)), vs = [.ref a] ∧ RowsAt H a as R ∧ R.length < 64 ∧ R.flatten.length < 64 ∧ ∀ H', Same H H' → Q (.bl (stairsB R)) H'
def LsIn (H : Hp) (a : Addr) (R : List (List Int)) (i : Nat) (σ : L2.St) (H' : Hp) : Prop := ∃ (nu : Addr) (o2 o3 o4 : Option V), σ = [some (.ref a), some (.ref nu), o2, o3, o4] ∧ Same H H' ∧ H' nu = some (.lst ((R.take i).flatten.map V.int)) ∧ Stairs (R.take i)
def badJ (s p : List Int) (i j : Nat) : Bool := (decide (0 < j) && decide (s.getD j 0 ≤ s.getD (j - 1) 0)) || (decide (0 < i) && decide (s.getD j 0 ≤ p.getD j 0))
theorem int_at {xs : List Int} {j : Nat} (hj : j < xs.length) : atI (xs.map V.int) (j : Int) = some (.int (xs.getD j 0)) := by
  refine atI_nat (j := j) ?_
  rw [List.getElem?_map, List.getElem?_eq_getElem hj, List.getD_eq_getElem?_getD, List.getElem?_eq_getElem hj]; rfl
theorem getD_some {xs : List Int} {j : Nat} {x : Int} (h : xs[j]? = some x) : xs.getD j 0 = x := by rw [List.getD_eq_getElem?_getD, h]; rfl
theorem rise_next {s : List Int} (h : ∀ j, j + 1 < s.length → s.getD j 0 < s.getD (j + 1) 0) (k : Nat) : ∀ l, k < l → l < s.length → s.getD k 0 < s.getD l 0
  | 0, hk, _ => absurd hk (by omega)
  | l + 1, hk, hl => by
    have h1 := h l hl
    by_cases c : k = l
    · rw [c]; exact h1
    · have := rise_next h k l (by omega) (by omega)
      omega
theorem ok_lst {f : Addr} {fd : FuncData} (F : Fun K "_law_stairs" "_law_stairs" s_law_stairs f fd) (T : Bl mg) : FnOk P w K mg base CX0 1 f fd ["rows"] spLSt := by
  refine F.ok sc_law_stairs (fun vs H Q E h => ?_) (fun cdv A outer s H vs Q E hr h => ?_)
  · obtain ⟨a, as, R, rfl, _⟩ := h; rfl
  · obtain ⟨a, as, R, rfl, ha, hz, hz2, q⟩ := h
    refine ⟨_, (pss_cons (ps_set (i := 1) sc_law_stairs.nd rfl (Or.inl rfl) (pe_lst pa_nil))
      (pss_cons (ps_for PassesOwn.never rfl (pi_range1 (by rfl) T.range (pa_cons (pe_callB f_len (by rfl) T.len BI.len (pa_cons (pv 0) pa_nil)) pa_nil)) (pg_name (i := 2) sc_law_stairs.nd rfl (Or.inl rfl)) (pss_cons (ps_set (i := 3) sc_law_stairs.nd rfl (Or.inl rfl) (pe_ix f_ix (pv 0) (pv 2) (fun _ _ => rfl)))
      (pss_cons (ps_if (PW.pt (pw_or (pt_cmpR (f_eqF (hu64 hr)) (pe_callB f_len (by rfl) T.len BI.len (pa_cons (pv 3) pa_nil)) pe_int (nomark _)) (pw_or1 (PW.pt (pw_and (pt_cmpR f_gt (pv 2) pe_int (nomark _)) (pw_and1 (pt_cmpR f_lt (pe_callB f_len (by rfl) T.len BI.len (pa_cons (pe_ix f_ix (pv 0) (pe_op f_sub (pv 2) pe_int) (fun _ _ => rfl)) pa_nil)) (pe_callB f_len (by rfl) T.len BI.len (pa_cons (pv 3) pa_nil)) (nomark _)))))))) (pss_one (ps_ret pe_bl)) pss_nil)
      (pss_cons (ps_for PassesOwn.never rfl (pi_range1 (by rfl) T.range (pa_cons (pe_callB f_len (by rfl) T.len BI.len (pa_cons (pv 3) pa_nil)) pa_nil)) (pg_name (i := 4) sc_law_stairs.nd rfl (Or.inl rfl)) (pss_one (ps_if (PW.pt (pw_or (PW.pt (pw_and (pt_cmpR f_gt (pv 4) pe_int (nomark _)) (pw_and1 (pt_cmpR f_ge (pe_ix f_ix (pv 3) (pe_op f_sub (pv 4) pe_int) (fun _ _ => rfl)) (pe_ix f_ix (pv 3) (pv 4) (fun _ _ => rfl)) (nomark _))))) (pw_or1 (PW.pt (pw_and (pt_cmpR f_gt (pv 2) pe_int (nomark _)) (pw_and1 (pt_cmpR f_ge (pe_ix f_ix (pe_ix f_ix (pv 0) (pe_op f_sub (pv 2) pe_int) (fun _ _ => rfl)) (pv 4) (fun _ _ => rfl)) (pe_ix f_ix (pv 3) (pv 4) (fun _ _ => rfl)) (nomark _)))))))) (pss_one (ps_ret pe_bl)) pss_nil)))
      (pss_one (ps_set (i := 1) sc_law_stairs.nd rfl (Or.inl rfl) (pe_op f_add (pv 1) (pv 3))))))))
      (pss_one (ps_ret (pe_cmpR (f_eqF (hu64 hr)) (pe_lenSet (by rfl) T.len (by rfl) T.set (pa_cons (pv 1) pa_nil) rfl) (pe_callB f_len (by rfl) T.len BI.len (pa_cons (pv 1) pa_nil)) (nomark _)))))), ?_⟩
    have e0 : start ["rows", "numbers", "at", "row", "j"] [V.ref a] = [some (.ref a), none, none, none, none] := rfl
    rw [e0]
    have la := RowsL.len ha.row
    simp
    intro nu hnu
    have s0 := Same.upd_new (o := HO.lst []) hnu
    refine for_rangeF R.length (fun N h => ?_) (LsIn H a R) ⟨nu, none, none, none, rfl, s0, by rw [upd_same]; rfl, by rw [List.take_zero]; exact .nil⟩ ?_ ?_
    · simp [onS_of (s0 _ _ ha.top), la]
      exact ⟨by omega, h⟩
    · rintro i σ H1 hi ⟨nu, o2, o3, o4, rfl, s1, hn1, st⟩
      have eR : R[i]? = some R[i] := List.getElem?_eq_getElem hi
      generalize R[i] = s at eR
      obtain ⟨p, ep, hp0⟩ := RowsL.get ha.row eR
      have hp := s1 _ _ hp0
      have ha1 := s1 _ _ ha.top
      have ls : s.length < 64 := by
        have := row_le (B := 63) (by omega) s (List.mem_of_getElem? eR)
        omega
      rw [rd_name]
      dsimp only [List.set_cons_succ, List.set_cons_zero]
      have no : ¬ Stairs R → Q (.bl false) H1 := fun z => by
        have := q H1 s1
        rw [not_stairs z] at this
        exact this
      -- the row above
      obtain ⟨pr, pp, epr⟩ : ∃ (pr : List Int) (pp : Addr), 0 < i → R[i - 1]? = some pr ∧ atI (as.map V.ref) ((i : Int) - 1) = some (.ref pp) ∧ H1 pp = some (.lst (pr.map V.int)) := by
        by_cases h0 : 0 < i
        · have e1 : R[i - 1]? = some R[i - 1] := List.getElem?_eq_getElem (by omega)
          obtain ⟨pp, e2, e3⟩ := RowsL.get ha.row e1
          have e4 := atI_ref e2
          rw [show ((i - 1 : Nat) : Int) = (i : Int) - 1 by omega] at e4
          exact ⟨_, pp, fun _ => ⟨e1, e4, s1 _ _ e3⟩⟩
        · exact ⟨[], 0, fun z => absurd z h0⟩
      rw [rd_seq, rd_asg]
      simp only [rd_var0, rd_var1, rd_var2, rd_op, rd_onO, rd_ix, onS_of ha1, atI_ref ep, rd_onI, rd_name, List.set_cons_succ, List.set_cons_zero]
      rw [rd_seq]
      refine ifS (decide (s = []) || (decide (0 < i) && decide (pr.length < s.length))) H1 (fun R' h => ?_) ?_
      · by_cases hs : s = []
        · subst hs
          simp [onS_of hp]
          simpa using h
        · have hs0 : ¬ (s.length = 0) := fun z => hs (List.length_eq_zero_iff.mp z)
          by_cases h0 : 0 < i
          · obtain ⟨_, e4, e5⟩ := epr h0
            simp only [rd_or, rd_and, rd_test, rd_op, rd_cb, rd_cons, rd_nil, rd_var0, rd_var1, rd_var2, rd_var3, rd_onO, rd_c]
            simp [onS_of hp, hs, h0, onS_of ha1, e4, onS_of e5]
            simpa [hs, h0] using h
          · simp only [rd_or, rd_and, rd_test, rd_op, rd_cb, rd_cons, rd_nil, rd_var0, rd_var1, rd_var2, rd_var3, rd_onO, rd_c]
            simp [onS_of hp, hs, h0]
            simpa [hs, h0] using h
      by_cases c1 : (decide (s = []) || (decide (0 < i) && decide (pr.length < s.length))) = true
      · rw [if_pos c1]
        refine no fun st => ?_
        rw [Bool.or_eq_true, Bool.and_eq_true, decide_eq_true_eq, decide_eq_true_eq, decide_eq_true_eq] at c1
        rcases c1 with z | ⟨z1, z2⟩
        · exact st.pos s (List.mem_of_getElem? eR) z
        · have e6 : R[i - 1 + 1]? = some s := by rw [show i - 1 + 1 = i by omega]; exact eR
          have := (stairs_below st (epr z1).1 e6).1
          omega
      · rw [if_neg c1, rd_next]
        dsimp only
        rw [Bool.or_eq_true, Bool.and_eq_true, decide_eq_true_eq, decide_eq_true_eq, decide_eq_true_eq, not_or] at c1
        obtain ⟨hs, hlen⟩ := c1
        rw [rd_seq]
        refine for_rangeF s.length (fun N h => ?_) (fun j σ H2 => ∃ o4 : Option V, σ = [some (.ref a), some (.ref nu), some (.int (i : Int)), some (.ref p), o4] ∧ H2 = H1 ∧ ∀ k, k < j → badJ s pr i k = false) ⟨o4, rfl, rfl, fun k hk => by omega⟩ ?_ ?_
        · simp [onS_of hp]
          exact ⟨by omega, h⟩
        · rintro j σ H2 hj ⟨o5, rfl, rfl, hb⟩
          rw [rd_name]
          dsimp only [List.set_cons_succ, List.set_cons_zero]
          have b0 := int_at hj
          refine ifS (badJ s pr i j) H2 (fun R' h => ?_) ?_
          · unfold badJ at h
            generalize ex : s.getD j 0 = x at *
            generalize ey : s.getD (j - 1) 0 = y at *
            generalize ez : pr.getD j 0 = z at *
            have b1 : 0 < j → atI (s.map V.int) ((j : Int) - 1) = some (.int y) := fun hj0 => by
              have := int_at (xs := s) (j := j - 1) (by omega)
              rw [show ((j - 1 : Nat) : Int) = (j : Int) - 1 by omega, ey] at this
              exact this
            have b2 : 0 < i → atI (pr.map V.int) (j : Int) = some (.int z) := fun h0 => by
              have := int_at (xs := pr) (j := j) (by omega)
              rw [ez] at this
              exact this
            simp only [rd_or, rd_and, rd_test, rd_op, rd_cb, rd_cons, rd_nil, rd_var0, rd_var1, rd_var2, rd_var3, rd_var4, rd_onO, rd_c]
            by_cases h0 : 0 < i
            · obtain ⟨_, e4, e5⟩ := epr h0
              by_cases hj0 : 0 < j
              · simp [onS_of hp, b0, b1 hj0, b2 h0, h0, hj0, onS_of ha1, e4, onS_of e5]
                by_cases cc : x ≤ y
                · rw [if_pos cc]
                  simpa [h0, hj0, cc] using h
                · rw [if_neg cc]
                  simpa [h0, hj0, cc] using h
              · simp [onS_of hp, b0, b2 h0, h0, hj0, onS_of ha1, e4, onS_of e5]
                simpa [h0, hj0] using h
            · by_cases hj0 : 0 < j
              · simp [onS_of hp, b0, b1 hj0, h0, hj0]
                by_cases cc : x ≤ y
                · first | rw [if_pos cc] | skip
                  simpa [h0, hj0, cc] using h
                · first | rw [if_neg cc] | skip
                  simpa [h0, hj0, cc] using h
              · simp [onS_of hp, b0, h0, hj0]
                simpa [h0, hj0] using h
          cases hbj : badJ s pr i j with
          | true =>
            rw [if_pos rfl]
            refine no fun st => ?_
            unfold badJ at hbj
            rw [Bool.or_eq_true, Bool.and_eq_true, Bool.and_eq_true, decide_eq_true_eq, decide_eq_true_eq, decide_eq_true_eq, decide_eq_true_eq] at hbj
            have x1 : s[j]? = some s[j] := List.getElem?_eq_getElem hj
            rw [getD_some x1] at hbj
            rcases hbj with ⟨z1, z2⟩ | ⟨z1, z2⟩
            · have x2 : s[j - 1]? = some (s[j - 1]'(by omega)) := List.getElem?_eq_getElem (by omega)
              rw [getD_some x2] at z2
              have := List.pairwise_iff_getElem.mp (st.rise s (List.mem_of_getElem? eR)) (j - 1) j (by omega) hj (by omega)
              omega
            · have e6 : R[i - 1 + 1]? = some s := by rw [show i - 1 + 1 = i by omega]; exact eR
              have x2 : pr[j]? = some (pr[j]'(by omega)) := List.getElem?_eq_getElem (by omega)
              rw [getD_some x2] at z2
              have := (stairs_below st (epr z1).1 e6).2 j _ _ x2 x1
              omega
          | false =>
            rw [if_neg (by simp), rd_next]
            exact ⟨_, rfl, rfl, fun k hk => by
              rcases Nat.lt_succ_iff_lt_or_eq.mp hk with z | z
              · exact hb k z
              · rw [z]; exact hbj⟩
        · rintro σ H2 ⟨o5, rfl, rfl, hb⟩
          dsimp only
          rw [rd_asg, rd_op]
          simp only [rd_var0, rd_var1, rd_var2, rd_var3, rd_onO]
          rw [rd_plusL, onL_of hn1, onL_of hp]
          have tn := take_next eR
          have tf : (R.take (i + 1)).flatten = (R.take i).flatten ++ s := by rw [tn, List.flatten_append]; simp
          have fl : (R.take (i + 1)).flatten.length ≤ R.flatten.length := by
            conv => rhs; rw [← List.take_append_drop (i + 1) R, List.flatten_append, List.length_append]
            omega
          rw [tf, List.length_append] at fl
          refine ⟨line3 (by rw [List.length_map, List.length_map]; omega), fun p1 hp1 => ?_⟩
          refine ⟨p1, _, _, _, rfl, s1.trans (Same.upd_new hp1), by rw [upd_same, tf, List.map_append], stairs_snoc st eR hs ?_ fun r h0 er => ?_⟩
          · refine List.pairwise_iff_getElem.mpr fun k l hk hl hkl => ?_
            have nx : ∀ j, j + 1 < s.length → s.getD j 0 < s.getD (j + 1) 0 := fun j hj => by
              have := hb (j + 1) hj
              unfold badJ at this
              rw [Bool.or_eq_false_iff, Bool.and_eq_false_iff, decide_eq_false_iff_not, decide_eq_false_iff_not, Nat.add_sub_cancel] at this
              omega
            have := rise_next nx k l hkl hl
            rw [getD_some (List.getElem?_eq_getElem hk), getD_some (List.getElem?_eq_getElem hl)] at this
            exact this
          · have : r = pr := by have := (epr h0).1; rw [er] at this; exact Option.some.inj this
            subst this
            refine ⟨by omega, fun j x y hx hy => ?_⟩
            have hj := (List.getElem?_eq_some_iff.mp hy).1
            have := hb j hj
            unfold badJ at this
            rw [Bool.or_eq_false_iff, Bool.and_eq_false_iff, Bool.and_eq_false_iff, decide_eq_false_iff_not, decide_eq_false_iff_not, decide_eq_false_iff_not, decide_eq_false_iff_not, getD_some hx, getD_some hy] at this
            omega
    · rintro σ H1 ⟨nu, o2, o3, o4, rfl, s1, hn1, st⟩
      rw [List.take_length] at hn1 st
      simp [onL_of hn1]
      refine ⟨R.flatten, by rw [List.map_flatten], by omega, fun c hc1 hc2 => ?_⟩
      rw [onS_of hn1]
      have e : decide ((c : Int) = ((R.flatten.map V.int).length : Int)) = stairsB R := by
        rw [stairs_nodup st, decide_eq_decide, List.length_map, ← hc2]; omega
      have := q H1 s1
      rw [← e] at this
      simpa using this
end
end SR

namespace SR
open PySem L2 RS PySem.Spec PyProof.Rows
section
variable {P : Program} {w : World} {K : PySem.W.Frag} {mg : Str → Option Value} {base : Heap}
/-! ### _law_good -/
abbrev s_law_good : Stmt := top 35
theorem sc_law_good : FnScope ["first", "second", "numbers", "row"] ["first", "second"] (defScope s_law_good) := ⟨rfl, rfl, rfl, by decide +kernel, rfl, by decide +kernel, by decide +kernel⟩

def spGood : Sp := fun vs H Q _ => ∃ (a : Addr) (as : List Addr) (A : List (List Int)) (b : Addr) (bs : List Addr) (B : List (List Int)), vs = [.ref a, .ref b] ∧ RowsAt H a as A ∧ RowsAt H b bs B ∧ A.length < 64 ∧ B.length < 64 ∧ A.flatten.length < 64 ∧ B.flatten.length < 64 ∧ ∀ H', Same H H' → Q (.bl (pairB A B)) H'
def GdIn (H : Hp) (a b : Addr) (B : List (List Int)) (i : Nat) (σ : L2.St) (H' : Hp) : Prop := ∃ (nu : Addr) (o3 : Option V), σ = [some (.ref a), some (.ref b), some (.ref nu), o3] ∧ Same H H' ∧ H' nu = some (.lst ((B.take i).flatten.map V.int))
theorem countB_flat (B : List (List Int)) : countB B = decide (sortZ B.flatten = (List.range B.flatten.length).map fun (k : Nat) => (k : Int) + 1) := by
  unfold countB
  have pm : (readL B).Perm B.flatten := by unfold readL; exact (List.reverse_perm _).flatten
  have e1 : sortZ (readL B) = sortZ B.flatten := sortZ_uniq ((sortZ_perm _).trans pm) (sortZ_le _)
  have e2 : rngZ 1 (readL B).length = (List.range B.flatten.length).map fun (k : Nat) => (k : Int) + 1 := by
    rw [pm.length_eq]; unfold rngZ; apply List.map_congr_left; intro i _; omega
  rw [e1, e2]
theorem ok_good {f : Addr} {fd : FuncData} (F : Fun K "_law_good" "_law_good" s_law_good f fd) (T : Bl mg) (C_law_stairs : Cal P w K mg base 1 "_law_stairs" ["rows"] spLSt) : FnOk P w K mg base CX0 2 f fd ["first", "second"] spGood := by
  refine F.ok sc_law_good (fun vs H Q E h => ?_) (fun cdv A outer s H vs Q E hr h => ?_)
  · obtain ⟨a, as, A, b, bs, B, rfl, _⟩ := h; rfl
  · obtain ⟨a, as, A, b, bs, B, rfl, ha, hb, z1, z2, z3, z4, q⟩ := h
    refine ⟨_, (pss_cons (ps_if (PW.pt (pw_or (pt_not (pt_val (pe_cl C_law_stairs (hr.mono (by decide)) (by rfl) (pa_cons (pv 0) pa_nil)))) (pw_or1 (pt_not (pt_val (pe_cl C_law_stairs (hr.mono (by decide)) (by rfl) (pa_cons (pv 1) pa_nil))))))) (pss_one (ps_ret pe_bl)) pss_nil)
      (pss_cons (ps_if (pt_cmpR (f_neF (hu64 hr)) (pe_comp (cp := []) (M := ["row"]) rfl ⟨rfl, rfl, rfl, rfl, rfl, rfl, rfl⟩ (by decide +kernel) (pi_l (pv 0)) (fun _ _ _ _ _ => pts_nil) (fun _ _ _ _ _ => (pe_callB f_len (by rfl) T.len BI.len (pa_cons (pv 0) pa_nil)))) (pe_comp (cp := []) (M := ["row"]) rfl ⟨rfl, rfl, rfl, rfl, rfl, rfl, rfl⟩ (by decide +kernel) (pi_l (pv 1)) (fun _ _ _ _ _ => pts_nil) (fun _ _ _ _ _ => (pe_callB f_len (by rfl) T.len BI.len (pa_cons (pv 0) pa_nil)))) (nomark _)) (pss_one (ps_ret pe_bl)) pss_nil)
      (pss_cons (ps_set (i := 2) sc_law_good.nd rfl (Or.inl rfl) (pe_lst pa_nil))
      (pss_cons (ps_for PassesOwn.never rfl (pi_l (pv 1)) (pg_name (i := 3) sc_law_good.nd rfl (Or.inl rfl)) (pss_one (ps_set (i := 2) sc_law_good.nd rfl (Or.inl rfl) (pe_op f_add (pv 2) (pv 3)))))
      (pss_one (ps_ret (pe_cmpR (f_eqF (hu64 hr)) (pe_callB f_sorted (by rfl) T.sorted BI.sorted (pa_cons (pv 2) pa_nil)) (pe_comp (cp := []) (M := ["k"]) rfl ⟨rfl, rfl, rfl, rfl, rfl, rfl, rfl⟩ (by decide +kernel) (pi_range1 (by rfl) T.range (pa_cons (pe_callB f_len (by rfl) T.len BI.len (pa_cons (pv 2) pa_nil)) pa_nil)) (fun _ _ _ _ _ => pts_nil) (fun _ _ _ _ _ => (pe_op f_add (pv 0) pe_int))) (nomark _)))))))), ?_⟩
    have e0 : start ["first", "second", "numbers", "row"] [V.ref a, V.ref b] = [some (.ref a), some (.ref b), none, none] := rfl
    rw [e0, rd_seq]
    have lb := RowsL.len hb.row
    refine ifS' (fun H1 => Same H H1) (!(stairsB A && stairsB B)) (fun R h => ?_) (fun H1 s1 => ?_)
    · simp only [rd_or, rd_not, rd_tB, rd_cl, rd_cons, rd_nil, rd_var0, rd_var1, rd_onO]
      refine ⟨a, as, A, rfl, ha, z1, z3, fun H1 s1 => ?_⟩
      cases hA : stairsB A with
      | false =>
        rw [hA] at h
        simpa using h H1 s1
      | true =>
        rw [hA] at h
        simp
        refine ⟨b, bs, B, rfl, hb.same s1, z2, z4, fun H2 s2 => ?_⟩
        simpa using h H2 (s1.trans s2)
    by_cases c1 : (!(stairsB A && stairsB B)) = true
    · rw [if_pos c1]
      have e : pairB A B = false := by
        unfold pairB
        rw [Bool.not_eq_true'] at c1
        rw [c1]; rfl
      rw [e] at q
      exact q H1 s1
    rw [if_neg c1, rd_next]
    dsimp only
    have c1' : (stairsB A && stairsB B) = true := by
      cases h : (stairsB A && stairsB B) with
      | true => rfl
      | false => rw [h] at c1; exact absurd rfl c1
    rw [rd_seq]
    refine ifS' (fun H2 => Same H H2) (!decide (lenZ A = lenZ B)) (fun R h => ?_) (fun H2 s2 => ?_)
    · rw [rd_test, rd_op]
      refine comp_lens (a := a) (fun R h => by simpa using h) (ha.same s1) (by omega) (fun D hD => ?_)
      have s3 := Same.upd_new (o := HO.lst ((A.map fun r => (r.length : Int)).map V.int)) hD
      refine comp_lens (a := b) (fun R h => by simpa using h) ((hb.same s1).same s3) (by omega) (fun G hG => ?_)
      have s4 := Same.upd_new (o := HO.lst ((B.map fun r => (r.length : Int)).map V.int)) hG
      refine neF_ints (s4 _ _ upd_same) upd_same ?_
      rw [rd_onB]
      exact h _ ((s1.trans s3).trans s4)
    by_cases c2 : lenZ A = lenZ B
    · rw [if_neg (by simp [c2]), rd_next]
      dsimp only
      have e : pairB A B = countB B := by unfold pairB; rw [c1', decide_eq_true c2]; rfl
      rw [e, countB_flat] at q
      rw [rd_seq, rd_asg, rd_lst, rd_nil]
      refine ⟨line3 (by decide), fun nu hnu => ?_⟩
      rw [rd_name]
      dsimp only [List.set_cons_succ, List.set_cons_zero]
      have s3 := Same.upd_new (o := HO.lst []) hnu
      have s23 := s2.trans s3
      rw [rd_seq]
      refine for_listF (K := K) b (bs.map V.ref) (fun N h => by simp [onL_of (s23 _ _ hb.top)]; exact h) (GdIn H a b B) ⟨nu, none, rfl, s23, by rw [upd_same]; rfl⟩ (fun i σ H' _ ⟨nu, o, _, s, _⟩ => s _ _ hb.top) ?_ ?_
      · rintro i v σ H4 ev ⟨n1, o3, rfl, s4, h4⟩
        rw [List.getElem?_map] at ev
        cases ep : bs[i]? with
        | none => rw [ep] at ev; cases ev
        | some p =>
          rw [ep] at ev
          simp at ev
          subst ev
          obtain ⟨xs, ex, hx⟩ := RowsL.get' hb.row ep
          have hx4 := s4 _ _ hx
          have tn := take_next ex
          have tf : (B.take (i + 1)).flatten = (B.take i).flatten ++ xs := by rw [tn, List.flatten_append]; simp
          have fl : (B.take (i + 1)).flatten.length ≤ B.flatten.length := by
            conv => rhs; rw [← List.take_append_drop (i + 1) B, List.flatten_append, List.length_append]
            omega
          rw [tf, List.length_append] at fl
          rw [rd_name]
          dsimp only [List.set_cons_succ, List.set_cons_zero]
          rw [rd_asg, rd_op]
          simp only [rd_var0, rd_var1, rd_var2, rd_var3, rd_onO]
          rw [rd_plusL, onL_of h4, onL_of hx4]
          refine ⟨line3 (by rw [List.length_map, List.length_map]; omega), fun p1 hp1 => ?_⟩
          exact ⟨p1, _, rfl, s4.trans (Same.upd_new hp1), by rw [upd_same, tf, List.map_append]⟩
      · rintro σ H4 ⟨n1, o3, rfl, s4, h4⟩
        rw [List.length_map, lb, List.take_length] at h4
        dsimp only
        simp [onL_of h4]
        refine ⟨B.flatten, by rw [List.map_flatten], by omega, fun p hp => ?_⟩
        have s5 := Same.upd_new (o := HO.lst ((sortZ B.flatten).map V.int)) hp
        refine comp_rngG (n := B.flatten.length) (fun R h => ?_) (by omega) (fun k => V.int ((k : Int) + 1)) (fun i hi H' s' R h => by simpa [cst] using h _ (Same.refl _)) (fun D H5 hD s6 h6 => ?_)
        · simp only [rd_cons, rd_nil, rd_cb, rd_var0, rd_var1, rd_var2, rd_onO, rd_len, rd_on1, onS_of (s5 _ _ h4), List.length_map]
          exact h
        have e6 : (List.range B.flatten.length).map (fun k : Nat => V.int ((k : Int) + 1)) = ((List.range B.flatten.length).map fun k : Nat => (k : Int) + 1).map V.int := by rw [List.map_map]; rfl
        rw [e6] at h6
        exact eqF_ints (s6 _ _ upd_same) h6 (q _ ((s4.trans s5).trans s6))
    · rw [if_pos (by simp [c2])]
      have e : pairB A B = false := by unfold pairB; rw [decide_eq_false c2]; simp
      rw [e] at q
      exact q H2 s2
end
end SR

namespace SR
open PySem L2 RS PySem.Spec PyProof.Rows
section
variable {P : Program} {w : World} {K : PySem.W.Frag} {mg : Str → Option Value} {base : Heap}
theorem rowsL_cons {H : Hp} {p : Addr} {as : List Addr} {r : List Int} {xss : List (List Int)} (h : H p = some (.lst (r.map V.int))) (t : RowsL H as xss) : RowsL H (p :: as) (r :: xss) := .cons h t
theorem rowsL_erase {H : Hp} : ∀ {as : List Addr} {xss : List (List Int)} (i : Nat), RowsL H as xss → RowsL H (as.eraseIdx i) (xss.eraseIdx i)
  | _, _, _, .nil => by simp; exact .nil
  | _, _, 0, .cons _ t => by simpa using t
  | _, _, i + 1, .cons h t => by simpa using rowsL_cons h (rowsL_erase i t)
theorem rowsL_ins {H : Hp} {p : Addr} {s : List Int} (hp : H p = some (.lst (s.map V.int))) : ∀ {as : List Addr} {xss : List (List Int)} (o : Nat), RowsL H as xss → RowsL H (as.take o ++ p :: as.drop o) (xss.take o ++ s :: xss.drop o)
  | _, _, 0, t => by simpa using rowsL_cons hp t
  | _, _, _ + 1, .nil => by simpa using rowsL_cons hp .nil
  | _, _, o + 1, .cons h t => by simpa using rowsL_cons h (rowsL_ins hp o t)
theorem ins_perm {α : Type} (p : α) (as : List α) (o : Nat) : (as.take o ++ p :: as.drop o).Perm (p :: as) := by
  refine List.perm_middle.trans ?_
  rw [List.take_append_drop]
theorem erase_perm {α : Type} {as : List α} {i : Nat} {p : α} (h : as[i]? = some p) : (p :: as.eraseIdx i).Perm as := by
  obtain ⟨hi, e⟩ := List.getElem?_eq_some_iff.mp h
  rw [List.eraseIdx_eq_take_drop_succ, ← e]
  have := List.drop_eq_getElem_cons hi
  conv => rhs; rw [← List.take_append_drop i as, this]
  exact List.perm_middle.symm
theorem set_flat {R : List (List Int)} {i : Nat} {s ys : List Int} (h : R[i]? = some s) : (R.set i ys).flatten.length + s.length = R.flatten.length + ys.length := by
  obtain ⟨hi, e⟩ := List.getElem?_eq_some_iff.mp h
  have e1 : R.set i ys = R.take i ++ ys :: R.drop (i + 1) := by rw [List.set_eq_take_append_cons_drop, if_pos hi]
  have e2 : R = R.take i ++ s :: R.drop (i + 1) := by
    have := List.drop_eq_getElem_cons hi
    rw [e] at this
    rw [← this, List.take_append_drop]
  rw [e1]
  conv => rhs; rw [e2]
  simp only [List.flatten_append, List.flatten_cons, List.length_append]
  omega
theorem fresh_perm {H : Hp} {r : Addr} {as bs : List Addr} (h : Fresh H (r :: as)) (p : bs.Perm as) : Fresh H (r :: bs) :=
  ⟨(List.Perm.cons r p).nodup_iff.mpr h.nd, fun b hb => h.no b ((List.Perm.cons r p).mem_iff.mp hb)⟩
theorem rows_some8 {H : Hp} {a : Addr} {as : List Addr} {xss : List (List Int)} (h : RowsAt H a as xss) : ∀ p ∈ a :: as, H p ≠ none := fun p hp => by
  rcases List.mem_cons.mp hp with rfl | hp
  · rw [h.top]; simp
  · obtain ⟨i, hi⟩ := List.getElem?_of_mem hp
    obtain ⟨xs, _, hx⟩ := RowsL.get' h.row hi
    rw [hx]; simp
theorem upd_upd {H : Hp} {a : Addr} {o o' : HO} : upd (upd H a o) a o' = upd H a o' := by
  funext b
  by_cases h : b = a
  · subst h; rw [upd_same, upd_same]
  · rw [upd_ne h, upd_ne h, upd_ne h]
/-! ### _law_spoilt -/
abbrev s_law_spoilt : Stmt := top 36
theorem sc_law_spoilt : FnScope ["script", "rows", "way", "at", "other", "j"] ["script", "rows", "way"] (defScope s_law_spoilt) := ⟨rfl, rfl, rfl, by decide +kernel, rfl, by decide +kernel, by decide +kernel⟩

def spSpoil (K : PySem.W.Frag) : Sp := fun vs H Q _ => ∃ (a : Addr) (ns : List Int) (r : Addr) (rs : List Addr) (R : List (List Int)) (way : Int) (H0 : Hp), vs = [.ref a, .ref r, .int way] ∧ SqL K H0 a (ns.map V.int) ∧ ns.length ≤ 63 ∧ RowsAt H r rs R ∧ R ≠ [] ∧ (∀ x ∈ R, x ≠ []) ∧ R.length ≤ 40 ∧ R.flatten.length ≤ 40 ∧ Same H0 H ∧ Fresh H0 (r :: rs) ∧
  ∀ rs' R' H', Same H0 H' → RowsAt H' r rs' R' → Fresh H0 (r :: rs') → R'.length ≤ 41 → R'.flatten.length ≤ 40 → Q .non H'
theorem ok_spoil {f : Addr} {fd : FuncData} (F : Fun K "_law_spoilt" "_law_spoilt" s_law_spoilt f fd) (T : Bl mg) (C_law_drawn : Cal P w K mg base 1 "_law_drawn" ["script", "k", "many"] (spDrawn K)) : FnOk P w K mg base CX0 2 f fd ["script", "rows", "way"] (spSpoil K) := by
  refine F.ok sc_law_spoilt (fun vs H Q E h => ?_) (fun cdv A outer s H vs Q E hr h => ?_)
  · obtain ⟨a, ns, r, rs, R, way, H0, rfl, _⟩ := h; rfl
  · obtain ⟨a, ns, r, rs, R, way, H0, rfl, hS0, hl, hR, hne, hpos, l1, l2, s0, fr, q⟩ := h
    refine ⟨_, (pss_cons (ps_set (i := 3) sc_law_spoilt.nd rfl (Or.inl rfl) (pe_cl C_law_drawn (hr.mono (by decide)) (by rfl) (pa_cons (pv 0) (pa_cons pe_int (pa_cons (pe_callB f_len (by rfl) T.len BI.len (pa_cons (pv 1) pa_nil)) pa_nil)))))
      (pss_cons (ps_set (i := 4) sc_law_spoilt.nd rfl (Or.inl rfl) (pe_cl C_law_drawn (hr.mono (by decide)) (by rfl) (pa_cons (pv 0) (pa_cons pe_int (pa_cons (pe_callB f_len (by rfl) T.len BI.len (pa_cons (pv 1) pa_nil)) pa_nil)))))
      (pss_cons (ps_if (pt_cmpR (f_eqF (hu64 hr)) (pv 2) pe_int (nomark _)) (pss_cons (ps_set (i := 5) sc_law_spoilt.nd rfl (Or.inl rfl) (pe_cl C_law_drawn (hr.mono (by decide)) (by rfl) (pa_cons (pv 0) (pa_cons pe_int (pa_cons (pe_callB f_len (by rfl) T.len BI.len (pa_cons (pe_ix f_ix (pv 1) (pv 3) (fun _ _ => rfl)) pa_nil)) pa_nil)))))
      (pss_one (ps_asg (pe_op f_sub (pe_op f_add (pe_ix f_ix (pe_ix f_ix (pv 1) (pv 3) (fun _ _ => rfl)) (pv 5) (fun _ _ => rfl)) (pe_cl C_law_drawn (hr.mono (by decide)) (by rfl) (pa_cons (pv 0) (pa_cons pe_int (pa_cons pe_int pa_nil))))) pe_int) (pg_sub (pe_ix f_ix (pv 1) (pv 3) (fun _ _ => rfl)) (pv 5) f_set)))) pss_nil)
      (pss_cons (ps_if (pt_cmpR (f_eqF (hu64 hr)) (pv 2) pe_int (nomark _)) (pss_one (ps_expr (pe_ml PySem.F.slot_list_insert PySem.F.type_list_insert f_insert (pv 1) (pa_cons (pv 4) (pa_cons (pe_ml PySem.F.slot_list_pop PySem.F.type_list_pop f_popAt (pv 1) (pa_cons (pv 3) pa_nil)) pa_nil))))) pss_nil)
      (pss_cons (ps_if (pt_cmpR (f_eqF (hu64 hr)) (pv 2) pe_int (nomark _)) (pss_one (ps_expr (pe_ml PySem.F.slot_list_insert PySem.F.type_list_insert f_insert (pv 1) (pa_cons (pv 3) (pa_cons (pe_lst pa_nil) pa_nil (star_lst _ _ _ _)))))) pss_nil)
      (pss_one (ps_if (pt_cmpR (f_eqF (hu64 hr)) (pv 2) pe_int (nomark _)) (pss_one (ps_expr (pe_ml0 PySem.F.slot_list_pop PySem.F.type_list_pop f_pop (pe_ix f_ix (pv 1) (pv 3) (fun _ _ => rfl))))) pss_nil))))))), ?_⟩
    have e0 : start ["script", "rows", "way", "at", "other", "j"] [V.ref a, V.ref r, V.int way] = [some (.ref a), some (.ref r), some (.int way), none, none, none] := rfl
    rw [e0]
    have hS := s0.seq hS0
    have lrs := RowsL.len hR.row
    have draw : ∀ {H : Hp} {k m : Int} {Q : VK} {E : XK}, SqL K H a (ns.map V.int) → 0 ≤ k → k < 1000 → 0 < m → Q (.int (drawnZ ns k m)) H → spDrawn K [.ref a, .int k, .int m] H Q E := fun hS hk0 hk1 hm q => ⟨a, ns, _, _, rfl, hS, hl, hk0, hk1, hm, q⟩
    have hn : 0 < R.length := List.length_pos_iff.mpr hne
    have a1 := drawn_lo ns 400 (m := (R.length : Int)) (by omega)
    have a2 := drawn_hi ns 400 (m := (R.length : Int)) (by omega)
    have b1 := drawn_lo ns 401 (m := (R.length : Int)) (by omega)
    have b2 := drawn_hi ns 401 (m := (R.length : Int)) (by omega)
    obtain ⟨i, ei⟩ : ∃ i : Nat, drawnZ ns 400 (R.length : Int) = (i : Int) := ⟨(drawnZ ns 400 (R.length : Int)).toNat, by omega⟩
    obtain ⟨o, eo⟩ : ∃ o : Nat, drawnZ ns 401 (R.length : Int) = (o : Int) := ⟨(drawnZ ns 401 (R.length : Int)).toNat, by omega⟩
    simp [onS_of hR.top, lrs]
    refine draw hS (by decide) (by decide) (by omega) ?_
    rw [ei]
    simp [onS_of hR.top, lrs]
    refine draw hS (by decide) (by decide) (by omega) ?_
    rw [eo]
    rw [ei] at a1 a2
    rw [eo] at b1 b2
    have hi : i < R.length := by omega
    have ho : o < R.length := by omega
    have eR : R[i]? = some R[i] := List.getElem?_eq_getElem hi
    have hposi := hpos _ (List.getElem_mem hi)
    generalize R[i] = s at eR hposi
    obtain ⟨p, ep, hp⟩ := RowsL.get hR.row eR
    have pn : p ∈ rs := List.mem_of_getElem? ep
    have hp0 : H0 p = none := fr.no p (List.mem_cons_of_mem _ pn)
    have hr0 : H0 r = none := fr.no r List.mem_cons_self
    have pr : p ≠ r := fun z => (List.nodup_cons.mp fr.nd).1 (z ▸ pn)
    have sl : 0 < s.length := List.length_pos_iff.mpr hposi
    have same := q rs R H s0 hR fr (by omega) l2
    simp
    by_cases w0 : way = 0
    · subst w0
      simp [onS_of hR.top, atI_ref ep, onS_of hp]
      have c1 := drawn_lo ns 402 (m := (s.length : Int)) (by omega)
      have c2 := drawn_hi ns 402 (m := (s.length : Int)) (by omega)
      obtain ⟨j, ej⟩ : ∃ j : Nat, drawnZ ns 402 (s.length : Int) = (j : Int) := ⟨(drawnZ ns 402 (s.length : Int)).toNat, by omega⟩
      refine draw hS (by decide) (by decide) (by omega) ?_
      rw [ej] at c1 c2 ⊢
      have hj : j < s.length := by omega
      simp [onS_of hR.top, atI_ref ep, onS_of hp, int_at hj]
      refine draw hS (by decide) (by decide) (by decide) ?_
      simp [onS_of hR.top, atI_ref ep, onL_of hp]
      refine ⟨hj, ?_⟩
      have e4 : ∀ v : Int, (List.map V.int s).set j (V.int v) = (s.set j v).map V.int := fun v => by rw [List.map_set]
      rw [e4]
      have sf := set_flat (ys := s.set j ((s[j]?.getD 0 + drawnZ ns 403 7) - 3)) eR
      refine q rs _ _ (s0.upd_in hp0) (RowsAt.set hR ep fr.nd) fr (by rw [List.length_set]; omega) ?_
      rw [List.length_set] at sf
      have := sf
      omega
    by_cases w1 : way = 1
    · subst w1
      simp [onL_of hR.top]
      rw [ep]
      refine ⟨by omega, ?_⟩
      rw [Option.map_some, rd_onO, onL_of upd_same]
      have le : ((rs.map V.ref).eraseIdx i).length = rs.length - 1 := by rw [List.length_eraseIdx, if_pos (by rw [List.length_map]; omega), List.length_map]
      refine ⟨⟨by omega, by rw [le]; exact line100 (by omega)⟩, ?_⟩
      have em : (rs.map V.ref).eraseIdx i = (rs.eraseIdx i).map V.ref := by rw [List.eraseIdx_eq_take_drop_succ, List.eraseIdx_eq_take_drop_succ]; simp [List.map_take, List.map_drop]
      rw [em, upd_upd]
      have e4 : List.take o ((rs.eraseIdx i).map V.ref) ++ V.ref p :: List.drop o ((rs.eraseIdx i).map V.ref) = ((rs.eraseIdx i).take o ++ p :: (rs.eraseIdx i).drop o).map V.ref := by simp [List.map_take, List.map_drop]
      rw [e4]
      have pe := ins_perm p (rs.eraseIdx i) o
      have pe2 := pe.trans (erase_perm ep)
      have pR := (ins_perm s (R.eraseIdx i) o).trans (erase_perm eR)
      refine q ((rs.eraseIdx i).take o ++ p :: (rs.eraseIdx i).drop o) ((R.eraseIdx i).take o ++ s :: (R.eraseIdx i).drop o) _ (s0.upd_in hr0) ⟨upd_same, ?_⟩ (fresh_perm fr pe2) (by rw [pR.length_eq]; omega) (by rw [pR.flatten.length_eq]; exact l2)
      refine RowsL.mono (rowsL_ins hp o (rowsL_erase i hR.row)) fun b hb u e => ?_
      have bn : b ∈ rs := pe2.mem_iff.mp hb
      have br : b ≠ r := fun z => (List.nodup_cons.mp fr.nd).1 (z ▸ bn)
      rw [upd_ne br]; exact e
    by_cases w2 : way = 2
    · subst w2
      simp
      rw [onL_of hR.top]
      intro n hn0
      have s1 := Same.upd_new (o := HO.lst []) hn0
      have nr : n ≠ r := fun z => by rw [z, hR.top] at hn0; cases hn0
      have nrs : n ∉ rs := fun z => by
        have := rows_some8 hR n (List.mem_cons_of_mem _ z)
        exact this hn0
      rw [onL_of (s1 _ _ hR.top)]
      refine ⟨⟨by rw [List.length_map]; omega, by rw [List.length_map]; exact line100 (by omega)⟩, ?_⟩
      have e4 : List.take i (rs.map V.ref) ++ V.ref n :: List.drop i (rs.map V.ref) = (rs.take i ++ n :: rs.drop i).map V.ref := by simp [List.map_take, List.map_drop]
      rw [e4]
      have pe := ins_perm n rs i
      have pR := ins_perm ([] : List Int) R i
      have frn : Fresh H0 (r :: n :: rs) := ⟨by
        have := List.nodup_cons.mp fr.nd
        simp [nr.symm, this.1, this.2, nrs], fun b hb => by
        rcases List.mem_cons.mp hb with rfl | hb
        · exact hr0
        · rcases List.mem_cons.mp hb with rfl | hb
          · exact s0.free hn0
          · exact fr.no b (List.mem_cons_of_mem _ hb)⟩
      refine q (rs.take i ++ n :: rs.drop i) (R.take i ++ [] :: R.drop i) _ ((s0.trans s1).upd_in hr0) ⟨upd_same, ?_⟩ (fresh_perm frn pe) (by rw [pR.length_eq]; simp; omega) (by rw [pR.flatten.length_eq]; simpa using l2)
      have h0 : upd H n (HO.lst []) n = some (HO.lst (([] : List Int).map V.int)) := upd_same
      refine RowsL.mono (rowsL_ins h0 i (RowsL.same hR.row s1)) fun b hb u e => ?_
      have bn : b ∈ n :: rs := pe.mem_iff.mp hb
      have br : b ≠ r := fun z => by
        rcases List.mem_cons.mp bn with y | y
        · exact nr (y ▸ z)
        · exact (List.nodup_cons.mp fr.nd).1 (z ▸ y)
      rw [upd_ne br]; exact e
    by_cases w3 : way = 3
    · subst w3
      simp [onS_of hR.top, atI_ref ep]
      rw [onL_of hp]
      simp [rPopF, onL_of hp]
      have : s[s.length - 1]? = some (s[s.length - 1]'(by omega)) := List.getElem?_eq_getElem _
      rw [this]
      have sf := set_flat (ys := s.dropLast) eR
      rw [← List.map_dropLast]
      refine q rs _ _ (s0.upd_in hp0) (RowsAt.set hR ep fr.nd) fr (by rw [List.length_set]; omega) ?_
      rw [List.length_dropLast] at sf
      omega
    simp [w0, w1, w2, w3]
    exact same
end
end SR

namespace SR
open PySem L2 RS PySem.Spec PyProof.Rows
section
variable {P : Program} {w : World} {K : PySem.W.Frag} {mg : Str → Option Value} {base : Heap}
/-! ### _law_filling_by -/
def natZ (l : List Nat) : List Int := l.map fun (x : Nat) => (x : Int)
theorem natZ_len (l : List Nat) : (natZ l).length = l.length := by simp [natZ]
theorem natZ_at {l : List Nat} {i v : Nat} (e : l[i]? = some v) : atI ((natZ l).map V.int) (i : Int) = some (.int (v : Int)) := atI_nat (j := i) (by unfold natZ; rw [List.getElem?_map, List.getElem?_map, e]; rfl)
theorem le_sum : ∀ (l : List Nat) (x : Nat), x ∈ l → x ≤ l.sum
  | [], x, h => by simp at h
  | a :: l, x, h => by
    rcases List.mem_cons.mp h with rfl | h
    · simp
    · have := le_sum l x h; simp; omega
theorem natZ_sum (l : List Nat) : (natZ l).sum = ((l.sum : Nat) : Int) := by
  induction l with
  | nil => rfl
  | cons a l ih => show ((a : Int) :: natZ l).sum = _; rw [List.sum_cons, ih, List.sum_cons]; omega
def endB (l : List Nat) (i : Nat) : Bool := decide (0 < l.getD i 0) && (decide (i + 1 = l.length) || decide (l.getD (i + 1) 0 < l.getD i 0))
theorem ends_ne : ∀ {l : List Nat}, l.Pairwise (· ≥ ·) → 0 < l.sum → ∃ i, i < l.length ∧ endB l i = true
  | [], _, h => by simp at h
  | a :: l, hp, h => by
    by_cases hs : 0 < l.sum
    · obtain ⟨i, h1, h2⟩ := ends_ne (List.pairwise_cons.mp hp).2 hs
      refine ⟨i + 1, by simpa using h1, ?_⟩
      unfold endB at h2 ⊢
      simpa using h2
    · have hz : l.sum = 0 := by omega
      have h0 : 0 < a := by simp at h; omega
      refine ⟨0, by simp, ?_⟩
      unfold endB
      cases l with
      | nil => simp [h0]
      | cons b l =>
        have : b = 0 := by simp at hz; exact hz.1
        subst this
        simp [h0]
theorem sum_set {l : List Nat} {a n : Nat} (e : l[a]? = some (n + 1)) : (l.set a n).sum + 1 = l.sum := by
  induction l generalizing a with
  | nil => simp at e
  | cons b l ih =>
    cases a with
    | zero => have : b = n + 1 := by simpa using e
              subst this; simp; omega
    | succ a => have := ih (a := a) (by simpa using e); simp; omega
theorem fall_set {ls : List Nat} {a n : Nat} (fall : ls.Pairwise (· ≥ ·)) (e : ls[a]? = some (n + 1)) (hn : ls.getD (a + 1) 0 ≤ n) : (ls.set a n).Pairwise (· ≥ ·) := by
  have ha := (List.getElem?_eq_some_iff.mp e).1
  have eg : ls[a] = n + 1 := (List.getElem?_eq_some_iff.mp e).2
  refine List.pairwise_iff_getElem.mpr fun i j hi hj hl => ?_
  rw [List.length_set] at hi hj
  have h0 := List.pairwise_iff_getElem.mp fall i j hi hj hl
  rw [List.getElem_set, List.getElem_set]
  by_cases h1 : a = i
  · subst h1
    rw [if_pos rfl, if_neg (by omega)]
    have hj1 : a + 1 < ls.length := by omega
    have h3 : ls[a + 1] ≤ n := by rw [List.getD_eq_getElem?_getD, List.getElem?_eq_getElem hj1] at hn; simpa using hn
    by_cases h4 : j = a + 1
    · subst h4; exact h3
    · have := List.pairwise_iff_getElem.mp fall (a + 1) j hj1 hj (by omega)
      exact Nat.le_trans this h3
  · rw [if_neg h1]
    by_cases h2 : a = j
    · subst h2; rw [if_pos rfl]; have : ls[i] ≥ ls[a] := h0; omega
    · rw [if_neg h2]; exact h0
abbrev s_law_filling_by : Stmt := top 33
theorem sc_law_filling_by : FnScope ["script", "lengths", "left", "made", "k", "ends", "at"] ["script", "lengths"] (defScope s_law_filling_by) := ⟨rfl, rfl, rfl, by decide +kernel, rfl, by decide +kernel, by decide +kernel⟩

def spFilling (K : PySem.W.Frag) : Sp := fun vs H Q _ => ∃ (a : Addr) (ns : List Int) (b : Addr) (ls : List Nat), vs = [.ref a, .ref b] ∧ SqL K H a (ns.map V.int) ∧ ns.length ≤ 63 ∧ H b = some (.lst ((natZ ls).map V.int)) ∧ ls.Pairwise (· ≥ ·) ∧ (∀ x ∈ ls, 1 ≤ x) ∧ ls.length ≤ 40 ∧ ls.sum ≤ 40 ∧
  ∀ ps r rs H', Val ps → lensN (growAll ps) = ls → ps.length = ls.sum → Same H H' → RowsAt H' r rs (growAll ps) → Fresh H (r :: rs) → Q (.ref r) H'
def FlIn (H : Hp) (a b lf m : Addr) (ls : List Nat) (t : Nat) (σ : L2.St) (H' : Hp) : Prop := ∃ (l ps : List Nat) (ms : List Addr) (o4 o5 o6 : Option V), σ = [some (.ref a), some (.ref b), some (.ref lf), some (.ref m), o4, o5, o6] ∧ Same H H' ∧ H lf = none ∧ H' lf = some (.lst ((natZ l).map V.int)) ∧ lf ∉ m :: ms ∧ RowsAt H' m ms (growSF ps (ls.sum - t) (zeros l)) ∧ Fresh H (m :: ms) ∧
  l.length = ls.length ∧ l.Pairwise (· ≥ ·) ∧ l.sum + t = ls.sum ∧ ps.length = t ∧ ∀ p0, Taken l p0 → Taken ls (p0 ++ ps)
theorem growSF_len : ∀ (ps : List Nat) (k : Nat) (Q : List (List Int)), (growSF ps k Q).length = Q.length
  | [], _, _ => rfl
  | a :: ps, k, Q => by rw [growSF, growSF_len ps]; simp [growS]
theorem growS_row (Q : List (List Int)) (a : Nat) (k : Int) (j : Nat) : (Q.getD j []).length ≤ ((growS Q a k).getD j []).length := by
  unfold growS
  rw [getD_set]
  split
  · rename_i h; obtain ⟨rfl, _⟩ := h; simp
  · exact Nat.le_refl _
theorem growSF_row : ∀ (ps : List Nat) (k : Nat) (Q : List (List Int)) (j : Nat), (Q.getD j []).length ≤ ((growSF ps k Q).getD j []).length
  | [], _, _, _ => Nat.le_refl _
  | a :: ps, k, Q, j => Nat.le_trans (growS_row Q a _ j) (growSF_row ps (k + 1) _ j)
theorem ok_filling {f : Addr} {fd : FuncData} (F : Fun K "_law_filling_by" "_law_filling_by" s_law_filling_by f fd) (T : Bl mg) (C_law_drawn : Cal P w K mg base 1 "_law_drawn" ["script", "k", "many"] (spDrawn K)) : FnOk P w K mg base CX0 2 f fd ["script", "lengths"] (spFilling K) := by
  refine F.ok sc_law_filling_by (fun vs H Q E h => ?_) (fun cdv A outer s H vs Q E hr h => ?_)
  · obtain ⟨a, ns, b, ls, rfl, _⟩ := h; rfl
  · obtain ⟨a, ns, b, ls, rfl, hS, hl, hb, fall, pos, hz, hz2, q⟩ := h
    refine ⟨_, (pss_cons (ps_set (i := 2) sc_law_filling_by.nd rfl (Or.inr rfl) (pe_callTy f_list (by rfl) T.list BI.list (pa_cons (pv 1) pa_nil)))
      (pss_cons (ps_comp (i := 3) sc_law_filling_by.nd rfl rfl (cp := []) (M := ["length"]) rfl ⟨rfl, rfl, rfl, rfl, rfl, rfl, rfl⟩ (by decide +kernel) (pi_l (pv 1)) (fun _ _ _ _ _ => pts_nil) (fun _ _ _ _ _ => (pe_comp (cp := []) (M := ["j"]) rfl ⟨rfl, rfl, rfl, rfl, rfl, rfl, rfl⟩ (by decide +kernel) (pi_range1 (by rfl) T.range (pa_cons (pv 0) pa_nil)) (fun _ _ _ _ _ => pts_nil) (fun _ _ _ _ _ => pe_int))))
      (pss_cons (ps_for PassesOwn.never rfl (pi_range3 (by rfl) T.range (pa_cons (pe_callB (f_sumB rfl) (by rfl) T.sum BI.sum (pa_cons (pv 1) pa_nil)) (pa_cons pe_int (pa_cons (pe_un f_neg pe_int) pa_nil)))) (pg_name (i := 4) sc_law_filling_by.nd rfl (Or.inl rfl)) (pss_cons (ps_comp (i := 5) sc_law_filling_by.nd rfl rfl (cp := [2]) (M := ["at", "left"]) rfl ⟨rfl, rfl, rfl, rfl, rfl, rfl, rfl⟩ (by decide +kernel) (pi_range1 (by rfl) T.range (pa_cons (pe_callB f_len (by rfl) T.len BI.len (pa_cons (pv 2) pa_nil)) pa_nil)) (fun _ _ _ _ _ => (pts_one (PW.pt (pw_and (pt_cmpR f_gt (pe_ix f_ix (pv 1) (pv 0) (fun _ _ => rfl)) pe_int (nomark _)) (pw_and1 (PW.pt (pw_or (pt_cmpR (f_eqF (hu64 hr)) (pe_op f_add (pv 0) pe_int) (pe_callB f_len (by rfl) T.len BI.len (pa_cons (pv 1) pa_nil)) (nomark _)) (pw_or1 (pt_cmpR f_lt (pe_ix f_ix (pv 1) (pe_op f_add (pv 0) pe_int) (fun _ _ => rfl)) (pe_ix f_ix (pv 1) (pv 0) (fun _ _ => rfl)) (nomark _)))))))))) (fun _ _ _ _ _ => (pv 0)))
      (pss_cons (ps_set (i := 6) sc_law_filling_by.nd rfl (Or.inl rfl) (pe_ix f_ix (pv 5) (pe_cl C_law_drawn (hr.mono (by decide)) (by rfl) (pa_cons (pv 0) (pa_cons (pe_op f_add pe_int (pv 4)) (pa_cons (pe_callB f_len (by rfl) T.len BI.len (pa_cons (pv 5) pa_nil)) pa_nil)))) (fun _ _ => rfl)))
      (pss_cons (ps_asg (pe_op f_sub (pe_ix f_ix (pv 2) (pv 6) (fun _ _ => rfl)) pe_int) (pg_sub (pv 2) (pv 6) f_set))
      (pss_one (ps_asg (pv 4) (pg_sub (pe_ix f_ix (pv 3) (pv 6) (fun _ _ => rfl)) (pe_ix f_ix (pv 2) (pv 6) (fun _ _ => rfl)) f_set)))))))
      (pss_one (ps_ret (pv 3)))))), ?_⟩
    have e0 : start ["script", "lengths", "left", "made", "k", "ends", "at"] [V.ref a, V.ref b] = [some (.ref a), some (.ref b), none, none, none, none, none] := rfl
    rw [e0, rd_seq, rd_asg]
    simp only [rd_var0, rd_var1, rd_cb, rd_cons, rd_nil, rd_onO, rd_list, rd_on1, onS_of hb, rd_new]
    intro lf hlf
    have s1 := Same.upd_new (o := HO.lst ((natZ ls).map V.int)) hlf
    rw [rd_name]
    dsimp only [List.set_cons_succ, List.set_cons_zero]
    have hlf1 : upd H lf (HO.lst ((natZ ls).map V.int)) lf = some (HO.lst ((natZ ls).map V.int)) := upd_same
    have hb1 := s1 _ _ hb
    generalize upd H lf (HO.lst ((natZ ls).map V.int)) = H1 at *
    rw [rd_seq, rd_asg]
    refine comp_listR (a := b) (xs := (natZ ls).map V.int) (fun R h => by simpa using h) hb1 (zeros ls) (by unfold zeros; simp [natZ]) (by simp [natZ]; omega) (fun i v g ev eg H2 s2 R kk => ?_) (fun m ms H2 hm s2 rm frm => ?_)
    · unfold natZ at ev
      unfold zeros at eg
      rw [List.getElem?_map, List.getElem?_map] at ev
      rw [List.getElem?_map] at eg
      cases el : ls[i]? with
      | none => rw [el] at ev; cases ev
      | some x =>
        rw [el] at ev eg
        have e1 : v = .int (x : Int) := by simpa using ev.symm
        have e2 : g = List.replicate x 0 := by simpa using eg.symm
        subst e1; subst e2
        have hx : x ≤ 40 := by have := le_sum ls x (List.mem_of_getElem? el); omega
        refine comp_rngP (n := x) (fun R h => by simpa [cst] using h) (by omega) (fun _ => true) (fun _ => V.int 0) (fun i hi H' s' R h => by simpa using h) (fun i hi _ H' s' R h => by simpa [cst] using h) (fun D hD => ?_)
        refine kk D _ (Same.upd_new hD) hD ?_
        rw [upd_same, List.filter_eq_self.mpr (fun _ _ => rfl)]
        congr 2
        rw [List.map_replicate]
        rw [List.eq_replicate_iff]
        exact ⟨by simp, fun y hy => by obtain ⟨_, _, rfl⟩ := List.mem_map.mp hy; rfl⟩
    rw [rd_name]
    dsimp only [List.set_cons_succ, List.set_cons_zero]
    rw [rd_seq]
    have s02 := s1.trans s2
    refine for_downF ((ls.sum : Nat) : Int) ls.sum (fun N h => ?_) (FlIn H a b lf m ls) ⟨ls, [], ms, none, none, none, rfl, s02, hlf, s2 _ _ hlf1, ?_, by rw [Nat.sub_zero]; exact rm, frm.old s1, rfl, fall, rfl, rfl, fun p0 h => by simpa using h⟩ ?_ ?_
    · rw [rd_down]
      simp only [rd_var0, rd_var1, rd_cons, rd_cb, rd_nil, rd_sumB, rd_on1, rd_onO, onL_of (s2 _ _ hb1), rd_c, rd_un, rd_neg, rd_onI]
      refine ⟨natZ ls, rfl, ?_⟩
      rw [natZ_sum]
      refine ⟨_, _, rfl, ⟨by omega, by omega, by omega, by omega⟩, ?_⟩
      rw [Int.sub_zero, Int.toNat_natCast]
      exact h
    · intro z
      rw [frm.no lf z] at hlf1; cases hlf1
    · rintro t σ H3 ht ⟨l, ps, ms, o4, o5, o6, rfl, s3, _, hl3, nl, rm3, fr3, ll, fl, sm, lp, tkn⟩
      have ek : ((ls.sum : Nat) : Int) - (t : Int) = ((ls.sum - t : Nat) : Int) := by omega
      rw [ek]
      simp only [rd_name, List.set_cons_succ, List.set_cons_zero]
      rw [rd_seq, rd_asg]
      refine comp_rngP (n := l.length) (fun R h => by simpa [onS_of hl3, natZ_len] using h) (by omega) (endB l) (fun i => V.int (i : Int)) (fun i hi H' s' R h => ?_) (fun i hi _ H' s' R h => by simpa [cst] using h) (fun D hD => ?_)
      · have hl4 := s' _ _ hl3
        have el : l[i]? = some l[i] := List.getElem?_eq_getElem hi
        unfold endB at h
        rw [List.getD_eq_getElem?_getD, el] at h
        simp only [Option.getD_some] at h
        simp [cst, onS_of hl4, natZ_at el, natZ_len]
        by_cases h0 : 0 < l[i]
        · rw [if_pos h0]
          by_cases hc : i + 1 = l.length
          · have hc' : (i : Int) + 1 = (l.length : Int) := by omega
            simp [hc']
            simpa [h0, hc] using h
          · have hc' : ¬ (i : Int) + 1 = (l.length : Int) := by omega
            have el1 : l[i + 1]? = some l[i + 1] := List.getElem?_eq_getElem (by omega)
            have a1 := natZ_at el1
            rw [show ((i + 1 : Nat) : Int) = (i : Int) + 1 by omega] at a1
            simp [hc', onS_of hl4, a1, natZ_at el]
            rw [List.getD_eq_getElem?_getD, el1] at h
            simpa [h0, hc] using h
        · rw [if_neg h0]
          simpa [h0] using h
      have s4 := Same.upd_new (o := HO.lst (((List.range l.length).filter (endB l)).map fun (i : Nat) => V.int (i : Int))) hD
      have hD4 : upd H3 D (HO.lst (((List.range l.length).filter (endB l)).map fun (i : Nat) => V.int (i : Int))) D = some (HO.lst (((List.range l.length).filter (endB l)).map fun (i : Nat) => V.int (i : Int))) := upd_same
      generalize upd H3 D (HO.lst (((List.range l.length).filter (endB l)).map fun (i : Nat) => V.int (i : Int))) = H4 at *
      obtain ⟨i0, hi0, he0⟩ := ends_ne fl (show 0 < l.sum by omega)
      have ene : (List.range l.length).filter (endB l) ≠ [] := fun z => by
        have : i0 ∈ (List.range l.length).filter (endB l) := List.mem_filter.mpr ⟨List.mem_range.mpr hi0, he0⟩
        rw [z] at this; simp at this
      have emem : ∀ i ∈ (List.range l.length).filter (endB l), i < l.length ∧ endB l i = true := fun i hi => by
        obtain ⟨h1, h2⟩ := List.mem_filter.mp hi
        exact ⟨List.mem_range.mp h1, h2⟩
      have elen : ((List.range l.length).filter (endB l)).length ≤ l.length := by have := List.length_filter_le (endB l) (List.range l.length); simpa using this
      generalize (List.range l.length).filter (endB l) = es at *
      have epos := List.length_pos_iff.mpr ene
      rw [rd_name]
      dsimp only [List.set_cons_succ, List.set_cons_zero]
      rw [rd_seq, rd_asg]
      simp only [rd_var0, rd_var1, rd_var2, rd_var3, rd_var4, rd_var5, rd_ix, rd_op, rd_onO, rd_cl, rd_cons, rd_nil, rd_op, rd_c, rd_plusI, rd_onI, rd_cb, rd_len, rd_on1, onS_of hD4, List.length_map]
      have d0 := drawn_lo ns (300 + ((ls.sum - t : Nat) : Int)) (m := (es.length : Int)) (by omega)
      have d1 := drawn_hi ns (300 + ((ls.sum - t : Nat) : Int)) (m := (es.length : Int)) (by omega)
      refine ⟨a, ns, _, _, rfl, (s3.trans s4).seq hS, hl, by omega, by omega, by omega, ?_⟩
      generalize drawnZ ns (300 + ((ls.sum - t : Nat) : Int)) (es.length : Int) = dz at *
      obtain ⟨j, rfl⟩ : ∃ j : Nat, dz = (j : Int) := ⟨_, (Int.toNat_of_nonneg d0).symm⟩
      have hj : j < es.length := by omega
      obtain ⟨hi, he⟩ := emem es[j] (List.getElem_mem hj)
      have aj : atI (es.map fun (i : Nat) => V.int (i : Int)) (j : Int) = some (.int ((es[j] : Nat) : Int)) := atI_nat (j := j) (by rw [List.getElem?_map, List.getElem?_eq_getElem hj]; rfl)
      rw [rd_onI, onS_of hD4, aj]
      generalize es[j] = i at *
      have el : l[i]? = some l[i] := List.getElem?_eq_getElem hi
      unfold endB at he
      rw [Bool.and_eq_true, decide_eq_true_eq, List.getD_eq_getElem?_getD, el] at he
      simp only [Option.getD_some] at he
      obtain ⟨n, en⟩ : ∃ n, l[i] = n + 1 := ⟨l[i] - 1, by omega⟩
      rw [en] at he el
      have hn : l.getD (i + 1) 0 ≤ n := by
        have := he.2
        rw [Bool.or_eq_true, decide_eq_true_eq, decide_eq_true_eq] at this
        rcases this with z | z
        · rw [List.getD_eq_getElem?_getD, List.getElem?_eq_none (by omega)]; simp
        · omega
      have hl4 := s4 _ _ hl3
      rw [rd_onO, rd_name]
      dsimp only [List.set_cons_succ, List.set_cons_zero]
      simp [onS_of hl4, natZ_at el, onL_of hl4, natZ_len]
      refine ⟨by omega, ?_⟩
      have eS : ((natZ l).map V.int).set i (V.int (n : Int)) = (natZ (l.set i n)).map V.int := by unfold natZ; rw [List.map_set, List.map_set]
      rw [eS]
      have rm5 := (rm3.same s4).out (o := .lst ((natZ (l.set i n)).map V.int)) nl
      have hl5 : upd H4 lf (.lst ((natZ (l.set i n)).map V.int)) lf = some (.lst ((natZ (l.set i n)).map V.int)) := upd_same
      have s5 : Same H (upd H4 lf (.lst ((natZ (l.set i n)).map V.int))) := (s3.trans s4).upd_in hlf
      generalize upd H4 lf (.lst ((natZ (l.set i n)).map V.int)) = H5 at *
      have eln : (l.set i n)[i]? = some n := List.getElem?_set_self hi
      have efill := fill_step (ps := ps) (k := ls.sum - (t + 1)) el
      have ek2 : ls.sum - (t + 1) + 1 = ls.sum - t := by omega
      have ek3 : ((ls.sum - (t + 1) : Nat) : Int) + 1 = ((ls.sum - t : Nat) : Int) := by omega
      rw [ek2, ek3] at efill
      have hil : i < (growSF ps (ls.sum - t) (zeros l)).length := by rw [growSF_len]; unfold zeros; simpa using hi
      have hrow := growSF_row ps (ls.sum - t) (zeros l) i
      rw [zeros_get, List.length_replicate, List.getD_eq_getElem?_getD, el] at hrow
      unfold setAt at efill
      generalize growSF ps (ls.sum - t) (zeros l) = X at *
      have eX : X[i]? = some X[i] := List.getElem?_eq_getElem hil
      rw [List.getD_eq_getElem?_getD, eX] at hrow efill
      simp only [Option.getD_some] at hrow efill
      obtain ⟨d, ed, hd⟩ := RowsL.get rm5.row eX
      have dm := List.mem_of_getElem? ed
      have dlf : lf ≠ d := fun z => nl (List.mem_cons_of_mem _ (z ▸ dm))
      rw [onS_of rm5.top, atI_ref ed, rd_onO, onS_of hl5, natZ_at eln, rd_onO, rd_onI, onL_of hd]
      refine ⟨⟨by omega, by rw [List.length_map]; omega⟩, ?_⟩
      rw [Int.toNat_natCast]
      have rm6 := rm5.set (ys := X[i].set n ((ls.sum - t : Nat) : Int)) ed fr3.nd
      rw [List.map_set] at rm6
      have sms := sum_set el
      refine ⟨l.set i n, i :: ps, ms, _, _, _, rfl, s5.upd_in (fr3.no d (List.mem_cons_of_mem _ dm)), hlf, by rw [upd_ne dlf]; exact hl5, nl, by rw [← efill]; exact rm6, fr3, by rw [List.length_set]; exact ll, fall_set fl el hn, by omega, by simp [lp], fun p0 h => ?_⟩
      have := tkn (p0 ++ [i]) (.snoc el hn h)
      simpa using this
    · rintro σ H3 ⟨l, ps, ms, o4, o5, o6, rfl, s3, _, hl3, nl, rm3, fr3, ll, fl, sm, lp, tkn⟩
      have hz0 : ∀ x ∈ l, x = 0 := fun x hx => by
        have := le_sum l x hx
        omega
      have tk := tkn [] (.nil hz0)
      rw [List.nil_append] at tk
      obtain ⟨v1, v2, v3⟩ := taken_fill tk fall pos
      have ez : zeros l = zeros (ls.map fun _ => 0) := by
        have : l = ls.map fun _ => 0 := by
          apply List.ext_getElem
          · simp [ll]
          · intro i h1 h2
            rw [List.getElem_map]
            exact hz0 _ (List.getElem_mem h1)
        rw [this]
      rw [Nat.sub_self, ez, v2] at rm3
      simp
      exact q ps m ms H3 v1 v3 lp s3 rm3 fr3
end
end SR

namespace SR
open PySem L2 RS PySem.Spec PyProof.Rows
section
variable {P : Program} {w : World} {K : PySem.W.Frag} {mg : Str → Option Value} {base : Heap}
def spLaw (K : PySem.W.Frag) : Sp := fun vs H Q _ => ∃ (a : Addr) (ns : List Int), vs = [.ref a] ∧ SqL K H a (ns.map V.int) ∧ ns.length ≤ 63 ∧ ∀ H', Q (.bl true) H'
def cutH (H : Hp) (l : List Addr) : Hp := fun p => if p ∈ l then none else H p
theorem cutH_at {H : Hp} {l : List Addr} {p : Addr} (h : p ∉ l) : cutH H l p = H p := if_neg h
theorem cutH_same (H : Hp) (l : List Addr) : Same (cutH H l) H := fun p o h => by
  unfold cutH at h
  split at h
  · cases h
  · exact h
theorem cutH_fresh {H : Hp} {l : List Addr} (h : l.Nodup) : Fresh (cutH H l) l := ⟨h, fun b hb => if_pos hb⟩
theorem rows_cutH {H : Hp} {l : List Addr} {a : Addr} {as : List Addr} {xss : List (List Int)} (h : RowsAt H a as xss) (hn : ∀ p ∈ a :: as, p ∉ l) : RowsAt (cutH H l) a as xss :=
  ⟨by rw [cutH_at (hn a List.mem_cons_self)]; exact h.top, h.row.mono fun b hb o e => by rw [cutH_at (hn b (List.mem_cons_of_mem _ hb))]; exact e⟩
theorem same_cutH {H H' : Hp} {l : List Addr} (s : Same H H') (fr : Fresh H l) : Same H (cutH H' l) := fun b o e => by
  rw [cutH_at (fun z => by rw [fr.no b z] at e; cases e)]
  exact s b o e
theorem eqF_bools2 {H : Hp} {Q : VK} {a b : Addr} {xs : List Bool} (ha : H a = some (.lst (xs.map V.bl))) (hb : H b = some (.lst (xs.map V.bl))) (q : Q (.bl true) H) : rEqF (.ref a) (.ref b) H Q := by
  have dp : ∀ xs : List Bool, DpAll H (xs.map V.bl) (xs.map PyData.bool) := fun xs => by
    induction xs with
    | nil => exact .nil
    | cons x xs ih => exact .cons (.bl x) ih
  have sh : ∀ xs : List Bool, PyData.canLayAll0 (xs.map PyData.bool) = true ∧ PyData.depthAll (xs.map PyData.bool) = 0 := fun xs => by
    induction xs with
    | nil => simp [PyData.canLayAll0, PyData.depthAll]
    | cons x xs ih => simp [PyData.canLayAll0, PyData.depthAll, PyData.canLay0, PyData.depth, ih.1, ih.2]
  have ev : ∀ xs : List Bool, PyData.eqvAll (xs.map PyData.bool) (xs.map PyData.bool) = true := fun xs => by
    induction xs with
    | nil => simp [PyData.eqvAll]
    | cons x xs ih => cases x <;> simp [PyData.eqvAll, PyData.eqv, ih] <;> rfl
  have s : SeqAt.shaped (.list (xs.map PyData.bool)) = true := by simp [SeqAt.shaped, PyData.canLay0, PyData.depth, (sh xs).1, (sh xs).2]
  exact ⟨_, _, .lst ha (dp xs), .lst hb (dp xs), s, s, by simp only [PyData.eqv]; rw [ev]; exact q⟩
/-- two pairs of the same rows -/
theorem eqF_pair {H : Hp} {Q : VK} {t u a b c d : Addr} {as bs cs ds : List Addr} {A B : List (List Int)} (ht : H t = some (.tup [.ref a, .ref b])) (hu : H u = some (.tup [.ref c, .ref d])) (ha : RowsAt H a as A) (hb : RowsAt H b bs B) (hc : RowsAt H c cs A) (hd : RowsAt H d ds B) (q : Q (.bl true) H) : rEqF (.ref t) (.ref u) H Q := by
  have e : PyData.eqvAll [.list (A.map rowP), .list (B.map rowP)] [.list (A.map rowP), .list (B.map rowP)] = true := by
    simp [PyData.eqvAll, PyData.eqv, rows_eqv]
  obtain ⟨c1, d1⟩ := rows_lay A
  obtain ⟨c2, d2⟩ := rows_lay B
  have s : SeqAt.shaped (.tuple [.list (A.map rowP), .list (B.map rowP)]) = true := by
    simp [SeqAt.shaped, PyData.canLay0, PyData.depth, PyData.canLayAll0, PyData.depthAll, c1, c2]
    omega
  exact ⟨_, _, .tup ht (.cons (dp_rows ha) (.cons (dp_rows hb) .nil)), .tup hu (.cons (dp_rows hc) (.cons (dp_rows hd) .nil)), s, s, by simp only [PyData.eqv]; rw [e]; exact q⟩
/-! ### the law -/
abbrev s_law : Stmt := top 38
theorem sc_law : FnScope ["script", "row", "first", "second", "way", "columns", "handed", "due"] ["script"] (defScope s_law) := ⟨rfl, rfl, rfl, by decide +kernel, rfl, by decide +kernel, by decide +kernel⟩

theorem ok_law {f : Addr} {fd : FuncData} (F : Fun K "law" "law" s_law f fd) (T : Bl mg)
    (C_law_drawn : Cal P w K mg base 1 "_law_drawn" ["script", "k", "many"] (spDrawn K)) (C_law_row_by : Cal P w K mg base 2 "_law_row_by" ["script", "bound"] (spRowBy K)) (C_law_laid : Cal P w K mg base 2 "_law_laid" ["row"] spLaid) (C_law_filling_by : Cal P w K mg base 2 "_law_filling_by" ["script", "lengths"] (spFilling K))
    (C_law_spoilt : Cal P w K mg base 2 "_law_spoilt" ["script", "rows", "way"] (spSpoil K)) (C_law_good : Cal P w K mg base 2 "_law_good" ["first", "second"] spGood) (C_law_marks : Cal P w K mg base 6 "_law_marks" ["first", "second"] spMarks) : FnOk P w K mg base CX0 8 f fd ["script"] (spLaw K) := by
  refine F.ok sc_law (fun vs H Q E h => ?_) (fun cdv A outer s H vs Q E hr h => ?_)
  · obtain ⟨a, ns, rfl, _⟩ := h; rfl
  · obtain ⟨a, ns, rfl, hS, hl, q⟩ := h
    refine ⟨_, (pss_cons (ps_set (i := 1) sc_law.nd rfl (Or.inl rfl) (pe_cl C_law_row_by (hr.mono (by decide)) (by rfl) (pa_cons (pv 0) (pa_cons pe_int pa_nil))))
      (pss_cons (ps_if (pt_cmpR (f_eqF (hu64 hr)) (pe_callB f_len (by rfl) T.len BI.len (pa_cons (pv 1) pa_nil)) pe_int (nomark _)) (pss_one (ps_set (i := 1) sc_law.nd rfl (Or.inl rfl) (pe_lst (pa_cons (pe_cl C_law_drawn (hr.mono (by decide)) (by rfl) (pa_cons (pv 0) (pa_cons pe_int (pa_cons pe_int pa_nil)))) pa_nil)))) pss_nil)
      (pss_cons (ps_set (i := 2) sc_law.nd rfl (Or.inr rfl) (pe_ix f_ix (pe_cl C_law_laid (hr.mono (by decide)) (by rfl) (pa_cons (pv 1) pa_nil)) pe_int (fun _ _ => rfl)))
      (pss_cons (ps_set (i := 3) sc_law.nd rfl (Or.inl rfl) (pe_cl C_law_filling_by (hr.mono (by decide)) (by rfl) (pa_cons (pv 0) (pa_cons (pe_comp (cp := []) (M := ["part"]) rfl ⟨rfl, rfl, rfl, rfl, rfl, rfl, rfl⟩ (by decide +kernel) (pi_l (pv 2)) (fun _ _ _ _ _ => pts_nil) (fun _ _ _ _ _ => (pe_callB f_len (by rfl) T.len BI.len (pa_cons (pv 0) pa_nil)))) pa_nil))))
      (pss_cons (ps_set (i := 4) sc_law.nd rfl (Or.inl rfl) (pe_cl C_law_drawn (hr.mono (by decide)) (by rfl) (pa_cons (pv 0) (pa_cons pe_int (pa_cons pe_int pa_nil)))))
      (pss_cons (ps_if (pt_cmpR (f_eqF (hu64 hr)) (pv 4) pe_int (nomark _)) (pss_cons (ps_compC (i := 5) sc_law.nd rfl rfl (cp := [2]) (M := ["j", "first"]) rfl ⟨rfl, rfl, rfl, fun _ _ => rfl, fun _ => rfl, rfl, rfl, rfl, rfl⟩ (by decide +kernel) (pi_range1 (by rfl) T.range (pa_cons (pe_callB f_len (by rfl) T.len BI.len (pa_cons (pe_ix f_ix (pv 2) pe_int (fun _ _ => rfl)) pa_nil)) pa_nil)) (fun _ _ _ _ _ => pts_nil) (fun _ _ _ _ _ => (pe_callB f_len (by rfl) T.len BI.len (pa_cons (pe_comp (cp := [0]) (M := ["part", "j"]) rfl ⟨rfl, rfl, rfl, rfl, rfl, rfl, rfl⟩ (by decide +kernel) (pi_lK (K := K) rfl (pv 1)) (fun _ _ _ _ _ => (pts_one (pt_cmpR f_gt (pe_callB f_len (by rfl) T.len BI.len (pa_cons (pv 0) pa_nil)) (pv 1) (nomark _)))) (fun _ _ _ _ _ => (pv 0))) pa_nil))))
      (pss_one (ps_set (i := 3) sc_law.nd rfl (Or.inl rfl) (pe_cl C_law_filling_by (hr.mono (by decide)) (by rfl) (pa_cons (pv 0) (pa_cons (pv 5) pa_nil)))))) pss_nil)
      (pss_cons (ps_if (pt_cmpR f_lt (pv 4) pe_int (nomark _)) (pss_one (ps_expr (pe_cl C_law_spoilt (hr.mono (by decide)) (by rfl) (pa_cons (pv 0) (pa_cons (pv 3) (pa_cons (pv 4) pa_nil)))))) (pss_one (ps_if (pt_cmpR f_lt (pv 4) pe_int (nomark _)) (pss_one (ps_expr (pe_cl C_law_spoilt (hr.mono (by decide)) (by rfl) (pa_cons (pv 0) (pa_cons (pv 2) (pa_cons (pe_op f_sub (pv 4) pe_int) pa_nil)))))) pss_nil)))
      (pss_cons (ps_set (i := 6) sc_law.nd rfl (Or.inl rfl) (pe_tup (pa_cons (pe_comp (cp := []) (M := ["part"]) rfl ⟨rfl, rfl, rfl, rfl, rfl, rfl, rfl⟩ (by decide +kernel) (pi_l (pv 2)) (fun _ _ _ _ _ => pts_nil) (fun _ _ _ _ _ => (pe_callTy f_list (by rfl) T.list BI.list (pa_cons (pv 0) pa_nil)))) (pa_cons (pe_comp (cp := []) (M := ["part"]) rfl ⟨rfl, rfl, rfl, rfl, rfl, rfl, rfl⟩ (by decide +kernel) (pi_l (pv 3)) (fun _ _ _ _ _ => pts_nil) (fun _ _ _ _ _ => (pe_callTy f_list (by rfl) T.list BI.list (pa_cons (pv 0) pa_nil)))) pa_nil))))
      (pss_cons (ps_set (i := 7) sc_law.nd rfl (Or.inl rfl) (pe_lst pa_nil))
      (pss_cons (ps_if (pt_not (pt_val (pe_cl C_law_good (hr.mono (by decide)) (by rfl) (pa_cons (pv 2) (pa_cons (pv 3) pa_nil))))) (pss_one (ps_set (i := 7) sc_law.nd rfl (Or.inl rfl) (pe_lst (pa_cons pe_bl (pa_cons pe_bl (pa_cons pe_bl (pa_cons pe_bl (pa_cons pe_bl (pa_cons pe_bl pa_nil))))))))) pss_nil)
      (pss_one (ps_ret (pe_and (pe_cmpR (f_eqF (hu64 hr)) (pe_cl C_law_marks (hr.mono (by decide)) (by rfl) (pa_cons (pe_ix f_ix (pv 6) pe_int (fun _ _ => rfl)) (pa_cons (pe_ix f_ix (pv 6) pe_int (fun _ _ => rfl)) pa_nil))) (pv 7) (nomark _)) (pe_one (pe_cmpR (f_eqF (hu64 hr)) (pv 6) (pe_tup (pa_cons (pv 2) (pa_cons (pv 3) pa_nil))) (nomark _)))))))))))))))), ?_⟩
    have e0 : start ["script", "row", "first", "second", "way", "columns", "handed", "due"] [V.ref a] = [some (.ref a), none, none, none, none, none, none, none] := rfl
    rw [e0]
    have draw : ∀ {H : Hp} {k m : Int} {Q : VK} {E : XK}, SqL K H a (ns.map V.int) → 0 ≤ k → k < 1000 → 0 < m → Q (.int (drawnZ ns k m)) H → spDrawn K [.ref a, .int k, .int m] H Q E := fun hS hk0 hk1 hm q => ⟨a, ns, _, _, rfl, hS, hl, hk0, hk1, hm, q⟩
    have lr := rowZ_len ns (bound := 9) (by decide)
    have mh := many_hi ns (bound := 9) (by decide)
    have nd0 := rowZ_nodup ns 9
    -- the row
    refine cut2 (fun σ H1 => ∃ (r : Addr) (row : List Int), σ = [some (.ref a), some (.ref r), none, none, none, none, none, none] ∧ Same H H1 ∧ H1 r = some (.lst (row.map V.int)) ∧ row.Nodup ∧ row ≠ [] ∧ row.length ≤ 9) (fun R' h => ?_) ?_
    · simp
      refine ⟨a, ns, 9, rfl, hS, hl, by decide, by decide, fun r H1 s1 hr1 h1 => ?_⟩
      generalize hrow : rowZ ns 9 = row at *
      have l9 : row.length ≤ 9 := by omega
      simp [onS_of h1]
      by_cases c : row = []
      · rw [if_pos c]
        refine draw (s1.seq hS) (by decide) (by decide) (by decide) ?_
        refine ⟨line3 (by decide), fun p hp => ?_⟩
        exact h _ _ ⟨p, [_], rfl, s1.trans (Same.upd_new hp), upd_same, by simp, by simp, by simp⟩
      · rw [if_neg c]
        exact h _ _ ⟨r, row, rfl, s1, h1, nd0, c, l9⟩
    clear lr mh nd0
    rintro σ H1 ⟨r, row, rfl, s1, h1, nd, rne, l9⟩
    obtain ⟨st, pm⟩ := laidL_stairs nd
    obtain ⟨z1, z2, z3, z4⟩ := laid_size row
    have fA : (laidL row).1.flatten.length = row.length := pm.length_eq
    have Ane : (laidL row).1 ≠ [] := fun z => by rw [z] at fA; simp at fA; exact rne (List.length_eq_zero_iff.mp fA.symm)
    -- first, second and the way
    refine cut4 (fun σ H2 => ∃ (f g : Addr) (fs gs : List Addr) (B : List (List Int)) (wy : Int) (o5 : Option V), σ = [some (.ref a), some (.ref r), some (.ref f), some (.ref g), some (.int wy), o5, none, none] ∧ Same H H2 ∧ RowsAt H2 f fs (laidL row).1 ∧ RowsAt H2 g gs B ∧ Fresh H (f :: fs) ∧ Fresh H (g :: gs) ∧ (∀ p ∈ f :: fs, p ∉ g :: gs) ∧ B ≠ [] ∧ (∀ x ∈ B, x ≠ []) ∧ B.length ≤ 40 ∧ B.flatten.length ≤ 40) (fun R' h => ?_) ?_
    · simp
      refine ⟨r, row, rfl, h1, by omega, fun t f fs g0 gs0 H2 s2 ht2 h2 hf hg0 fr => ?_⟩
      have e1 : atI [V.ref f, V.ref g0] 0 = some (.ref f) := atI_nat (j := 0) rfl
      simp [onS_ofT h2, e1]
      have frf : Fresh H (f :: fs) := by
        have fr1 : Fresh H1 (f :: fs) := ⟨(List.nodup_append.mp fr.nd).1, fun b hb => fr.no b (List.mem_append_left _ hb)⟩
        exact fr1.old s1
      have sm : ∀ x ∈ (laidL row).1, x.length ≤ 9 := fun x hx => by have := z3 x hx; omega
      have ndr := (List.reverse_perm row).nodup_iff.mpr nd
      obtain ⟨stR, pmR⟩ := laidL_stairs ndr
      have eT := laid_rev nd
      rw [eT] at stR pmR
      have fT := pmR.length_eq
      rw [List.length_reverse] at fT
      clear eT pmR ndr
      generalize (laidL row).1 = A at *
      refine comp_lens (a := f) (fun R h => by simpa using h) hf (by omega) (fun D hD => ?_)
      have s3 := Same.upd_new (o := HO.lst ((A.map fun r => (r.length : Int)).map V.int)) hD
      have en : (A.map fun r => (r.length : Int)) = natZ (lensN A) := by unfold natZ lensN; rw [List.map_map]; rfl
      have fl : A.flatten.length = (lensN A).sum := by rw [List.length_flatten]; rfl
      have hf3 := hf.same s3
      refine ⟨a, ns, D, lensN A, rfl, ((s1.trans s2).trans s3).seq hS, hl, by rw [upd_same, en], ?_, fun x hx => lens_pos st hx, by unfold lensN; rw [List.length_map]; omega, by omega, fun ps g gs H4 v1 v2 v3 s4 r4 fr4 => ?_⟩
      · unfold lensN
        exact List.Pairwise.map _ (fun r s (h : s.length ≤ r.length) => h) st.dec
      have s14 := ((s1.trans s2).trans s3).trans s4
      have hf4 := hf3.same s4
      have mk : ∀ {ps : List Nat} {g : Addr} {gs : List Addr} {H5 H6 : Hp} {wy : Int} {o5 : Option V}, Val ps → ps.length ≤ 40 → 0 < ps.length → Same H5 H6 → Same H H5 → RowsAt H5 f fs A → RowsAt H6 g gs (growAll ps) → Fresh H5 (g :: gs) → R' { nx := fun x H' => Q V.non H', rt := Q } [some (.ref a), some (.ref r), some (.ref f), some (.ref g), some (.int wy), o5, none, none] H6 := fun {ps g gs H5 H6 wy o5} hv hp hp0 s56 s5 hf5 hg6 fr5 => by
        have fq : (growAll ps).flatten.length = ps.length := by rw [(val_perm hv).length_eq]; simp
        have sq := val_stairs hv
        have lq : (growAll ps).length ≤ (growAll ps).flatten.length := rows_le sq.pos
        refine h _ _ ⟨f, g, fs, gs, growAll ps, wy, o5, rfl, s5.trans s56, hf5.same s56, hg6, frf, fr5.old s5, fun p hp z => rows_some8 hf5 p hp (fr5.no p z), fun z => ?_, sq.pos, by omega, by omega⟩
        rw [z] at fq
        simp at fq
        omega
      have lp : ps.length ≤ 40 := by omega
      have lp0 : 0 < ps.length := by have := List.length_pos_iff.mpr rne; omega
      simp
      refine draw (s14.seq hS) (by decide) (by decide) (by decide) ?_
      simp
      by_cases c8 : drawnZ ns 405 9 = 8
      · rw [if_pos c8]
        obtain ⟨r0, A0, eA⟩ : ∃ r0 A0, A = r0 :: A0 := by
          cases A with
          | nil => exact absurd rfl Ane
          | cons r0 A0 => exact ⟨r0, A0, rfl⟩
        have e0 : A[0]? = some r0 := by rw [eA]; rfl
        have ew : width A = r0.length := by rw [eA]; rfl
        have l0 : r0.length ≤ 9 := sm r0 (List.mem_of_getElem? e0)
        obtain ⟨p0, ep0, hp0⟩ := RowsL.get hf4.row e0
        have a0 := atI_ref ep0
        refine comp_rngG (n := width A) (fun R h => ?_) (by omega) (fun j => V.int ((column A j).length : Int)) (fun j hj H' s' R h => ?_) (fun G H5 hG s5 h5 => ?_)
        · have a0' : atI (fs.map V.ref) 0 = some (.ref p0) := a0
          simp [onS_of hf4.top, a0', onS_of hp0]
          rw [← ew]
          exact h
        · have hf' := hf4.same s'
          have lf' := RowsL.len hf'.row
          simp [cst]
          refine comp_listP (a := f) (fun R h => by simpa using h) hf'.top (fun v => decide (j < (lstAt H' v).length)) id (by rw [List.length_map]; omega) (fun v hv H3 s3 R h => ?_) (fun v hv _ H3 s3 R h => by simpa [cst] using h) (fun D hD => ?_)
          · obtain ⟨b, ys, rfl, hb, hx, e⟩ := mem_row hf'.row hv
            rw [lstAt_of e] at h
            simp [cst, onS_of (s3 _ _ e)]
            simpa using h
          · obtain ⟨bs, eb, rb⟩ := rows_filt hf'.row (fun v => decide (j < (lstAt H' v).length)) (fun r => decide (j < r.length)) (fun b xs e => by rw [lstAt_of e, List.length_map])
            have lb := RowsL.len rb
            rw [List.map_id, eb]
            simp [onS_of upd_same]
            have ec : (column A j).length = bs.length := by unfold column; rw [List.length_map, lb]
            rw [← ec]
            exact h _ (Same.upd_new hD)
        have en2 : (List.range (width A)).map (fun j => V.int ((column A j).length : Int)) = (natZ (lensN (turnedP A))).map V.int := by
          unfold natZ lensN turnedP
          rw [List.map_map, List.map_map, List.map_map]; rfl
        rw [en2] at h5
        have fl2 : (turnedP A).flatten.length = (lensN (turnedP A)).sum := by rw [List.length_flatten]; rfl
        have lt : (lensN (turnedP A)).length ≤ 9 := by unfold lensN turnedP; simp; omega
        have sH5 := s14.trans s5
        refine ⟨a, ns, G, lensN (turnedP A), rfl, sH5.seq hS, hl, h5, ?_, fun x hx => lens_pos stR hx, by omega, by omega, fun ps g gs H6 v1 v2 v3 s6 r6 fr6 => ?_⟩
        · unfold lensN
          exact List.Pairwise.map _ (fun r s (h : s.length ≤ r.length) => h) stR.dec
        · have := List.length_pos_iff.mpr rne
          exact mk v1 (by omega) (by omega) s6 sH5 (hf4.same s5) r6 fr6
      · rw [if_neg c8]
        exact mk v1 lp lp0 s4 ((s1.trans s2).trans s3) hf3 r4 fr4
    rintro σ H2 ⟨f, g, fs, gs, B, wy, o5, rfl, s2, hf, hg, ff, fg, dj, Bne, Bp, lB, lfB⟩
    generalize (laidL row).1 = A at *
    refine cut1 (fun σ H3 => ∃ (fs gs : List Addr) (A B : List (List Int)), σ = [some (.ref a), some (.ref r), some (.ref f), some (.ref g), some (.int wy), o5, none, none] ∧ RowsAt H3 f fs A ∧ RowsAt H3 g gs B ∧ A.length < 64 ∧ B.length < 64 ∧ A.flatten.length < 64 ∧ B.flatten.length < 64) (fun R' h => ?_) ?_
    · simp
      by_cases w4 : wy < 4
      · rw [if_pos w4]
        have S0 := same_cutH s2 fg
        refine ⟨a, ns, g, gs, B, wy, cutH H2 (g :: gs), rfl, S0.seq hS, hl, hg, Bne, Bp, lB, lfB, cutH_same _ _, cutH_fresh fg.nd, fun gs' B' H3 s3 hg' _ l1 l2 => ?_⟩
        exact h _ _ ⟨fs, gs', A, B', rfl, (rows_cutH hf dj).same s3, hg', by omega, by omega, by omega, by omega⟩
      · rw [if_neg w4]
        by_cases w7 : wy < 7
        · rw [if_pos w7]
          have S0 := same_cutH s2 ff
          refine ⟨a, ns, f, fs, A, wy - 4, cutH H2 (f :: fs), rfl, S0.seq hS, hl, hf, Ane, st.pos, by omega, by omega, cutH_same _ _, cutH_fresh ff.nd, fun fs' A' H3 s3 hf' _ l1 l2 => ?_⟩
          exact h _ _ ⟨fs', gs, A', B, rfl, hf', (rows_cutH hg fun p hp z => dj p z hp).same s3, by omega, by omega, by omega, by omega⟩
        · rw [if_neg w7]
          exact h _ _ ⟨fs, gs, A, B, rfl, hf, hg, by omega, by omega, by omega, by omega⟩
    clear st pm z1 z2 z3 z4 fA Ane hf hg ff fg dj Bne Bp lB lfB s2
    rintro σ H3 ⟨fs, gs, A, B, rfl, hf, hg, y1, y2, y3, y4⟩
    rw [rd_seq, rd_asg, rd_tup, rd_cons]
    refine comp_copy (a := f) (fun R h => by simpa using h) hf (by omega) (fun x xs H6 hx s6 rx frx => ?_)
    rw [rd_cons]
    refine comp_copy (a := g) (fun R h => by simpa using h) (hg.same s6) (by omega) (fun y ys H7 hy s7 ry fry => ?_)
    rw [rd_nil]
    refine ⟨line3 (by simp), fun ha hha => ?_⟩
    have s8 := Same.upd_new (o := HO.tup [V.ref x, V.ref y]) hha
    have s28 := (s6.trans s7).trans s8
    rw [rd_name]
    dsimp only [List.set_cons_succ, List.set_cons_zero]
    have hh8 : upd H7 ha (HO.tup [V.ref x, V.ref y]) ha = some (HO.tup [V.ref x, V.ref y]) := upd_same
    have rx8 := (rx.same s7).same s8
    have ry8 := ry.same s8
    generalize upd H7 ha (HO.tup [V.ref x, V.ref y]) = H8 at *
    have hf8 := hf.same s28
    have hg8 := hg.same s28
    have b0 : atI [V.ref x, V.ref y] 0 = some (.ref x) := atI_nat (j := 0) rfl
    have b1 : atI [V.ref x, V.ref y] 1 = some (.ref y) := atI_nat (j := 1) rfl
    -- due
    refine cut2 (fun σ H9 => ∃ du : Addr, σ = [some (.ref a), some (.ref r), some (.ref f), some (.ref g), some (.int wy), o5, some (.ref ha), some (.ref du)] ∧ Same H8 H9 ∧ H9 du = some (.lst ((marksB (pairB A B)).map V.bl))) (fun R' h => ?_) ?_
    · simp
      intro du hdu
      have s9 := Same.upd_new (o := HO.lst []) hdu
      refine ⟨f, fs, A, g, gs, B, rfl, hf8.same s9, hg8.same s9, y1, y2, y3, y4, fun H9 s10 => ?_⟩
      cases hb : pairB A B with
      | true =>
        simp
        exact h _ _ ⟨du, rfl, s9.trans s10, by rw [s10 _ _ upd_same, hb]; rfl⟩
      | false =>
        simp
        refine ⟨line3 (by decide), fun p hp => ?_⟩
        exact h _ _ ⟨p, rfl, (s9.trans s10).trans (Same.upd_new hp), by rw [upd_same, hb]; rfl⟩
    rintro σ H9 ⟨du, rfl, s9, hdu⟩
    have hh9 := s9 _ _ hh8
    simp [onS_ofT hh9, b0, b1]
    refine ⟨x, xs, A, y, ys, B, rfl, rx8.same s9, ry8.same s9, y1, y2, y3, y4, fun m H10 s10 hm => ?_⟩
    refine eqF_bools2 hm (s10 _ _ hdu) ?_
    simp
    refine ⟨line3 (by decide), fun u hu => ?_⟩
    have s11 := Same.upd_new (o := HO.tup [V.ref f, V.ref g]) hu
    have S := (s9.trans s10).trans s11
    exact eqF_pair (s11 _ _ (s10 _ _ hh9)) upd_same (rx8.same S) (ry8.same S) (hf8.same S) (hg8.same S) (q _)
end
end SR

namespace SR
open PySem L2 RS PySem.Spec PyProof.Rows
theorem all_mk {l : PySem.W.OpenLaw} {w : World} {K : PySem.W.Frag} {h : Heap} {mg : Str → Option Value} {fa f0 f1 f2 f3 f4 f5 f6 f7 f8 f9 f10 f11 f12 f13 f14 f15 f16 f17 f18 f19 f20 f21 f22 f23 f24 f25 : Addr} (X : K.In h) (G : h.Ns mainGlobals mg) (hfa : mg "law" = some (.ref fa))
    {od0 an0 od1 an1 od2 an2 od3 an3 od4 an4 od5 an5 od6 an6 od7 an7 od8 an8 od9 an9 od10 an10 od11 an11 od12 an12 od13 an13 od14 an14 od15 an15 od16 an16 od17 an17 od18 an18 od19 an19 od20 an20 od21 an21 od22 an22 od23 an23 od24 an24 od25 an25 : Option Addr} {sl0 sl1 sl2 sl3 sl4 sl5 sl6 sl7 sl8 sl9 sl10 sl11 sl12 sl13 sl14 sl15 sl16 sl17 sl18 sl19 sl20 sl21 sl22 sl23 sl24 sl25 : Array (Option Value)} {oc0 kV0 dc0 pm0 cd0 ct0 oc1 kV1 dc1 pm1 cd1 ct1 oc2 kV2 dc2 pm2 cd2 ct2 oc3 kV3 dc3 pm3 cd3 ct3 oc4 kV4 dc4 pm4 cd4 ct4 oc5 kV5 dc5 pm5 cd5 ct5 oc6 kV6 dc6 pm6 cd6 ct6 oc7 kV7 dc7 pm7 cd7 ct7 oc8 kV8 dc8 pm8 cd8 ct8 oc9 kV9 dc9 pm9 cd9 ct9 oc10 kV10 dc10 pm10 cd10 ct10 oc11 kV11 dc11 pm11 cd11 ct11 oc12 kV12 dc12 pm12 cd12 ct12 oc13 kV13 dc13 pm13 cd13 ct13 oc14 kV14 dc14 pm14 cd14 ct14 oc15 kV15 dc15 pm15 cd15 ct15 oc16 kV16 dc16 pm16 cd16 ct16 oc17 kV17 dc17 pm17 cd17 ct17 oc18 kV18 dc18 pm18 cd18 ct18 oc19 kV19 dc19 pm19 cd19 ct19 oc20 kV20 dc20 pm20 cd20 ct20 oc21 kV21 dc21 pm21 cd21 ct21 oc22 kV22 dc22 pm22 cd22 ct22 oc23 kV23 dc23 pm23 cd23 ct23 oc24 kV24 dc24 pm24 cd24 ct24 oc25 kV25 dc25 pm25 cd25 ct25 : Value}
    (a0 : PySem.W.nsIn K mainGlobals "_law_drawn" = some (some (.ref f0))) (l0 : K.lookup f0 = some ⟨oc0, od0, .func (PySem.W.fnOf "_law_drawn" "_law_drawn" (defArgs s_law_drawn) (defBody s_law_drawn) (defScope s_law_drawn) .none kV0 dc0 pm0 an0 cd0 ct0), sl0⟩) (c0 : PySem.W.codeIn K cd0 "_law_drawn" = true) (k0 : PySem.W.keepIn K (.ref f0) = true)
    (a1 : PySem.W.nsIn K mainGlobals "_law_row_by" = some (some (.ref f1))) (l1 : K.lookup f1 = some ⟨oc1, od1, .func (PySem.W.fnOf "_law_row_by" "_law_row_by" (defArgs s_law_row_by) (defBody s_law_row_by) (defScope s_law_row_by) .none kV1 dc1 pm1 an1 cd1 ct1), sl1⟩) (c1 : PySem.W.codeIn K cd1 "_law_row_by" = true) (k1 : PySem.W.keepIn K (.ref f1) = true)
    (a2 : PySem.W.nsIn K mainGlobals "_law_lay" = some (some (.ref f2))) (l2 : K.lookup f2 = some ⟨oc2, od2, .func (PySem.W.fnOf "_law_lay" "_law_lay" (defArgs s_law_lay) (defBody s_law_lay) (defScope s_law_lay) .none kV2 dc2 pm2 an2 cd2 ct2), sl2⟩) (c2 : PySem.W.codeIn K cd2 "_law_lay" = true) (k2 : PySem.W.keepIn K (.ref f2) = true)
    (a3 : PySem.W.nsIn K mainGlobals "_law_laid" = some (some (.ref f3))) (l3 : K.lookup f3 = some ⟨oc3, od3, .func (PySem.W.fnOf "_law_laid" "_law_laid" (defArgs s_law_laid) (defBody s_law_laid) (defScope s_law_laid) .none kV3 dc3 pm3 an3 cd3 ct3), sl3⟩) (c3 : PySem.W.codeIn K cd3 "_law_laid" = true) (k3 : PySem.W.keepIn K (.ref f3) = true)
    (a4 : PySem.W.nsIn K mainGlobals "how_many_less" = some (some (.ref f4))) (l4 : K.lookup f4 = some ⟨oc4, od4, .func (PySem.W.fnOf "how_many_less" "how_many_less" (defArgs s_how_many_less) (defBody s_how_many_less) (defScope s_how_many_less) .none kV4 dc4 pm4 an4 cd4 ct4), sl4⟩) (c4 : PySem.W.codeIn K cd4 "how_many_less" = true) (k4 : PySem.W.keepIn K (.ref f4) = true)
    (a5 : PySem.W.nsIn K mainGlobals "with_number_at" = some (some (.ref f5))) (l5 : K.lookup f5 = some ⟨oc5, od5, .func (PySem.W.fnOf "with_number_at" "with_number_at" (defArgs s_with_number_at) (defBody s_with_number_at) (defScope s_with_number_at) .none kV5 dc5 pm5 an5 cd5 ct5), sl5⟩) (c5 : PySem.W.codeIn K cd5 "with_number_at" = true) (k5 : PySem.W.keepIn K (.ref f5) = true)
    (a6 : PySem.W.nsIn K mainGlobals "shape" = some (some (.ref f6))) (l6 : K.lookup f6 = some ⟨oc6, od6, .func (PySem.W.fnOf "shape" "shape" (defArgs s_shape) (defBody s_shape) (defScope s_shape) .none kV6 dc6 pm6 an6 cd6 ct6), sl6⟩) (c6 : PySem.W.codeIn K cd6 "shape" = true) (k6 : PySem.W.keepIn K (.ref f6) = true)
    (a7 : PySem.W.nsIn K mainGlobals "reading" = some (some (.ref f7))) (l7 : K.lookup f7 = some ⟨oc7, od7, .func (PySem.W.fnOf "reading" "reading" (defArgs s_reading) (defBody s_reading) (defScope s_reading) .none kV7 dc7 pm7 an7 cd7 ct7), sl7⟩) (c7 : PySem.W.codeIn K cd7 "reading" = true) (k7 : PySem.W.keepIn K (.ref f7) = true)
    (a8 : PySem.W.nsIn K mainGlobals "column" = some (some (.ref f8))) (l8 : K.lookup f8 = some ⟨oc8, od8, .func (PySem.W.fnOf "column" "column" (defArgs s_column) (defBody s_column) (defScope s_column) .none kV8 dc8 pm8 an8 cd8 ct8), sl8⟩) (c8 : PySem.W.codeIn K cd8 "column" = true) (k8 : PySem.W.keepIn K (.ref f8) = true)
    (a9 : PySem.W.nsIn K mainGlobals "turned" = some (some (.ref f9))) (l9 : K.lookup f9 = some ⟨oc9, od9, .func (PySem.W.fnOf "turned" "turned" (defArgs s_turned) (defBody s_turned) (defScope s_turned) .none kV9 dc9 pm9 an9 cd9 ct9), sl9⟩) (c9 : PySem.W.codeIn K cd9 "turned" = true) (k9 : PySem.W.keepIn K (.ref f9) = true)
    (a10 : PySem.W.nsIn K mainGlobals "is_shape" = some (some (.ref f10))) (l10 : K.lookup f10 = some ⟨oc10, od10, .func (PySem.W.fnOf "is_shape" "is_shape" (defArgs s_is_shape) (defBody s_is_shape) (defScope s_is_shape) .none kV10 dc10 pm10 an10 cd10 ct10), sl10⟩) (c10 : PySem.W.codeIn K cd10 "is_shape" = true) (k10 : PySem.W.keepIn K (.ref f10) = true)
    (a11 : PySem.W.nsIn K mainGlobals "all_unlike" = some (some (.ref f11))) (l11 : K.lookup f11 = some ⟨oc11, od11, .func (PySem.W.fnOf "all_unlike" "all_unlike" (defArgs s_all_unlike) (defBody s_all_unlike) (defScope s_all_unlike) .none kV11 dc11 pm11 an11 cd11 ct11), sl11⟩) (c11 : PySem.W.codeIn K cd11 "all_unlike" = true) (k11 : PySem.W.keepIn K (.ref f11) = true)
    (a12 : PySem.W.nsIn K mainGlobals "all_sorted" = some (some (.ref f12))) (l12 : K.lookup f12 = some ⟨oc12, od12, .func (PySem.W.fnOf "all_sorted" "all_sorted" (defArgs s_all_sorted) (defBody s_all_sorted) (defScope s_all_sorted) .none kV12 dc12 pm12 an12 cd12 ct12), sl12⟩) (c12 : PySem.W.codeIn K cd12 "all_sorted" = true) (k12 : PySem.W.keepIn K (.ref f12) = true)
    (a13 : PySem.W.nsIn K mainGlobals "is_stairs" = some (some (.ref f13))) (l13 : K.lookup f13 = some ⟨oc13, od13, .func (PySem.W.fnOf "is_stairs" "is_stairs" (defArgs s_is_stairs) (defBody s_is_stairs) (defScope s_is_stairs) .none kV13 dc13 pm13 an13 cd13 ct13), sl13⟩) (c13 : PySem.W.codeIn K cd13 "is_stairs" = true) (k13 : PySem.W.keepIn K (.ref f13) = true)
    (a14 : PySem.W.nsIn K mainGlobals "can_take" = some (some (.ref f14))) (l14 : K.lookup f14 = some ⟨oc14, od14, .func (PySem.W.fnOf "can_take" "can_take" (defArgs s_can_take) (defBody s_can_take) (defScope s_can_take) .none kV14 dc14 pm14 an14 cd14 ct14), sl14⟩) (c14 : PySem.W.codeIn K cd14 "can_take" = true) (k14 : PySem.W.keepIn K (.ref f14) = true)
    (a15 : PySem.W.nsIn K mainGlobals "take_out" = some (some (.ref f15))) (l15 : K.lookup f15 = some ⟨oc15, od15, .func (PySem.W.fnOf "take_out" "take_out" (defArgs s_take_out) (defBody s_take_out) (defScope s_take_out) .none kV15 dc15 pm15 an15 cd15 ct15), sl15⟩) (c15 : PySem.W.codeIn K cd15 "take_out" = true) (k15 : PySem.W.keepIn K (.ref f15) = true)
    (a16 : PySem.W.nsIn K mainGlobals "grown_rows" = some (some (.ref f16))) (l16 : K.lookup f16 = some ⟨oc16, od16, .func (PySem.W.fnOf "grown_rows" "grown_rows" (defArgs s_grown_rows) (defBody s_grown_rows) (defScope s_grown_rows) .none kV16 dc16 pm16 an16 cd16 ct16), sl16⟩) (c16 : PySem.W.codeIn K cd16 "grown_rows" = true) (k16 : PySem.W.keepIn K (.ref f16) = true)
    (a17 : PySem.W.nsIn K mainGlobals "does_count" = some (some (.ref f17))) (l17 : K.lookup f17 = some ⟨oc17, od17, .func (PySem.W.fnOf "does_count" "does_count" (defArgs s_does_count) (defBody s_does_count) (defScope s_does_count) .none kV17 dc17 pm17 an17 cd17 ct17), sl17⟩) (c17 : PySem.W.codeIn K cd17 "does_count" = true) (k17 : PySem.W.keepIn K (.ref f17) = true)
    (a18 : PySem.W.nsIn K mainGlobals "is_pair" = some (some (.ref f18))) (l18 : K.lookup f18 = some ⟨oc18, od18, .func (PySem.W.fnOf "is_pair" "is_pair" (defArgs s_is_pair) (defBody s_is_pair) (defScope s_is_pair) .none kV18 dc18 pm18 an18 cd18 ct18), sl18⟩) (c18 : PySem.W.codeIn K cd18 "is_pair" = true) (k18 : PySem.W.keepIn K (.ref f18) = true)
    (a19 : PySem.W.nsIn K mainGlobals "taken" = some (some (.ref f19))) (l19 : K.lookup f19 = some ⟨oc19, od19, .func (PySem.W.fnOf "taken" "taken" (defArgs s_taken) (defBody s_taken) (defScope s_taken) .none kV19 dc19 pm19 an19 cd19 ct19), sl19⟩) (c19 : PySem.W.codeIn K cd19 "taken" = true) (k19 : PySem.W.keepIn K (.ref f19) = true)
    (a20 : PySem.W.nsIn K mainGlobals "_law_marks" = some (some (.ref f20))) (l20 : K.lookup f20 = some ⟨oc20, od20, .func (PySem.W.fnOf "_law_marks" "_law_marks" (defArgs s_law_marks) (defBody s_law_marks) (defScope s_law_marks) .none kV20 dc20 pm20 an20 cd20 ct20), sl20⟩) (c20 : PySem.W.codeIn K cd20 "_law_marks" = true) (k20 : PySem.W.keepIn K (.ref f20) = true)
    (a21 : PySem.W.nsIn K mainGlobals "_law_stairs" = some (some (.ref f21))) (l21 : K.lookup f21 = some ⟨oc21, od21, .func (PySem.W.fnOf "_law_stairs" "_law_stairs" (defArgs s_law_stairs) (defBody s_law_stairs) (defScope s_law_stairs) .none kV21 dc21 pm21 an21 cd21 ct21), sl21⟩) (c21 : PySem.W.codeIn K cd21 "_law_stairs" = true) (k21 : PySem.W.keepIn K (.ref f21) = true)
    (a22 : PySem.W.nsIn K mainGlobals "_law_good" = some (some (.ref f22))) (l22 : K.lookup f22 = some ⟨oc22, od22, .func (PySem.W.fnOf "_law_good" "_law_good" (defArgs s_law_good) (defBody s_law_good) (defScope s_law_good) .none kV22 dc22 pm22 an22 cd22 ct22), sl22⟩) (c22 : PySem.W.codeIn K cd22 "_law_good" = true) (k22 : PySem.W.keepIn K (.ref f22) = true)
    (a23 : PySem.W.nsIn K mainGlobals "_law_spoilt" = some (some (.ref f23))) (l23 : K.lookup f23 = some ⟨oc23, od23, .func (PySem.W.fnOf "_law_spoilt" "_law_spoilt" (defArgs s_law_spoilt) (defBody s_law_spoilt) (defScope s_law_spoilt) .none kV23 dc23 pm23 an23 cd23 ct23), sl23⟩) (c23 : PySem.W.codeIn K cd23 "_law_spoilt" = true) (k23 : PySem.W.keepIn K (.ref f23) = true)
    (a24 : PySem.W.nsIn K mainGlobals "_law_filling_by" = some (some (.ref f24))) (l24 : K.lookup f24 = some ⟨oc24, od24, .func (PySem.W.fnOf "_law_filling_by" "_law_filling_by" (defArgs s_law_filling_by) (defBody s_law_filling_by) (defScope s_law_filling_by) .none kV24 dc24 pm24 an24 cd24 ct24), sl24⟩) (c24 : PySem.W.codeIn K cd24 "_law_filling_by" = true) (k24 : PySem.W.keepIn K (.ref f24) = true)
    (a25 : PySem.W.nsIn K mainGlobals "law" = some (some (.ref f25))) (l25 : K.lookup f25 = some ⟨oc25, od25, .func (PySem.W.fnOf "law" "law" (defArgs s_law) (defBody s_law) (defScope s_law) .none kV25 dc25 pm25 an25 cd25 ct25), sl25⟩) (c25 : PySem.W.codeIn K cd25 "law" = true) (k25 : PySem.W.keepIn K (.ref f25) = true)
    {cNoStairs : Addr} (x_NoStairs : PySem.W.nsIn K mainGlobals "NoStairs" = some (some (.ref cNoStairs))) (y_NoStairs : PySem.W.excIn K cNoStairs veTail "ValueError.__new__" = true)
    {cNoPair : Addr} (x_NoPair : PySem.W.nsIn K mainGlobals "NoPair" = some (some (.ref cNoPair))) (y_NoPair : PySem.W.excIn K cNoPair veTail "ValueError.__new__" = true)
    {cNoPlace : Addr} (x_NoPlace : PySem.W.nsIn K mainGlobals "NoPlace" = some (some (.ref cNoPlace))) (y_NoPlace : PySem.W.excIn K cNoPlace veTail "ValueError.__new__" = true)
    {cNoShape : Addr} (x_NoShape : PySem.W.nsIn K mainGlobals "NoShape" = some (some (.ref cNoShape))) (y_NoShape : PySem.W.excIn K cNoShape veTail "ValueError.__new__" = true)
    {cNoNote : Addr} (x_NoNote : PySem.W.nsIn K mainGlobals "NoNote" = some (some (.ref cNoNote))) (y_NoNote : PySem.W.excIn K cNoNote veTail "ValueError.__new__" = true)
    {cStairError : Addr} (x_StairError : PySem.W.nsIn K mainGlobals "StairError" = some (some (.ref cStairError))) (y_StairError : PySem.W.excIn K cStairError veTail "ValueError.__new__" = true)
    (h_NoPair_StairError : PySem.W.mroIn K cNoPair (.ref cStairError) = some true)
    (q_NoPair_ValueError : PySem.W.kitOne K (.ref cNoPair) (.type "ValueError") = some true)
    (n_NoPair_NoStairs : PySem.W.kitOne K (.ref cNoPair) (.ref cNoStairs) = some false)
    (n_NoPair_NoPlace : PySem.W.kitOne K (.ref cNoPair) (.ref cNoPlace) = some false)
    (n_NoPair_NoShape : PySem.W.kitOne K (.ref cNoPair) (.ref cNoShape) = some false)
    (n_NoPair_NoNote : PySem.W.kitOne K (.ref cNoPair) (.ref cNoNote) = some false)
    (e1_NoPair : PySem.W.findIn K (.ref cNoPair) "__getattribute__" = some (some (.builtin "BaseException.__getattribute__"))) (e2_NoPair : PySem.W.findIn K (.ref cNoPair) "__getattr__" = some none) (e3_NoPair : PySem.W.findIn K (.ref cNoPair) "__class__" = some (some (.builtin "object.__class__")))
    (e4_NoPair : PySem.W.specialIn K (.builtin "object.__class__") "__get__" = some (some (.builtin "getset_descriptor.__get__"))) (e5_NoPair : PySem.W.takesIn K (.builtin "object.__class__") = some true) (e6_NoPair : PySem.W.mroIn K cNoPair (.type "object") = some true) (e7_NoPair : PySem.W.mroIn K cNoPair (.type "BaseException") = some true)
    (z_ValueError : PySem.W.nsIn K mainGlobals "ValueError" = some none)
    (z_len : PySem.W.nsIn K mainGlobals "len" = some none) (z_range : PySem.W.nsIn K mainGlobals "range" = some none) (z_list : PySem.W.nsIn K mainGlobals "list" = some none) (z_isinstance : PySem.W.nsIn K mainGlobals "isinstance" = some none) (z_min : PySem.W.nsIn K mainGlobals "min" = some none) (z_max : PySem.W.nsIn K mainGlobals "max" = some none) (z_sum : PySem.W.nsIn K mainGlobals "sum" = some none) (z_all : PySem.W.nsIn K mainGlobals "all" = some none) (z_set : PySem.W.nsIn K mainGlobals "set" = some none) (z_sorted : PySem.W.nsIn K mainGlobals "sorted" = some none) (z_enumerate : PySem.W.nsIn K mainGlobals "enumerate" = some none) (z_reversed : PySem.W.nsIn K mainGlobals "reversed" = some none) (z_int : PySem.W.nsIn K mainGlobals "int" = some none) (z_bool : PySem.W.nsIn K mainGlobals "bool" = some none) (z_tuple : PySem.W.nsIn K mainGlobals "tuple" = some none) (z_any : PySem.W.nsIn K mainGlobals "any" = some none) (z_str : PySem.W.nsIn K mainGlobals "str" = some none) :
    ∃ fd : FuncData, (∀ (s : Shared) (v : Value), BindsTo s fd ⟨[v], []⟩ [("script", v)]) ∧ ∀ base : Heap, K.In base → base.Ns mainGlobals mg → FnOk l.prog w K mg base CX0 8 fa fd ["script"] (spLaw K) := by
  have e := hfa.symm.trans (PySem.W.mg_of X G a25)
  cases e
  have T : Bl mg := ⟨PySem.W.mg_none_of X G z_len, PySem.W.mg_none_of X G z_range, PySem.W.mg_none_of X G z_list, PySem.W.mg_none_of X G z_isinstance, PySem.W.mg_none_of X G z_min, PySem.W.mg_none_of X G z_max, PySem.W.mg_none_of X G z_sum, PySem.W.mg_none_of X G z_all, PySem.W.mg_none_of X G z_set, PySem.W.mg_none_of X G z_sorted, PySem.W.mg_none_of X G z_enumerate, PySem.W.mg_none_of X G z_reversed, PySem.W.mg_none_of X G z_int, PySem.W.mg_none_of X G z_bool, PySem.W.mg_none_of X G z_tuple, PySem.W.mg_none_of X G z_any, PySem.W.mg_none_of X G z_str⟩
  have O_NoStairs : Own K mg "NoStairs" cNoStairs := ⟨PySem.W.mg_of X G x_NoStairs, y_NoStairs⟩
  have O_NoPair : Own K mg "NoPair" cNoPair := ⟨PySem.W.mg_of X G x_NoPair, y_NoPair⟩
  have O_NoPlace : Own K mg "NoPlace" cNoPlace := ⟨PySem.W.mg_of X G x_NoPlace, y_NoPlace⟩
  have O_NoShape : Own K mg "NoShape" cNoShape := ⟨PySem.W.mg_of X G x_NoShape, y_NoShape⟩
  have O_NoNote : Own K mg "NoNote" cNoNote := ⟨PySem.W.mg_of X G x_NoNote, y_NoNote⟩
  have O_StairError : Own K mg "StairError" cStairError := ⟨PySem.W.mg_of X G x_StairError, y_StairError⟩
  have EK_NoPair : ExK K cNoPair := ⟨e1_NoPair, e2_NoPair, e3_NoPair, e4_NoPair, e5_NoPair, e6_NoPair, e7_NoPair⟩
  have VE : BtT mg "ValueError" "ValueError" := ⟨PySem.W.mg_none_of X G z_ValueError, by decide +kernel, by decide, by decide⟩
  have F0 := fun_mk (st := s_law_drawn) l0 c0 k0
  have b0 := F0.binds (ps := ["script", "k", "many"]) fun _ _ _ _ _ _ us hl => match us, hl with | [_, _, _], _ => rfl
  have F1 := fun_mk (st := s_law_row_by) l1 c1 k1
  have b1 := F1.binds (ps := ["script", "bound"]) fun _ _ _ _ _ _ us hl => match us, hl with | [_, _], _ => rfl
  have F2 := fun_mk (st := s_law_lay) l2 c2 k2
  have b2 := F2.binds (ps := ["rows", "number"]) fun _ _ _ _ _ _ us hl => match us, hl with | [_, _], _ => rfl
  have F3 := fun_mk (st := s_law_laid) l3 c3 k3
  have b3 := F3.binds (ps := ["row"]) fun _ _ _ _ _ _ us hl => match us, hl with | [_], _ => rfl
  have F4 := fun_mk (st := s_how_many_less) l4 c4 k4
  have b4 := F4.binds (ps := ["row", "number"]) fun _ _ _ _ _ _ us hl => match us, hl with | [_, _], _ => rfl
  have F5 := fun_mk (st := s_with_number_at) l5 c5 k5
  have b5 := F5.binds (ps := ["row", "place", "number"]) fun _ _ _ _ _ _ us hl => match us, hl with | [_, _, _], _ => rfl
  have F6 := fun_mk (st := s_shape) l6 c6 k6
  have b6 := F6.binds (ps := ["rows"]) fun _ _ _ _ _ _ us hl => match us, hl with | [_], _ => rfl
  have F7 := fun_mk (st := s_reading) l7 c7 k7
  have b7 := F7.binds (ps := ["rows"]) fun _ _ _ _ _ _ us hl => match us, hl with | [_], _ => rfl
  have F8 := fun_mk (st := s_column) l8 c8 k8
  have b8 := F8.binds (ps := ["rows", "place"]) fun _ _ _ _ _ _ us hl => match us, hl with | [_, _], _ => rfl
  have F9 := fun_mk (st := s_turned) l9 c9 k9
  have b9 := F9.binds (ps := ["rows"]) fun _ _ _ _ _ _ us hl => match us, hl with | [_], _ => rfl
  have F10 := fun_mk (st := s_is_shape) l10 c10 k10
  have b10 := F10.binds (ps := ["lengths"]) fun _ _ _ _ _ _ us hl => match us, hl with | [_], _ => rfl
  have F11 := fun_mk (st := s_all_unlike) l11 c11 k11
  have b11 := F11.binds (ps := ["rows"]) fun _ _ _ _ _ _ us hl => match us, hl with | [_], _ => rfl
  have F12 := fun_mk (st := s_all_sorted) l12 c12 k12
  have b12 := F12.binds (ps := ["rows"]) fun _ _ _ _ _ _ us hl => match us, hl with | [_], _ => rfl
  have F13 := fun_mk (st := s_is_stairs) l13 c13 k13
  have b13 := F13.binds (ps := ["rows"]) fun _ _ _ _ _ _ us hl => match us, hl with | [_], _ => rfl
  have F14 := fun_mk (st := s_can_take) l14 c14 k14
  have b14 := F14.binds (ps := ["rows", "at"]) fun _ _ _ _ _ _ us hl => match us, hl with | [_, _], _ => rfl
  have F15 := fun_mk (st := s_take_out) l15 c15 k15
  have b15 := F15.binds (ps := ["rows", "at"]) fun _ _ _ _ _ _ us hl => match us, hl with | [_, _], _ => rfl
  have F16 := fun_mk (st := s_grown_rows) l16 c16 k16
  have b16 := F16.binds (ps := ["second"]) fun _ _ _ _ _ _ us hl => match us, hl with | [_], _ => rfl
  have F17 := fun_mk (st := s_does_count) l17 c17 k17
  have b17 := F17.binds (ps := ["rows"]) fun _ _ _ _ _ _ us hl => match us, hl with | [_], _ => rfl
  have F18 := fun_mk (st := s_is_pair) l18 c18 k18
  have b18 := F18.binds (ps := ["first", "second"]) fun _ _ _ _ _ _ us hl => match us, hl with | [_, _], _ => rfl
  have F19 := fun_mk (st := s_taken) l19 c19 k19
  have b19 := F19.binds (ps := ["first", "second"]) fun _ _ _ _ _ _ us hl => match us, hl with | [_, _], _ => rfl
  have F20 := fun_mk (st := s_law_marks) l20 c20 k20
  have b20 := F20.binds (ps := ["first", "second"]) fun _ _ _ _ _ _ us hl => match us, hl with | [_, _], _ => rfl
  have F21 := fun_mk (st := s_law_stairs) l21 c21 k21
  have b21 := F21.binds (ps := ["rows"]) fun _ _ _ _ _ _ us hl => match us, hl with | [_], _ => rfl
  have F22 := fun_mk (st := s_law_good) l22 c22 k22
  have b22 := F22.binds (ps := ["first", "second"]) fun _ _ _ _ _ _ us hl => match us, hl with | [_, _], _ => rfl
  have F23 := fun_mk (st := s_law_spoilt) l23 c23 k23
  have b23 := F23.binds (ps := ["script", "rows", "way"]) fun _ _ _ _ _ _ us hl => match us, hl with | [_, _, _], _ => rfl
  have F24 := fun_mk (st := s_law_filling_by) l24 c24 k24
  have b24 := F24.binds (ps := ["script", "lengths"]) fun _ _ _ _ _ _ us hl => match us, hl with | [_, _], _ => rfl
  have F25 := fun_mk (st := s_law) l25 c25 k25
  have C0 : ∀ base : Heap, Cal l.prog w K mg base 1 "_law_drawn" ["script", "k", "many"] (spDrawn K) := fun base => ⟨_, _, ok_drawn F0 T , PySem.W.mg_of X G a0, k0, b0⟩
  have C1 : ∀ base : Heap, Cal l.prog w K mg base 2 "_law_row_by" ["script", "bound"] (spRowBy K) := fun base => ⟨_, _, ok_row_by F1 T (C0 base), PySem.W.mg_of X G a1, k1, b1⟩
  have C2 : ∀ base : Heap, Cal l.prog w K mg base 1 "_law_lay" ["rows", "number"] (spLay) := fun base => ⟨_, _, ok_lay F2 T , PySem.W.mg_of X G a2, k2, b2⟩
  have C3 : ∀ base : Heap, Cal l.prog w K mg base 2 "_law_laid" ["row"] (spLaid) := fun base => ⟨_, _, ok_laid F3 T (C2 base), PySem.W.mg_of X G a3, k3, b3⟩
  have C4 : ∀ base : Heap, Cal l.prog w K mg base 1 "how_many_less" ["row", "number"] (spLess) := fun base => ⟨_, _, ok_less F4 T , PySem.W.mg_of X G a4, k4, b4⟩
  have C5 : ∀ base : Heap, Cal l.prog w K mg base 1 "with_number_at" ["row", "place", "number"] (spWith) := fun base => ⟨_, _, ok_with F5 T , PySem.W.mg_of X G a5, k5, b5⟩
  have C6 : ∀ base : Heap, Cal l.prog w K mg base 1 "shape" ["rows"] (spShape) := fun base => ⟨_, _, ok_shape F6 T , PySem.W.mg_of X G a6, k6, b6⟩
  have C7 : ∀ base : Heap, Cal l.prog w K mg base 1 "reading" ["rows"] (spReading) := fun base => ⟨_, _, ok_reading F7 T , PySem.W.mg_of X G a7, k7, b7⟩
  have C8 : ∀ base : Heap, Cal l.prog w K mg base 1 "column" ["rows", "place"] (spColumn) := fun base => ⟨_, _, ok_column F8 T , PySem.W.mg_of X G a8, k8, b8⟩
  have C9 : ∀ base : Heap, Cal l.prog w K mg base 2 "turned" ["rows"] (spTurned) := fun base => ⟨_, _, ok_turned F9 T (C8 base), PySem.W.mg_of X G a9, k9, b9⟩
  have C10 : ∀ base : Heap, Cal l.prog w K mg base 1 "is_shape" ["lengths"] (spIsShape) := fun base => ⟨_, _, ok_is_shape F10 T , PySem.W.mg_of X G a10, k10, b10⟩
  have C11 : ∀ base : Heap, Cal l.prog w K mg base 2 "all_unlike" ["rows"] (spAllUnlike) := fun base => ⟨_, _, ok_all_unlike F11 T (C7 base) (C6 base), PySem.W.mg_of X G a11, k11, b11⟩
  have C12 : ∀ base : Heap, Cal l.prog w K mg base 1 "all_sorted" ["rows"] (spAllSorted) := fun base => ⟨_, _, ok_all_sorted F12 T , PySem.W.mg_of X G a12, k12, b12⟩
  have C13 : ∀ base : Heap, Cal l.prog w K mg base 3 "is_stairs" ["rows"] (spIsStairs) := fun base => ⟨_, _, ok_is_stairs F13 T (C6 base) (C10 base) (C11 base) (C12 base) (C9 base), PySem.W.mg_of X G a13, k13, b13⟩
  have C14 : ∀ base : Heap, Cal l.prog w K mg base 1 "can_take" ["rows", "at"] (spCanT) := fun base => ⟨_, _, ok_can_take F14 T , PySem.W.mg_of X G a14, k14, b14⟩
  have C15 : ∀ base : Heap, Cal l.prog w K mg base 2 "take_out" ["rows", "at"] (spTakeOut) := fun base => ⟨_, _, ok_take_out F15 T (C4 base) (C5 base) (C14 base), PySem.W.mg_of X G a15, k15, b15⟩
  have C16 : ∀ base : Heap, Cal l.prog w K mg base 1 "grown_rows" ["second"] (spGrown) := fun base => ⟨_, _, ok_grown F16 T , PySem.W.mg_of X G a16, k16, b16⟩
  have C17 : ∀ base : Heap, Cal l.prog w K mg base 2 "does_count" ["rows"] (spCountB) := fun base => ⟨_, _, ok_does_count F17 T (C7 base), PySem.W.mg_of X G a17, k17, b17⟩
  have C18 : ∀ base : Heap, Cal l.prog w K mg base 4 "is_pair" ["first", "second"] (spPair) := fun base => ⟨_, _, ok_pair F18 T (C13 base) (C6 base) (C17 base), PySem.W.mg_of X G a18, k18, b18⟩
  have C19 : ∀ base : Heap, CalX l.prog w K mg base 5 "taken" ["first", "second"] (spTakenX cNoPair) := fun base => ⟨⟨_, _, ok_takenX F19 T O_NoPair (C18 base) (C16 base) (C15 base), PySem.W.mg_of X G a19, k19, b19⟩⟩
  have C20 : ∀ base : Heap, Cal l.prog w K mg base 6 "_law_marks" ["first", "second"] (spMarks) := fun base => ⟨_, _, ok_marks F20 T O_NoShape O_StairError O_NoStairs O_NoPair O_NoPlace O_NoNote EK_NoPair (has_of h_NoPair_StairError) q_NoPair_ValueError n_NoPair_NoStairs n_NoPair_NoPlace n_NoPair_NoShape n_NoPair_NoNote VE (C19 base), PySem.W.mg_of X G a20, k20, b20⟩
  have C21 : ∀ base : Heap, Cal l.prog w K mg base 1 "_law_stairs" ["rows"] (spLSt) := fun base => ⟨_, _, ok_lst F21 T , PySem.W.mg_of X G a21, k21, b21⟩
  have C22 : ∀ base : Heap, Cal l.prog w K mg base 2 "_law_good" ["first", "second"] (spGood) := fun base => ⟨_, _, ok_good F22 T (C21 base), PySem.W.mg_of X G a22, k22, b22⟩
  have C23 : ∀ base : Heap, Cal l.prog w K mg base 2 "_law_spoilt" ["script", "rows", "way"] (spSpoil K) := fun base => ⟨_, _, ok_spoil F23 T (C0 base), PySem.W.mg_of X G a23, k23, b23⟩
  have C24 : ∀ base : Heap, Cal l.prog w K mg base 2 "_law_filling_by" ["script", "lengths"] (spFilling K) := fun base => ⟨_, _, ok_filling F24 T (C0 base), PySem.W.mg_of X G a24, k24, b24⟩
  exact ⟨PySem.W.fnOf "law" "law" (defArgs s_law) (defBody s_law) (defScope s_law) .none kV25 dc25 pm25 an25 cd25 ct25, fun s v => .of_eq rfl, fun base _ _ => ok_law F25 T (C0 base) (C1 base) (C3 base) (C24 base) (C23 base) (C22 base) (C20 base)⟩
theorem walk {l : PySem.W.OpenLaw} {q : Program} {loose : List Str} {XP : (Str → Option Value) → Heap → Prop} {YP : World → Heap → Prop} {d : DefRec} {K : Params → PySem.W.Frag} (hn : l.most = some 63) (hdf : d.params.defaults = [])
    (hY : ∀ (w : World) (h : Heap), YP w h → (K w.params).In h)
    (F : ∀ (w : World) (mg : Str → Option Value) (fa : Addr) (h : Heap), (K w.params).In h → h.Ns mainGlobals mg → mg d.name = some (.ref fa) →
      ∃ fd : FuncData, (∀ (s : Shared) (u : Value), BindsTo s fd ⟨[u], []⟩ [("script", u)]) ∧ ∀ base : Heap, (K w.params).In base → base.Ns mainGlobals mg → FnOk l.prog w (K w.params) mg base CX0 8 fa fd ["script"] (spLaw (K w.params))) :
    PySem.W.WalkO q loose XP YP l.row.toRowW d [] (fun f vs => PySem.call f vs) :=
  L2.walk_of (n := 63) (k := 8) (x := "script") (CX := fun _ => CX0) (sp := fun w => spLaw (K w.params)) hn (by decide) hdf ⟨rfl, by decide, by decide⟩ hY F (fun _ _ a ns hl _ hS => ⟨a, ns, rfl, hS, hl, fun _ => rfl⟩) fun _ _ _ _ _ z => z
end SR
open PySem PySem.W PyProof.Rows
set_option maxRecDepth 100000 in
set_option maxHeartbeats 0 in
theorem PySem.Challenge.cw_stairrows_k08_pairs_refused_holds : PySem.Challenge.rw_stairrows_k08_pairs_refused.Holds := by
  w_on; o_law; k_head; (case hw => w_witness2)
  k_fill
  refine SR.walk (l := PySem.Challenge.rw_stairrows_k08_pairs_refused) rfl rfl (fun w h Y => PySem.W.kIn_of Y) ?F
  case F =>
    intro w mg fa h KX G hmg
    refine' SR.all_mk KX G hmg ?a0 ?l0 ?c0 ?k0 ?a1 ?l1 ?c1 ?k1 ?a2 ?l2 ?c2 ?k2 ?a3 ?l3 ?c3 ?k3 ?a4 ?l4 ?c4 ?k4 ?a5 ?l5 ?c5 ?k5 ?a6 ?l6 ?c6 ?k6 ?a7 ?l7 ?c7 ?k7 ?a8 ?l8 ?c8 ?k8 ?a9 ?l9 ?c9 ?k9 ?a10 ?l10 ?c10 ?k10 ?a11 ?l11 ?c11 ?k11 ?a12 ?l12 ?c12 ?k12 ?a13 ?l13 ?c13 ?k13 ?a14 ?l14 ?c14 ?k14 ?a15 ?l15 ?c15 ?k15 ?a16 ?l16 ?c16 ?k16 ?a17 ?l17 ?c17 ?k17 ?a18 ?l18 ?c18 ?k18 ?a19 ?l19 ?c19 ?k19 ?a20 ?l20 ?c20 ?k20 ?a21 ?l21 ?c21 ?k21 ?a22 ?l22 ?c22 ?k22 ?a23 ?l23 ?c23 ?k23 ?a24 ?l24 ?c24 ?k24 ?a25 ?l25 ?c25 ?k25 ?x_NoStairs ?y_NoStairs ?x_NoPair ?y_NoPair ?x_NoPlace ?y_NoPlace ?x_NoShape ?y_NoShape ?x_NoNote ?y_NoNote ?x_StairError ?y_StairError ?h_NoPair_StairError ?q_NoPair_ValueError ?n_NoPair_NoStairs ?n_NoPair_NoPlace ?n_NoPair_NoShape ?n_NoPair_NoNote ?e1_NoPair ?e2_NoPair ?e3_NoPair ?e4_NoPair ?e5_NoPair ?e6_NoPair ?e7_NoPair ?z_ValueError ?z_len ?z_range ?z_list ?z_isinstance ?z_min ?z_max ?z_sum ?z_all ?z_set ?z_sorted ?z_enumerate ?z_reversed ?z_int ?z_bool ?z_tuple ?z_any ?z_str
    (case a0 => k_is)
    (case l0 => k_is)
    (case c0 => k_is)
    (case k0 => k_is)
    (case a1 => k_is)
    (case l1 => k_is)
    (case c1 => k_is)
    (case k1 => k_is)
    (case a2 => k_is)
    (case l2 => k_is)
    (case c2 => k_is)
    (case k2 => k_is)
    (case a3 => k_is)
    (case l3 => k_is)
    (case c3 => k_is)
    (case k3 => k_is)
    (case a4 => k_is)
    (case l4 => k_is)
    (case c4 => k_is)
    (case k4 => k_is)
    (case a5 => k_is)
    (case l5 => k_is)
    (case c5 => k_is)
    (case k5 => k_is)
    (case a6 => k_is)
    (case l6 => k_is)
    (case c6 => k_is)
    (case k6 => k_is)
    (case a7 => k_is)
    (case l7 => k_is)
    (case c7 => k_is)
    (case k7 => k_is)
    (case a8 => k_is)
    (case l8 => k_is)
    (case c8 => k_is)
    (case k8 => k_is)
    (case a9 => k_is)
    (case l9 => k_is)
    (case c9 => k_is)
    (case k9 => k_is)
    (case a10 => k_is)
    (case l10 => k_is)
    (case c10 => k_is)
    (case k10 => k_is)
    (case a11 => k_is)
    (case l11 => k_is)
    (case c11 => k_is)
    (case k11 => k_is)
    (case a12 => k_is)
    (case l12 => k_is)
    (case c12 => k_is)
    (case k12 => k_is)
    (case a13 => k_is)
    (case l13 => k_is)
    (case c13 => k_is)
    (case k13 => k_is)
    (case a14 => k_is)
    (case l14 => k_is)
    (case c14 => k_is)
    (case k14 => k_is)
    (case a15 => k_is)
    (case l15 => k_is)
    (case c15 => k_is)
    (case k15 => k_is)
    (case a16 => k_is)
    (case l16 => k_is)
    (case c16 => k_is)
    (case k16 => k_is)
    (case a17 => k_is)
    (case l17 => k_is)
    (case c17 => k_is)
    (case k17 => k_is)
    (case a18 => k_is)
    (case l18 => k_is)
    (case c18 => k_is)
    (case k18 => k_is)
    (case a19 => k_is)
    (case l19 => k_is)
    (case c19 => k_is)
    (case k19 => k_is)
    (case a20 => k_is)
    (case l20 => k_is)
    (case c20 => k_is)
    (case k20 => k_is)
    (case a21 => k_is)
    (case l21 => k_is)
    (case c21 => k_is)
    (case k21 => k_is)
    (case a22 => k_is)
    (case l22 => k_is)
    (case c22 => k_is)
    (case k22 => k_is)
    (case a23 => k_is)
    (case l23 => k_is)
    (case c23 => k_is)
    (case k23 => k_is)
    (case a24 => k_is)
    (case l24 => k_is)
    (case c24 => k_is)
    (case k24 => k_is)
    (case a25 => k_is)
    (case l25 => k_is)
    (case c25 => k_is)
    (case k25 => k_is)
    (case x_NoStairs => k_is)
    (case y_NoStairs => k_exc)
    (case x_NoPair => k_is)
    (case y_NoPair => k_exc)
    (case x_NoPlace => k_is)
    (case y_NoPlace => k_exc)
    (case x_NoShape => k_is)
    (case y_NoShape => k_exc)
    (case x_NoNote => k_is)
    (case y_NoNote => k_exc)
    (case x_StairError => k_is)
    (case y_StairError => k_exc)
    (case h_NoPair_StairError => k_is)
    (case q_NoPair_ValueError => kit_is)
    (case n_NoPair_NoStairs => kit_is)
    (case n_NoPair_NoPlace => kit_is)
    (case n_NoPair_NoShape => kit_is)
    (case n_NoPair_NoNote => kit_is)
    (case e1_NoPair => k_is)
    (case e2_NoPair => k_is)
    (case e3_NoPair => k_is)
    (case e4_NoPair => k_is)
    (case e5_NoPair => k_is)
    (case e6_NoPair => k_is)
    (case e7_NoPair => k_is)
    (case z_ValueError => k_is)
    (case z_len => k_is)
    (case z_range => k_is)
    (case z_list => k_is)
    (case z_isinstance => k_is)
    (case z_min => k_is)
    (case z_max => k_is)
    (case z_sum => k_is)
    (case z_all => k_is)
    (case z_set => k_is)
    (case z_sorted => k_is)
    (case z_enumerate => k_is)
    (case z_reversed => k_is)
    (case z_int => k_is)
    (case z_bool => k_is)
    (case z_tuple => k_is)
    (case z_any => k_is)
    (case z_str => k_is)
