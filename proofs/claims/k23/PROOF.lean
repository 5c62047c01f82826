import PyProof.Rows.All
import Wide.All
import OpenK.AllK
import Wide.FinOn
import Lean
import PyProof.EqAt
import PyProof.EqKinds
import PyProof.TupleCall
import PyProof.Cells
import PySem.Challenge.RW_stairrows_k23_whole_most
set_option Elab.async false
set_option linter.all false
set_option maxRecDepth 100000
/-! THE HAND LAYER, for ints, bools, texts, own classes, LISTS and tuples (index, slices, in, append, pop ..), calls, loops. Paste it whole ahead of your own text; what your proof does not reach may be deleted. -/
namespace L2
open PySem PySem.Spec PyProof.Rows

/-- a key: an int or a str -/
abbrev Key := Sum Int Str
def keyIs : Key → Value → Bool
  | .inl k, v => Value.isInt k v
  | .inr x, v => Value.isStrOf x v
def keyH (w : World) : Key → Int
  | .inl k => hashInt k
  | .inr x => hashStr w x
theorem keyIs_shape : ∀ {k : Key} {v : Value}, keyIs k v = true → (∃ i t, k = Sum.inl i ∧ v = Value.int i t) ∨ (∃ x t, k = Sum.inr x ∧ v = Value.str x t)
  | .inl i, v, h => by
    obtain ⟨t, e⟩ := Value.isInt_shape (k := i) (v := v) h
    exact .inl ⟨i, t, rfl, e⟩
  | .inr x, v, h => by
    obtain ⟨t, e⟩ := Value.isStrOf_shape (x := x) (v := v) h
    exact .inr ⟨x, t, rfl, e⟩
theorem key_ll (a b : Int) : decide ((Sum.inl a : Key) = Sum.inl b) = (a == b) := by
  by_cases e : a = b
  · subst e; simp
  · have h : ¬ (Sum.inl a : Key) = Sum.inl b := fun q => e (Sum.inl.inj q)
    rw [decide_eq_false h]
    exact (beq_eq_false_iff_ne.mpr e).symm
theorem key_rr (a b : Str) : decide ((Sum.inr a : Key) = Sum.inr b) = decide (a = b) := by
  by_cases e : a = b
  · subst e; simp
  · have h : ¬ (Sum.inr a : Key) = Sum.inr b := fun q => e (Sum.inr.inj q)
    rw [decide_eq_false h, decide_eq_false e]
theorem key_lr (a : Int) (b : Str) : decide ((Sum.inl a : Key) = Sum.inr b) = false := decide_eq_false (fun q => nomatch q)
theorem key_rl (a : Str) (b : Int) : decide ((Sum.inr a : Key) = Sum.inl b) = false := decide_eq_false (fun q => nomatch q)

def mixKind (prog : Program) (w : World) : PySem.KeyKind prog w Key where
  is := keyIs
  hash := keyH w
  inj := fun v a b ha hb => by
    rcases keyIs_shape ha with ⟨i, t, rfl, rfl⟩ | ⟨x, t, rfl, rfl⟩
    · rcases keyIs_shape hb with ⟨j, u, rfl, e⟩ | ⟨y, u, rfl, e⟩
      · injection e with e1 _; rw [e1]
      · exact nomatch e
    · rcases keyIs_shape hb with ⟨j, u, rfl, e⟩ | ⟨y, u, rfl, e⟩
      · exact nomatch e
      · injection e with e1 _; rw [e1]
  byValue := fun k v h => by
    rcases keyIs_shape h with ⟨i, t, rfl, rfl⟩ | ⟨x, t, rfl, rfl⟩ <;> rfl
  pyHash := fun hv h => by
    rcases keyIs_shape hv with ⟨i, t, rfl, rfl⟩ | ⟨x, t, rfl, rfl⟩
    · exact wpAny_pyHash_int h
    · exact wpAny_pyHash_str h
  eqBool := fun hu hv h => by
    rcases keyIs_shape hu with ⟨i, t, rfl, rfl⟩ | ⟨x, t, rfl, rfl⟩
    · rcases keyIs_shape hv with ⟨j, u, rfl, rfl⟩ | ⟨y, u, rfl, rfl⟩
      · rw [key_ll] at h; exact wpAny_eqBool_int h
      · rw [key_lr] at h; exact SeqAt.EqAt.int_str i t y u _ _ _ _ h
    · rcases keyIs_shape hv with ⟨j, u, rfl, rfl⟩ | ⟨y, u, rfl, rfl⟩
      · rw [key_rl] at h; exact SeqAt.EqAt.str_int x t j u _ _ _ _ h
      · rw [key_rr] at h; exact wpAny_eqBool_str h
  «strs» := fun k x t v h => by
    rcases keyIs_shape h with ⟨i, u, rfl, e⟩ | ⟨y, u, rfl, e⟩
    · exact nomatch e
    · injection e with e1 _
      subst e1
      cases v <;> rfl

end L2

namespace L2
open PySem PySem.Spec PyProof.Rows

/-- a value, without the heap -/
inductive V where
  | non | bl (b : Bool) | int (i : Int) | str (x : Str) | byt (b : Array UInt8) | flt (b : UInt64) | ref (a : Addr) | ty (n : String)
  deriving DecidableEq

def RelV : V → Value → Prop
  | .non, u => u = Value.none
  | .bl b, u => u = Value.bool b
  | .int i, u => ∃ t, u = Value.int i t
  | .str x, u => ∃ t, u = Value.str x t
  | .byt b, u => ∃ t, u = Value.bytes b t
  | .flt b, u => ∃ t, u = Value.float b t
  | .ref a, u => u = Value.ref a
  | .ty n, u => u = Value.type n

abbrev Vals : List V → List Value → Prop := Paired RelV
theorem Vals.length {xs : List V} {us : List Value} (r : Vals xs us) : xs.length = us.length := Paired.length r
theorem Vals.get : ∀ {xs : List V} {us : List Value} {i : Nat} {x : V}, Vals xs us → xs[i]? = some x → ∃ u, us[i]? = some u ∧ RelV x u
  | _, _, _, _, .nil, e => by simp at e
  | _, _, 0, _, .cons r _, e => by simp at e; subst e; exact ⟨_, rfl, r⟩
  | _, _, i + 1, x, .cons _ t, e => by
    obtain ⟨u, h1, h2⟩ := Vals.get (i := i) (x := x) t (by simpa using e)
    exact ⟨u, by simpa using h1, h2⟩
theorem Vals.set {x : V} {u : Value} (r : RelV x u) : ∀ {xs : List V} {us : List Value} (i : Nat), Vals xs us → Vals (xs.set i x) (us.set i u)
  | _, _, _, .nil => .nil
  | _, _, 0, .cons _ t => .cons r t
  | _, _, i + 1, .cons q t => .cons q (Vals.set r i t)
theorem Vals.append : ∀ {xs ys : List V} {us ws : List Value}, Vals xs us → Vals ys ws → Vals (xs ++ ys) (us ++ ws)
  | _, _, _, _, .nil, s => s
  | _, _, _, _, .cons r t, s => .cons r (Vals.append t s)
theorem Vals.take : ∀ {xs : List V} {us : List Value} (n : Nat), Vals xs us → Vals (xs.take n) (us.take n)
  | _, _, 0, _ => .nil
  | _, _, _ + 1, .nil => .nil
  | _, _, n + 1, .cons r t => .cons r (Vals.take n t)
theorem Vals.drop : ∀ {xs : List V} {us : List Value} (n : Nat), Vals xs us → Vals (xs.drop n) (us.drop n)
  | _, _, 0, r => r
  | _, _, _ + 1, .nil => .nil
  | _, _, n + 1, .cons _ t => Vals.drop n t
theorem Vals.none_of : ∀ {xs : List V} {us : List Value} {i : Nat}, Vals xs us → xs[i]? = none → us[i]? = none := fun {xs us i} r e => by
  have h1 := r.length
  have h2 : xs.length ≤ i := List.getElem?_eq_none_iff.mp e
  exact List.getElem?_eq_none_iff.mpr (by omega)

def RelO : Option V → Option Value → Prop
  | some v, some u => RelV v u
  | none, none => True
  | _, _ => False
def KV {κ : Type} : List (κ × V) → List (κ × Value) → Prop := Paired fun (p : κ × V) (q : κ × Value) => p.1 = q.1 ∧ RelV p.2 q.2

/-- a key of a dict (00_mix): an int or a text -/
def kV : Key → V
  | .inl i => .int i
  | .inr x => .str x

/-- what stands at a tracked address -/
inductive HO where
  /-- a list -/
  | lst (xs : List V)
  /-- a tuple (never changes) -/
  | tup (xs : List V)
  /-- a dict whose keys are ints and texts; one whose keys are tuples of ints and texts (the empty one is both) -/
  | dK (kvs : List (Key × V)) | dT (kvs : List (List Key × V))
  /-- a set of ints: its members, its size -/
  | set (S : Int → Bool) (n : Nat)
  /-- an instance of the class at C, its dict at dx, its attributes -/
  | ins (C dx : Addr) (fs : List (Str × V))
  /-- the dict of the instance at x -/
  | own (x : Addr)
  /-- the dict of an exception -/
  | xd (fs : List (Str × V))
  /-- a bound method, f of x -/
  | met (f x : Addr)
  /-- a range object lo, lo + 1, .. below hi -/
  | rng (lo hi : Int)
  /-- a thing that is known to the object (the script; a dict while a loop walks it): read, never written while it is so -/
  | frz (o : Obj) (u : HO)
  /-- a code object's table -/
  | tbl (ps : Array Value)
  /-- any other thing, by what is true of its one object (a def of one's own: SetO a S n := HO.ext fun h => ..) -/
  | ext (φ : Heap → Prop)

abbrev Hp := Addr → Option HO
def upd (H : Hp) (a : Addr) (o : HO) : Hp := fun b => if b = a then some o else H b
theorem upd_same {H : Hp} {a : Addr} {o : HO} : upd H a o a = some o := by unfold upd; rw [if_pos rfl]
theorem upd_ne {H : Hp} {a b : Addr} {o : HO} (h : b ≠ a) : upd H a o b = H b := by unfold upd; rw [if_neg h]
theorem upd_upd {H : Hp} {a : Addr} {o u : HO} : upd (upd H a o) a u = upd H a u := by
  funext b; unfold upd; split <;> rfl
theorem ne_of_none {H : Hp} {a b : Addr} {o : HO} (h : H a = some o) (h' : H b = none) : a ≠ b := by
  intro e; subst e; rw [h] at h'; cases h'

section
variable (P : Program) (w : World)
def ObjOk (H : Hp) (h : Heap) (a : Addr) : HO → Prop
  | .lst xs => xs.length ≤ sizeLine ∧ ∃ (its : List Value) (n : Nat), Vals xs its ∧ h.get? a = some { cls := .type "list", data := .seq its.toArray n }
  | .tup xs => xs.length ≤ sizeLine ∧ ∃ its : List Value, Vals xs its ∧ IsTup h a its.toArray
  | .dK kvs => kvs.length ≤ sizeLine ∧ (a == sysModules) = false ∧ ∃ vs, KV kvs vs ∧ h.DictOf (mixKind P w) a vs
  | .dT kvs => kvs.length ≤ sizeLine ∧ (a == sysModules) = false ∧ ∃ xs : List (List Key × Addr × Value),
      Paired (fun (p : List Key × V) (q : List Key × Addr × Value) => p.1 = q.1 ∧ H q.2.1 = some (.tup (p.1.map kV)) ∧ RelV p.2 q.2.2) kvs xs ∧
      ∃ o es ep, h.get? a = some o ∧ o.ExactDict ∧ o.data = .dict es ep ∧ es.toList = xs.map (entryOfKey (tupleKind (mixKind P w))) ∧ (xs.map (·.1)).Nodup
  | .set S n => h.SetOf (intKind P w) a S n
  | .ins C dx fs => H dx = some (.own a) ∧ fs.length ≤ 1000 ∧ dx ≠ a ∧ h.get? a = some (PySem.W.instObj C dx) ∧
      ∃ mA, h.Ns1 dx mA ∧ (∀ f, RelO (fs.lookup f) (mA f)) ∧ PySem.Within mA (fs.map (·.1))
  | .own _ => ∃ o, h.get? a = some o
  | .xd fs => ∃ mA, h.Ns1 a mA ∧ ∀ f, RelO (fs.lookup f) (mA f)
  | .rng lo hi => ∃ t u v, h.get? a = some { cls := .type "range", data := .fields #[.int lo t, .int hi u, .int 1 v] }
  | .frz o u => h.get? a = some o ∧ ObjOk H h a u
  | .tbl ps => h.get? a = some { cls := .none, data := .fields ps }
  | .met f x => h.get? a = some (PySem.W.methodObj (.ref f) (.ref x))
  | .ext φ => φ h ∧ (∃ o, h.get? a = some o) ∧ ∀ h1 h2 : Heap, φ h1 → (∀ o, h1.get? a = some o → h2.get? a = some o) → φ h2
/-- the abstract heap is held -/
def HOk (H : Hp) (h : Heap) : Prop := ∀ a o, H a = some o → ObjOk P w H h a o
end

section
variable {P : Program} {w : World} {H H' : Hp} {h h' : Heap} {a : Addr} {o : HO}
theorem ObjOk.lt (x : ObjOk P w H h a o) : a < h.objs.size := by
  cases o with
  | lst xs => obtain ⟨_, _, _, _, e⟩ := x; exact Heap.lt_size e
  | tup xs => obtain ⟨_, _, _, p⟩ := x; exact p.lt
  | dK kvs => obtain ⟨_, _, _, _, o, _, _, e, _⟩ := x; exact Heap.lt_size e
  | dT kvs => obtain ⟨_, _, _, _, o, _, _, e, _⟩ := x; exact Heap.lt_size e
  | set S n => obtain ⟨o, _, _, _, e, _⟩ := x; exact Heap.lt_size e
  | ins C dx fs => obtain ⟨_, _, _, e, _⟩ := x; exact Heap.lt_size e
  | own y => obtain ⟨_, e⟩ := x; exact Heap.lt_size e
  | xd fs => obtain ⟨_, ⟨_, _, _, e, _⟩, _⟩ := x; exact Heap.lt_size e
  | rng lo hi => obtain ⟨_, _, _, e⟩ := x; exact Heap.lt_size e
  | frz ob u => obtain ⟨e, _⟩ := x; exact Heap.lt_size e
  | tbl ps => exact Heap.lt_size (show h.get? a = some _ from x)
  | met f y => exact Heap.lt_size (show h.get? a = some _ from x)
  | ext φ => obtain ⟨_, ⟨_, e⟩, _⟩ := x; exact Heap.lt_size e
theorem Paired.mapP {α β : Type} {F G : α → β → Prop} : ∀ {l₁ : List α} {l₂ : List β}, Paired F l₁ l₂ → (∀ a b, F a b → G a b) → Paired G l₁ l₂
  | _, _, .nil, _ => .nil
  | _, _, .cons r t, f => .cons (f _ _ r) (Paired.mapP t f)
/-- what an object's description leans on: its own object, its own dict, the tuples -/
theorem ObjOk.stay (x : ObjOk P w H h a o) (k : ∀ b u, (b = a ∨ H b = some (.own a)) → h.get? b = some u → h'.get? b = some u)
    (ho : ∀ b, H b = some (.own a) → H' b = some (.own a)) (ht : ∀ b xs, H b = some (.tup xs) → H' b = some (.tup xs)) : ObjOk P w H' h' a o := by
  induction o with
  | lst xs => obtain ⟨z, its, n, r, e⟩ := x; exact ⟨z, its, n, r, k _ _ (.inl rfl) e⟩
  | tup xs => obtain ⟨z, its, r, ob, e, c⟩ := x; exact ⟨z, its, r, ob, k _ _ (.inl rfl) e, c⟩
  | dK kvs => obtain ⟨z, y, vs, r, ob, es, ep, e, c⟩ := x; exact ⟨z, y, vs, r, ob, es, ep, k _ _ (.inl rfl) e, c⟩
  | dT kvs =>
    obtain ⟨z, y, xs, r, ob, es, ep, e, c⟩ := x
    exact ⟨z, y, xs, Paired.mapP r fun p q z => ⟨z.1, ht _ _ z.2.1, z.2.2⟩, ob, es, ep, k _ _ (.inl rfl) e, c⟩
  | set S n => obtain ⟨ob, es, ep, t, e, c⟩ := x; exact ⟨ob, es, ep, t, k _ _ (.inl rfl) e, c⟩
  | ins C dx fs =>
    obtain ⟨d, z, ne, e, mA, ⟨od, es, ep, e2, c⟩, r⟩ := x
    exact ⟨ho _ d, z, ne, k _ _ (.inl rfl) e, mA, ⟨od, es, ep, k _ _ (.inr d) e2, c⟩, r⟩
  | own y => obtain ⟨ob, e⟩ := x; exact ⟨ob, k _ _ (.inl rfl) e⟩
  | xd fs => obtain ⟨mA, ⟨od, es, ep, e, c⟩, r⟩ := x; exact ⟨mA, ⟨od, es, ep, k _ _ (.inl rfl) e, c⟩, r⟩
  | rng lo hi => obtain ⟨t, u, v, e⟩ := x; exact ⟨t, u, v, k _ _ (.inl rfl) e⟩
  | frz ob u ih => obtain ⟨e, q⟩ := x; exact ⟨k _ _ (.inl rfl) e, ih q⟩
  | tbl ps =>
    have e : h.get? a = some { cls := .none, data := .fields ps } := x
    show h'.get? a = some { cls := .none, data := .fields ps }
    exact k a _ (.inl rfl) e
  | met f y =>
    have e : h.get? a = some (PySem.W.methodObj (.ref f) (.ref y)) := x
    show h'.get? a = some (PySem.W.methodObj (.ref f) (.ref y))
    exact k a _ (.inl rfl) e
  | ext φ => obtain ⟨p, ⟨o, e⟩, st⟩ := x; exact ⟨st _ _ p fun o q => k _ _ (.inl rfl) q, ⟨o, k _ _ (.inl rfl) e⟩, st⟩
theorem HOk.lt (x : HOk P w H h) (e : H a = some o) : a < h.objs.size := (x a o e).lt
theorem HOk.fresh (x : HOk P w H h) (e : h.objs.size ≤ a) : H a = none := by
  cases q : H a with
  | none => rfl
  | some u => exact absurd (Nat.lt_of_lt_of_le (x.lt q) e) (Nat.lt_irrefl _)
/-- every object of the heap is kept -/
theorem HOk.kept (x : HOk P w H h) (k : ∀ b u, h.get? b = some u → h'.get? b = some u) : HOk P w H h' := fun a o e =>
  (x a o e).stay (fun b u _ q => k b u q) (fun _ q => q) fun _ _ q => q
/-- a new object is laid and tracked -/
theorem HOk.laid (x : HOk P w H h) (k : ∀ b u, h.get? b = some u → h'.get? b = some u) (hp : h.objs.size ≤ a) (new : ObjOk P w (upd H a o) h' a o) : HOk P w (upd H a o) h' := fun b u e => by
  have hn := x.fresh hp
  by_cases hb : b = a
  · subst hb; rw [upd_same] at e; cases e; exact new
  · rw [upd_ne hb] at e
    exact (x b u e).stay (fun c v _ q => k c v q) (fun c q => by rw [upd_ne (ne_of_none q hn)]; exact q) fun c xs q => by rw [upd_ne (ne_of_none q hn)]; exact q
end

/-- what may be read as u: it is u, or a known u -/
def Rd (H : Hp) (a : Addr) (u : HO) : Prop := H a = some u ∨ ∃ o, H a = some (.frz o u)
theorem Rd.of {H : Hp} {a : Addr} {u : HO} (h : H a = some u) : Rd H a u := .inl h
theorem Rd.ok {P : Program} {w : World} {H : Hp} {h : Heap} {a : Addr} {u : HO} (r : Rd H a u) (x : HOk P w H h) : ObjOk P w H h a u := by
  rcases r with r | ⟨o, r⟩
  · exact x a u r
  · obtain ⟨_, q⟩ := x a _ r
    exact q
/-- what may be written -/
def Mut : Option HO → Prop
  | some (.lst _) => True
  | some (.dK _) => True
  | some (.dT _) => True
  | some (.set _ _) => True
  | some (.ins _ _ _) => True
  | some (.ext _) => True
  | _ => False
section
variable {P : Program} {w : World} {H : Hp} {h h' : Heap} {x e : Addr} {o' : HO}
/-- the object at e is changed: x itself, or the dict of the instance x -/
theorem HOk.write (ok : HOk P w H h) (mu : Mut (H x)) (he : e = x ∨ H e = some (.own x)) (k : ∀ b u, b ≠ e → h.get? b = some u → h'.get? b = some u) (heo : ∃ u, h'.get? e = some u)
    (new : ObjOk P w (upd H x o') h' x o') : HOk P w (upd H x o') h' := fun b u q => by
  have nown : ∀ c y, H c = some (.own y) → c ≠ x := fun c y r z => by subst z; rw [r] at mu; exact mu
  have ntup : ∀ c xs, H c = some (.tup xs) → c ≠ x := fun c xs r z => by subst z; rw [r] at mu; exact mu
  by_cases hb : b = x
  · subst hb; rw [upd_same] at q; cases q; exact new
  · rw [upd_ne hb] at q
    by_cases hbe : b = e
    · have q' : H b = some (.own x) := by
        rcases he with z | z
        · exact absurd (hbe.trans z) hb
        · rw [hbe]; exact z
      rw [q] at q'; cases q'
      obtain ⟨v, hv⟩ := heo
      exact ⟨v, by rw [hbe]; exact hv⟩
    · refine (ok b u q).stay (fun c v hc r => k c v ?_ r) (fun c r => by rw [upd_ne (nown c b r)]; exact r) fun c xs r => by rw [upd_ne (ntup c xs r)]; exact r
      rcases hc with rfl | hc
      · exact hbe
      · rintro rfl
        rcases he with z | z
        · exact nown c b hc z
        · rw [hc] at z; cases z; exact hb rfl
end

/-! ### kept unless tracked; of the frames at fs (the callers') the slots may change (an exception that passes writes there); of the records at ex (iterators) nothing is said -/
structure Un (fs ex : List Addr) (H H' : Hp) (h h' : Heap) : Prop where
  keep : ∀ b o, h.get? b = some o → H b = none → b ∉ fs → b ∉ ex → h'.get? b = some o
  slot : ∀ b o, h.get? b = some o → H b = none → b ∈ fs → b ∉ ex → ∃ sl, h'.get? b = some { o with slots := sl }
  free : ∀ b o, h.get? b = some o → H b = none → b ∉ ex → H' b = none
  there : ∀ b o, h.get? b = some o → b ∉ ex → ∃ o', h'.get? b = some o'
  tups : ∀ b xs, H b = some (.tup xs) → H' b = some (.tup xs)
  frzs : ∀ b o u, H b = some (.frz o u) → H' b = some (.frz o u)
  tbls : ∀ b ps, H b = some (.tbl ps) → ∃ more, H' b = some (.tbl (ps ++ more))
section
variable {fs fs' ex ex' : List Addr} {H H1 H2 : Hp} {h h1 h2 h' : Heap} {a x e : Addr} {o : HO}
theorem Un.any (u : Un fs ex H H1 h h1) {b : Addr} {ob : Obj} (q : h.get? b = some ob) (n : H b = none) (hx : b ∉ ex) : ∃ sl, h1.get? b = some { ob with slots := sl } := by
  by_cases hb : b ∈ fs
  · exact u.slot b ob q n hb hx
  · exact ⟨ob.slots, u.keep b ob q n hb hx⟩
theorem Un.trans (a : Un fs ex H H1 h h1) (b : Un fs ex H1 H2 h1 h2) : Un fs ex H H2 h h2 where
  keep := fun c ob q n hc hx => b.keep c ob (a.keep c ob q n hc hx) (a.free c ob q n hx) hc hx
  slot := fun c ob q n hc hx => by
    obtain ⟨sl, e1⟩ := a.slot c ob q n hc hx
    obtain ⟨sl', e2⟩ := b.slot c _ e1 (a.free c ob q n hx) hc hx
    exact ⟨sl', e2⟩
  free := fun c ob q n hx => by
    obtain ⟨o', e1⟩ := a.there c ob q hx
    exact b.free c o' e1 (a.free c ob q n hx) hx
  there := fun c ob q hx => by
    obtain ⟨o', e1⟩ := a.there c ob q hx
    exact b.there c o' e1 hx
  tups := fun c xs q => b.tups c xs (a.tups c xs q)
  frzs := fun c ob xs q => b.frzs c ob xs (a.frzs c ob xs q)
  tbls := fun c ps q => by
    obtain ⟨m1, e1⟩ := a.tbls c ps q
    obtain ⟨m2, e2⟩ := b.tbls c _ e1
    exact ⟨m1 ++ m2, by rw [e2, Array.append_assoc]⟩
theorem Un.kept (k : ∀ b u, h.get? b = some u → h'.get? b = some u) : Un fs ex H H h h' :=
  ⟨fun b ob q _ _ _ => k b ob q, fun b ob q _ _ _ => ⟨ob.slots, k b ob q⟩, fun _ _ _ n _ => n, fun b ob q _ => ⟨ob, k b ob q⟩, fun _ _ q => q, fun _ _ _ q => q, fun _ ps q => ⟨#[], by rw [q]; simp⟩⟩
theorem Un.refl : Un fs ex H H h h := Un.kept fun _ _ q => q
theorem Un.laid (k : ∀ b u, h.get? b = some u → h'.get? b = some u) (hp : h.objs.size ≤ a) (hn : H a = none) : Un fs ex H (upd H a o) h h' where
  keep := fun b u q _ _ _ => k b u q
  slot := fun b u q _ _ _ => ⟨u.slots, k b u q⟩
  free := fun b u q n _ => by rw [upd_ne (Nat.ne_of_lt (Nat.lt_of_lt_of_le (Heap.lt_size q) hp))]; exact n
  there := fun b u q _ => ⟨u, k b u q⟩
  tups := fun b xs q => by rw [upd_ne (ne_of_none q hn)]; exact q
  frzs := fun b u xs q => by rw [upd_ne (ne_of_none q hn)]; exact q
  tbls := fun b ps q => ⟨#[], by rw [upd_ne (ne_of_none q hn), q]; simp⟩
theorem Un.write (mu : Mut (H x)) (he : e = x ∨ H e = some (.own x)) (k : ∀ b u, b ≠ e → h.get? b = some u → h'.get? b = some u) (heo : ∃ u, h'.get? e = some u) : Un fs ex H (upd H x o) h h' := by
  have hx : ∀ b, H b = none → b ≠ x := fun b n z => by subst z; rw [n] at mu; exact mu
  have hb : ∀ b, H b = none → b ≠ e := fun b n z => by
    subst z
    rcases he with r | r
    · exact hx b n r
    · rw [n] at r; cases r
  have hm : ∀ b u, H b = some u → ¬ Mut (some u) → b ≠ x := fun b u q nm z => by subst z; rw [q] at mu; exact nm mu
  refine ⟨fun b u q n _ _ => k b u (hb b n) q, fun b u q n _ _ => ⟨u.slots, k b u (hb b n) q⟩, fun b u q n _ => by rw [upd_ne (hx b n)]; exact n, fun b u q _ => ?_,
    fun b xs q => by rw [upd_ne (hm b _ q fun z => z)]; exact q, fun b u xs q => by rw [upd_ne (hm b _ q fun z => z)]; exact q, fun b ps q => ⟨#[], by rw [upd_ne (hm b _ q fun z => z), q]; simp⟩⟩
  by_cases hbe : b = e
  · subst hbe; exact heo
  · exact ⟨u, k b u hbe q⟩
theorem Un.mono (u : Un fs ex H H1 h h1) (hs : ∀ b ∈ fs, b ∈ fs') (hx : ∀ b ∈ ex, b ∈ ex') : Un fs' ex' H H1 h h1 :=
  ⟨fun b ob q n hb he => u.keep b ob q n (fun z => hb (hs b z)) fun z => he (hx b z), fun _ _ q n _ he => u.any q n fun z => he (hx _ z), fun b ob q n he => u.free b ob q n fun z => he (hx b z), fun b ob q he => u.there b ob q fun z => he (hx b z), u.tups, u.frzs, u.tbls⟩
end

/-! ### the heap without what is tracked -/
def trk (h : Heap) (H : Hp) : List Addr := (List.range h.objs.size).filter fun a => (H a).isSome
def hidT (h : Heap) (H : Hp) : Heap := PySem.W.hideAll h (trk h H)
theorem hidT_size (h : Heap) (H : Hp) : (hidT h H).objs.size = h.objs.size := PySem.W.hideAll_size _ _
theorem hidT_get {h : Heap} {H : Hp} {b : Addr} {o : Obj} (e : h.get? b = some o) (n : H b = none) : (hidT h H).get? b = some o :=
  PySem.W.hideAll_get _ e fun hm => by
    have q : (H b).isSome = true := (List.mem_filter.mp hm).2
    rw [n] at q; simp at q
theorem of_hidT {h : Heap} {H : Hp} {b : Addr} {o : Obj} (e : (hidT h H).get? b = some o) : h.get? b = some o ∧ H b = none := by
  have e' : h.get? b = some o := PySem.W.of_hideAll (trk h H) e
  refine ⟨e', ?_⟩
  cases q : H b with
  | none => rfl
  | some x =>
    have hm : b ∈ trk h H := List.mem_filter.mpr ⟨List.mem_range.mpr (Heap.lt_size e'), by simp [q]⟩
    have z : (hidT h H).get? b = none := PySem.W.hideAll_none (trk h H) hm
    rw [z] at e; cases e

/-! ### OpenK's ledger, filled with every new object but one -/
def allNews (g h : Heap) (L : Addr) : List (Addr × Obj) := (List.range h.objs.size).filterMap fun a => if a = L ∨ (g.get? a).isSome = true then none else (h.get? a).map fun o => (a, o)
def rest (g h : Heap) (L d : Addr) : List (Addr × Obj) := (allNews g h L).filter fun p => decide (p.1 ≠ d)
end L2

namespace L2
open PySem PySem.Spec PyProof.Rows

/-- the module's facts, over the base: the heap at the law's entry without what is tracked there -/
structure Mod (K : PySem.W.Frag) (mg : Str → Option Value) (base : Heap) : Prop where
  kin : K.In base
  glob : base.Ns mainGlobals mg
  blt : ∃ mb, base.Ns builtinsNs mb ∧ ∀ x : Str, x ≠ "__name__" → mb x = bootBuiltins x
  nolimit : base.NoLimit

/-- the context: a def's body (or a comprehension's block) running. base: fixed through the whole law; s₀, H₀: the entry; outer: the frames whose slots others may change (a def's callers); stack: all frames that run;
   ex: iterators that were made ahead of the entry and are walked here (a comprehension's); fn: the names whose cells were made at the entry (a def: all; a comprehension's block: its own); calm: not within an except suite; pn: pins that every state bears; xe: what is wanted of an exception that leaves the code -/
structure Cx where
  prog : Program
  w : World
  K : PySem.W.Frag
  mg : Str → Option Value
  base : Heap
  A : Around
  N : List Str
  s₀ : Shared
  H₀ : Hp
  env : Env
  outer : List Env
  stack : List Env
  ex : List Addr
  fn : Str → Bool
  calm : Bool
  pn : List (Addr × Obj)
  xe : Value → Shared → Prop
/-- the callers' frames -/
def frs (l : List Env) : List Addr := l.filterMap (·.frame)
abbrev Cx.fs (X : Cx) : List Addr := frs X.outer

def Vis (sc : Scope) (x : Str) : Prop := sc.names.lookup x = some .local ∨ sc.names.lookup x = some .cell ∨ sc.names.lookup x = some .free
def Loc (sc : Scope) (x : Str) : Prop := sc.names.lookup x = some .local ∨ sc.names.lookup x = some .cell
def Look (env : Env) (h : Heap) (m : Str → Option Value) (x : Str) (u : Value) : Prop :=
  (env.kindOf x = some .local ∧ m x = some u) ∨ ((env.kindOf x = some .cell ∨ env.kindOf x = some .free) ∧ ∃ c, env.cells.lookup x = some c ∧ h.IsCell c (some u))

structure Cx.Ok (X : Cx) : Prop where
  mod : Mod X.K X.mg X.base
  kind : X.env.scope.kind = .function
  glob : X.env.globals = mainGlobals
  blt : X.env.builtins = builtinsNs
  above : X.s₀.heap.objs.size ≤ X.env.locals
  inj : ∀ x y c, X.env.cells.lookup x = some c → X.env.cells.lookup y = some c → x = y
  has : ∀ x, (X.env.kindOf x = some .cell ∨ X.env.kindOf x = some .free) → ∃ c, X.env.cells.lookup x = some c
  cab : ∀ x c, X.fn x = true → X.env.cells.lookup x = some c → X.s₀.heap.objs.size ≤ c
  hd : X.calm = true → X.A.handled = none
  frames : X.A.frames = some X.stack
  stk : X.stack = X.outer ∨ (X.stack = X.env :: X.outer ∧ X.env.frame = some X.env.locals)
  exf : ∀ b ∈ X.ex, b ≠ X.env.locals ∧ ∀ x c, X.env.cells.lookup x = some c → c ≠ b
  bs : ∀ b o, X.base.get? b = some o → X.s₀.heap.get? b = some o ∧ X.H₀ b = none
  bsz : X.base.objs.size ≤ X.s₀.heap.objs.size
  noex : ∀ b o, X.base.get? b = some o → b ∉ X.ex
  exfs : ∀ b ∈ X.ex, b ∉ X.fs
  funs : X.s₀.heap.FunFrames X.base X.outer
  frf : ∀ b ∈ X.fs, X.H₀ b = none

structure Inv (X : Cx) (pins : List (Addr × Obj)) (σ : List (Option V)) (H : Hp) (s : Shared) : Prop where
  ok : X.Ok
  os : s.os = X.s₀.os
  bare : AllBare s.gens
  base : Un X.fs X.ex X.H₀ H X.s₀.heap s.heap
  loc : ∃ m, s.heap.Ns X.env.locals m ∧ ∀ (i : Nat) (x : Str) (v : V), X.N[i]? = some x → σ[i]? = some (some v) → Vis X.env.scope x → ∃ u, RelV v u ∧ Look X.env s.heap m x u
  cell : ∀ x c, X.env.cells.lookup x = some c → ∃ v, s.heap.IsCell c v
  free : H X.env.locals = none
  freeC : ∀ x c, X.env.cells.lookup x = some c → H c = none
  pin : ∀ p ∈ X.pn ++ pins, s.heap.get? p.1 = some p.2 ∧ H p.1 = none ∧ p.1 ≠ X.env.locals ∧ p.1 ∉ X.fs ∧ ∀ v, p.2.data ≠ .cell v
  hok : HOk X.prog X.w H s.heap
  len : σ.length = X.N.length

section
variable {X : Cx} {pins : List (Addr × Obj)} {σ : List (Option V)} {H H' : Hp} {s : Shared} {h' : Heap}

theorem Cx.Ok.nofr (ok : X.Ok) {b : Addr} {o : Obj} (e : X.base.get? b = some o) : b ∉ X.fs := fun hb => by
  have := (ok.funs.mem hb).1
  rw [e] at this; cases this
theorem Inv.bs (I : Inv X pins σ H s) : ∀ b o, X.base.get? b = some o → s.heap.get? b = some o ∧ H b = none := fun b o e =>
  ⟨I.base.keep b o (I.ok.bs b o e).1 (I.ok.bs b o e).2 (I.ok.nofr e) (I.ok.noex b o e), I.base.free b o (I.ok.bs b o e).1 (I.ok.bs b o e).2 (I.ok.noex b o e)⟩
theorem Inv.bk (I : Inv X pins σ H s) : ∀ b o, X.base.get? b = some o → s.heap.get? b = some o := fun b o e => (I.bs b o e).1
theorem Inv.mod (I : Inv X pins σ H s) : Mod X.K X.mg X.base := I.ok.mod
theorem Inv.kIn (I : Inv X pins σ H s) : X.K.In s.heap := I.ok.mod.kin.keeps I.bk
theorem Inv.nolimit (I : Inv X pins σ H s) : s.heap.NoLimit := I.ok.mod.nolimit.keeps I.bk
/-- the frame over the base: for OpenK's rules (K.In X.base is I.mod.kin) -/
theorem Inv.fr (I : Inv X pins σ H s) : ∃ m, Fr X.base X.env.locals s.heap m :=
  let ⟨m, hn, _⟩ := I.loc
  ⟨m, hn, I.bk, Nat.le_trans I.ok.bsz I.ok.above⟩
theorem Inv.lt (I : Inv X pins σ H s) : X.env.locals < s.heap.objs.size := let ⟨_, hn, _⟩ := I.loc; hn.lt
theorem Inv.sz (I : Inv X pins σ H s) : X.s₀.heap.objs.size ≤ s.heap.objs.size := Nat.le_trans I.ok.above (Nat.le_of_lt I.lt)
theorem Inv.nofs (I : Inv X pins σ H s) {a : Addr} (h : s.heap.objs.size ≤ a) : a ∉ X.fs := fun hb => by
  obtain ⟨_, o, ho, _⟩ := I.ok.funs.mem hb
  exact absurd (Nat.lt_of_lt_of_le (Heap.lt_size ho) (Nat.le_trans I.sz h)) (Nat.lt_irrefl _)
theorem Inv.cne (I : Inv X pins σ H s) : ∀ x c, X.env.cells.lookup x = some c → c ≠ X.env.locals := fun x c e z => by
  obtain ⟨v, o, ho, hd⟩ := I.cell x c e
  obtain ⟨m, ⟨o', es, ep, ho', hd', _⟩, _⟩ := I.loc
  rw [z, ho'] at ho; cases ho; rw [hd'] at hd; cases hd
theorem Inv.funs (I : Inv X pins σ H s) : s.heap.FunFrames X.base X.outer := by
  have all : ∀ (l : List Env), (∀ b ∈ frs l, b ∈ X.fs) → X.s₀.heap.FunFrames X.base l → s.heap.FunFrames X.base l := by
    intro l
    induction l with
    | nil => intro _ _; trivial
    | cons env r ih =>
      intro hs hl
      obtain ⟨hk, ⟨L, o, hf, hn, ho, hd⟩, hr⟩ := hl
      have hL : L ∈ X.fs := hs L (by unfold frs; rw [List.filterMap_cons, hf]; exact List.mem_cons_self)
      obtain ⟨sl, e⟩ := I.base.slot L o ho (I.ok.frf L hL) hL fun z => I.ok.exfs L z hL
      exact ⟨hk, ⟨L, _, hf, hn, e, hd⟩, ih (fun b hb => hs b (by unfold frs; rw [List.filterMap_cons, hf]; exact List.mem_cons_of_mem _ hb)) hr⟩
  exact all X.outer (fun _ hb => hb) I.ok.funs

/-- the frames that run, for a call -/
theorem Inv.stack (I : Inv X pins σ H s) : s.heap.FunFrames X.base X.stack := by
  rcases I.ok.stk with e | ⟨e, hf⟩
  · rw [e]; exact I.funs
  · rw [e]
    obtain ⟨m, hn, _⟩ := I.loc
    refine .cons (by rw [I.ok.kind]; decide) hf hn ?_ I.funs
    exact Heap.get?_none_of_le (Nat.le_trans I.ok.bsz I.ok.above)
theorem Inv.stkSub (I : Inv X pins σ H s) : ∀ b ∈ frs X.stack, b ∈ X.env.locals :: X.fs := fun b hb => by
  rcases I.ok.stk with e | ⟨e, hf⟩
  · rw [e] at hb; exact List.mem_cons_of_mem _ hb
  · rw [e] at hb
    unfold frs at hb
    rw [List.filterMap_cons, hf] at hb
    exact hb
theorem Inv.stkFree (I : Inv X pins σ H s) : ∀ b ∈ frs X.stack, H b = none := fun b hb => by
  rcases List.mem_cons.mp (I.stkSub b hb) with e | hb
  · rw [e]; exact I.free
  · obtain ⟨_, o, ho, _⟩ := I.ok.funs.mem hb
    exact I.base.free b o ho (I.ok.frf b hb) fun z => I.ok.exfs b z hb

/-- THE STEP: the untracked objects but the frame and the records at ch are kept (the callers' frames up to slots), the frame's map is kept, the new abstract heap is held -/
theorem Inv.step {g' : Array GenState} {t' : Nat} {d' : Drawn} {ch : List Addr} (I : Inv X pins σ H s)
    (hch : ∀ b ∈ ch, (b ∈ X.ex ∨ X.s₀.heap.objs.size ≤ b) ∧ b ≠ X.env.locals ∧ (∀ x c, X.env.cells.lookup x = some c → c ≠ b) ∧ ∀ p ∈ X.pn ++ pins, p.1 ≠ b)
    (keep : ∀ b o, b ≠ X.env.locals → b ∉ X.fs → b ∉ ch → s.heap.get? b = some o → H b = none → h'.get? b = some o)
    (slot : ∀ b o, b ≠ X.env.locals → b ∈ X.fs → b ∉ ch → s.heap.get? b = some o → H b = none → ∃ sl, h'.get? b = some { o with slots := sl }) (free : ∀ b o, b ∉ ch → s.heap.get? b = some o → H b = none → H' b = none)
    (there : ∀ b o, b ∉ ch → s.heap.get? b = some o → ∃ o', h'.get? b = some o')
    (tups : ∀ b xs, H b = some (.tup xs) → H' b = some (.tup xs)) (frzs : ∀ b o u, H b = some (.frz o u) → H' b = some (.frz o u)) (tbls : ∀ b ps, H b = some (.tbl ps) → ∃ more, H' b = some (.tbl (ps ++ more)))
    (ns : ∀ m, s.heap.Ns X.env.locals m → h'.Ns X.env.locals m) (hok : HOk X.prog X.w H' h') (hg : AllBare g') :
    Inv X pins σ H' { s with heap := h', gens := g', drawn := d', toks := t' } := by
  have neL : ∀ b o, X.s₀.heap.get? b = some o → b ≠ X.env.locals := fun b o e => Nat.ne_of_lt (Nat.lt_of_lt_of_le (Heap.lt_size e) I.ok.above)
  have neC : ∀ b o, X.s₀.heap.get? b = some o → b ∉ X.ex → b ∉ ch := fun b o e hx hb => by
    rcases (hch b hb).1 with z | z
    · exact hx z
    · exact absurd (Nat.lt_of_lt_of_le (Heap.lt_size e) z) (Nat.lt_irrefl _)
  have cellK : ∀ x c, X.env.cells.lookup x = some c → ∀ v, s.heap.IsCell c v → h'.IsCell c v := fun x c e v ⟨o, ho, hd⟩ => by
    have nch : c ∉ ch := fun z => (hch c z).2.2.1 x c e rfl
    by_cases hc : c ∈ X.fs
    · obtain ⟨sl, q⟩ := slot c o (I.cne x c e) hc nch ho (I.freeC x c e)
      exact ⟨_, q, hd⟩
    · exact ⟨o, keep c o (I.cne x c e) hc nch ho (I.freeC x c e), hd⟩
  refine ⟨I.ok, I.os, hg, ⟨fun b o e n hb hx => ?_, fun b o e n hb hx => ?_, fun b o e n hx => ?_, fun b o e hx => ?_, fun b xs e => tups b xs (I.base.tups b xs e), fun b o xs e => frzs b o xs (I.base.frzs b o xs e), fun b ps e => ?_⟩, ?_, fun x c e => ?_, ?_, fun x c e => ?_, fun p hp => ?_, hok, I.len⟩
  · exact keep b o (neL b o e) hb (neC b o e hx) (I.base.keep b o e n hb hx) (I.base.free b o e n hx)
  · obtain ⟨sl, e1⟩ := I.base.slot b o e n hb hx
    obtain ⟨sl', e2⟩ := slot b _ (neL b o e) hb (neC b o e hx) e1 (I.base.free b o e n hx)
    exact ⟨sl', e2⟩
  · obtain ⟨o', e1⟩ := I.base.there b o e hx
    exact free b o' (neC b o e hx) e1 (I.base.free b o e n hx)
  · obtain ⟨o', e1⟩ := I.base.there b o e hx
    exact there b o' (neC b o e hx) e1
  · obtain ⟨m1, e1⟩ := I.base.tbls b ps e
    obtain ⟨m2, e2⟩ := tbls b _ e1
    exact ⟨m1 ++ m2, by rw [e2, Array.append_assoc]⟩
  · obtain ⟨m, hn, hl⟩ := I.loc
    refine ⟨m, ns m hn, fun i x v e1 e2 e3 => ?_⟩
    obtain ⟨u, r, l⟩ := hl i x v e1 e2 e3
    refine ⟨u, r, ?_⟩
    rcases l with l | ⟨k, c, e, z⟩
    · exact .inl l
    · exact .inr ⟨k, c, e, cellK x c e _ z⟩
  · obtain ⟨v, z⟩ := I.cell x c e
    exact ⟨v, cellK x c e v z⟩
  · obtain ⟨m, ⟨o, _, _, ho, _⟩, _⟩ := I.loc
    exact free _ o (fun z => (hch _ z).2.1 rfl) ho I.free
  · obtain ⟨v, o, ho, hd⟩ := I.cell x c e
    exact free c o (fun z => (hch c z).2.2.1 x c e rfl) ho (I.freeC x c e)
  · obtain ⟨e, n, ne, nf, d⟩ := I.pin p hp
    have nch : p.1 ∉ ch := fun z => (hch p.1 z).2.2.2 p hp rfl
    exact ⟨keep p.1 p.2 ne nf nch e n, free p.1 p.2 nch e n, ne, nf, d⟩
/-- .. where the frame's own object is kept too -/
theorem Inv.un {t' : Nat} (I : Inv X pins σ H s) (u : Un X.fs [] H H' s.heap h') (hok : HOk X.prog X.w H' h') : Inv X pins σ H' { s with heap := h', toks := t' } := by
  obtain ⟨m, ⟨o, es, ep, ho, r⟩, _⟩ := id I.loc
  obtain ⟨sl, hL⟩ := u.any ho I.free (by simp)
  exact I.step (g' := s.gens) (d' := s.drawn) (ch := []) (fun _ z => nomatch z) (fun b o _ hb _ e n => u.keep b o e n hb (by simp)) (fun b o _ hb _ e n => u.slot b o e n hb (by simp)) (fun b o _ e n => u.free b o e n (by simp)) (fun b o _ e => u.there b o e (by simp)) u.tups u.frzs u.tbls (fun m' hm => by
    obtain ⟨o', es', ep', ho', r'⟩ := hm
    rw [ho] at ho'; cases ho'
    exact ⟨_, es', ep', hL, r'⟩) hok I.bare
/-- behind a call (or a comprehension's block): the slots of this frame may have changed too, the records at ch may have turned -/
theorem Inv.call {g' : Array GenState} {t' : Nat} {d' : Drawn} {ch : List Addr} (I : Inv X pins σ H s) (u : Un (frs X.stack) ch H H' s.heap h') (hok : HOk X.prog X.w H' h') (hg : AllBare g')
    (hch : ∀ b ∈ ch, (b ∈ X.ex ∨ X.s₀.heap.objs.size ≤ b) ∧ b ≠ X.env.locals ∧ (∀ x c, X.env.cells.lookup x = some c → c ≠ b) ∧ ∀ p ∈ X.pn ++ pins, p.1 ≠ b) :
    Inv X pins σ H' { s with heap := h', gens := g', drawn := d', toks := t' } := by
  obtain ⟨m, ⟨o, es, ep, ho, r⟩, _⟩ := id I.loc
  obtain ⟨sl, hL⟩ := u.any ho I.free fun z => (hch _ z).2.1 rfl
  exact I.step (ch := ch) hch (fun b o hL hb hc e n => u.keep b o e n (fun z => (List.mem_cons.mp (I.stkSub b z)).elim hL hb) hc) (fun b o _ _ hc e n => u.any e n hc) (fun b o hc e n => u.free b o e n hc) (fun b o hc e => u.there b o e hc) u.tups u.frzs u.tbls (fun m' hm => by
    obtain ⟨o', es', ep', ho', r'⟩ := hm
    rw [ho] at ho'; cases ho'
    exact ⟨_, es', ep', hL, r'⟩) hok hg
/-- an untracked record of ours (an iterator) has turned -/
theorem Inv.turned {t' : Nat} {it : Addr} (I : Inv X pins σ H s) (k : ∀ b o, b ≠ it → s.heap.get? b = some o → h'.get? b = some o) (hn : H it = none) (hL : it ≠ X.env.locals)
    (h1 : it ∈ X.ex ∨ X.s₀.heap.objs.size ≤ it) (h2 : ∀ x c, X.env.cells.lookup x = some c → c ≠ it) (h3 : ∀ p ∈ X.pn ++ pins, p.1 ≠ it) : Inv X pins σ H { s with heap := h', toks := t' } := by
  have nit : ∀ b u, H b = some u → b ≠ it := fun b u e z => by rw [z, hn] at e; cases e
  refine I.step (g' := s.gens) (d' := s.drawn) (ch := [it]) (fun b hb => ?_) (fun b o _ _ hc e _ => k b o (fun z => hc (by simp [z])) e) (fun b o _ _ hc e _ => ⟨o.slots, k b o (fun z => hc (by simp [z])) e⟩) (fun _ _ _ _ n => n)
    (fun b o hc e => ⟨o, k b o (fun z => hc (by simp [z])) e⟩) (fun _ _ e => e) (fun _ _ _ e => e) (fun b ps e => ⟨#[], by rw [e]; simp⟩) (fun m hm => ?_) (fun b u e => ?_) I.bare
  · have e : b = it := by simpa using hb
    subst e
    exact ⟨h1, hL, h2, h3⟩
  · obtain ⟨o, es, ep, ho, r⟩ := hm
    exact ⟨o, es, ep, k _ o (Ne.symm hL) ho, r⟩
  · refine (I.hok b u e).stay (fun c v hc q => k c v ?_ q) (fun _ q => q) fun _ _ q => q
    rcases hc with z | z
    · rw [z]; exact nit b u e
    · exact nit c _ z
theorem Inv.tok (I : Inv X pins σ H s) (t : Nat) : Inv X pins σ H { s with toks := t } := I.un (h' := s.heap) (t' := t) Un.refl I.hok
/-- all objects kept -/
theorem Inv.kept {t' : Nat} (I : Inv X pins σ H s) (k : ∀ b u, s.heap.get? b = some u → h'.get? b = some u) : Inv X pins σ H { s with heap := h', toks := t' } := I.un (Un.kept k) (I.hok.kept k)
/-- a new object laid and tracked -/
theorem Inv.laid {a : Addr} {o : HO} {t' : Nat} (I : Inv X pins σ H s) (k : ∀ b u, s.heap.get? b = some u → h'.get? b = some u) (hp : s.heap.objs.size ≤ a) (new : ObjOk X.prog X.w (upd H a o) h' a o) :
    Inv X pins σ (upd H a o) { s with heap := h', toks := t' } := I.un (Un.laid k hp (I.hok.fresh hp)) (I.hok.laid k hp new)
/-- an object written -/
theorem Inv.write {x e : Addr} {o : HO} {t' : Nat} (I : Inv X pins σ H s) (mu : Mut (H x)) (he : e = x ∨ H e = some (.own x)) (k : ∀ b u, b ≠ e → s.heap.get? b = some u → h'.get? b = some u) (heo : ∃ u, h'.get? e = some u)
    (new : ObjOk X.prog X.w (upd H x o) h' x o) : Inv X pins σ (upd H x o) { s with heap := h', toks := t' } := I.un (Un.write mu he k heo) (I.hok.write mu he k heo new)
theorem Inv.pins_of {pins' : List (Addr × Obj)} (I : Inv X pins σ H s) (h : ∀ p ∈ pins', s.heap.get? p.1 = some p.2 ∧ H p.1 = none ∧ p.1 ≠ X.env.locals ∧ p.1 ∉ X.fs ∧ ∀ v, p.2.data ≠ .cell v) : Inv X pins' σ H s :=
  ⟨I.ok, I.os, I.bare, I.base, I.loc, I.cell, I.free, I.freeC, fun p hp => (List.mem_append.mp hp).elim (fun z => I.pin p (List.mem_append_left _ z)) (h p), I.hok, I.len⟩

theorem nodup_ix {N : List Str} (hN : N.Nodup) {i j : Nat} {x : Str} (a : N[i]? = some x) (b : N[j]? = some x) : i = j := by
  obtain ⟨h1, e1⟩ := List.getElem?_eq_some_iff.mp a
  obtain ⟨h2, e2⟩ := List.getElem?_eq_some_iff.mp b
  exact (List.getElem_inj hN).mp (e1.trans e2.symm)

/-- a name is stored; what changed -/
theorem store_ok2 {M : Model} {A : Around} {E : Value → Shared → Prop} {i : Nat} {x : Str} {v : V} {u : Value} {Q : Unit → Shared → Prop} (I : Inv X pins σ H s) (hN : X.N.Nodup) (hi : X.N[i]? = some x) (hx : Loc X.env.scope x) (r : RelV v u)
    (h : ∀ s', Inv X pins (σ.set i (some v)) H s' → (∃ a, Heap.SameBut a s.heap s'.heap ∧ (a = X.env.locals ∨ X.env.cells.lookup x = some a)) → Q () s') (hf : X.fn x = true ∨ X.env.scope.names.lookup x = some .local := by first | exact .inl rfl | exact .inr rfl | assumption) : wpAny M A (storeName X.env x u) Q E s := by
  obtain ⟨m, hn, hl⟩ := id I.loc
  have hcls : (X.env.scope.kind == .class || (X.env.scope.kind == .module && X.env.locals != X.env.globals)) = false := by rw [I.ok.kind]; rfl
  have hiσ : i < σ.length := by rw [I.len]; exact (List.getElem?_eq_some_iff.mp hi).1
  have cne := I.cne
  have tracked : ∀ {a : Addr} {h' : Heap}, (∃ o, s.heap.get? a = some o ∧ H a = none) → Heap.SameBut a s.heap h' → HOk X.prog X.w H h' := fun {a h'} ha hs b ob e => by
    obtain ⟨_, _, hfree⟩ := ha
    refine (I.hok b ob e).stay (fun c w' hc q => (hs.2 c ?_).trans q) (fun _ q => q) fun _ _ q => q
    rintro rfl
    rcases hc with rfl | hc
    · rw [hfree] at e; cases e
    · rw [hfree] at hc; cases hc
  rcases hx with hk | hk
  · refine wpAny_storeName_local hk hn (fun h' hn' hs => ?_) hcls
    obtain ⟨oL, _, _, hoL, _⟩ := id hn
    refine h _ ⟨I.ok, I.os, I.bare, ⟨fun b o e n hb hx => ?_, fun b o e n hb hx => ?_, I.base.free, fun b o e hx => ?_, I.base.tups, I.base.frzs, I.base.tbls⟩, ⟨_, hn', fun j y v' e1 e2 e3 => ?_⟩, fun y c e => ?_, I.free, I.freeC, fun p hp => ?_, tracked ⟨oL, hoL, I.free⟩ hs, by simpa using I.len⟩ ⟨_, hs, .inl rfl⟩
    · exact (hs.2 b (Nat.ne_of_lt (Nat.lt_of_lt_of_le (Heap.lt_size e) I.ok.above))).trans (I.base.keep b o e n hb hx)
    · obtain ⟨sl, e1⟩ := I.base.slot b o e n hb hx
      exact ⟨sl, (hs.2 b (Nat.ne_of_lt (Nat.lt_of_lt_of_le (Heap.lt_size e) I.ok.above))).trans e1⟩
    · obtain ⟨o', e1⟩ := I.base.there b o e hx
      exact ⟨o', (hs.2 b (Nat.ne_of_lt (Nat.lt_of_lt_of_le (Heap.lt_size e) I.ok.above))).trans e1⟩
    · by_cases hj : j = i
      · subst hj
        rw [hi] at e1; cases e1
        rw [List.getElem?_set_self hiσ] at e2
        cases e2
        exact ⟨u, r, .inl ⟨hk, by simp⟩⟩
      · rw [List.getElem?_set_ne (Ne.symm hj)] at e2
        obtain ⟨u', r', q⟩ := hl j y v' e1 e2 e3
        refine ⟨u', r', ?_⟩
        rcases q with ⟨k, e⟩ | ⟨k, c, e, z⟩
        · refine .inl ⟨k, ?_⟩
          have : y ≠ x := fun e => hj (nodup_ix hN e1 (e ▸ hi))
          simp [this, e]
        · exact .inr ⟨k, c, e, z.sameBut hs (cne y c e)⟩
    · obtain ⟨w', z⟩ := I.cell y c e
      exact ⟨w', z.sameBut hs (cne y c e)⟩
    · obtain ⟨e, n, ne, nf, d⟩ := I.pin p hp
      exact ⟨(hs.2 p.1 ne).trans e, n, ne, nf, d⟩
  · have hfn : X.fn x = true := by
      rcases hf with z | z
      · exact z
      · rw [z] at hk; cases hk
    obtain ⟨c, hc⟩ := I.ok.has x (.inl hk)
    obtain ⟨w', z⟩ := I.cell x c hc
    refine wpAny_storeName_cell I.ok.kind hk hc z (fun h' hc' hs => ?_)
    obtain ⟨oc, hoc, hocd⟩ := id z
    refine h { s with heap := h' } ⟨I.ok, I.os, I.bare, ⟨fun b o e n hb hx => ?_, fun b o e n hb hx => ?_, I.base.free, fun b o e hx => ?_, I.base.tups, I.base.frzs, I.base.tbls⟩, ⟨m, hn.sameBut hs (Ne.symm (cne x c hc)), fun j y v' e1 e2 e3 => ?_⟩, fun y c' e => ?_, I.free, I.freeC, fun p hp => ?_, tracked ⟨oc, hoc, I.freeC x c hc⟩ hs, by simpa using I.len⟩ ⟨c, hs, .inr hc⟩
    · exact (hs.2 b (Nat.ne_of_lt (Nat.lt_of_lt_of_le (Heap.lt_size e) (I.ok.cab x c hfn hc)))).trans (I.base.keep b o e n hb hx)
    · obtain ⟨sl, e1⟩ := I.base.slot b o e n hb hx
      exact ⟨sl, (hs.2 b (Nat.ne_of_lt (Nat.lt_of_lt_of_le (Heap.lt_size e) (I.ok.cab x c hfn hc)))).trans e1⟩
    · obtain ⟨o', e1⟩ := I.base.there b o e hx
      exact ⟨o', (hs.2 b (Nat.ne_of_lt (Nat.lt_of_lt_of_le (Heap.lt_size e) (I.ok.cab x c hfn hc)))).trans e1⟩
    · by_cases hj : j = i
      · subst hj
        rw [hi] at e1; cases e1
        rw [List.getElem?_set_self hiσ] at e2
        cases e2
        exact ⟨u, r, .inr ⟨.inl hk, c, hc, hc'⟩⟩
      · rw [List.getElem?_set_ne (Ne.symm hj)] at e2
        obtain ⟨u', r', q⟩ := hl j y v' e1 e2 e3
        refine ⟨u', r', ?_⟩
        rcases q with q | ⟨k, c', e, z'⟩
        · exact .inl q
        · refine .inr ⟨k, c', e, z'.sameBut hs ?_⟩
          rintro rfl
          exact hj (nodup_ix hN e1 (I.ok.inj _ _ _ e hc ▸ hi))
    · by_cases hcc : c' = c
      · subst hcc; exact ⟨_, hc'⟩
      · obtain ⟨w2, z2⟩ := I.cell y c' e
        exact ⟨w2, z2.sameBut hs hcc⟩
    · obtain ⟨e, n, ne, nf, d⟩ := I.pin p hp
      refine ⟨(hs.2 p.1 ?_).trans e, n, ne, nf, d⟩
      intro q
      rw [q, hoc] at e
      have q' : oc = p.2 := Option.some.inj e
      exact d w' (by rw [← q']; exact hocd)
theorem store_ok {M : Model} {A : Around} {E : Value → Shared → Prop} {i : Nat} {x : Str} {v : V} {u : Value} {Q : Unit → Shared → Prop} (I : Inv X pins σ H s) (hN : X.N.Nodup) (hi : X.N[i]? = some x) (hx : Loc X.env.scope x) (r : RelV v u)
    (h : ∀ s', Inv X pins (σ.set i (some v)) H s' → Q () s') (hf : X.fn x = true ∨ X.env.scope.names.lookup x = some .local := by first | exact .inl rfl | exact .inr rfl | assumption) : wpAny M A (storeName X.env x u) Q E s :=
  store_ok2 I hN hi hx r (fun s' I' _ => h s' I') hf
/-- behind a call or a block, the state as it is -/
theorem Inv.call' {s' : Shared} {ch : List Addr} (I : Inv X pins σ H s) (ho : s'.os = s.os) (u : Un (frs X.stack) ch H H' s.heap s'.heap) (hok : HOk X.prog X.w H' s'.heap) (hg : AllBare s'.gens)
    (hch : ∀ b ∈ ch, (b ∈ X.ex ∨ X.s₀.heap.objs.size ≤ b) ∧ b ≠ X.env.locals ∧ (∀ x c, X.env.cells.lookup x = some c → c ≠ b) ∧ ∀ p ∈ X.pn ++ pins, p.1 ≠ b) : Inv X pins σ H' s' := by
  obtain ⟨h', g', d', t', o'⟩ := s'
  have e : o' = s.os := ho
  subst e
  exact I.call (g' := g') (t' := t') (d' := d') u hok hg hch
end

/-! ### the judgements -/
/-- an exception: its class, its own dict's address (where it has one), the abstract heap behind it -/
abbrev XK := Value → Option Addr → Hp → Prop
abbrev St := List (Option V)
abbrev VK := V → Hp → Prop
/-- an expression's reading; a test's; an argument list's -/
abbrev TE := St → Hp → VK → Prop
abbrev TT := St → Hp → (Bool → Hp → Prop) → Prop
abbrev TA := St → Hp → (List V → Hp → Prop) → Prop
/-- what is wanted behind a statement -/
structure Ends where
  nx : St → Hp → Prop
  rt : VK
  bk : St → Hp → Prop := fun _ _ => False
  ct : St → Hp → Prop := fun _ _ => False
abbrev TS := Ends → St → Hp → Prop

def EP (X : Cx) (pins : List (Addr × Obj)) (σ : St) (Q : VK) (u : Value) (s' : Shared) : Prop := ∃ v H', Inv X pins σ H' s' ∧ RelV v u ∧ Q v H'
def TP (X : Cx) (pins : List (Addr × Obj)) (σ : St) (Q : Bool → Hp → Prop) (b : Bool) (s' : Shared) : Prop := ∃ H', Inv X pins σ H' s' ∧ Q b H'
def AP (X : Cx) (pins : List (Addr × Obj)) (σ : St) (Q : List V → Hp → Prop) (us : List Value) (s' : Shared) : Prop := ∃ vs H', Inv X pins σ H' s' ∧ Vals vs us ∧ Q vs H'
def SP (X : Cx) (pins : List (Addr × Obj)) (D : Ends) (f : Flow) (s' : Shared) : Prop :=
  match f with
  | .next => ∃ σ' H', Inv X pins σ' H' s' ∧ D.nx σ' H'
  | .brk => ∃ σ' H', Inv X pins σ' H' s' ∧ D.bk σ' H'
  | .cont => ∃ σ' H', Inv X pins σ' H' s' ∧ D.ct σ' H'
  | .ret u => ∃ v σ' H', Inv X pins σ' H' s' ∧ RelV v u ∧ D.rt v H'

def PE (X : Cx) (e : Expr) (t : TE) : Prop :=
  ∀ (pins : List (Addr × Obj)) (s : Shared) (σ : St) (H : Hp) (Q : VK), Inv X pins σ H s → t σ H Q → wpAny (model X.prog X.w) X.A (eval e X.env) (EP X pins σ Q) X.xe s
def PT (X : Cx) (e : Expr) (t : TT) : Prop :=
  ∀ (pins : List (Addr × Obj)) (s : Shared) (σ : St) (H : Hp) (Q : Bool → Hp → Prop), Inv X pins σ H s → t σ H Q → wpAny (model X.prog X.w) X.A (isTrue e X.env (eval e X.env)) (TP X pins σ Q) X.xe s
/-- a test whatever its 'whole' is (and, or) -/
def PW (X : Cx) (e : Expr) (t : TT) : Prop :=
  ∀ (whole : Sem Value) (pins : List (Addr × Obj)) (s : Shared) (σ : St) (H : Hp) (Q : Bool → Hp → Prop), Inv X pins σ H s → t σ H Q → wpAny (model X.prog X.w) X.A (isTrue e X.env whole) (TP X pins σ Q) X.xe s
theorem PW.pt {X : Cx} {e : Expr} {t : TT} (h : PW X e t) : PT X e t := h _
/-- an argument list (no star), from the left -/
def PA (X : Cx) (es : List Expr) (t : TA) : Prop :=
  ∀ (pos : Pos) (pins : List (Addr × Obj)) (s : Shared) (σ : St) (H : Hp) (Q : List V → Hp → Prop), Inv X pins σ H s → t σ H Q → wpAny (model X.prog X.w) X.A (spliced (backTo pos (starEach es X.env))) (AP X pins σ Q) X.xe s
def PS (X : Cx) (st : Stmt) (t : TS) : Prop :=
  ∀ (pins : List (Addr × Obj)) (s : Shared) (σ : St) (H : Hp) (D : Ends), Inv X pins σ H s → t D σ H → wpAny (model X.prog X.w) X.A (exec st X.env) (SP X pins D) X.xe s
def PSs (X : Cx) (st : List Stmt) (t : TS) : Prop :=
  ∀ (pins : List (Addr × Obj)) (s : Shared) (σ : St) (H : Hp) (D : Ends), Inv X pins σ H s → t D σ H → wpAny (model X.prog X.w) X.A (execs st X.env) (SP X pins D) X.xe s
/-- weaken the end -/
theorem thn {α : Type} {t : Sem α} {Q Q' : α → Shared → Prop} {M : Model} {A : Around} {E : Value → Shared → Prop} {s : Shared} (h : wpAny M A t Q E s) (hQ : ∀ a s, Q a s → Q' a s) : wpAny M A t Q' E s := wpAny_mono h hQ fun _ _ x => x
end L2

namespace L2
open PySem PySem.Spec PyProof.Rows
section
variable {X : Cx}

/-! ### names and constants -/
def tVar (i : Nat) : TE := fun σ H Q => ∃ v, σ[i]? = some (some v) ∧ Q v H
def tC (v : V) : TE := fun _ H Q => Q v H
theorem pe_var {i : Nat} {x : Str} {pos : Pos} (hN : X.N[i]? = some x) (hv : Vis X.env.scope x) (hd : (x == ("__debug__" : Str)) = false := by decide) (hcd : (x == ("__classdict__" : Str)) = false := by decide) : PE X (.Name x pos) (tVar i) := by
  intro pins s σ H Q I h
  obtain ⟨v, e, h⟩ := h
  obtain ⟨m, hn, hl⟩ := I.loc
  obtain ⟨u, r, l⟩ := hl i x v hN e hv
  have fin : EP X pins σ Q u s := ⟨v, H, I, r, h⟩
  rcases l with ⟨hk, hm⟩ | ⟨hk, c, hc, hcell⟩
  · exact wpAny_Name (wpAny_loadName_local I.ok.kind hk hn hm fin) hd
  · rcases hk with hk | hk
    · exact wpAny_Name (wpAny_loadName_cell I.ok.kind hk hc hcell fin) hd
    · exact wpAny_Name (wpAny_loadName_free I.ok.kind hk hc hcell fin hcd) hd
theorem pe_int {i j pos} : PE X (.Constant (.int i) j pos) (tC (.int i)) := fun _ _ _ H _ I h => wpAny_Constant_int ⟨.int i, H, I.tok _, ⟨_, rfl⟩, h⟩
theorem pe_bl {b j pos} : PE X (.Constant (.bool b) j pos) (tC (.bl b)) := fun _ _ _ H _ I h => Constant_bool ⟨.bl b, H, I, rfl, h⟩
theorem pe_non {j pos} : PE X (.Constant .none j pos) (tC .non) := fun _ _ _ H _ I h => Constant_none ⟨.non, H, I, rfl, h⟩
/-- a global name of the def -/
def Gl (X : Cx) (x : Str) : Prop := X.env.kindOf x = some .globalImplicit
theorem ld_glob {E : Value → Shared → Prop} {pins : List (Addr × Obj)} {s : Shared} {σ : St} {H : Hp} {x : Str} {u : Value} {pos : Pos} {Q : Value → Shared → Prop} (I : Inv X pins σ H s) (hg : Gl X x) (hm : X.mg x = some u) (h : Q u s)
    (hd : (x == ("__debug__" : Str)) = false := by decide) : wpAny (model X.prog X.w) X.A (eval (.Name x pos) X.env) Q E s :=
  Calls.Name_function_global I.ok.kind hg (Calls.loadGlobal_global (by rw [I.ok.glob]; exact I.mod.glob.keeps I.bk) hm h) hd
theorem ld_blt {E : Value → Shared → Prop} {pins : List (Addr × Obj)} {s : Shared} {σ : St} {H : Hp} {x : Str} {u : Value} {pos : Pos} {Q : Value → Shared → Prop} (I : Inv X pins σ H s) (hg : Gl X x) (hm : X.mg x = none) (hv : bootBuiltins x = some u) (h : Q u s)
    (hn : x ≠ "__name__" := by decide) (hd : (x == ("__debug__" : Str)) = false := by decide) : wpAny (model X.prog X.w) X.A (eval (.Name x pos) X.env) Q E s := by
  obtain ⟨mb, h1, h2⟩ := I.mod.blt
  exact Calls.Name_function_global I.ok.kind hg (Calls.loadGlobal_builtin (by rw [I.ok.glob]; exact I.mod.glob.keeps I.bk) hm (by rw [I.ok.blt]; exact h1.keeps I.bk) ((h2 x hn).trans hv) h) hd
theorem pe_bltn {x : Str} {v : V} {u : Value} {pos : Pos} (hg : Gl X x) (hm : X.mg x = none) (hv : bootBuiltins x = some u) (r : RelV v u) (hn : x ≠ "__name__" := by decide) (hd : (x == ("__debug__" : Str)) = false := by decide) : PE X (.Name x pos) (tC v) :=
  fun _ _ _ H _ I h => ld_blt I hg hm hv ⟨v, H, I, r, h⟩ hn hd

/-! ### arithmetic -/
/-- two ints -/
def t2I (ta tb : TE) (k : Int → Int → Hp → Prop) : St → Hp → Prop := fun σ H => ta σ H fun x H1 => tb σ H1 fun y H2 => ∃ i j, x = .int i ∧ y = .int j ∧ k i j H2
def tAdd (ta tb : TE) : TE := fun σ H Q => t2I ta tb (fun i j H2 => Q (.int (i + j)) H2) σ H
def tSub (ta tb : TE) : TE := fun σ H Q => t2I ta tb (fun i j H2 => Q (.int (i - j)) H2) σ H
/-- the left factor below 2^64 -/
def tMul (ta tb : TE) : TE := fun σ H Q => t2I ta tb (fun i j H2 => (-(2 ^ 64) < i ∧ i < 2 ^ 64) ∧ Q (.int (i * j)) H2) σ H
variable {a b : Expr} {ta tb : TE} {pos : Pos}
/-! ### comparisons -/
def PC (X : Cx) (op : CmpOp) (a b : Expr) (t : TE) : Prop :=
  ∀ (pins : List (Addr × Obj)) (s : Shared) (σ : St) (H : Hp) (Q : VK), Inv X pins σ H s → t σ H Q →
    wpAny (model X.prog X.w) X.A (eval a X.env) (fun v s₁ => wpAny (model X.prog X.w) X.A (eval b X.env) (fun u s₂ => wpAny (model X.prog X.w) X.A (compareOp op v u) (EP X pins σ Q) X.xe s₂) X.xe s₁) X.xe s
def tCmp (p : Int → Int → Bool) (ta tb : TE) : TE := fun σ H Q => t2I ta tb (fun i j H2 => Q (.bl (p i j)) H2) σ H
abbrev tLt : TE → TE → TE := tCmp fun i j => decide (i < j)
abbrev tLe : TE → TE → TE := tCmp fun i j => decide (i ≤ j)
abbrev tGt : TE → TE → TE := tCmp fun i j => decide (j < i)
abbrev tGe : TE → TE → TE := tCmp fun i j => decide (j ≤ i)
abbrev tEqI : TE → TE → TE := tCmp fun i j => decide (i = j)
abbrev tNeI : TE → TE → TE := tCmp fun i j => !decide (i = j)
/-- is None -/
def tIsN (ta : TE) : TE := fun σ H Q => ta σ H fun x H1 => Q (.bl (decide (x = .non))) H1
def tNotN (ta : TE) : TE := fun σ H Q => ta σ H fun x H1 => Q (.bl (!decide (x = .non))) H1
/-- a comparison as a value, as a test -/
def tB (t : TE) : TT := fun σ H Q => t σ H fun x H1 => ∃ c, x = .bl c ∧ Q c H1
/-- an expression whose value is a bool, as a test -/
theorem pt_val {e : Expr} {t : TE} (h : PE X e t) (he : ∀ whole, isTrue e X.env whole = (do let v ← whole; standAt e.pos; holding [v] (truthy v)) := by intro _; rfl) : PT X e (tB t) := by
  intro pins s σ H Q I hw
  refine isTrue_plain (thn (h pins s σ H _ I hw) fun v s1 ⟨x, H1, I1, r1, q1⟩ => ?_) (he _)
  obtain ⟨d, rfl, q⟩ := q1
  cases r1
  exact wpAny_truthy_bool ⟨H1, I1, q⟩

/-! ### and, or, not -/
variable {tA tB' : TT} {rest : List Expr}
def tAnd (t u : TT) : TT := fun σ H Q => t σ H fun c H1 => if c = true then u σ H1 Q else Q false H1
def tOr (t u : TT) : TT := fun σ H Q => t σ H fun c H1 => if c = true then Q true H1 else u σ H1 Q
def tNot (t : TT) : TT := fun σ H Q => t σ H fun c H1 => Q (!c) H1
theorem pw_and1 (ha : PT X a tA) : PW X (.BoolOp .And [a] pos) tA := by
  intro wh pins s σ H Q I h
  refine isTrue_and (thn (ha pins s σ H Q I h) fun c s1 e => ?_)
  cases c with
  | true => exact isTrue_and_nil e
  | false => exact e
theorem pw_or1 (ha : PT X a tA) : PW X (.BoolOp .Or [a] pos) tA := by
  intro wh pins s σ H Q I h
  refine isTrue_or (thn (ha pins s σ H Q I h) fun c s1 e => ?_)
  cases c with
  | false => exact isTrue_or_nil e
  | true => exact e
theorem pw_and (ha : PT X a tA) (hb : PW X (.BoolOp .And (b :: rest) pos) tB') : PW X (.BoolOp .And (a :: b :: rest) pos) (tAnd tA tB') := by
  intro wh pins s σ H Q I h
  refine isTrue_and (thn (ha pins s σ H _ I h) fun c s1 ⟨H1, I1, q1⟩ => ?_)
  cases c with
  | true => exact hb wh pins s1 σ H1 Q I1 q1
  | false => exact ⟨H1, I1, q1⟩
theorem pw_or (ha : PT X a tA) (hb : PW X (.BoolOp .Or (b :: rest) pos) tB') : PW X (.BoolOp .Or (a :: b :: rest) pos) (tOr tA tB') := by
  intro wh pins s σ H Q I h
  refine isTrue_or (thn (ha pins s σ H _ I h) fun c s1 ⟨H1, I1, q1⟩ => ?_)
  cases c with
  | true => exact ⟨H1, I1, q1⟩
  | false => exact hb wh pins s1 σ H1 Q I1 q1
theorem pt_not (ha : PT X a tA) : PT X (.UnaryOp .Not a pos) (tNot tA) := by
  intro pins s σ H Q I h
  exact isTrue_not (ha pins s σ H (fun c H1 => Q (!c) H1) I h)
/-- .. as values (bools) -/
def tAndV (ta tb : TE) : TE := fun σ H Q => ta σ H fun x H1 => ∃ c, x = .bl c ∧ if c = true then tb σ H1 Q else Q (.bl false) H1
def tOrV (ta tb : TE) : TE := fun σ H Q => ta σ H fun x H1 => ∃ c, x = .bl c ∧ if c = true then Q (.bl true) H1 else tb σ H1 Q
def tNotV (ta : TE) : TE := fun σ H Q => ta σ H fun x H1 => ∃ c, x = .bl c ∧ Q (.bl (!c)) H1
theorem pe_one {op} {t : TE} (h : PE X a t) : PE X (.BoolOp op [a] pos) t := fun pins s σ H Q I hw => BoolOp_one (h pins s σ H Q I hw)
theorem pe_and (ha : PE X a ta) (hb : PE X (.BoolOp .And (b :: rest) pos) tb) : PE X (.BoolOp .And (a :: b :: rest) pos) (tAndV ta tb) := by
  intro pins s σ H Q I h
  refine BoolOp_and (thn (ha pins s σ H _ I h) fun v s1 ⟨x, H1, I1, r1, q1⟩ => ?_)
  obtain ⟨c, rfl, q1⟩ := q1
  cases r1
  refine wpAny_truthy_bool ?_
  cases c with
  | true => exact hb pins s1 σ H1 Q I1 q1
  | false => exact ⟨.bl false, H1, I1, rfl, q1⟩
theorem pe_not (ha : PE X a ta) : PE X (.UnaryOp .Not a pos) (tNotV ta) := by
  intro pins s σ H Q I h
  refine UnaryOp_ (thn (ha pins s σ H _ I h) fun v s1 ⟨x, H1, I1, r1, q1⟩ => ?_)
  obtain ⟨c, rfl, q1⟩ := q1
  cases r1
  exact not_of (wpAny_truthy_bool ⟨.bl (!c), H1, I1, rfl, q1⟩)
/-- a if t else b -/
def tIf (t : TT) (ta tb : TE) : TE := fun σ H Q => t σ H fun c H1 => if c = true then ta σ H1 Q else tb σ H1 Q
theorem pe_ifExp {c : Expr} (hc : PT X c tA) (ha : PE X a ta) (hb : PE X b tb) : PE X (.IfExp c a b pos) (tIf tA ta tb) := by
  intro pins s σ H Q I h
  refine wpAny_IfExp (thn (hc pins s σ H _ I h) fun d s1 ⟨H1, I1, q1⟩ => ?_)
  cases d with
  | true => exact ha pins s1 σ H1 Q I1 q1
  | false => exact hb pins s1 σ H1 Q I1 q1
end
end L2

namespace L2
open PySem PySem.Spec PyProof.Rows

/-! ### a list, a tuple that is read: tracked, frozen, or an object of the module -/
def SqL (K : PySem.W.Frag) (H : Hp) (a : Addr) (xs : List V) : Prop :=
  Rd H a (.lst xs) ∨
    ∃ (o : Obj) (its : Array Value) (n : Nat), K.lookup a = some o ∧ o.cls = .type "list" ∧ o.dict = none ∧ o.data = .seq its n ∧ its.size ≤ sizeLine ∧ Vals xs its.toList
def SqT (K : PySem.W.Frag) (H : Hp) (a : Addr) (xs : List V) : Prop :=
  Rd H a (.tup xs) ∨
    ∃ (o : Obj) (its : Array Value) (n : Nat), K.lookup a = some o ∧ o.cls = .type "tuple" ∧ o.data = .seq its n ∧ its.size ≤ sizeLine ∧ Vals xs its.toList
def absV : Value → Option V
  | .none => some .non
  | .bool b => some (.bl b)
  | .int i _ => some (.int i)
  | .str x _ => some (.str x)
  | .bytes b _ => some (.byt b)
  | .float b _ => some (.flt b)
  | .ref a => some (.ref a)
  | .type n => some (.ty n)
  | _ => none
theorem RelV.abs {x : V} {u : Value} (r : RelV x u) : absV u = some x := by
  cases x with
  | non => cases r; rfl
  | bl _ => cases r; rfl
  | int _ => obtain ⟨t, rfl⟩ := r; rfl
  | str _ => obtain ⟨t, rfl⟩ := r; rfl
  | byt _ => obtain ⟨t, rfl⟩ := r; rfl
  | flt _ => obtain ⟨t, rfl⟩ := r; rfl
  | ref _ => cases r; rfl
  | ty _ => cases r; rfl
theorem RelV.inj {x y : V} {u : Value} (r : RelV x u) (q : RelV y u) : x = y := Option.some.inj (r.abs.symm.trans q.abs)
theorem Vals.inj : ∀ {xs ys : List V} {us : List Value}, Vals xs us → Vals ys us → xs = ys
  | _, _, _, .nil, .nil => rfl
  | _, _, _, .cons r t, .cons r' t' => by rw [r.inj r', Vals.inj t t']
section
variable {X : Cx} {pins : List (Addr × Obj)} {σ : St} {H : Hp} {s : Shared} {a : Addr} {xs ys : List V}
theorem SqL.of {K : PySem.W.Frag} (h : H a = some (.lst xs)) : SqL K H a xs := .inl (.inl h)
theorem SqT.of {K : PySem.W.Frag} (h : H a = some (.tup xs)) : SqT K H a xs := .inl (.inl h)
theorem Inv.list (I : Inv X pins σ H s) (h : SqL X.K H a xs) : ∃ its : List Value, Vals xs its ∧ PlainL s.heap a its.toArray ∧ xs.length ≤ sizeLine := by
  rcases h with h | ⟨o, its, n, hk, hc, hd, hs, hz, r⟩
  · obtain ⟨z, its, n, r, e⟩ := h.ok I.hok
    exact ⟨its, r, ⟨_, n, e, rfl, rfl, rfl⟩, z⟩
  · refine ⟨its.toList, r, ⟨o, n, I.kIn a o hk, hc, hd, by simpa using hs⟩, ?_⟩
    have e := r.length
    simp only [Array.length_toList] at e
    omega
theorem Inv.tuple (I : Inv X pins σ H s) (h : SqT X.K H a xs) : ∃ its : List Value, Vals xs its ∧ IsTup s.heap a its.toArray ∧ xs.length ≤ sizeLine := by
  rcases h with h | ⟨o, its, n, hk, hc, hs, hz, r⟩
  · obtain ⟨z, its, r, p⟩ := h.ok I.hok
    exact ⟨its, r, p, z⟩
  · refine ⟨its.toList, r, ⟨o, I.kIn a o hk, hc, n, by simpa using hs⟩, ?_⟩
    have e := r.length
    simp only [Array.length_toList] at e
    omega
theorem Inv.list_inj (I : Inv X pins σ H s) (h : SqL X.K H a xs) (h' : SqL X.K H a ys) : xs = ys := by
  obtain ⟨its, r, ⟨o, n, e, _, _, d⟩, _⟩ := I.list h
  obtain ⟨its', r', ⟨o', n', e', _, _, d'⟩, _⟩ := I.list h'
  rw [e] at e'; cases e'
  rw [d] at d'
  injection d' with d1 _
  have : its = its' := by simpa using congrArg Array.toList d1
  subst this
  exact r.inj r'
end

/-! ### another wish about exceptions -/
abbrev Cx.wish (X : Cx) (E : Value → Shared → Prop) : Cx := { X with xe := E }
/-- no exception leaves -/
abbrev Cx.nox (X : Cx) : Cx := X.wish fun _ _ => False
theorem Cx.Ok.wish {X : Cx} (ok : X.Ok) (E : Value → Shared → Prop) : (X.wish E).Ok :=
  ⟨ok.mod, ok.kind, ok.glob, ok.blt, ok.above, ok.inj, ok.has, ok.cab, ok.hd, ok.frames, ok.stk, ok.exf, ok.bs, ok.bsz, ok.noex, ok.exfs, ok.funs, ok.frf⟩
theorem Cx.Ok.unwish {X : Cx} {E : Value → Shared → Prop} (ok : (X.wish E).Ok) : X.Ok :=
  ⟨ok.mod, ok.kind, ok.glob, ok.blt, ok.above, ok.inj, ok.has, ok.cab, ok.hd, ok.frames, ok.stk, ok.exf, ok.bs, ok.bsz, ok.noex, ok.exfs, ok.funs, ok.frf⟩
section
variable {X : Cx} {pins : List (Addr × Obj)} {σ : St} {H : Hp} {s : Shared} {E : Value → Shared → Prop}
theorem Inv.wish (I : Inv X pins σ H s) (E : Value → Shared → Prop) : Inv (X.wish E) pins σ H s := ⟨I.ok.wish E, I.os, I.bare, I.base, I.loc, I.cell, I.free, I.freeC, I.pin, I.hok, I.len⟩
theorem Inv.unwish (I : Inv (X.wish E) pins σ H s) : Inv X pins σ H s := ⟨I.ok.unwish, I.os, I.bare, I.base, I.loc, I.cell, I.free, I.freeC, I.pin, I.hok, I.len⟩
theorem SP.unwish {D : Ends} {f : Flow} {s' : Shared} (h : SP (X.wish E) pins D f s') : SP X pins D f s' := by
  cases f with
  | next => obtain ⟨σ', H', I, q⟩ := h; exact ⟨σ', H', I.unwish, q⟩
  | brk => obtain ⟨σ', H', I, q⟩ := h; exact ⟨σ', H', I.unwish, q⟩
  | cont => obtain ⟨σ', H', I, q⟩ := h; exact ⟨σ', H', I.unwish, q⟩
  | ret u => obtain ⟨v, σ', H', I, r, q⟩ := h; exact ⟨v, σ', H', I.unwish, r, q⟩
theorem PE.nox {e : Expr} {t : TE} (h : PE X.nox e t) : PE X e t := fun pins s σ H Q I hw =>
  wpAny_mono (h pins s σ H Q (I.wish _) hw) (fun _ _ ⟨v, H', I', r, q⟩ => ⟨v, H', I'.unwish, r, q⟩) fun _ _ z => False.elim z
theorem PT.nox {e : Expr} {t : TT} (h : PT X.nox e t) : PT X e t := fun pins s σ H Q I hw =>
  wpAny_mono (h pins s σ H Q (I.wish _) hw) (fun _ _ ⟨H', I', q⟩ => ⟨H', I'.unwish, q⟩) fun _ _ z => False.elim z
theorem PSs.nox {st : List Stmt} {t : TS} (h : PSs X.nox st t) : PSs X st t := fun pins s σ H D I hw =>
  wpAny_mono (h pins s σ H D (I.wish _) hw) (fun _ _ q => q.unwish) fun _ _ z => False.elim z
end

/-! ### blocks and small statements -/
section
variable {X : Cx} {st : Stmt} {rest : List Stmt} {t u : TS} {e : Expr} {te : TE} {pos : Pos}
def tNext : TS := fun D σ H => D.nx σ H
def tSeq (t u : TS) : TS := fun D σ H => t { D with nx := u D } σ H
theorem pss_nil : PSs X [] tNext := fun _ _ σ H _ I h => wpAny_execs_nil ⟨σ, H, I, h⟩
theorem pss_cons (h1 : PS X st t) (h2 : PSs X rest u) : PSs X (st :: rest) (tSeq t u) := by
  intro pins s σ H D I h
  refine wpAny_execs_cons (thn (h1 pins s σ H { D with nx := u D } I h) fun f s1 q => ?_)
  cases f with
  | next =>
    obtain ⟨σ', H', I', q⟩ := q
    exact h2 pins s1 σ' H' D I' q
  | ret v => exact q
  | brk => exact q
  | cont => exact q
theorem pss_one (h1 : PS X st t) : PSs X [st] t := by
  intro pins s σ H D I h
  refine wpAny_execs_cons (thn (h1 pins s σ H D I h) fun f s1 q => ?_)
  cases f with
  | next => exact wpAny_execs_nil q
  | ret v => exact q
  | brk => exact q
  | cont => exact q
def tBreak : TS := fun D σ H => D.bk σ H
def tCont : TS := fun D σ H => D.ct σ H
/-- in a def's body nothing is shown -/
theorem Inv.quiet {pins : List (Addr × Obj)} {σ : St} {H : Hp} {s : Shared} (I : Inv X pins σ H s) : interactive X.env = false := by simp [interactive, I.ok.kind]
/-- an expression whose value is dropped -/
def tDrop (te : TE) : TS := fun D σ H => te σ H fun _ H1 => D.nx σ H1
theorem ps_expr (he : PE X e te) (hs : swapsWith e none pos.line X.env = pure false := by rfl) : PS X (.Expr e pos) (tDrop te) := by
  intro pins s σ H D I h
  exact wpAny_Expr_any (thn (he pins s σ H _ I h) fun v s1 ⟨x, H1, I1, r1, q1⟩ => ⟨σ, H1, I1, q1⟩) I.quiet hs
def tRet (te : TE) : TS := fun D σ H => te σ H D.rt
theorem ps_ret (he : PE X e te) : PS X (.Return (some e) pos) (tRet te) := by
  intro pins s σ H D I h
  exact wpAny_Return_some (thn (he pins s σ H _ I h) fun v s1 ⟨x, H1, I1, r1, q1⟩ => ⟨x, σ, H1, I1, r1, q1⟩)
def tRetN : TS := fun D _ H => D.rt .non H
def tIfS (c : TT) (t u : TS) : TS := fun D σ H => c σ H fun b H1 => if b = true then t D σ H1 else u D σ H1
theorem ps_if {c : Expr} {a b : List Stmt} {tc : TT} (hc : PT X c tc) (ha : PSs X a t) (hb : PSs X b u) : PS X (.If c a b pos) (tIfS tc t u) := by
  intro pins s σ H D I h
  refine wpAny_If (thn (hc pins s σ H _ I h) fun d s1 ⟨H1, I1, q1⟩ => ?_)
  cases d with
  | true => exact ha pins s1 σ H1 D I1 q1
  | false => exact hb pins s1 σ H1 D I1 q1
/-- code that the proof never comes to -/
def tNever : TS := fun _ _ _ => False
end

/-! ### targets -/
abbrev TG := V → St → Hp → (St → Hp → Prop) → Prop
abbrev TGs := List V → St → Hp → (St → Hp → Prop) → Prop
def PG (X : Cx) (target : Expr) (t : TG) : Prop :=
  ∀ (pins : List (Addr × Obj)) (s : Shared) (σ : St) (H : Hp) (v : V) (u : Value) (Q : St → Hp → Prop), Inv X pins σ H s → RelV v u → t v σ H Q →
    wpAny (model X.prog X.w) X.A (assign target X.env u) (fun _ s' => ∃ σ' H', Inv X pins σ' H' s' ∧ Q σ' H') X.xe s
/-- several targets, one after another -/
def PGs (X : Cx) (ts : List Expr) (t : TGs) : Prop :=
  ∀ (pins : List (Addr × Obj)) (s : Shared) (σ : St) (H : Hp) (vs : List V) (us : List Value) (Q : St → Hp → Prop), Inv X pins σ H s → Vals vs us → t vs σ H Q →
    wpAny (model X.prog X.w) X.A (assignInOrder ((assignEach ts X.env).map (·.2)) us) (fun _ s' => ∃ σ' H', Inv X pins σ' H' s' ∧ Q σ' H') X.xe s
/-- o[i] = v, by values -/
abbrev TSet := V → V → V → Hp → (Hp → Prop) → Prop
def PSet (X : Cx) (t : TSet) : Prop :=
  ∀ (pins : List (Addr × Obj)) (s : Shared) (σ : St) (H : Hp) (o i v : V) (ov iv u : Value) (Q : Hp → Prop), Inv X pins σ H s → RelV o ov → RelV i iv → RelV v u → t o i v H Q →
    wpAny (model X.prog X.w) X.A (setItem ov iv u) (fun _ s' => ∃ H', Inv X pins σ H' s' ∧ Q H') X.xe s
/-- a op= b, by values -/
abbrev TIp := V → V → Hp → VK → Prop
def PIp (X : Cx) (op : Operator) (t : TIp) : Prop :=
  ∀ (pins : List (Addr × Obj)) (s : Shared) (σ : St) (H : Hp) (x y : V) (v u : Value) (Q : VK), Inv X pins σ H s → RelV x v → RelV y u → t x y H Q →
    wpAny (model X.prog X.w) X.A (inplaceOp op v u) (EP X pins σ Q) X.xe s
section
variable {X : Cx} {pos : Pos}
def gName (i : Nat) : TG := fun v σ H Q => Q (σ.set i (some v)) H
theorem pg_name {i : Nat} {x : Str} (hN : X.N.Nodup) (hi : X.N[i]? = some x) (hx : Loc X.env.scope x) (hf : X.fn x = true ∨ X.env.scope.names.lookup x = some .local := by first | exact .inl rfl | exact .inr rfl | assumption) : PG X (.Name x pos) (gName i) := by
  intro pins s σ H v u Q I r h
  exact wpAny_assign_Name (store_ok I hN hi hx r (fun s' I' => ⟨_, H, I', h⟩) hf)
def gNil : TGs := fun vs σ H Q => vs = [] ∧ Q σ H
def gCons (t : TG) (u : TGs) : TGs := fun vs σ H Q => ∃ v r, vs = v :: r ∧ t v σ H fun σ' H' => u r σ' H' Q
theorem pgs_nil : PGs X [] gNil := by
  intro pins s σ H vs us Q I r h
  obtain ⟨e, h⟩ := h
  subst e
  cases r
  exact assignInOrder_nil ⟨σ, H, I, h⟩
theorem pgs_cons {e : Expr} {es : List Expr} {t : TG} {u : TGs} (h1 : PG X e t) (h2 : PGs X es u)
    (hs : (assignEach (e :: es) X.env).map (·.2) = assign e X.env :: (assignEach es X.env).map (·.2) := by rfl) : PGs X (e :: es) (gCons t u) := by
  intro pins s σ H vs us Q I r h
  obtain ⟨v, vr, e1, h⟩ := h
  subst e1
  cases r with
  | cons r rr =>
    rw [hs]
    refine assignInOrder_cons (thn (h1 pins s σ H _ _ _ I r h) fun _ s1 ⟨σ1, H1, I1, q1⟩ => ?_)
    exact h2 pins s1 σ1 H1 _ _ Q I1 rr q1
/-- (a, b, ..) = a tuple of that length -/
def gTup (K : PySem.W.Frag) (n : Nat) (t : TGs) : TG := fun v σ H Q => ∃ a xs, v = .ref a ∧ SqT K H a xs ∧ xs.length = n ∧ t xs σ H Q
theorem pg_tup {es : List Expr} {k : Nat} {t : TGs} {n : Nat} (hc : X.calm = true) (h : PGs X es t)
    (hn : (assignEach es X.env).length = n := by rfl) (hst : (assignEach es X.env).findIdx? (·.1) = none := by rfl) : PG X (.Tuple es k pos) (gTup X.K n t) := by
  intro pins s σ H v u Q I r hw
  obtain ⟨a, xs, e1, hq, hl, hw⟩ := hw
  subst e1
  cases r
  obtain ⟨its, rv, ht, hz⟩ := I.tuple hq
  refine assign_Tuple_tuple (I.ok.hd hc) ht (by simp [hn, ← hl, rv.length]) hst fun h' hx => ?_
  have I1 : Inv X pins σ H { s with heap := h' } := I.kept (t' := s.toks) fun b o e => hx b o (Nat.ne_of_lt (Heap.lt_size e)) e
  exact h pins _ σ H xs _ Q I1 (by simpa using rv) hw
/-- o[i] = .. -/
def gSub (to ti : TE) (t : TSet) : TG := fun v σ H Q => to σ H fun o H1 => ti σ H1 fun i H2 => t o i v H2 fun H3 => Q σ H3
/-- target = value -/
def tAsg (te : TE) (g : TG) : TS := fun D σ H => te σ H fun x H1 => g x σ H1 D.nx
/-- name = value -/
theorem ps_set {i : Nat} {x : Str} {e : Expr} {te : TE} {pos' : Pos} (hN : X.N.Nodup) (hi : X.N[i]? = some x) (hx : Loc X.env.scope x) (he : PE X e te) (hs : swapsWith e (some (.Name x pos')) pos.line X.env = pure false := by rfl) (hf : X.fn x = true ∨ X.env.scope.names.lookup x = some .local := by first | exact .inl rfl | exact .inr rfl | assumption) :
    PS X (.Assign [.Name x pos'] e pos) (tAsg te (gName i)) := by
  intro pins s σ H D I h
  refine wpAny_Assign_Name (thn (he pins s σ H _ I h) fun v s1 ⟨y, H1, I1, r1, q1⟩ => ?_) hs
  exact store_ok I1 hN hi hx r1 (fun s2 I2 => ⟨_, H1, I2, q1⟩) hf
/-- a, b = x, y with plain local names: stored from the right; the pair itself is not tracked (the opening rows as in PyProof/Rows/TupAssign.lean:23) -/
def tPar (i j : Nat) (ta : TA) : TS := fun D σ H => ta σ H fun vs H1 => ∃ v w, vs = [v, w] ∧ D.nx ((σ.set i (some v)).set j (some w)) H1
/-- name op= e -/
def tAug (i : Nat) (te : TE) (ti : TIp) : TS := fun D σ H => ∃ x, σ[i]? = some (some x) ∧ te σ H fun y H1 => ti x y H1 fun z H2 => D.nx (σ.set i (some z)) H2
/-- o[i] op= e -/
def tAugS (to ti te : TE) (tget : V → V → Hp → VK → Prop) (tip : TIp) (tset : TSet) : TS := fun D σ H => to σ H fun o H1 => ti σ H1 fun i H2 => tget o i H2 fun x H3 => te σ H3 fun y H4 => tip x y H4 fun z H5 => tset o i z H5 fun H6 => D.nx σ H6
/-- o[i], by values -/
def PGet (X : Cx) (t : V → V → Hp → VK → Prop) : Prop :=
  ∀ (pins : List (Addr × Obj)) (s : Shared) (σ : St) (H : Hp) (o i : V) (ov iv : Value) (Q : VK), Inv X pins σ H s → RelV o ov → RelV i iv → t o i H Q →
    wpAny (model X.prog X.w) X.A (getItem ov iv) (EP X pins σ Q) X.xe s
/-- ints -/
def ipI (f : Int → Int → Int) : TIp := fun x y H Q => ∃ i j, x = .int i ∧ y = .int j ∧ Q (.int (f i j)) H
end

/-! ### while -/
section
variable {X : Cx} {pos : Pos}
/-- the invariant W with its measure -/
def tWhile (c : TT) (tb : TS) : TS := fun D σ H => ∃ W : Nat → St → Hp → Prop, (∃ m, W m σ H) ∧ ∀ m σ H, W m σ H →
  c σ H fun b H1 => if b = true then ∃ N : St → Hp → Prop, (∀ σ' H', N σ' H' → ∃ m', m' < m ∧ W m' σ' H') ∧ tb { D with nx := N, ct := N, bk := D.nx } σ H1 else D.nx σ H1
end

/-! ### what a loop or a comprehension walks -/
/-- at turn i: it yields x (the heap may grow), or it stops -/
structure It where
  go : Nat → Hp → Prop
  yld : Nat → Hp → V → Hp → Prop
  stop : Nat → Hp → Prop
/-- the iterator's own objects may turn: they are not the frame's, not pinned, younger than the entry (or a comprehension's own) -/
def FpOk (X : Cx) (pins : List (Addr × Obj)) (H : Hp) (b : Addr) : Prop :=
  H b = none ∧ b ≠ X.env.locals ∧ b ∉ X.fs ∧ (b ∈ X.ex ∨ X.s₀.heap.objs.size ≤ b) ∧ (∀ x c, X.env.cells.lookup x = some c → c ≠ b) ∧ ∀ p ∈ X.pn ++ pins, p.1 ≠ b
theorem Inv.fpOk {X : Cx} {pins : List (Addr × Obj)} {σ : St} {H H' : Hp} {s : Shared} {b : Addr} (I : Inv X pins σ H s) (hb : s.heap.objs.size ≤ b) (hn : H' b = none) : FpOk X pins H' b := by
  refine ⟨hn, Nat.ne_of_gt (Nat.lt_of_lt_of_le I.lt hb), I.nofs hb, .inr (Nat.le_trans I.sz hb), fun x c e z => ?_, fun p hp z => ?_⟩
  · obtain ⟨v, q⟩ := I.cell x c e
    exact absurd (Nat.lt_of_lt_of_le q.lt (by rw [z]; exact hb)) (Nat.lt_irrefl _)
  · exact absurd (Nat.lt_of_lt_of_le (Heap.lt_size (I.pin p hp).1) (by rw [z]; exact hb)) (Nat.lt_irrefl _)
structure Turn (P : Program) (w : World) (K : PySem.W.Frag) (tg : Expr) (J : It) (fp : List Addr) (it : Addr) (tn : Nat → Heap → Prop) : Prop where
  mem : it ∈ fp
  obj : ∀ i h, tn i h → ∀ b ∈ fp, ∃ o, h.get? b = some o ∧ ∀ v, o.data ≠ .cell v
  keep : ∀ i h h', tn i h → (∀ b ∈ fp, ∀ o, h.get? b = some o → h'.get? b = some o) → tn i h'
  item : ∀ (X : Cx), X.prog = P → X.w = w → X.K = K → X.calm = true → ∀ (i : Nat) (pins : List (Addr × Obj)) (s : Shared) (σ : St) (H : Hp) (E : Value → Shared → Prop), Inv X pins σ H s → (∀ b ∈ fp, FpOk X pins H b) → tn i s.heap → J.go i H →
    wpAny (model P w) X.A (pyNext (.ref it)) (fun r s1 => ∃ u, r = some u ∧
      wpAny (model P w) X.A (letOwnedTupleGo tg (.ref it) u) (fun _ s2 => ∃ x H', Inv X pins σ H' s2 ∧ RelV x u ∧ J.yld i H x H' ∧ tn (i + 1) s2.heap ∧ ∀ b ∈ fp, H' b = none) E s1) E s
  done : ∀ (X : Cx), X.prog = P → X.w = w → X.K = K → X.calm = true → ∀ (i : Nat) (pins : List (Addr × Obj)) (s : Shared) (σ : St) (H : Hp) (E : Value → Shared → Prop), Inv X pins σ H s → (∀ b ∈ fp, FpOk X pins H b) → tn i s.heap → J.stop i H →
    wpAny (model P w) X.A (pyNext (.ref it)) (fun r s1 => r = none ∧ Inv X pins σ H s1) E s
  self : ∀ (A : Around) (i : Nat) (s : Shared) (Q : Value → Shared → Prop) (E : Value → Shared → Prop), tn i s.heap → Q (.ref it) s → wpAny (model P w) A (pyIter (.ref it)) Q E s
abbrev TI := St → Hp → (It → Hp → Prop) → Prop
/-- an iterator has come -/
def PIE (X : Cx) (pins : List (Addr × Obj)) (σ : St) (tg : Expr) (R : It → Hp → Prop) (itv : Value) (s2 : Shared) : Prop :=
  ∃ (it : Addr) (fp : List Addr) (tn : Nat → Heap → Prop) (J : It) (H' : Hp), itv = .ref it ∧ Inv X pins σ H' s2 ∧ Turn X.prog X.w X.K tg J fp it tn ∧ tn 0 s2.heap ∧ (∀ b ∈ fp, FpOk X pins H' b) ∧ R J H'
def PI (X : Cx) (tg iter : Expr) (wi : TI) : Prop :=
  ∀ (pins : List (Addr × Obj)) (s : Shared) (σ : St) (H : Hp) (R : It → Hp → Prop), Inv X pins σ H s → wi σ H R →
    wpAny (model X.prog X.w) X.A (eval iter X.env) (fun v s1 => wpAny (model X.prog X.w) X.A (pyIter v) (PIE X pins σ tg R) X.xe s1) X.xe s

/-- the step ahead of the store is nothing for an iterator that keeps no tuple -/
theorem go_of {M : Model} {A : Around} {E : Value → Shared → Prop} {s : Shared} {tg : Expr} {it : Addr} {u : Value} {o : Obj} {n : String} {vs : Array Value} {Q : Unit → Shared → Prop} (ho : s.heap.get? it = some o) (hc : o.cls = .type n) (hd : o.data = .fields vs)
    (hn : ["enumerate", "zip", "dict_itemiterator", "dict_reverseitemiterator", "odict_iterator", "itertools.zip_longest", "itertools.pairwise"].contains n = false) (hQ : Q () s) : wpAny M A (letOwnedTupleGo tg (.ref it) u) Q E s := by
  unfold letOwnedTupleGo
  cases tg <;> first
    | exact wpAny_pure hQ
    | (cases u <;> first
        | exact wpAny_pure hQ
        | (refine wpAny_bind (wpAny_load ho ?_)
           rw [hc, hd]
           show wpAny M A (if (["enumerate", "zip", "dict_itemiterator", "dict_reverseitemiterator", "odict_iterator", "itertools.zip_longest", "itertools.pairwise"].contains n && vs[0]? == some (rawInt _)) = true then _ else _) Q E s
           rw [if_neg (by intro h; rw [hn, Bool.false_and] at h; cases h)]
           exact wpAny_pure hQ))

/-- the list at a, as it stands at each turn (a loop may append to it) -/
def Itl (K : PySem.W.Frag) (a : Addr) : It :=
  ⟨fun i H => ∃ xs x, SqL K H a xs ∧ xs[i]? = some x, fun i H x H' => H' = H ∧ ∀ xs, SqL K H a xs → xs[i]? = some x, fun i H => ∃ xs, SqL K H a xs ∧ xs.length ≤ i⟩
def Itt (K : PySem.W.Frag) (a : Addr) : It :=
  ⟨fun i H => ∃ xs x, SqT K H a xs ∧ xs[i]? = some x, fun i H x H' => H' = H ∧ ∀ xs, SqT K H a xs → xs[i]? = some x, fun i H => ∃ xs, SqT K H a xs ∧ xs.length ≤ i⟩
/-- lo, lo + 1, .. (n of them) -/
def Itr (lo : Int) (n : Nat) : It := ⟨fun i _ => i < n, fun i H x H' => H' = H ∧ x = .int (lo + i), fun i _ => n ≤ i⟩
theorem turn_list {P : Program} {w : World} {K : PySem.W.Frag} {tg : Expr} (a it : Addr) : Turn P w K tg (Itl K a) [it] it (fun i h => h.IsListIter it a i) where
  mem := by simp
  obj := fun i h st b hb => by
    have e : b = it := by simpa using hb
    subst e
    obtain ⟨o, e, c, d⟩ := st
    exact ⟨o, e, fun v z => by rw [d] at z; cases z⟩
  keep := fun i h h' st k => st.at fun o e => k it (by simp) o e
  item := by
    intro X hP hw hK hc i pins s σ H E I hf st hg
    subst hP hw hK
    obtain ⟨xs, x, hq, hx⟩ := hg
    obtain ⟨its, rv, p, hz⟩ := I.list hq
    obtain ⟨u, hu, ru⟩ := rv.get hx
    obtain ⟨f0, f1, f2, f3, f4, f5⟩ := hf it (by simp)
    refine wpAny_pyNext_list_item st p.isList (x := u) (by simpa using hu) fun h' st' sb => ?_
    have I1 : Inv X pins σ H { s with heap := h' } := I.turned (t' := s.toks) (fun b o hb e => (sb.2 b hb).trans e) f0 f1 f3 f4 f5
    obtain ⟨o, e, c, d⟩ := id st'
    exact ⟨u, rfl, go_of (s := { s with heap := h' }) e c d (by decide) ⟨x, H, I1, ru, ⟨rfl, fun ys hy => by rw [I.list_inj hy hq]; exact hx⟩, st', fun b hb => (hf b hb).1⟩⟩
  done := by
    intro X hP hw hK hc i pins s σ H E I hf st hg
    subst hP hw hK
    obtain ⟨xs, hq, hx⟩ := hg
    obtain ⟨its, rv, p, hz⟩ := I.list hq
    obtain ⟨f0, f1, f2, f3, f4, f5⟩ := hf it (by simp)
    have hl := rv.length
    exact wpAny_pyNext_list_end (I.ok.hd hc) st p.isList (by simp; omega) fun h' eb => ⟨rfl, I.turned (t' := s.toks) (fun b o hb e => eb b o hb e) f0 f1 f3 f4 f5⟩
  self := fun _ _ _ _ _ st h => wpAny_pyIter_listiter st h
theorem turn_range {P : Program} {w : World} {K : PySem.W.Frag} {tg : Expr} (it : Addr) (lo : Int) (n : Nat) : Turn P w K tg (Itr lo n) [it] it (fun i h => IsRangeIter h it (lo + (i : Nat) * 1) ((n : Int) - (i : Nat)) 1) where
  mem := by simp
  obj := fun i h st b hb => by
    have e : b = it := by simpa using hb
    subst e
    exact ⟨_, st, fun v z => by
      have z' : Data.fields _ = Data.cell v := z
      cases z'⟩
  keep := fun i h h' st k => k it (by simp) _ st
  item := by
    intro X hP hw hK hc i pins s σ H E I hf st hg
    subst hP hw hK
    obtain ⟨f0, f1, f2, f3, f4, f5⟩ := hf it (by simp)
    have W := Walks.range (prog := X.prog) (w := X.w) (I.ok.hd hc) it lo 1 n
    refine W.item i s _ _ hg st fun v h' tk hv st' kk => ?_
    obtain ⟨t, rfl⟩ := hv
    have I1 : Inv X pins σ H { s with heap := h', toks := tk } := I.turned (fun b o hb e => kk b o (by simpa using hb) e) f0 f1 f3 f4 f5
    refine ⟨_, rfl, go_of (s := { s with heap := h', toks := tk }) (n := "range_iterator") st' rfl rfl (by decide) ⟨.int (lo + i), H, I1, ⟨t, ?_⟩, ⟨rfl, rfl⟩, st', fun b hb => (hf b hb).1⟩⟩
    rw [Int.mul_one]
  done := by
    intro X hP hw hK hc i pins s σ H E I hf st hg
    subst hP hw hK
    obtain ⟨f0, f1, f2, f3, f4, f5⟩ := hf it (by simp)
    exact wpAny_pyNext_range_end (I.ok.hd hc) st (by have : n ≤ i := hg; omega) fun h' eb => ⟨rfl, I.turned (t' := s.toks) (fun b o hb e => eb b o hb e) f0 f1 f3 f4 f5⟩
  self := fun _ _ _ _ _ st h => wpAny_pyIter_rangeiter st h
end L2

namespace L2
open PySem PySem.Spec PyProof.Rows
section
variable {X : Cx} {tg : Expr}
def iList (K : PySem.W.Frag) (tl : TE) : TI := fun σ H R => tl σ H fun x H1 => ∃ a, x = .ref a ∧ (∃ xs, SqL K H1 a xs) ∧ R (Itl K a) H1
def iTup (K : PySem.W.Frag) (tl : TE) : TI := fun σ H R => tl σ H fun x H1 => ∃ a, x = .ref a ∧ (∃ xs, SqT K H1 a xs) ∧ R (Itt K a) H1
/-- a range object just made, walked -/
theorem range_it {pins : List (Addr × Obj)} {σ : St} {H : Hp} {s : Shared} {R : It → Hp → Prop} {E : Value → Shared → Prop} {lo hi : Int} {t u v : Tok} {tk : Nat} (I : Inv X pins σ H s) (h1 : -(2 ^ 62) ≤ lo) (h2 : lo < 2 ^ 62) (h3 : -(2 ^ 62) ≤ hi) (h4 : hi < 2 ^ 62)
    (q : R (Itr lo (hi - lo).toNat) H) : wpAny (model X.prog X.w) X.A (pyIter (.ref s.heap.objs.size)) (PIE X pins σ tg R) E { s with heap := s.heap.push { cls := .type "range", data := .fields #[.int lo t, .int hi u, .int 1 v] }, toks := tk } := by
  refine wpAny_pyIter_range (IsRange.new ..) (small_one h1 h2 h3 h4) ?_
  have I1 : Inv X pins σ H { s with heap := s.heap.push { cls := .type "range", data := .fields #[.int lo t, .int hi u, .int 1 v] }, toks := tk } := I.kept fun b o e => Heap.get?_push_of_some _ e
  refine ⟨(s.heap.push { cls := .type "range", data := .fields #[.int lo t, .int hi u, .int 1 v] }).objs.size, [(s.heap.push { cls := .type "range", data := .fields #[.int lo t, .int hi u, .int 1 v] }).objs.size], _, _, H, rfl,
    I1.kept (t' := tk) fun b o e => Heap.get?_push_of_some _ e, turn_range _ lo (hi - lo).toNat, ?_, fun b hb => ?_, q⟩
  · have e1 : lo + ((0 : Nat) : Int) * 1 = lo := by simp
    have e2 : (((hi - lo).toNat : Nat) : Int) - ((0 : Nat) : Int) = Builtin.Range.rangeSize lo hi 1 := by rw [rangeSize_one]; split <;> omega
    show IsRangeIter _ _ (lo + ((0 : Nat) : Int) * 1) ((((hi - lo).toNat : Nat) : Int) - ((0 : Nat) : Int)) 1
    rw [e1, e2]
    exact Heap.get?_push_size _ rfl
  · have e : b = (s.heap.push { cls := .type "range", data := .fields #[.int lo t, .int hi u, .int 1 v] }).objs.size := by simpa using hb
    subst e
    exact I1.fpOk (Nat.le_refl _) (I1.hok.fresh (Nat.le_refl _))
def iRng1 (ta : TA) : TI := fun σ H R => ta σ H fun vs H1 => ∃ j : Int, vs = [.int j] ∧ -(2 ^ 62) ≤ j ∧ j < 2 ^ 62 ∧ R (Itr 0 j.toNat) H1
def iRng2 (ta : TA) : TI := fun σ H R => ta σ H fun vs H1 => ∃ i j : Int, vs = [.int i, .int j] ∧ (-(2 ^ 62) ≤ i ∧ i < 2 ^ 62 ∧ -(2 ^ 62) ≤ j ∧ j < 2 ^ 62) ∧ R (Itr i (j - i).toNat) H1
theorem pi_range1 {a : Expr} {ta : TA} {p pos : Pos} (hg : Gl X "range") (hm : X.mg "range" = none) (ha : PA X [a] ta) (hs : starEach [a] X.env = [(false, eval a X.env)] := by rfl) : PI X tg (.Call (.Name "range" p) [a] [] pos) (iRng1 ta) := by
  intro pins s σ H R I h
  refine Call_ (ld_blt I hg hm boot_range (PyProof.Rows.callWith_type1 (thn (ha pos pins s σ H _ I h) fun us s1 ⟨vs, H1, I1, r1, q1⟩ => ?_) hs rfl))
  obtain ⟨j, e, q1, q2, q⟩ := q1
  subst e
  cases r1 with
  | cons r rr =>
    cases rr
    obtain ⟨t, rfl⟩ := r
    exact call_range_1 (range_it I1 (by omega) (by omega) q1 q2 (by simpa using q))
/-! ### for -/
/-- W: the invariant by the turn and a measure; N: what the body is to reach -/
def tFor (wi : TI) (g : TG) (tb : TS) : TS := fun D σ H => wi σ H fun J H1 => ∃ W : Nat → Nat → St → Hp → Prop, (∃ m, W 0 m σ H1) ∧ ∀ i m σ H, W i m σ H →
  (J.stop i H ∧ D.nx σ H) ∨ (J.go i H ∧ ∃ N : St → Hp → Prop, (∀ σ' H', N σ' H' → ∃ m', m' < m ∧ W (i + 1) m' σ' H') ∧ ∀ x H', J.yld i H x H' → g x σ H' fun σ2 H2 => tb { D with nx := N, ct := N, bk := D.nx } σ2 H2)
/-- the records at fp as they stand -/
def pinsAt (fp : List Addr) (h : Heap) : List (Addr × Obj) := fp.filterMap fun b => (h.get? b).map fun o => (b, o)
theorem mem_pinsAt {fp : List Addr} {h : Heap} {b : Addr} {o : Obj} (hb : b ∈ fp) (e : h.get? b = some o) : (b, o) ∈ pinsAt fp h := List.mem_filterMap.mpr ⟨b, hb, by rw [e]; rfl⟩
theorem of_pinsAt {fp : List Addr} {h : Heap} {p : Addr × Obj} (hp : p ∈ pinsAt fp h) : p.1 ∈ fp ∧ h.get? p.1 = some p.2 := by
  obtain ⟨b, hb, e⟩ := List.mem_filterMap.mp hp
  cases q : h.get? b with
  | none => rw [q] at e; cases e
  | some o =>
    rw [q] at e
    have e' : (b, o) = p := Option.some.inj e
    subst e'
    exact ⟨hb, q⟩
theorem Inv.pinned {pins : List (Addr × Obj)} {σ : St} {H : Hp} {s : Shared} {fp : List Addr} (I : Inv X pins σ H s) (hf : ∀ b ∈ fp, FpOk X pins H b) (ho : ∀ b ∈ fp, ∃ o, s.heap.get? b = some o ∧ ∀ v, o.data ≠ .cell v) : Inv X (pins ++ pinsAt fp s.heap) σ H s :=
  I.pins_of fun p hp => (List.mem_append.mp hp).elim (fun z => I.pin p (List.mem_append_right _ z)) fun z => by
    obtain ⟨hb, e⟩ := of_pinsAt z
    obtain ⟨f0, f1, f2, _⟩ := hf p.1 hb
    obtain ⟨o, e', d⟩ := ho p.1 hb
    rw [e] at e'; cases e'
    exact ⟨e, f0, f1, f2, d⟩
theorem Inv.unpinned {pins pl : List (Addr × Obj)} {σ : St} {H : Hp} {s : Shared} (I : Inv X (pins ++ pl) σ H s) : Inv X pins σ H s := I.pins_of fun p hp => I.pin p (List.mem_append_right _ (List.mem_append_left _ hp))
theorem ps_for {iter : Expr} {body : List Stmt} {wi : TI} {g : TG} {tb : TS} {pos : Pos} (hp : PassesOwn (model X.prog X.w) X.A X.env X.xe) (hc : X.calm = true) (hi : PI X tg iter wi) (hg : PG X tg g) (hb : PSs X body tb)
    (hs : ∀ x, foldedSetIterable iter X.env x = pure x := by intro _; rfl) : PS X (.For tg iter body [] pos) (tFor wi g tb) := by
  intro pins s σ H D I h
  refine wpAny_For (thn (hi pins s σ H _ I h) fun v s1 h1 => thn h1 fun itv s2 h2 => ?_) hs
  obtain ⟨it, fp, tn, J, H2, e, I2, T, st2, f2, W, ⟨m0, w0⟩, turn⟩ := h2
  subst e
  -- what stays true of the iterator's objects through the loop
  have stat : ∀ {H' : Hp}, (∀ b ∈ fp, H' b = none) → ∀ b ∈ fp, FpOk X pins H' b := fun hn b hb => ⟨hn b hb, (f2 b hb).2⟩
  refine codeAny_forLoop_any (fun n s' => ∃ i σ' H', Inv X pins σ' H' s' ∧ tn i s'.heap ∧ (∀ b ∈ fp, H' b = none) ∧ W i n σ' H') ?_ m0 ⟨0, σ, H2, I2, st2, fun b hb => (f2 b hb).1, w0⟩
  rintro n s3 ⟨i, σ3, H3, I3, st3, fr3, w3⟩
  rcases turn i n σ3 H3 w3 with ⟨stop, qn⟩ | ⟨go, N, hN, step⟩
  · refine wpAny_passesOwn hp (thn (T.done X rfl rfl rfl hc i pins s3 σ3 H3 X.xe I3 (stat fr3) st3 stop) fun r s4 ⟨hr, I4⟩ => ?_)
    subst hr
    exact wpAny_execs_nil ⟨σ3, H3, I4, qn⟩
  · refine wpAny_passesOwn hp (thn (T.item X rfl rfl rfl hc i pins s3 σ3 H3 X.xe I3 (stat fr3) st3 go) fun r s4 ⟨u, hr, h4⟩ => ?_)
    subst hr
    refine wpAny_passesOwn hp (thn h4 fun _ s5 ⟨x, H5, I5, r5, y5, st5, fr5⟩ => ?_)
    have I5' := I5.pinned (stat fr5) (T.obj _ _ st5)
    refine wpAny_passesOwn hp (thn (hg _ s5 σ3 H5 x u _ I5' r5 (step x H5 y5)) fun _ s6 ⟨σ6, H6, I6, q6⟩ => ?_)
    refine wpAny_passesOwn hp (thn (hb _ s6 σ6 H6 _ I6 q6) fun f s7 q7 => ?_)
    have again : ∀ {σ7 : St} {H7 : Hp}, Inv X (pins ++ pinsAt fp s5.heap) σ7 H7 s7 → N σ7 H7 → ∃ m, m < n ∧ ∃ i σ' H', Inv X pins σ' H' s7 ∧ tn i s7.heap ∧ (∀ b ∈ fp, H' b = none) ∧ W i m σ' H' := fun {σ7 H7} I7 n7 => by
      obtain ⟨m', hm, w7⟩ := hN σ7 H7 n7
      refine ⟨m', hm, i + 1, σ7, H7, I7.unpinned, T.keep _ _ _ st5 fun b hb o e => (I7.pin (b, o) (List.mem_append_right _ (List.mem_append_right _ (mem_pinsAt hb e)))).1, fun b hb => ?_, w7⟩
      obtain ⟨o, e, d⟩ := T.obj _ _ st5 b hb
      exact (I7.pin (b, o) (List.mem_append_right _ (List.mem_append_right _ (mem_pinsAt hb e)))).2.1
    cases f with
    | next => obtain ⟨σ7, H7, I7, n7⟩ := q7; exact again I7 n7
    | cont => obtain ⟨σ7, H7, I7, n7⟩ := q7; exact again I7 n7
    | brk => obtain ⟨σ7, H7, I7, q7⟩ := q7; exact ⟨σ7, H7, I7.unpinned, q7⟩
    | ret v => obtain ⟨x7, σ7, H7, I7, r7, q7⟩ := q7; exact ⟨x7, σ7, H7, I7.unpinned, r7, q7⟩
end

/-! ### the forms one uses -/
/-- over a list that the body leaves as it is -/
theorem for_list {K : PySem.W.Frag} {a : Addr} {xs : List V} {g : TG} {tb : TS} {D : Ends} {σ : St} {H : Hp} (Pv : Nat → St → Hp → Prop) (h0 : Pv 0 σ H) (hl : ∀ i σ H, i ≤ xs.length → Pv i σ H → SqL K H a xs)
    (hs : ∀ i x σ H, xs[i]? = some x → Pv i σ H → g x σ H fun σ2 H2 => tb { D with nx := Pv (i + 1), ct := Pv (i + 1), bk := D.nx } σ2 H2) (hd : ∀ σ H, Pv xs.length σ H → D.nx σ H) :
    ∃ W : Nat → Nat → St → Hp → Prop, (∃ m, W 0 m σ H) ∧ ∀ i m σ H, W i m σ H →
      ((Itl K a).stop i H ∧ D.nx σ H) ∨ ((Itl K a).go i H ∧ ∃ N : St → Hp → Prop, (∀ σ' H', N σ' H' → ∃ m', m' < m ∧ W (i + 1) m' σ' H') ∧ ∀ x H', (Itl K a).yld i H x H' → g x σ H' fun σ2 H2 => tb { D with nx := N, ct := N, bk := D.nx } σ2 H2) := by
  refine ⟨fun i m σ H => m = xs.length - i ∧ i ≤ xs.length ∧ Pv i σ H, ⟨xs.length, by simp, Nat.zero_le _, h0⟩, ?_⟩
  rintro i m σ H ⟨rfl, hi, p⟩
  have q := hl i σ H hi p
  by_cases hlt : i < xs.length
  · refine .inr ⟨⟨xs, xs[i], q, by simp [hlt]⟩, Pv (i + 1), fun σ' H' p' => ⟨xs.length - (i + 1), by omega, rfl, hlt, p'⟩, fun x H' y => ?_⟩
    obtain ⟨e, y⟩ := y
    subst e
    exact hs i x σ _ (y xs q) p
  · have e : i = xs.length := by omega
    subst e
    exact .inl ⟨⟨xs, q, Nat.le_refl _⟩, hd σ H p⟩
theorem for_range {lo : Int} {n : Nat} {g : TG} {tb : TS} {D : Ends} {σ : St} {H : Hp} (Pv : Nat → St → Hp → Prop) (h0 : Pv 0 σ H)
    (hs : ∀ i σ H, i < n → Pv i σ H → g (.int (lo + i)) σ H fun σ2 H2 => tb { D with nx := Pv (i + 1), ct := Pv (i + 1), bk := D.nx } σ2 H2) (hd : ∀ σ H, Pv n σ H → D.nx σ H) :
    ∃ W : Nat → Nat → St → Hp → Prop, (∃ m, W 0 m σ H) ∧ ∀ i m σ H, W i m σ H →
      ((Itr lo n).stop i H ∧ D.nx σ H) ∨ ((Itr lo n).go i H ∧ ∃ N : St → Hp → Prop, (∀ σ' H', N σ' H' → ∃ m', m' < m ∧ W (i + 1) m' σ' H') ∧ ∀ x H', (Itr lo n).yld i H x H' → g x σ H' fun σ2 H2 => tb { D with nx := N, ct := N, bk := D.nx } σ2 H2) := by
  refine ⟨fun i m σ H => m = n - i ∧ i ≤ n ∧ Pv i σ H, ⟨n, by simp, Nat.zero_le _, h0⟩, ?_⟩
  rintro i m σ H ⟨rfl, hi, p⟩
  by_cases hlt : i < n
  · refine .inr ⟨hlt, Pv (i + 1), fun σ' H' p' => ⟨n - (i + 1), by omega, rfl, hlt, p'⟩, fun x H' y => ?_⟩
    obtain ⟨e, y⟩ := y
    subst e y
    exact hs i σ _ hlt p
  · have e : i = n := by omega
    subst e
    exact .inl ⟨Nat.le_refl _, hd σ H p⟩
end L2

namespace L2
open PySem PySem.Spec PyProof.Rows

abbrev R2 := V → V → Hp → VK → Prop
/-- a two-place operation on values: f is binaryOp op, inplaceOp op or compareOp op -/
def OpR (X : Cx) (f : Value → Value → Sem Value) (r : R2) : Prop :=
  ∀ (pins : List (Addr × Obj)) (s : Shared) (σ : St) (H : Hp) (x y : V) (v u : Value) (Q : VK), Inv X pins σ H s → RelV x v → RelV y u → r x y H Q →
    wpAny (model X.prog X.w) X.A (f v u) (EP X pins σ Q) X.xe s
/-- a one-place operation -/
def UnR (X : Cx) (f : Value → Sem Value) (r : V → Hp → VK → Prop) : Prop :=
  ∀ (pins : List (Addr × Obj)) (s : Shared) (σ : St) (H : Hp) (x : V) (v : Value) (Q : VK), Inv X pins σ H s → RelV x v → r x H Q →
    wpAny (model X.prog X.w) X.A (f v) (EP X pins σ Q) X.xe s
/-- a call of a value that is known (a builtin, a type) with values -/
def CallR (X : Cx) (f : Value) (r : List V → Hp → VK → Prop) : Prop :=
  ∀ (pins : List (Addr × Obj)) (s : Shared) (σ : St) (H : Hp) (xs : List V) (us : List Value) (Q : VK), Inv X pins σ H s → Vals xs us → r xs H Q →
    wpAny (model X.prog X.w) X.A (call f us) (EP X pins σ Q) X.xe s
/-- a value's truth -/
def TruR (X : Cx) (r : V → Hp → (Bool → Hp → Prop) → Prop) : Prop :=
  ∀ (pins : List (Addr × Obj)) (s : Shared) (σ : St) (H : Hp) (x : V) (v : Value) (Q : Bool → Hp → Prop), Inv X pins σ H s → RelV x v → r x H Q →
    wpAny (model X.prog X.w) X.A (truthy v) (TP X pins σ Q) X.xe s

def tOp (r : R2) (ta tb : TE) : TE := fun σ H Q => ta σ H fun x H1 => tb σ H1 fun y H2 => r x y H2 Q
def tUn (r : V → Hp → VK → Prop) (ta : TE) : TE := fun σ H Q => ta σ H fun x H1 => r x H1 Q
/-- ints in, under C, and a value out -/
def rI (C : Int → Int → Prop) (g : Int → Int → V) : R2 := fun x y H Q => ∃ i j, x = .int i ∧ y = .int j ∧ C i j ∧ Q (g i j) H
def rI0 (g : Int → Int → V) : R2 := fun x y H Q => ∃ i j, x = .int i ∧ y = .int j ∧ Q (g i j) H
def rU (g : Int → V) : V → Hp → VK → Prop := fun x H Q => ∃ i, x = .int i ∧ Q (g i) H

section
variable {X : Cx} {a b c : Expr} {ta tb tc : TE} {pos : Pos}

theorem binT (ha : PE X a ta) (hb : PE X b tb) {pins : List (Addr × Obj)} {s : Shared} {σ : St} {H : Hp} {R : V → V → Hp → Prop} (I : Inv X pins σ H s)
    (h : ta σ H fun x H1 => tb σ H1 fun y H2 => R x y H2) {Q : Value → Shared → Prop} {f : Value → Value → Sem Value}
    (hf : ∀ v u s2 x y H2, Inv X pins σ H2 s2 → RelV x v → RelV y u → R x y H2 → wpAny (model X.prog X.w) X.A (f v u) Q X.xe s2) :
    wpAny (model X.prog X.w) X.A (eval a X.env) (fun v s₁ => wpAny (model X.prog X.w) X.A (eval b X.env) (fun u s₂ => wpAny (model X.prog X.w) X.A (f v u) Q X.xe s₂) X.xe s₁) X.xe s := by
  refine thn (ha pins s σ H _ I h) fun v s1 ⟨x, H1, I1, r1, q1⟩ => ?_
  refine thn (hb pins s1 σ H1 _ I1 q1) fun u s2 ⟨y, H2, I2, r2, q2⟩ => ?_
  exact hf v u s2 x y H2 I2 r1 r2 q2

theorem pe_op {op : Operator} {r : R2} (ho : OpR X (binaryOp op) r) (ha : PE X a ta) (hb : PE X b tb) : PE X (.BinOp a op b pos) (tOp r ta tb) := by
  intro pins s σ H Q I h
  exact wpAny_BinOp (binT ha hb I h fun v u s2 x y H2 I2 rx ry q => ho pins s2 σ H2 x y v u Q I2 rx ry q)
theorem pe_un {op : UnaryOp} {r : V → Hp → VK → Prop} (ho : UnR X (unaryOp op) r) (ha : PE X a ta) : PE X (.UnaryOp op a pos) (tUn r ta) := by
  intro pins s σ H Q I h
  exact UnaryOp_ (thn (ha pins s σ H _ I h) fun v s1 ⟨x, H1, I1, r1, q1⟩ => ho pins s1 σ H1 x v Q I1 r1 q1)
/-! ### ints -/
theorem opI {f : Value → Value → Sem Value} {C : Int → Int → Prop} {g : Int → Int → Int}
    (rule : ∀ (i j : Int) (t u : Tok) (s : Shared) (Q : Value → Shared → Prop) (E : Value → Shared → Prop), C i j → Q (.int (g i j) s.toks) { s with toks := s.toks + 1 } → wpAny (model X.prog X.w) X.A (f (.int i t) (.int j u)) Q E s) :
    OpR X f (rI C fun i j => .int (g i j)) := by
  intro pins s σ H x y v u Q I rx ry h
  obtain ⟨i, j, rfl, rfl, hc, q⟩ := h
  obtain ⟨t, rfl⟩ := rx
  obtain ⟨t', rfl⟩ := ry
  exact rule i j t t' s _ _ hc ⟨.int (g i j), H, I.tok _, ⟨_, rfl⟩, q⟩
theorem opI0 {f : Value → Value → Sem Value} {g : Int → Int → Int}
    (rule : ∀ (i j : Int) (t u : Tok) (s : Shared) (Q : Value → Shared → Prop) (E : Value → Shared → Prop), Q (.int (g i j) s.toks) { s with toks := s.toks + 1 } → wpAny (model X.prog X.w) X.A (f (.int i t) (.int j u)) Q E s) :
    OpR X f (rI0 fun i j => .int (g i j)) := by
  intro pins s σ H x y v u Q I rx ry h
  obtain ⟨i, j, rfl, rfl, q⟩ := h
  obtain ⟨t, rfl⟩ := rx
  obtain ⟨t', rfl⟩ := ry
  exact rule i j t t' s _ _ ⟨.int (g i j), H, I.tok _, ⟨_, rfl⟩, q⟩
theorem opB0 {f : Value → Value → Sem Value} {g : Int → Int → Bool}
    (rule : ∀ (i j : Int) (t u : Tok) (s : Shared) (Q : Value → Shared → Prop) (E : Value → Shared → Prop), Q (.bool (g i j)) s → wpAny (model X.prog X.w) X.A (f (.int i t) (.int j u)) Q E s) :
    OpR X f (rI0 fun i j => .bl (g i j)) := by
  intro pins s σ H x y v u Q I rx ry h
  obtain ⟨i, j, rfl, rfl, q⟩ := h
  obtain ⟨t, rfl⟩ := rx
  obtain ⟨t', rfl⟩ := ry
  exact rule i j t t' s _ _ ⟨.bl (g i j), H, I, rfl, q⟩

def CDiv (i j : Int) : Prop := 0 < j ∧ j < 1073741824
def CDivN (i j : Int) : Prop := j ≠ 0 ∧ j.natAbs < 1073741824
def CPow (i j : Int) : Prop := 0 ≤ j ∧ j ≤ 1000000 ∧ i.natAbs < 2 ^ 64
def CMul (i j : Int) : Prop := (-(2 ^ 64) < i ∧ i < 2 ^ 64) ∨ (-(2 ^ 64) < j ∧ j < 2 ^ 64)
theorem CMul.ok {i j : Int} (h : CMul i j) : IntMulOk i j := by
  rcases h with ⟨h1, h2⟩ | ⟨h1, h2⟩
  · exact .of_left (intBits_le_64 h1 h2)
  · exact .of_right (intBits_le_64 h1 h2)
theorem two_pow_nn (k : Nat) : (0 : Int) ≤ 2 ^ k := by
  rw [two_pow_cast]
  exact Int.natCast_nonneg _

theorem op_add : OpR X (binaryOp .Add) (rI0 fun i j => .int (i + j)) := opI0 fun _ _ _ _ _ _ _ q => add_int q
theorem op_sub : OpR X (binaryOp .Sub) (rI0 fun i j => .int (i - j)) := opI0 fun _ _ _ _ _ _ _ q => sub_int q
theorem op_mul : OpR X (binaryOp .Mult) (rI CMul fun i j => .int (i * j)) := opI fun _ _ _ _ _ _ _ hc q => mul_int q hc.ok
/-- // by a positive divisor -/
theorem op_fdiv : OpR X (binaryOp .FloorDiv) (rI CDiv fun i j => .int (i / j)) := opI fun i j _ _ _ _ _ hc q => by
  have h1 : (0 : Int) < j := hc.1
  have h2 : j < 1073741824 := hc.2
  exact floordiv_int (by omega) (by rw [Int.fdiv_eq_ediv_of_nonneg i (by omega)]; exact q) (.inl (PyProof.noPylong_small (by omega)))
/-- % by a positive divisor of any size -/
theorem op_mod : OpR X (binaryOp .Mod) (rI (fun _ j => 0 < j) fun i j => .int (i % j)) := opI fun i j _ _ _ _ _ hc q => by
  have h1 : (0 : Int) < j := hc
  exact mod_int' (by omega) (by rw [Int.fmod_eq_emod_of_nonneg i (by omega)]; exact q)
theorem op_shl : OpR X (binaryOp .LShift) (rI CPow fun i j => .int (i * 2 ^ j.toNat)) := opI fun _ _ _ _ _ _ _ hc q => lshift_int_small hc.1 hc.2.1 hc.2.2 q
theorem op_shr : OpR X (binaryOp .RShift) (rI (fun _ j => 0 ≤ j) fun i j => .int (i / 2 ^ j.toNat)) := opI fun i j _ _ _ _ _ hc q =>
  rshift_int hc (by rw [Int.fdiv_eq_ediv_of_nonneg i (two_pow_nn _)]; exact q)
theorem op_and : OpR X (binaryOp .BitAnd) (rI0 fun i j => .int (Builtin.bitAnd i j)) := opI0 fun _ _ _ _ _ _ _ q => and_int q
theorem unI {f : Value → Sem Value} {g : Int → Int}
    (rule : ∀ (i : Int) (t : Tok) (s : Shared) (Q : Value → Shared → Prop) (E : Value → Shared → Prop), Q (.int (g i) s.toks) { s with toks := s.toks + 1 } → wpAny (model X.prog X.w) X.A (f (.int i t)) Q E s) :
    UnR X f (rU fun i => .int (g i)) := by
  intro pins s σ H x v Q I rx h
  obtain ⟨i, rfl, q⟩ := h
  obtain ⟨t, rfl⟩ := rx
  exact rule i t s _ _ ⟨.int (g i), H, I.tok _, ⟨_, rfl⟩, q⟩
theorem un_neg : UnR X (unaryOp .USub) (rU fun i => .int (-i)) := unI fun _ _ _ _ _ q => neg_int q
/-! ### bools among ints: n += (a < b) -/
end

/-! ### comparisons -/
/-- the scalars that == tells apart as data does -/
def scal : V → V → Bool
  | .non, .non => true | .non, .int _ => true | .int _, .non => true | .non, .bl _ => true | .bl _, .non => true | .non, .str _ => true | .str _, .non => true
  | .int _, .int _ => true | .bl _, .bl _ => true | .str _, .str _ => true | .byt _, .byt _ => true
  | .int _, .str _ => true | .str _, .int _ => true | .bl _, .str _ => true | .str _, .bl _ => true
  | _, _ => false
def rEq : R2 := fun x y H Q => scal x y = true ∧ Q (.bl (decide (x = y))) H
def rNe : R2 := fun x y H Q => scal x y = true ∧ Q (.bl (!decide (x = y))) H

theorem dec_int {i j : Int} : decide (V.int i = V.int j) = (i == j) := by
  rw [Bool.eq_iff_iff]
  simp
theorem dec_bl {i j : Bool} : decide (V.bl i = V.bl j) = (i == j) := by
  rw [Bool.eq_iff_iff]
  simp
theorem dec_str {i j : Str} : decide (V.str i = V.str j) = (i == j) := by
  rw [Bool.eq_iff_iff]
  simp
theorem dec_byt {i j : Array UInt8} : decide (V.byt i = V.byt j) = (i.toList == j.toList) := by
  rw [Bool.eq_iff_iff]
  cases i
  cases j
  simp

section
variable {X : Cx} {a b c : Expr} {ta tb tc : TE} {pos : Pos}
theorem fin_bl {pins : List (Addr × Obj)} {σ : St} {H : Hp} {s : Shared} {Q : VK} {k k' : Bool} (I : Inv X pins σ H s) (q : Q (.bl k) H) (e : k = k') : EP X pins σ Q (.bool k') s := by
  subst e
  exact ⟨.bl k, H, I, rfl, q⟩
theorem op_eq : OpR X (compareOp .Eq) rEq := by
  intro pins s σ H x y v u Q I rx ry h
  obtain ⟨hs, q⟩ := h
  cases x with
  | non =>
    cases rx
    cases y with
    | non => cases ry; exact PySem.EqNone.eq_none_none (fin_bl I q (by simp))
    | bl j => cases ry; exact PySem.EqNone.eq_none_bool (fin_bl I q (by simp))
    | int j => obtain ⟨t', rfl⟩ := ry; exact PySem.EqNone.eq_none_int (fin_bl I q (by simp))
    | str j => obtain ⟨t', rfl⟩ := ry; exact PySem.EqNone.eq_none_str (fin_bl I q (by simp))
    | _ => exact absurd (show false = true from hs) Bool.false_ne_true
  | bl i =>
    cases rx
    cases y with
    | non => cases ry; exact PySem.EqNone.eq_bool_none (fin_bl I q (by simp))
    | bl j => cases ry; exact eq_bool (fin_bl I q dec_bl)
    | str j => obtain ⟨t', rfl⟩ := ry; exact PySem.EqMixed.eq_bool_str (fin_bl I q (by simp))
    | _ => exact absurd (show false = true from hs) Bool.false_ne_true
  | int i =>
    obtain ⟨t, rfl⟩ := rx
    cases y with
    | non => cases ry; exact PySem.EqNone.eq_int_none (fin_bl I q (by simp))
    | int j => obtain ⟨t', rfl⟩ := ry; exact eq_int (fin_bl I q dec_int)
    | str j => obtain ⟨t', rfl⟩ := ry; exact PySem.EqMixed.eq_int_str (fin_bl I q (by simp))
    | _ => exact absurd (show false = true from hs) Bool.false_ne_true
  | str i =>
    obtain ⟨t, rfl⟩ := rx
    cases y with
    | non => cases ry; exact PySem.EqNone.eq_str_none (fin_bl I q (by simp))
    | bl j => cases ry; exact PySem.EqMixed.eq_str_bool (fin_bl I q (by simp))
    | int j => obtain ⟨t', rfl⟩ := ry; exact PySem.EqMixed.eq_str_int (fin_bl I q (by simp))
    | str j => obtain ⟨t', rfl⟩ := ry; exact eq_str (fin_bl I q dec_str)
    | _ => exact absurd (show false = true from hs) Bool.false_ne_true
  | byt i =>
    obtain ⟨t, rfl⟩ := rx
    cases y with
    | byt j => obtain ⟨t', rfl⟩ := ry; exact PySem.W.eq_bytes (fin_bl I q dec_byt)
    | _ => exact absurd (show false = true from hs) Bool.false_ne_true
  | _ => cases y <;> exact absurd (show false = true from hs) Bool.false_ne_true
theorem op_ne : OpR X (compareOp .NotEq) rNe := by
  intro pins s σ H x y v u Q I rx ry h
  obtain ⟨hs, q⟩ := h
  cases x with
  | non =>
    cases rx
    cases y with
    | non => cases ry; exact PySem.EqNone.ne_none_none (fin_bl I q (by simp))
    | bl j => cases ry; exact PySem.EqNone.ne_none_bool (fin_bl I q (by simp))
    | int j => obtain ⟨t', rfl⟩ := ry; exact PySem.EqNone.ne_none_int (fin_bl I q (by simp))
    | str j => obtain ⟨t', rfl⟩ := ry; exact PySem.EqNone.ne_none_str (fin_bl I q (by simp))
    | _ => exact absurd (show false = true from hs) Bool.false_ne_true
  | bl i =>
    cases rx
    cases y with
    | non => cases ry; exact PySem.EqNone.ne_bool_none (fin_bl I q (by simp))
    | bl j => cases ry; exact ne_bool (fin_bl I q (congrArg not dec_bl))
    | str j => obtain ⟨t', rfl⟩ := ry; exact PySem.EqMixed.ne_bool_str (fin_bl I q (by simp))
    | _ => exact absurd (show false = true from hs) Bool.false_ne_true
  | int i =>
    obtain ⟨t, rfl⟩ := rx
    cases y with
    | non => cases ry; exact PySem.EqNone.ne_int_none (fin_bl I q (by simp))
    | int j => obtain ⟨t', rfl⟩ := ry; exact ne_int (fin_bl I q (congrArg not dec_int))
    | str j => obtain ⟨t', rfl⟩ := ry; exact PySem.EqMixed.ne_int_str (fin_bl I q (by simp))
    | _ => exact absurd (show false = true from hs) Bool.false_ne_true
  | str i =>
    obtain ⟨t, rfl⟩ := rx
    cases y with
    | non => cases ry; exact PySem.EqNone.ne_str_none (fin_bl I q (by simp))
    | bl j => cases ry; exact PySem.EqMixed.ne_str_bool (fin_bl I q (by simp))
    | int j => obtain ⟨t', rfl⟩ := ry; exact PySem.EqMixed.ne_str_int (fin_bl I q (by simp))
    | str j => obtain ⟨t', rfl⟩ := ry; exact ne_str (fin_bl I q (congrArg not dec_str))
    | _ => exact absurd (show false = true from hs) Bool.false_ne_true
  | byt i =>
    obtain ⟨t, rfl⟩ := rx
    cases y with
    | byt j => obtain ⟨t', rfl⟩ := ry; exact PySem.W.ne_bytes (fin_bl I q (congrArg not dec_byt))
    | _ => exact absurd (show false = true from hs) Bool.false_ne_true
  | _ => cases y <;> exact absurd (show false = true from hs) Bool.false_ne_true

theorem op_lt : OpR X (compareOp .Lt) (rI0 fun i j => .bl (decide (i < j))) := opB0 fun _ _ _ _ _ _ _ q => lt_int q
theorem op_le : OpR X (compareOp .LtE) (rI0 fun i j => .bl (decide (i ≤ j))) := opB0 fun _ _ _ _ _ _ _ q => le_int q
theorem op_gt : OpR X (compareOp .Gt) (rI0 fun i j => .bl (decide (j < i))) := opB0 fun _ _ _ _ _ _ _ q => gt_int q
/-- is None, is not None: the right side a value none -/
theorem op_isN : OpR X (compareOp .Is) (fun x y H Q => y = .non ∧ Q (.bl (decide (x = .non))) H) := by
  intro pins s σ H x y v u Q I rx ry h
  obtain ⟨rfl, q⟩ := h
  cases ry
  refine is_none_gen (fin_bl I q ?_)
  cases x <;> first
    | (cases rx; rfl)
    | (obtain ⟨t, rfl⟩ := rx; rfl)
theorem op_notN : OpR X (compareOp .IsNot) (fun x y H Q => y = .non ∧ Q (.bl (!decide (x = .non))) H) := by
  intro pins s σ H x y v u Q I rx ry h
  obtain ⟨rfl, q⟩ := h
  cases ry
  refine isnot_none_gen (fin_bl I q ?_)
  cases x <;> first
    | (cases rx; rfl)
    | (obtain ⟨t, rfl⟩ := rx; rfl)

/-- is, is not of two objects that are tracked lists or instances -/
def isObj : HO → Bool
  | .lst _ => true
  | .ins _ _ _ => true
  | _ => false
/-- two rules for one operation: by cases -/
theorem OpR.or {f : Value → Value → Sem Value} {r r' : R2} (h : OpR X f r) (h' : OpR X f r') : OpR X f (fun x y H Q => r x y H Q ∨ r' x y H Q) := by
  intro pins s σ H x y v u Q I rx ry q
  rcases q with q | q
  · exact h pins s σ H x y v u Q I rx ry q
  · exact h' pins s σ H x y v u Q I rx ry q

theorem nomark (b : Expr) {op : CmpOp} (h : op ≠ .In := by decide) (h2 : op ≠ .NotIn := by decide) : behindInMarks op b = false := by
  have e1 : (op == CmpOp.In) = false := by cases op <;> first | rfl | exact absurd rfl h
  have e2 : (op == CmpOp.NotIn) = false := by cases op <;> first | rfl | exact absurd rfl h2
  cases b <;> simp [behindInMarks, e1, e2]
/-- a comparison as a value; hm: nomark b, or (for in, not in) by with_unfolding_all rfl -/
theorem pe_cmpR {op : CmpOp} {r : R2} (ho : OpR X (compareOp op) r) (ha : PE X a ta) (hb : PE X b tb) (hm : behindInMarks op b = false) : PE X (.Compare a [op] [b] pos) (tOp r ta tb) := by
  intro pins s σ H Q I h
  exact wpAny_Compare1 (binT ha hb I h fun v u s2 x y H2 I2 rx ry q => ho pins s2 σ H2 x y v u Q I2 rx ry q) hm
/-- a reading of a value as a test -/
def tTest (t : TE) : TT := fun σ H Q => t σ H fun x H' => ∃ k, x = .bl k ∧ Q k H'
theorem pt_cmpR {op : CmpOp} {r : R2} (ho : OpR X (compareOp op) r) (ha : PE X a ta) (hb : PE X b tb) (hm : behindInMarks op b = false) : PT X (.Compare a [op] [b] pos) (tTest (tOp r ta tb)) := by
  intro pins s σ H Q I h
  refine wpAny_isTrue_Compare1 (thn (ha pins s σ H _ I h) fun v s1 ⟨x, H1, I1, r1, q1⟩ => thn (hb pins s1 σ H1 _ I1 q1) fun u s2 ⟨y, H2, I2, r2, q2⟩ =>
    thn (ho pins s2 σ H2 x y v u _ I2 r1 r2 q2) fun c s3 ⟨z, H3, I3, r3, k, e, q3⟩ => ?_) hm
  subst e
  cases r3
  exact wpAny_truthy_bool ⟨H3, I3, q3⟩
/-- a op1 b op2 c -/
def tChain (r r' : R2) (ta tb tc : TE) : TE := fun σ H Q => ta σ H fun x H1 => tb σ H1 fun y H2 => r x y H2 fun z H3 => ∃ k, z = .bl k ∧
  (if k = true then tc σ H3 fun w' H4 => r' y w' H4 Q else Q (.bl false) H3)
/-! ### truth -/
/-- a value's truth by the abstract heap -/
def TruV (K : PySem.W.Frag) (x : V) (H : Hp) (k : Bool) : Prop :=
  match x with
  | .non => k = false
  | .bl b => k = b
  | .int i => k = (i != 0)
  | .str y => y.length ≤ sizeLine ∧ k = ((y.length : Int) != 0)
  | .byt y => y.size ≤ sizeLine ∧ k = ((y.size : Int) != 0)
  | .ref p => (∃ xs, SqL K H p xs ∧ k = !xs.isEmpty) ∨ (∃ xs, SqT K H p xs ∧ k = !xs.isEmpty) ∨ ∃ kvs, H p = some (.dK kvs) ∧ k = !kvs.isEmpty
  | _ => False
theorem isEmpty_kv {κ : Type} {kvs : List (κ × V)} {vs : List (κ × Value)} (r : KV kvs vs) : (!vs.isEmpty) = !kvs.isEmpty := by
  cases r <;> rfl
theorem isEmpty_of {xs : List V} {its : List Value} (r : Vals xs its) : (!its.toArray.isEmpty) = !xs.isEmpty := by
  cases r <;> simp
theorem line63 : (sizeLine : Nat) < 2 ^ 63 := by rw [sizeLine_eq]; decide
theorem tru_ok : TruR X (fun x H Q => ∃ k, TruV X.K x H k ∧ Q k H) := by
  intro pins s σ H x v Q I rx h
  obtain ⟨k, e, q⟩ := h
  have hl := line63
  have hs : sizeLine = 16777216 := sizeLine_eq
  cases x with
  | non =>
    cases rx
    have e' : k = false := e
    subst e'
    exact truthy_none ⟨H, I, q⟩
  | bl b =>
    cases rx
    have e' : k = b := e
    subst e'
    exact wpAny_truthy_bool ⟨H, I, q⟩
  | int i =>
    obtain ⟨t, rfl⟩ := rx
    have e' : k = (i != 0) := e
    subst e'
    exact PySem.P.truthy_int ⟨H, I, q⟩
  | str y =>
    obtain ⟨t, rfl⟩ := rx
    obtain ⟨hy, e'⟩ : y.length ≤ sizeLine ∧ k = ((y.length : Int) != 0) := e
    subst e'
    exact PySem.P.truthy_str (by omega) ⟨H, I.tok _, q⟩
  | byt y =>
    obtain ⟨t, rfl⟩ := rx
    obtain ⟨hy, e'⟩ : y.size ≤ sizeLine ∧ k = ((y.size : Int) != 0) := e
    subst e'
    exact PySem.W.truthy_bytes (by omega) ⟨H, I.tok _, q⟩
  | ref p =>
    cases rx
    have e' : (∃ xs, SqL X.K H p xs ∧ k = !xs.isEmpty) ∨ (∃ xs, SqT X.K H p xs ∧ k = !xs.isEmpty) ∨ ∃ kvs, H p = some (.dK kvs) ∧ k = !kvs.isEmpty := e
    rcases e' with ⟨xs, hx, e'⟩ | ⟨xs, hx, e'⟩ | ⟨kvs, hx, e'⟩
    · subst e'
      obtain ⟨its, r, pl, hz⟩ := I.list hx
      have hlen := r.length
      exact wpAny_truthy_list pl.isList (by simp only [List.size_toArray]; omega) ⟨H, I.tok _, by rw [isEmpty_of r]; exact q⟩
    · subst e'
      obtain ⟨its, r, pl, hz⟩ := I.tuple hx
      have hlen := r.length
      exact truthy_tuple pl (by simp only [List.size_toArray]; omega) ⟨H, I.tok _, by rw [isEmpty_of r]; exact q⟩
    · subst e'
      obtain ⟨hz, hS, vs, r, m⟩ : kvs.length ≤ sizeLine ∧ (p == sysModules) = false ∧ ∃ vs, KV kvs vs ∧ s.heap.DictOf (mixKind X.prog X.w) p vs := I.hok p _ hx
      have hlen : kvs.length = vs.length := Paired.length r
      exact wpAny_truthy_dict hS m (by omega) ⟨H, I.tok _, by rw [isEmpty_kv r]; exact q⟩
  | _ => exact (show False from e).elim
/-! ### strs and bytes -/
def PlainIxT (b : Expr) : Prop := ∀ o i, subscripted b false o i = operate [o, i] (getItem o i)
/-! ### scalar builtins, by CallR -/
theorem vals1 {x : V} {us : List Value} (r : Vals [x] us) : ∃ u, us = [u] ∧ RelV x u := by
  cases r with
  | cons r1 r2 => cases r2; exact ⟨_, rfl, r1⟩
theorem vals2 {x y : V} {us : List Value} (r : Vals [x, y] us) : ∃ u w', us = [u, w'] ∧ RelV x u ∧ RelV y w' := by
  cases r with
  | cons r1 r2 =>
    cases r2 with
    | cons r3 r4 => cases r4; exact ⟨_, _, rfl, r1, r3⟩
theorem call_max2 (hc : X.calm = true) : CallR X (.builtin "max") (fun xs H Q => ∃ i j, xs = [.int i, .int j] ∧ Q (.int (if j > i then j else i)) H) := by
  intro pins s σ H xs us Q I r h
  obtain ⟨i, j, rfl, q⟩ := h
  obtain ⟨u, w', rfl, ⟨t, rfl⟩, ⟨t', rfl⟩⟩ := vals2 r
  refine max_two_ints (I.ok.hd hc) fun h' tk k => ⟨_, H, I.kept k, ?_, q⟩
  by_cases hj : j > i
  · rw [if_pos hj, if_pos hj]; exact ⟨_, rfl⟩
  · rw [if_neg hj, if_neg hj]; exact ⟨_, rfl⟩
/-- len of a str, a bytes, a list, a tuple -/
def LenV (K : PySem.W.Frag) (x : V) (H : Hp) (n : Nat) : Prop :=
  match x with
  | .str y => y.length ≤ sizeLine ∧ n = y.length
  | .byt y => y.size ≤ sizeLine ∧ n = y.size
  | .ref p => (∃ xs, SqL K H p xs ∧ n = xs.length) ∨ ∃ xs, SqT K H p xs ∧ n = xs.length
  | _ => False
end
end L2

namespace L2
open PySem PySem.Spec PyProof.Rows

/-! ### an instance, its attributes a map -/
structure ObjM (h : Heap) (x dx C : Addr) (mA : Str → Option Value) : Prop where
  obj : h.get? x = some (PySem.W.instObj C dx)
  ns : h.Ns1 dx mA
  ne : dx ≠ x

theorem lookIn_ns {h : Heap} {dx : Addr} {mA : Str → Option Value} (n : h.Ns1 dx mA) : ∃ od, h.get? dx = some od ∧ ∀ name, PySem.W.lookIn name od = some (mA name) := by
  obtain ⟨o, es, ep, ho, hd, hk, _, hm⟩ := n
  refine ⟨o, ho, fun name => ?_⟩
  have e := hm name
  unfold nsFind findBy at e
  rw [← Array.find?_toList] at e
  unfold PySem.W.lookIn
  rw [hd]
  dsimp only
  split
  · rename_i y q
    rw [q] at e
    exact congrArg some e
  · rename_i q
    rw [q] at e
    have a : es.toList.any (·.refKey) = false := by
      rw [List.any_eq_false]
      intro y hy
      obtain ⟨z, t, hkey⟩ := hk y (Array.mem_toList_iff.mp hy)
      simp [DictEntry.refKey, hkey]
    have a' : ¬ es.toList.any (·.refKey) = true := by rw [a]; exact Bool.false_ne_true
    rw [if_neg a']
    exact congrArg some e

theorem ObjM.look {h : Heap} {x dx C : Addr} {mA : Str → Option Value} (I : ObjM h x dx C mA) : ∃ od, PySem.W.InstAt h x (PySem.W.instObj C dx) C (some od) ∧ ∀ name, PySem.W.lookIn name od = some (mA name) :=
  let ⟨od, ho, hl⟩ := lookIn_ns I.ns
  ⟨od, ⟨I.obj, rfl, rfl, ho⟩, hl⟩

section
variable {prog : Program} {w : World} {A : Around} {E : Value → Shared → Prop} {s : Shared} {K : PySem.W.Frag} {x dx C f : Addr} {mA : Str → Option Value} {name : Str} {v : Value}

end

/-! ### the attributes as a list of pairs -/
def putF (f : Str) (v : V) : List (Str × V) → List (Str × V)
  | [] => [(f, v)]
  | (g, x) :: r => if g = f then (g, v) :: r else (g, x) :: putF f v r
theorem RelO.none_of {o : Option Value} (r : RelO none o) : o = none := by
  cases o with
  | none => rfl
  | some u => exact (show False from r).elim
section
variable {P : Program} {w : World} {H H' : Hp} {h h' : Heap} {a C dx : Addr} {fs fs' : List (Str × V)}
theorem ins_get (hok : HOk P w H h) (e : H a = some (.ins C dx fs)) : ∃ mA, ObjM h a dx C mA ∧ (∀ f, RelO (fs.lookup f) (mA f)) ∧ PySem.Within mA (fs.map (·.1)) ∧ fs.length ≤ 1000 ∧ H dx = some (.own a) := by
  obtain ⟨d, z, ne, ob, mA, n, r, q⟩ := (show ObjOk P w H h a (.ins C dx fs) from hok a _ e)
  exact ⟨mA, ⟨ob, n, ne⟩, r, q, z, d⟩
end

/-! ### what of the text a class must have -/
structure Cls (K : PySem.W.Frag) (C : Addr) : Prop where
  pg : PySem.W.plainGet K C Str.empty = true
  hd : PySem.W.hasDictIn K C = true
  po : PySem.W.plainOver K C = true
  sa : PySem.W.findIn K (.ref C) "__setattr__" = some (some (.builtin "object.__setattr__"))
theorem Cls.get {K : PySem.W.Frag} {C : Addr} (c : Cls K C) (f : Str) : PySem.W.plainGet K C f = true := c.pg
/-- no class of it has the name -/
def NoAttr (K : PySem.W.Frag) (C : Addr) (f : Str) : Prop := PySem.W.findIn K (.ref C) f = some none
/-- a constant of the class -/
structure Con (K : PySem.W.Frag) (C : Addr) (f : Str) (v : V) (u : Value) : Prop where
  at_ : PySem.W.findIn K (.ref C) f = some (some u)
  rel : RelV v u
  get : PySem.W.specialIn K u "__get__" = some none
  cp : PySem.W.copiedNames.contains f = false
/-- a method: a plain def of the class or of one above it -/
structure Meth (K : PySem.W.Frag) (C : Addr) (m : Str) (f : Addr) : Prop where
  at_ : PySem.W.findIn K (.ref C) m = some (some (.ref f))
  fn : PySem.W.isFn K (.ref f) = true
  kp : PySem.W.keepIn K (.ref f) = true

section
variable {X : Cx} {pins : List (Addr × Obj)} {σ : St} {H : Hp} {s : Shared} {a C dx : Addr} {fs : List (Str × V)} {f : Str} {v : V} {A : Around} {E : Value → Shared → Prop}

/-- a new instance, tracked, without attributes -/
theorem Inv.made (I : Inv X pins σ H s) : Inv X pins σ (upd (upd H s.heap.objs.size (.own (s.heap.objs.size + 1))) (s.heap.objs.size + 1) (.ins C s.heap.objs.size []))
    { s with heap := (s.heap.push PySem.W.emptyDict).push (PySem.W.instObj C s.heap.objs.size) } := by
  have e1 : (s.heap.push PySem.W.emptyDict).get? s.heap.objs.size = some PySem.W.emptyDict := Heap.get?_push_size s.heap rfl
  have e2 : ((s.heap.push PySem.W.emptyDict).push (PySem.W.instObj C s.heap.objs.size)).get? (s.heap.objs.size + 1) = some (PySem.W.instObj C s.heap.objs.size) := by
    have := Heap.get?_push_size (s.heap.push PySem.W.emptyDict) (o := PySem.W.instObj C s.heap.objs.size) rfl
    rwa [Heap.size_push] at this
  have e3 : (s.heap.push PySem.W.emptyDict).Ns s.heap.objs.size (fun _ => none) := ⟨PySem.W.emptyDict, #[], _, e1, rfl, (fun e he => absurd he (by simp)), fun _ => rfl⟩
  have I1 := I.laid (a := s.heap.objs.size) (o := .own (s.heap.objs.size + 1)) (h' := s.heap.push PySem.W.emptyDict) (t' := s.toks) (fun b u q => Heap.get?_push_of_some _ q) (Nat.le_refl _) ⟨_, e1⟩
  refine I1.laid (a := s.heap.objs.size + 1) (o := .ins C s.heap.objs.size []) (t' := s.toks) (fun b u q => Heap.get?_push_of_some _ q) (Nat.le_of_eq (Heap.size_push _ _)) ?_
  have ne : s.heap.objs.size ≠ s.heap.objs.size + 1 := Nat.ne_of_lt (Nat.lt_succ_self _)
  refine ⟨by rw [upd_ne ne, upd_same], Nat.zero_le _, ne, e2, fun _ => none, (Heap.Ns1.of_empty e3).at fun o q => Heap.get?_push_of_some _ q, fun _ => True.intro, fun y hy => absurd rfl hy⟩

end

/-! ### readings and rules -/
/-- e.f, an attribute of the instance -/
def tFld (K : PySem.W.Frag) (ta : TE) (f : Str) : TE := fun σ H Q => ta σ H fun x H1 => ∃ a C dx fs v, x = .ref a ∧ H1 a = some (.ins C dx fs) ∧ Cls K C ∧ NoAttr K C f ∧ fs.lookup f = some v ∧ Q v H1
/-- e.f, a constant of the class -/
def tCon (K : PySem.W.Frag) (ta : TE) (f : Str) : TE := fun σ H Q => ta σ H fun x H1 => ∃ a C dx fs v u, x = .ref a ∧ H1 a = some (.ins C dx fs) ∧ Cls K C ∧ Con K C f v u ∧ fs.lookup f = none ∧ Q v H1
/-- e.f = value -/
def sFld (K : PySem.W.Frag) (ta tv : TE) (f : Str) : TS := fun D σ H => tv σ H fun y H1 => ta σ H1 fun x H2 => ∃ a C dx fs, x = .ref a ∧ H2 a = some (.ins C dx fs) ∧ Cls K C ∧ NoAttr K C f ∧ fs.length < 1000 ∧
  D.nx σ (upd H2 a (.ins C dx (putF f y fs)))
/-- an augmented operator on two values -/
def InOp (X : Cx) (op : Operator) (rd : V → V → Hp → VK → Prop) : Prop :=
  ∀ (pins : List (Addr × Obj)) (s : Shared) (σ : St) (H : Hp) (x y : V) (u v : Value) (Q : VK), Inv X pins σ H s → RelV x u → RelV y v → rd x y H Q → wpAny (model X.prog X.w) X.A (inplaceOp op u v) (EP X pins σ Q) X.xe s
/-- e.f op= value -/
def sFldAug (K : PySem.W.Frag) (ta tv : TE) (rd : V → V → Hp → VK → Prop) (f : Str) : TS := fun D σ H => ta σ H fun x H1 => ∃ a C dx fs v, x = .ref a ∧ H1 a = some (.ins C dx fs) ∧ Cls K C ∧ NoAttr K C f ∧ fs.lookup f = some v ∧
  tv σ H1 fun y H2 => rd v y H2 fun z H3 => ∃ dx' fs', H3 a = some (.ins C dx' fs') ∧ fs'.length < 1000 ∧ D.nx σ (upd H3 a (.ins C dx' (putF f z fs')))

section
variable {X : Cx} {o e value : Expr} {f : Str} {pos pos' tpos : Pos} {ta tv : TE}
def rAdd : V → V → Hp → VK → Prop := fun x y H Q => ∃ i j, x = .int i ∧ y = .int j ∧ Q (.int (i + j)) H
def rSub : V → V → Hp → VK → Prop := fun x y H Q => ∃ i j, x = .int i ∧ y = .int j ∧ Q (.int (i - j)) H
end

/-! ### isinstance -/
section
variable {X : Cx} {pins : List (Addr × Obj)} {σ : St} {H : Hp} {s : Shared} {A : Around} {E : Value → Shared → Prop} {Q : Value → Shared → Prop} {c : Value} {b : Bool}
/-- the type of a value, as the fragment's deciders take it; for an instance its class -/
inductive TyOf (K : PySem.W.Frag) (H : Hp) : V → Value → Prop where
  | non : TyOf K H .non (.type "NoneType")
  | bl (x : Bool) : TyOf K H (.bl x) (.type "bool")
  | int (i : Int) : TyOf K H (.int i) (.type "int")
  | str (x : Str) : TyOf K H (.str x) (.type "str")
  | flt (x : UInt64) : TyOf K H (.flt x) (.type "float")
  | lst {a : Addr} {xs : List V} (e : H a = some (.lst xs)) : TyOf K H (.ref a) (.type "list")
  | frz {a : Addr} {o : Obj} {xs : List V} (e : H a = some (.frz o (.lst xs))) : TyOf K H (.ref a) (.type "list")
  | tup {a : Addr} {xs : List V} (e : H a = some (.tup xs)) : TyOf K H (.ref a) (.type "tuple")
  | dK {a : Addr} {kvs : List (Key × V)} (e : H a = some (.dK kvs)) : TyOf K H (.ref a) (.type "dict")
  | dT {a : Addr} {kvs : List (List Key × V)} (e : H a = some (.dT kvs)) : TyOf K H (.ref a) (.type "dict")
  | ins {a C dx : Addr} {fs : List (Str × V)} (e : H a = some (.ins C dx fs)) (cl : Cls K C) (ha : PySem.W.findIn K (.ref C) "__class__" = some (some (.builtin "object.__class__")))
      (hn : PySem.W.specialIn K (.builtin "object.__class__") "__get__" = some (some (.builtin "getset_descriptor.__get__"))) (htk : PySem.W.takesIn K (.builtin "object.__class__") = some true)
      (hm : PySem.W.mroIn K C (.type "object") = some true) : TyOf K H (.ref a) (.ref C)
/-- isinstance(x, c) for one class c, a built-in or an own one: kitOne's answer -/
theorem isinst_ok {x : V} {u t : Value} (I : Inv X pins σ H s) (rx : RelV x u) (ty : TyOf X.K H x t) (e : PySem.W.kitOne X.K t c = some b) (h : ∀ tk, Q (.bool b) { s with toks := tk }) :
    wpAny (model X.prog X.w) A (call (.builtin "isinstance") [u, c]) Q E s := by
  cases ty with
  | non => cases (show u = Value.none from rx); exact PySem.W.kia_one PySem.W.kitx_none I.kIn True.intro e (fun z => nomatch z) h
  | bl y => cases (show u = Value.bool y from rx); exact PySem.W.kia_one PySem.W.kitx_bool I.kIn True.intro e (fun z => nomatch z) h
  | int i => obtain ⟨t, q⟩ := (show ∃ t, u = Value.int i t from rx); cases q; exact PySem.W.kia_one PySem.W.kitx_int I.kIn True.intro e (fun z => nomatch z) h
  | str y => obtain ⟨t, q⟩ := (show ∃ t, u = Value.str y t from rx); cases q; exact PySem.W.kia_one PySem.W.kitx_str I.kIn True.intro e (fun z => nomatch z) h
  | flt y => obtain ⟨t, q⟩ := (show ∃ t, u = Value.float y t from rx); cases q; exact PySem.W.kia_one PySem.W.kitx_float I.kIn True.intro e (fun z => nomatch z) h
  | @lst a xs ea =>
    cases (show u = Value.ref a from rx)
    obtain ⟨_, _, n, _, h1⟩ := (show ObjOk X.prog X.w H s.heap a (.lst xs) from I.hok a _ ea)
    exact PySem.W.kia_one PySem.W.kitx_list I.kIn ⟨_, h1, rfl⟩ e (fun z => nomatch z) h
  | @frz a ob xs ea =>
    cases (show u = Value.ref a from rx)
    obtain ⟨_, _, _, n, _, h1⟩ := (show ObjOk X.prog X.w H s.heap a (.frz ob (.lst xs)) from I.hok a _ ea)
    exact PySem.W.kia_one PySem.W.kitx_list I.kIn ⟨_, h1, rfl⟩ e (fun z => nomatch z) h
  | @tup a xs ea =>
    cases (show u = Value.ref a from rx)
    obtain ⟨_, _, _, p⟩ := (show ObjOk X.prog X.w H s.heap a (.tup xs) from I.hok a _ ea)
    obtain ⟨o, h1, h2, _⟩ := p
    exact PySem.W.kia_one PySem.W.kitx_tuple I.kIn ⟨o, h1, h2⟩ e (fun z => nomatch z) h
  | @dK a kvs ea =>
    cases (show u = Value.ref a from rx)
    obtain ⟨_, _, vs, _, p⟩ := (show ObjOk X.prog X.w H s.heap a (.dK kvs) from I.hok a _ ea)
    obtain ⟨o, es, ep, h1, h2, _⟩ := p
    exact PySem.W.kia_one PySem.W.kitx_dict I.kIn ⟨o, h1, h2.1⟩ e (fun z => nomatch z) h
  | @dT a kvs ea =>
    cases (show u = Value.ref a from rx)
    obtain ⟨_, _, xs, _, o, es, ep, h1, h2, _⟩ := (show ObjOk X.prog X.w H s.heap a (.dT kvs) from I.hok a _ ea)
    exact PySem.W.kia_one PySem.W.kitx_dict I.kIn ⟨o, h1, h2.1⟩ e (fun z => nomatch z) h
  | @ins a C dx fs ea cl ha hn htk hm =>
    cases (show u = Value.ref a from rx)
    obtain ⟨mA, O, _⟩ := ins_get I.hok ea
    obtain ⟨od, J, _⟩ := O.look
    exact PySem.W.kia_one (PySem.W.kitx_own (cl.get _) cl.hd ha hn htk hm) I.kIn J e (fun z => nomatch z) h
end
end L2

namespace L2
open PySem PySem.Spec PyProof.Rows

/-! ### room -/
structure Room (k : Nat) (A : Around) : Prop where
  hd : A.handled = none
  dp : A.depth + 3 * k + 5 < recursionLimit
  un : A.units + 16 * k + 200 < cLine
theorem Room.mono {j k : Nat} {A : Around} (r : Room k A) (h : j ≤ k) : Room j A := ⟨r.hd, by have := r.dp; omega, by have := r.un; omega⟩
theorem Room.deeper {k : Nat} {A : Around} (r : Room (k + 1) A) (env : Env) : Room k (A.deeper env) :=
  ⟨r.hd, by have := r.dp; show A.depth + 1 + 3 * k + 5 < _; omega, by have := r.un; show A.units + 3 + 16 * k + 200 < _; omega⟩
theorem Room.in1 {k : Nat} {A : Around} (r : Room (k + 1) A) : Room k A.in1 :=
  ⟨r.hd, by have := r.dp; show A.depth + 3 * k + 5 < _; omega, by have := r.un; show A.units + 1 + 16 * k + 200 < _; omega⟩
theorem make_depth {A : Around} {C : Addr} {us : List Value} {kw : List (Str × Value)} : (A.under (.builtin "type.__call__" ⟨.ref C :: us, kw⟩)).depth = A.depth + 1 := by
  first | rfl | simp [Around.under, Code.weight, Code.isCreation, Code.isGuard, Code.isCaller, Code.frames, Code.isFrame, guardIds]
theorem make_units {A : Around} {C : Addr} {us : List Value} {kw : List (Str × Value)} : (A.under (.builtin "type.__call__" ⟨.ref C :: us, kw⟩)).units = A.units + 1 := by
  first | rfl | simp [Around.under, Code.cUnits, Code.frames, Code.isFrame]
theorem Room.make {k : Nat} {A : Around} (r : Room (k + 1) A) (C : Addr) (us : List Value) (kw : List (Str × Value)) : Room k (A.under (.builtin "type.__call__" ⟨.ref C :: us, kw⟩)) :=
  ⟨r.hd, by have := r.dp; rw [make_depth]; omega, by have := r.un; rw [make_units]; omega⟩
theorem Room.depth {k : Nat} {A : Around} (r : Room k A) : A.depth < recursionLimit := by have := r.dp; omega
theorem Room.units {k : Nat} {A : Around} (r : Room k A) : A.units + 64 < cLine := by have := r.un; omega
/-! ### argument lists and displays -/
def tNil : TA := fun _ H Q => Q [] H
def tCons (ta : TE) (tr : TA) : TA := fun σ H Q => ta σ H fun x H1 => tr σ H1 fun xs H2 => Q (x :: xs) H2
section
variable {X : Cx} {e : Expr} {es : List Expr} {te : TE} {t : TA} {pos : Pos}
theorem pa_nil : PA X [] tNil := fun _ _ _ _ H Q I h => Calls.spliced_nil ⟨[], H, I, .nil, h⟩
theorem pa_cons (ha : PE X e te) (hr : PA X es t) (hs : starEach (e :: es) X.env = (false, eval e X.env) :: starEach es X.env := by rfl) : PA X (e :: es) (tCons te t) := by
  intro pos pins s σ H Q I h
  rw [hs]
  show wpAny _ _ (spliced ((false, eval e X.env) :: backTo pos (starEach es X.env))) _ _ s
  refine Calls.spliced_cons (thn (ha pins s σ H _ I h) fun u s1 ⟨x, H1, I1, r1, q1⟩ => ?_)
  exact thn (hr pos pins s1 σ H1 _ I1 q1) fun us s2 ⟨xs, H2, I2, r2, q2⟩ => ⟨x :: xs, H2, I2, .cons r1 r2, q2⟩

/-- a tuple, a list of written items -/
def tTup (t : TA) : TE := fun σ H Q => t σ H fun xs H1 => xs.length ≤ sizeLine ∧ ∀ p, H1 p = none → Q (.ref p) (upd H1 p (.tup xs))
def tLst (t : TA) : TE := fun σ H Q => t σ H fun xs H1 => xs.length ≤ sizeLine ∧ ∀ p, H1 p = none → Q (.ref p) (upd H1 p (.lst xs))
theorem pe_tup {x1} (h : PA X es t) : PE X (.Tuple es x1 pos) (tTup t) := by
  intro pins s σ H Q I hq
  refine wpAny_Tuple_spliced (thn (h pos pins s σ H _ I hq) fun us s1 ⟨xs, H1, I1, r, z, q⟩ => ⟨by rw [← r.length]; exact z, ?_⟩)
  have hf : H1 s1.heap.objs.size = none := I1.hok.fresh (Nat.le_refl _)
  refine ⟨.ref s1.heap.objs.size, upd H1 s1.heap.objs.size (.tup xs), I1.laid (t' := s1.toks) (fun b u e => Heap.get?_push_of_some _ e) (Nat.le_refl _) ?_, rfl, q _ hf⟩
  exact ⟨z, us, r, ⟨_, Heap.get?_push_size _ rfl, rfl, _, rfl⟩⟩
theorem pe_lst (h : PA X es t) : PE X (.List es pos) (tLst t) := by
  intro pins s σ H Q I hq
  refine wpAny_List_spliced (thn (h pos pins s σ H _ I hq) fun us s1 ⟨xs, H1, I1, r, z, q⟩ => ⟨by rw [← r.length]; exact z, ?_⟩)
  have hf : H1 s1.heap.objs.size = none := I1.hok.fresh (Nat.le_refl _)
  refine ⟨.ref s1.heap.objs.size, upd H1 s1.heap.objs.size (.lst xs), I1.laid (t' := s1.toks) (fun b u e => Heap.get?_push_of_some _ e) (Nat.le_refl _) ?_, rfl, q _ hf⟩
  exact ⟨z, us, 0, r, Heap.get?_push_size _ rfl⟩
end

/-! ### what a def promises -/
/-- a def's promise: the bound arguments in the parameters' order, the heap, the wanted end, the wanted exception -/
abbrev Sp := List V → Hp → VK → XK → Prop
/-- how an exception lies behind a call (file 08 gives it): the callers' frames, abstract heap and state ahead of the call, the wish, the exception, the state -/
abbrev CXT := List Env → Hp → Shared → XK → Value → Shared → Prop

/-- the state at a call -/
structure Env0 (P : Program) (w : World) (K : PySem.W.Frag) (mg : Str → Option Value) (base : Heap) (A : Around) (outer : List Env) (s : Shared) (H : Hp) : Prop where
  frames : A.frames = some outer
  mod : Mod K mg base
  bs : ∀ b o, base.get? b = some o → s.heap.get? b = some o ∧ H b = none
  bsz : base.objs.size ≤ s.heap.objs.size
  funs : s.heap.FunFrames base outer
  frf : ∀ b ∈ frs outer, H b = none
  hok : HOk P w H s.heap
  bare : AllBare s.gens
/-- a call's end -/
def CE (outer : List Env) (P : Program) (w : World) (H : Hp) (s : Shared) (Q : VK) (u : Value) (s' : Shared) : Prop :=
  ∃ v H', s'.os = s.os ∧ AllBare s'.gens ∧ Un (frs outer) [] H H' s.heap s'.heap ∧ HOk P w H' s'.heap ∧ RelV v u ∧ Q v H'
def CR (CX : CXT) (outer : List Env) (P : Program) (w : World) (H : Hp) (s : Shared) (Q : VK) (E : XK) (r : Result) (s' : Shared) : Prop :=
  match r with
  | .ok (.ret u) => CE outer P w H s Q u s'
  | .ok _ => False
  | .error e => CX outer H s E e s'
structure FnOk (P : Program) (w : World) (K : PySem.W.Frag) (mg : Str → Option Value) (base : Heap) (CX : CXT) (k : Nat) (f : Addr) (fd : FuncData) (ps : List Str) (sp : Sp) : Prop where
  len : ∀ vs H Q E, sp vs H Q E → vs.length = ps.length
  run : ∀ (A : Around) (outer : List Env) (s : Shared) (H : Hp) (args : Args) (us : List Value) (vs : List V) (Q : VK) (E : XK), Room k A → Env0 P w K mg base A outer s H → BindsTo s fd args (ps.zip us) → Vals vs us → sp vs H Q E →
    codeAny (model P w) A (.call (.ref f) args) (CR CX outer P w H s Q E) s
theorem FnOk.mono {P : Program} {w : World} {K : PySem.W.Frag} {mg : Str → Option Value} {base : Heap} {CX : CXT} {j k : Nat} {f : Addr} {fd : FuncData} {ps : List Str} {sp : Sp} (F : FnOk P w K mg base CX j f fd ps sp) (h : j ≤ k) :
    FnOk P w K mg base CX k f fd ps sp := ⟨F.len, fun A outer s H args us vs Q E hr => F.run A outer s H args us vs Q E (hr.mono h)⟩
/-- a weaker promise -/
theorem FnOk.imp {P : Program} {w : World} {K : PySem.W.Frag} {mg : Str → Option Value} {base : Heap} {CX : CXT} {k : Nat} {f : Addr} {fd : FuncData} {ps : List Str} {sp sp' : Sp} (F : FnOk P w K mg base CX k f fd ps sp)
    (h : ∀ vs H Q E, sp' vs H Q E → sp vs H Q E) : FnOk P w K mg base CX k f fd ps sp' :=
  ⟨fun vs H Q E q => F.len vs H Q E (h _ _ _ _ q), fun A outer s H args us vs Q E hr he hb hv hs => F.run A outer s H args us vs Q E hr he hb hv (h _ _ _ _ hs)⟩

theorem Env0.make {P : Program} {w : World} {K : PySem.W.Frag} {mg : Str → Option Value} {base : Heap} {A : Around} {outer : List Env} {s : Shared} {H : Hp} (e : Env0 P w K mg base A outer s H) (C : Addr) (us : List Value) (kw : List (Str × Value)) :
    Env0 P w K mg base (A.under (.builtin "type.__call__" ⟨.ref C :: us, kw⟩)) outer s H := ⟨by first | exact e.frames | (simpa [Around.under, Code.envs, Code.isFrame, pushEnvs] using e.frames), e.mod, e.bs, e.bsz, e.funs, e.frf, e.hok, e.bare⟩
theorem Env0.in1 {P : Program} {w : World} {K : PySem.W.Frag} {mg : Str → Option Value} {base : Heap} {A : Around} {outer : List Env} {s : Shared} {H : Hp} (e : Env0 P w K mg base A outer s H) :
    Env0 P w K mg base A.in1 outer s H := ⟨e.frames, e.mod, e.bs, e.bsz, e.funs, e.frf, e.hok, e.bare⟩

section
variable {X : Cx} {pins : List (Addr × Obj)} {σ : St} {H : Hp} {s s' : Shared}
/-- from a body: what a callee wants -/
theorem Inv.env0 (I : Inv X pins σ H s) : Env0 X.prog X.w X.K X.mg X.base X.A X.stack s H :=
  ⟨I.ok.frames, I.ok.mod, I.bs, Nat.le_trans I.ok.bsz I.sz, I.stack, I.stkFree, I.hok, I.bare⟩
/-- behind a call -/
theorem Inv.after {Q : VK} {u : Value} (I : Inv X pins σ H s) (h : CE X.stack X.prog X.w H s Q u s') : EP X pins σ Q u s' := by
  obtain ⟨v, H', os, bare, un, hok, r, q⟩ := h
  obtain ⟨hh, g, d, t, os'⟩ := s'
  obtain rfl : os' = s.os := os
  exact ⟨v, H', I.call (h' := hh) (g' := g) (d' := d) (t' := t) (ch := []) un hok bare (fun b z => absurd z (by simp)), r, q⟩
end

/-! ### calls -/
/-- f(..): the written arguments, then the defaults dvs; E: what is wanted of an exception -/
def tCall (sp : Sp) (dvs : List V) (E : XK) (t : TA) : TE := fun σ H Q => t σ H fun vs H1 => sp (vs ++ dvs) H1 Q E
/-- o.m(..) of an instance of the class at C -/
def tMeth (C : Addr) (m : Str) (sp : Sp) (dvs : List V) (E : XK) (ta : TE) (t : TA) : TE := fun σ H Q => ta σ H fun x H1 => ∃ a dx fs, x = .ref a ∧ H1 a = some (.ins C dx fs) ∧ fs.lookup m = none ∧
  t σ H1 fun vs H2 => sp (x :: (vs ++ dvs)) H2 Q E
/-- C(..): a new instance and its dict, then __init__ -/
def tMake (C : Addr) (sp : Sp) (dvs : List V) (E : XK) (t : TA) : TE := fun σ H Q => t σ H fun vs H1 => ∀ x dx, H1 x = none → H1 dx = none → dx ≠ x →
  sp (.ref x :: (vs ++ dvs)) (upd (upd H1 dx (.own x)) x (.ins C dx [])) (fun v H2 => v = .non ∧ Q (.ref x) H2) E

/-- how the parameters are bound: us the positional arguments, kw the keywords' values by name, ds the defaults that fill up -/
def Binds (K : PySem.W.Frag) (fd : FuncData) (ps : List Str) (ds : List Value) : Prop :=
  ∀ (s : Shared) (us : List Value), K.In s.heap → (us ++ ds).length = ps.length → BindsTo s fd ⟨us, []⟩ (ps.zip (us ++ ds))
/-- every parameter is given -/
theorem Binds.all {K : PySem.W.Frag} {fd : FuncData} {ps : List Str} (h : ∀ us : List Value, us.length = ps.length → bindArgs fd ⟨us, []⟩ = pure (ps.zip us)) : Binds K fd ps [] := fun s us _ hl => by
  rw [List.append_nil] at hl ⊢
  exact .of_eq (h us hl)

/-- an exception of a callee reaches what this body wants of exceptions -/
def Passes (CX : CXT) (X : Cx) (E : XK) : Prop := ∀ (pins : List (Addr × Obj)) (σ : St) (H : Hp) (s : Shared) (e : Value) (s' : Shared), Inv X pins σ H s → CX X.stack H s E e s' → X.xe e s'

section
variable {X : Cx} {CX : CXT} {k : Nat} {f C : Addr} {fd : FuncData} {ps : List Str} {sp : Sp} {dvs : List V} {ds : List Value} {E : XK} {x m : Str} {p pos apos : Pos} {e o : Expr} {es : List Expr} {ta : TE} {t : TA}

/-- the callee runs -/
theorem run_fn {pins : List (Addr × Obj)} {σ : St} {H : Hp} {s : Shared} {Q : VK} {us : List Value} {vs : List V} (F : FnOk X.prog X.w X.K X.mg X.base CX k f fd ps sp) (hr : Room k X.A) (hb : Binds X.K fd ps ds) (hd : Vals dvs ds) (hx : Passes CX X E)
    (I : Inv X pins σ H s) (r : Vals vs us) (h : sp (vs ++ dvs) H Q E) : wpAny (model X.prog X.w) X.A (call (.ref f) us) (EP X pins σ Q) X.xe s := by
  have r2 : Vals (vs ++ dvs) (us ++ ds) := r.append hd
  have hl : (us ++ ds).length = ps.length := by rw [← r2.length]; exact F.len _ _ _ _ h
  refine wpAny_call (codeAny_mono (F.run X.A X.stack s H ⟨us, []⟩ (us ++ ds) (vs ++ dvs) Q E hr I.env0 (hb s us I.kIn hl) r2 h) fun r s' hq => ?_)
  cases r with
  | error e => exact hx pins σ H s e s' I hq
  | ok fl =>
    cases fl with
    | ret u => exact I.after hq
    | next => exact False.elim hq
    | brk => exact False.elim hq
    | cont => exact False.elim hq

theorem pe_call (F : FnOk X.prog X.w X.K X.mg X.base CX k f fd ps sp) (hr : Room k X.A) (hg : Gl X x) (hm : X.mg x = some (.ref f)) (hk : PySem.W.keepIn X.K (.ref f) = true) (hb : Binds X.K fd ps ds) (hd : Vals dvs ds) (hx : Passes CX X E)
    (ha : PA X (e :: es) t) (hdb : (x == ("__debug__" : Str)) = false := by decide) (he : starEach (e :: es) X.env = (false, eval e X.env) :: starEach es X.env := by rfl) (hpl : (backTo pos (starEach es X.env)).any (·.1) = false := by rfl) :
    PE X (.Call (.Name x p) (e :: es) [] pos) (tCall sp dvs E t) := by
  intro pins s σ H Q I h
  refine wpAny_Call_Name_kw (ld_glob I hg hm ?_ hdb)
  refine PySem.W.callWith_K (h₀ := X.base) I.ok.mod.kin hk (thn (ha pos pins s σ H _ I h) fun us s1 ⟨vs, H1, I1, r, q⟩ => ⟨I1.kIn, ?_⟩) he hpl
  exact run_fn F hr hb hd hx I1 r q
/-- what a class must have to be made -/
structure Mk (K : PySem.W.Frag) (C f : Addr) : Prop where
  makes : PySem.W.makesIn K C = true
  init : PySem.W.findIn K (.ref C) "__init__" = some (some (.ref f))
  fn : PySem.W.isFn K (.ref f) = true
  kp : PySem.W.keepIn K (.ref C) = true

end

/-! ### keywords -/
/-- the values of the keywords, from the left -/
def PK (X : Cx) (kws : List Keyword) (t : TA) : Prop :=
  ∀ (pos : Pos) (pins : List (Addr × Obj)) (s : Shared) (σ : St) (H : Hp) (Q : List V → Hp → Prop), Inv X pins σ H s → t σ H Q → wpAny (model X.prog X.w) X.A (evalAll ((backToKw pos (keywordEach kws X.env)).map (·.2))) (AP X pins σ Q) X.xe s
section
variable {X : Cx} {CX : CXT} {k : Nat} {f C : Addr} {fd : FuncData} {ps ks : List Str} {sp : Sp} {E : XK} {x m : Str} {p pos apos kpos : Pos} {e o : Expr} {es : List Expr} {kws : List Keyword} {te ta : TE} {t tk : TA} {nm : Option Str}
/-- how a call with keywords binds: g puts the positional values us and the keywords' values ws (names ks) in the parameters' order, defaults among them -/
structure KBinds (K : PySem.W.Frag) (fd : FuncData) (ps ks : List Str) (g : List Value → List Value → List Value) (gV : List V → List V → List V) : Prop where
  to : ∀ (s : Shared) (us ws : List Value), K.In s.heap → (g us ws).length = ps.length → BindsTo s fd ⟨us, ks.zip ws⟩ (ps.zip (g us ws))
  rel : ∀ {vs : List V} {us : List Value} {zs : List V} {ws : List Value}, Vals vs us → Vals zs ws → Vals (gV vs zs) (g us ws)
def tCallK (sp : Sp) (gV : List V → List V → List V) (E : XK) (t tk : TA) : TE := fun σ H Q => t σ H fun vs H1 => tk σ H1 fun zs H2 => sp (gV vs zs) H2 Q E
variable {g : List Value → List Value → List Value} {gV : List V → List V → List V}
end

/-! ### a def's body keeps its promise -/
/-- names: the parameters first -/
structure FnScope (N P : List Str) (sc : Scope) : Prop where
  kind : sc.kind = .function
  co : sc.isCoroutine = false
  gen : sc.isGenerator = false
  nd : N.Nodup
  pre : N.take P.length = P
  par : ∀ x ∈ P, sc.names.lookup x = some .local ∨ sc.names.lookup x = some .cell
  nofree : ∀ y ∈ sc.names, y.2 ≠ .free

theorem bindL_out {kindOf : Str → Option NameKind} {x : Str} : ∀ {binds : List (Str × Value)} {m : Str → Option Value}, (∀ v, (x, v) ∉ binds) → bindL kindOf binds m x = m x
  | [], _, _ => rfl
  | (n, v) :: r, m, h => by
    unfold bindL
    rw [bindL_out fun w hw => h w (List.mem_cons_of_mem _ hw)]
    split
    · have : x ≠ n := by rintro rfl; exact h v List.mem_cons_self
      simp [this]
    · rfl
theorem bindC_out {kindOf : Str → Option NameKind} {x : Str} : ∀ {binds : List (Str × Value)} {m : Str → Option Value}, (∀ v, (x, v) ∉ binds) → bindC kindOf binds m x = m x
  | [], _, _ => rfl
  | (n, v) :: r, m, h => by
    unfold bindC
    rw [bindC_out fun w hw => h w (List.mem_cons_of_mem _ hw)]
    split
    · rfl
    · have : x ≠ n := by rintro rfl; exact h v List.mem_cons_self
      simp [this]
theorem bindL_get {kindOf : Str → Option NameKind} {x : Str} {v : Value} : ∀ {P : List Str} {vs : List Value} {i : Nat} {m : Str → Option Value}, P.Nodup → P[i]? = some x → vs[i]? = some v → kindOf x = some .local →
    bindL kindOf (P.zip vs) m x = some v
  | [], _, _, _, _, h, _, _ => by simp at h
  | _ :: _, [], _, _, _, _, h, _ => by simp at h
  | p :: P, w :: vs, 0, m, nd, h1, h2, hk => by
    simp at h1 h2; subst h1; subst h2
    show bindL kindOf ((p, w) :: P.zip vs) m p = _
    unfold bindL
    rw [bindL_out fun v hv => (List.nodup_cons.mp nd).1 (List.of_mem_zip hv).1, if_pos hk]
    simp
  | p :: P, w :: vs, i + 1, m, nd, h1, h2, hk => by
    show bindL kindOf ((p, w) :: P.zip vs) m x = _
    unfold bindL
    exact bindL_get (i := i) (List.nodup_cons.mp nd).2 (by simpa using h1) (by simpa using h2) hk
theorem bindC_get {kindOf : Str → Option NameKind} {x : Str} {v : Value} : ∀ {P : List Str} {vs : List Value} {i : Nat} {m : Str → Option Value}, P.Nodup → P[i]? = some x → vs[i]? = some v → kindOf x ≠ some .local →
    bindC kindOf (P.zip vs) m x = some v
  | [], _, _, _, _, h, _, _ => by simp at h
  | _ :: _, [], _, _, _, _, h, _ => by simp at h
  | p :: P, w :: vs, 0, m, nd, h1, h2, hk => by
    simp at h1 h2; subst h1; subst h2
    show bindC kindOf ((p, w) :: P.zip vs) m p = _
    unfold bindC
    rw [bindC_out fun v hv => (List.nodup_cons.mp nd).1 (List.of_mem_zip hv).1, if_neg hk]
    simp
  | p :: P, w :: vs, i + 1, m, nd, h1, h2, hk => by
    show bindC kindOf ((p, w) :: P.zip vs) m x = _
    unfold bindC
    exact bindC_get (i := i) (List.nodup_cons.mp nd).2 (by simpa using h1) (by simpa using h2) hk

/-- the names' values at the entry -/
def start (N : List Str) (vs : List V) : St := vs.map some ++ List.replicate (N.length - vs.length) none

/-- the context of a def's body, at its entry; an exception leaves the frame, then lies as CX says -/
def cxOf (CX : CXT) (P : Program) (w : World) (K : PySem.W.Frag) (mg : Str → Option Value) (base : Heap) (N : List Str) (qual : Str) (scope : Scope) (f : Addr) (cd : Value) (A : Around) (outer : List Env) (s : Shared) (H : Hp) (E : XK) : Cx where
  prog := P
  w := w
  K := K
  mg := mg
  base := base
  A := A.deeper (envOfC qual scope s.heap.objs.size f cd)
  N := N
  s₀ := s
  H₀ := H
  env := envOfC qual scope s.heap.objs.size f cd
  outer := outer
  stack := envOfC qual scope s.heap.objs.size f cd :: outer
  ex := []
  calm := true
  fn := fun _ => true
  pn := []
  xe := fun e s' => wpAny (model P w) (A.deeper (envOfC qual scope s.heap.objs.size f cd)) (leaving (envOfC qual scope s.heap.objs.size f cd) e) (fun _ s'' => CX outer H s E e s'') (fun e' s'' => CX outer H s E e' s'') s'

theorem cell_has {sc : Scope} {n : Nat} {x : Str} (h : sc.names.lookup x = some .cell) : ∃ c, (cellsFrom n sc.names []).lookup x = some c := by
  have q := PySem.W.cellsFrom_some sc.names n [] (.inl h)
  exact Option.isSome_iff_exists.mp q

theorem inv_start {CX : CXT} {P : Program} {w : World} {K : PySem.W.Frag} {mg : Str → Option Value} {base : Heap} {N ps : List Str} {qual : Str} {scope : Scope} {f : Addr} {cd : Value} {A : Around} {outer : List Env} {s s1 : Shared} {H : Hp} {E : XK} {us : List Value} {vs : List V}
    (S : FnScope N ps scope) (hd : A.handled = none) (e0 : Env0 P w K mg base A outer s H) (hl : vs.length = ps.length) (r : Vals vs us)
    (x : InCallC s s.heap.objs.size (bindL (envOfC qual scope s.heap.objs.size f cd).kindOf (ps.zip us) fun _ => none) (cellsFrom (s.heap.objs.size + 1) scope.names []) (bindC (envOfC qual scope s.heap.objs.size f cd).kindOf (ps.zip us) fun _ => none) s1) :
    Inv (cxOf CX P w K mg base N qual scope f cd A outer s H E) [] (start N vs) H s1 := by
  have hpl : ps.length ≤ N.length := by have := congrArg List.length S.pre; rw [List.length_take] at this; omega
  obtain ⟨h1, tk, rfl, hk⟩ := x.done
  have noA : ∀ b : Addr, b ∉ (cxOf CX P w K mg base N qual scope f cd A outer s H E).ex := fun b z => absurd (show b ∈ ([] : List Addr) from z) (by simp)
  refine ⟨⟨e0.mod, S.kind, rfl, rfl, Nat.le_refl _, fun y z c h1 h2 => ?_, fun y hy => ?_, fun y c _ h => ?_, fun _ => hd, Around.frames_deeper e0.frames, .inr ⟨rfl, rfl⟩, fun b z => absurd z (noA b), e0.bs, e0.bsz, fun b _ _ => noA b, fun b z => absurd z (noA b), e0.funs, e0.frf⟩,
    rfl, e0.bare, Un.kept hk, ⟨_, x.toInCall.ns, fun i y v h1 h2 h3 => ?_⟩, fun y c h => ⟨_, x.cell y c h⟩, e0.hok.fresh (Nat.le_refl _), fun y c h => ?_, fun p hp => absurd (show p ∈ ([] : List (Addr × Obj)) from hp) (by simp), e0.hok.kept hk, ?_⟩
  · exact name_of_addr x.apart (PySem.mem_of_lookup h1) (PySem.mem_of_lookup h2)
  · have hy : scope.names.lookup y = some .cell ∨ scope.names.lookup y = some .free := hy
    rcases hy with hy | hy
    · exact cell_has hy
    · exact absurd rfl (S.nofree _ (PySem.mem_of_lookup hy))
  · exact Nat.le_of_lt (x.above y c (PySem.mem_of_lookup h))
  · have hi : i < vs.length := by
      unfold start at h2
      by_cases hi : i < vs.length
      · exact hi
      · rw [List.getElem?_append_right (by simpa using hi)] at h2
        rw [List.getElem?_replicate] at h2
        split at h2 <;> cases h2
    have ha : vs[i]? = some v := by
      unfold start at h2
      rw [List.getElem?_append_left (by simpa using hi), List.getElem?_map] at h2
      cases e : vs[i]? with
      | none => rw [e] at h2; cases h2
      | some a => rw [e] at h2; cases h2; rfl
    obtain ⟨u, hu, rv⟩ := r.get ha
    have hp : ps[i]? = some y := by
      rw [← S.pre, List.getElem?_take_of_lt (by omega)]; exact h1
    have ndP : ps.Nodup := by rw [← S.pre]; exact S.nd.sublist (List.take_sublist _ _)
    refine ⟨u, rv, ?_⟩
    rcases S.par y (List.mem_of_getElem? hp) with k | k
    · exact .inl ⟨k, bindL_get ndP hp hu k⟩
    · obtain ⟨c, e⟩ := cell_has (n := s.heap.objs.size + 1) k
      refine .inr ⟨.inl k, c, e, ?_⟩
      have q := x.cell y c e
      rw [bindC_get ndP hp hu (by show scope.names.lookup y ≠ _; rw [k]; decide)] at q
      exact q
  · exact e0.hok.fresh (Nat.le_of_lt (x.above y c (PySem.mem_of_lookup h)))
  · unfold start
    show _ = N.length
    rw [List.length_append, List.length_map, List.length_replicate]
    omega

/-- THE RULE: a def (or a method) of the text, by its body. The body's reading t is chosen for each entry; it is run at the parameters' values -/
theorem fn_of {CX : CXT} {P : Program} {w : World} {K : PySem.W.Frag} {mg : Str → Option Value} {base : Heap} {k : Nat} {f : Addr} {name qual : Str} {params : Arguments} {body : List Stmt} {scope : Scope} {dV kV doc pm cdv ct oc : Value} {an od : Option Addr}
    {osl : Array (Option Value)} {N ps : List Str} {sp : Sp} (lk : K.lookup f = some ⟨oc, od, .func (PySem.W.fnOf name qual params body scope dV kV doc pm an cdv ct), osl⟩) (hcd : PySem.W.codeIn K cdv qual = true) (S : FnScope N ps scope)
    (len : ∀ vs H Q E, sp vs H Q E → vs.length = ps.length)
    (hbody : ∀ (A : Around) (outer : List Env) (s : Shared) (H : Hp) (vs : List V) (Q : VK) (E : XK), Room k (A.deeper (envOfC qual scope s.heap.objs.size f cdv)) → sp vs H Q E →
      ∃ t, PSs (cxOf CX P w K mg base N qual scope f cdv A outer s H E) body t ∧ t { nx := fun _ H' => Q .non H', rt := Q } (start N vs) H) :
    FnOk P w K mg base CX (k + 1) f (PySem.W.fnOf name qual params body scope dV kV doc pm an cdv ct) ps sp := by
  refine ⟨len, fun A outer s H args us vs Q E hr e0 hb r hsp => ?_⟩
  have hl := len _ _ _ _ hsp
  have KX : K.In s.heap := e0.mod.kin.keeps fun b o e => (e0.bs b o e).1
  have lim : s.heap.NoLimit := e0.mod.nolimit.keeps fun b o e => (e0.bs b o e).1
  have hkind : ∀ y ∈ ps.zip us, scope.names.lookup y.1 = some .local ∨ (scope.names.lookup y.1 = some .cell ∧ ((cellsFrom (s.heap.objs.size + 1) scope.names []).lookup y.1).isSome = true) := fun ⟨n, v⟩ hy => by
    rcases S.par n (List.of_mem_zip hy).1 with q | q
    · exact .inl q
    · exact .inr ⟨q, PySem.W.cellsFrom_some _ _ _ (.inl q)⟩
  refine codeAny_call_function hr.depth (KX _ _ lk) rfl S.co S.gen rfl (PySem.W.codeRec_of KX hcd) (hb _ _ _ _ ?_)
  refine wpAny_newFunctionEnv_cells S.kind hkind fun env he s1 x => ?_
  subst he
  refine ⟨lim.keeps x.toInCall.keep, codeAny_func ?_⟩
  obtain ⟨t, ht, hq⟩ := hbody A outer s H vs Q E (hr.deeper _) hsp
  have I : Inv (cxOf CX P w K mg base N qual scope f cdv A outer s H E) [] (start N vs) H s1 := inv_start S hr.hd e0 hl r x
  refine wpAny_mono (ht [] s1 (start N vs) H _ I hq) (fun fl s' hs => ?_) fun e s' hs => hs
  have fin : ∀ {σ' : St} {H' : Hp} {v : V} {u : Value}, Inv (cxOf CX P w K mg base N qual scope f cdv A outer s H E) [] σ' H' s' → RelV v u → Q v H' → CE outer P w H s Q u s' :=
    fun {σ' H' v u} J rv q => ⟨v, H', J.os, J.bare, J.base, J.hok, rv, q⟩
  cases fl with
  | ret u =>
    obtain ⟨v, σ', H', J, rv, q⟩ := hs
    exact fin J rv q
  | next =>
    obtain ⟨σ', H', J, q⟩ := hs
    exact fin (v := V.non) (u := Value.none) J rfl q
  | brk =>
    obtain ⟨_, _, _, q⟩ := hs
    exact False.elim q
  | cont =>
    obtain ⟨_, _, _, q⟩ := hs
    exact False.elim q
end L2

namespace L2
open PySem PySem.Spec PyProof.Rows
section
variable {X : Cx} {x : Str} {p pos : Pos} {e : Expr} {es : List Expr} {t : TA} {id T : String} {r : List V → Hp → VK → Prop}

def tCB (r : List V → Hp → VK → Prop) (t : TA) : TE := fun σ H Q => t σ H fun vs H1 => r vs H1 Q
/-- f(e, ..), f a built-in function -/
theorem pe_callB (hc : CallR X (.builtin id) r) (hg : Gl X x) (hm : X.mg x = none) (hv : bootBuiltins x = some (.builtin id)) (ha : PA X (e :: es) t) (hn : x ≠ "__name__" := by decide) (hdb : (x == ("__debug__" : Str)) = false := by decide)
    (he : starEach (e :: es) X.env = (false, eval e X.env) :: starEach es X.env := by rfl) (hpl : (backTo pos (starEach es X.env)).any (·.1) = false := by rfl) : PE X (.Call (.Name x p) (e :: es) [] pos) (tCB r t) := by
  intro pins s σ H Q I h
  refine wpAny_Call_Name_kw (ld_blt I hg hm hv ?_ hn hdb)
  exact PyProof.Rows.callWith_builtin1 (thn (ha pos pins s σ H _ I h) fun us s1 ⟨vs, H1, I1, r1, q1⟩ => hc pins s1 σ H1 vs us Q I1 r1 q1) he hpl
/-- T(e, ..), T a built-in type -/
theorem pe_callTy (hc : CallR X (.type T) r) (hg : Gl X x) (hm : X.mg x = none) (hv : bootBuiltins x = some (.type T)) (ha : PA X (e :: es) t) (hn : x ≠ "__name__" := by decide) (hdb : (x == ("__debug__" : Str)) = false := by decide)
    (he : starEach (e :: es) X.env = (false, eval e X.env) :: starEach es X.env := by rfl) (hpl : (backTo pos (starEach es X.env)).any (·.1) = false := by rfl) : PE X (.Call (.Name x p) (e :: es) [] pos) (tCB r t) := by
  intro pins s σ H Q I h
  refine wpAny_Call_Name_kw (ld_blt I hg hm hv ?_ hn hdb)
  exact PyProof.Rows.callWith_type1 (thn (ha pos pins s σ H _ I h) fun us s1 ⟨vs, H1, I1, r1, q1⟩ => hc pins s1 σ H1 vs us Q I1 r1 q1) he hpl
end
end L2

namespace HT
open PySem PyProof.Rows

/-- t < u of tuples of ints -/
def lexLt : List Int → List Int → Bool
  | [], [] => false
  | [], _ :: _ => true
  | _ :: _, [] => false
  | x :: xs, y :: ys => if x = y then lexLt xs ys else decide (x < y)
section
open PySem.SeqAt
open PySem.AutoSeq1 (wpAny_loadPart')
open PySem.MeetsSeq PySem.MeetsSeq2 PySem.MeetsSeq3

end

section
variable {prog : Program} {w : World} {A : Around} {E : Value → Shared → Prop} {s : Shared}

/-! ### t[a:b], not the whole -/
/-- a slice's bound as a place among n (d where it is left out) -/
def sIx (n d : Nat) : Option Int → Nat
  | none => d
  | some v => if v < 0 then (v + (n : Int)).toNat else min v.toNat n
theorem sIx_nat (n d k : Nat) : sIx n d (some (k : Int)) = min k n := by
  show (if (k : Int) < 0 then ((k : Int) + (n : Int)).toNat else min (k : Int).toNat n) = min k n
  rw [if_neg (by omega), Int.toNat_natCast]
end
end HT

namespace L2
open PySem PySem.Spec PyProof.Rows

/-! ### the parts of a slice -/
abbrev TO := St → Hp → (Option Int → Hp → Prop) → Prop
/-- a slice's part (left out, or an int) -/
def PO (X : Cx) (e : Option Expr) (t : TO) : Prop :=
  ∀ (pins : List (Addr × Obj)) (s : Shared) (σ : St) (H : Hp) (Q : Option Int → Hp → Prop), Inv X pins σ H s → t σ H Q →
    wpAny (model X.prog X.w) X.A (evalPart e X.env) (fun u s' => ∃ o H', Inv X pins σ H' s' ∧ IsPart u o ∧ Q o H') X.xe s
def tNoPart : TO := fun _ H Q => Q none H
def tPart (t : TE) : TO := fun σ H Q => t σ H fun x H1 => ∃ i, x = .int i ∧ Q (some i) H1

section
variable {X : Cx} {e : Expr} {te : TE} {lo hi : Option Expr} {tl th : TO} {pos p2 : Pos}

theorem po_none : PO X none tNoPart := by
  intro pins s σ H Q I h
  rw [evalPart_none]
  exact wpAny_pure ⟨none, H, I, .none, h⟩
theorem po_some (h : PE X e te) : PO X (some e) (tPart te) := by
  intro pins s σ H Q I hw
  rw [evalPart_some]
  refine thn (h pins s σ H _ I hw) fun u s1 ⟨x, H1, I1, r1, q1⟩ => ?_
  obtain ⟨i, rfl, q⟩ := q1
  obtain ⟨t, rfl⟩ := r1
  exact ⟨some i, H1, I1, .int i t, q⟩

/-- what a slice of a value is, by values: the slice object stands at sl -/
def SlR (X : Cx) (r : V → Option Int → Option Int → Hp → VK → Prop) : Prop :=
  ∀ (pins : List (Addr × Obj)) (s : Shared) (σ : St) (H : Hp) (x : V) (v vl vu : Value) (lo hi : Option Int) (sl : Addr) (Q : VK), Inv X pins σ H s → RelV x v → s.heap.IsSliceOf sl vl vu .none → IsPart vl lo → IsPart vu hi → r x lo hi H Q →
    ∃ T id, typeLookup (.type T) "__getitem__" = pure (some (.builtin id)) ∧ s.TypeIs v T ∧ wpAny (model X.prog X.w) X.A (getItem v (.ref sl)) (EP X pins σ Q) X.xe s
theorem SlR.or {r r' : V → Option Int → Option Int → Hp → VK → Prop} (h : SlR X r) (h' : SlR X r') : SlR X (fun x lo hi H Q => r x lo hi H Q ∨ r' x lo hi H Q) := by
  intro pins s σ H x v vl vu lo hi sl Q I rx hs pl pu q
  rcases q with q | q
  · exact h pins s σ H x v vl vu lo hi sl Q I rx hs pl pu q
  · exact h' pins s σ H x v vl vu lo hi sl Q I rx hs pl pu q
def tSl (r : V → Option Int → Option Int → Hp → VK → Prop) (te : TE) (tl th : TO) : TE := fun σ H Q => te σ H fun x H1 => tl σ H1 fun l H2 => th σ H2 fun u H3 => r x l u H3 Q
/-- a[lo:hi], any a -/
theorem pe_slice {r : V → Option Int → Option Int → Hp → VK → Prop} (hr : SlR X r) (he : PE X e te) (hl : PO X lo tl) (hu : PO X hi th) : PE X (.Subscript e (.Slice lo hi none p2) pos) (tSl r te tl th) := by
  intro pins s σ H Q I h
  refine Subscript_ (thn (he pins s σ H _ I h) fun v s1 ⟨x, H1, I1, r1, q1⟩ => ?_)
  refine wpAny_Slice (thn (hl pins s1 σ H1 _ I1 q1) fun vl s2 ⟨l, H2, I2, pl, q2⟩ => thn (hu pins s2 σ H2 _ I2 q2) fun vu s3 ⟨u, H3, I3, pu, q3⟩ => ?_)
  rw [evalPart_none]
  refine wpAny_pure ?_
  have I4 : Inv X pins σ H3 { s3 with heap := s3.heap.push { cls := .type "slice", data := .fields #[vl, vu, .none] } } := I3.kept (t' := s3.toks) fun b ob q => Heap.get?_push_of_some _ q
  obtain ⟨T, id, hT, ht, hg⟩ := hr pins { s3 with heap := s3.heap.push { cls := .type "slice", data := .fields #[vl, vu, .none] } } σ H3 x v vl vu l u s3.heap.objs.size Q I4 r1 (Heap.IsSliceOf.new ..) pl pu q3
  show wpAny (model X.prog X.w) X.A (subscriptTail e (.Slice lo hi none p2) v (.ref s3.heap.objs.size)) (EP X pins σ Q) X.xe { s3 with heap := s3.heap.push { cls := .type "slice", data := .fields #[vl, vu, .none] } }
  exact tail_any (ops := [.ref s3.heap.objs.size, v]) ht hT hg (by with_unfolding_all rfl)

/-- the items of xs[lo:hi] -/
def cutV (xs : List V) (lo hi : Option Int) : List V := (xs.drop (HT.sIx xs.length 0 lo)).take (HT.sIx xs.length xs.length hi - HT.sIx xs.length 0 lo)
theorem cutV_length (xs : List V) (lo hi : Option Int) : (cutV xs lo hi).length ≤ xs.length := by
  unfold cutV
  rw [List.length_take, List.length_drop]
  omega
/-- t[lo:hi], not the whole of it (the whole would be t itself) -/
def rSlT (K : PySem.W.Frag) : V → Option Int → Option Int → Hp → VK → Prop := fun x lo hi H Q => ∃ a xs, x = .ref a ∧ SqT K H a xs ∧
  ¬ (HT.sIx xs.length 0 lo = 0 ∧ HT.sIx xs.length xs.length hi = xs.length) ∧ ∀ p, H p = none → Q (.ref p) (upd H p (.tup (cutV xs lo hi)))
/-! ### t < u, t + u -/
def rLtT (K : PySem.W.Frag) : R2 := fun x y H Q => ∃ a b ns ms, x = .ref a ∧ y = .ref b ∧ SqT K H a (ns.map V.int) ∧ SqT K H b (ms.map V.int) ∧ Q (.bl (HT.lexLt ns ms)) H
/-- t + u, t not empty: u empty gives t itself -/
def rCatT (K : PySem.W.Frag) : R2 := fun x y H Q => ∃ a b xs ys, x = .ref a ∧ y = .ref b ∧ SqT K H a xs ∧ SqT K H b ys ∧ xs ≠ [] ∧ xs.length + ys.length ≤ sizeLine ∧
  (ys = [] → Q (.ref a) H) ∧ (ys ≠ [] → ∀ p, H p = none → Q (.ref p) (upd H p (.tup (xs ++ ys))))
end
end L2

namespace L2
open PySem PySem.Spec PyProof.Rows

/-! ### places -/
/-- the place that an index of any sign means -/
def ixN (n : Nat) (i : Int) : Option Nat := if 0 ≤ i then (if i < n then some i.toNat else none) else if -(n : Int) ≤ i then some (i + n).toNat else none
def atI {α : Type} (xs : List α) (i : Int) : Option α := (ixN xs.length i).bind fun j => xs[j]?
theorem ixN_seq {n : Nat} {i : Int} {j : Nat} (h : ixN n i = some j) : seqIndex? i n = some j ∧ j < n ∧ -(n : Int) ≤ i ∧ i < n := by
  unfold ixN at h
  by_cases h0 : 0 ≤ i
  · rw [if_pos h0] at h
    by_cases h1 : i < n
    · rw [if_pos h1] at h
      have e : i.toNat = j := Option.some.inj h
      exact ⟨by rw [seqIndex_of h0 h1, e], by omega, by omega, h1⟩
    · rw [if_neg h1] at h; cases h
  · rw [if_neg h0] at h
    by_cases h1 : -(n : Int) ≤ i
    · rw [if_pos h1] at h
      have e : (i + n).toNat = j := Option.some.inj h
      exact ⟨by rw [seqIndex_neg (by omega) h1, e], by omega, h1, by omega⟩
    · rw [if_neg h1] at h; cases h
theorem atI_get {α : Type} {xs : List α} {i : Int} {v : α} (h : atI xs i = some v) : ∃ j, seqIndex? i xs.length = some j ∧ xs[j]? = some v ∧ j < xs.length ∧ -(xs.length : Int) ≤ i ∧ i < xs.length := by
  unfold atI at h
  cases e : ixN xs.length i with
  | none => rw [e] at h; cases h
  | some j =>
    rw [e] at h
    obtain ⟨h1, h2, h3, h4⟩ := ixN_seq e
    exact ⟨j, h1, h, h2, h3, h4⟩
theorem atI_nat {α : Type} {xs : List α} {j : Nat} {v : α} (h : xs[j]? = some v) : atI xs (j : Int) = some v := by
  have hj : j < xs.length := (List.getElem?_eq_some_iff.mp h).1
  have e : ixN xs.length (j : Int) = some j := by
    unfold ixN
    rw [if_pos (by omega), if_pos (by omega)]; simp
  unfold atI; rw [e]; exact h
/-! ### what may be subscripted -/
/-- what stands as an index of a plain subscript -/
def PlainIx (b : Expr) : Prop := ∀ o i, subscripted b false o i = operate [o, i] (getItem o i)
/-- a subscript by values -/
def IxR (X : Cx) (r : R2) : Prop :=
  ∀ (value slice : Expr) (pins : List (Addr × Obj)) (s : Shared) (σ : St) (H : Hp) (x y : V) (v u : Value) (Q : VK), Inv X pins σ H s → RelV x v → RelV y u → r x y H Q →
    subscripted slice false v u = operate [v, u] (getItem v u) → wpAny (model X.prog X.w) X.A (subscriptTail value slice v u) (EP X pins σ Q) X.xe s
/-- a call of a builtin's method by values: the receiver, the arguments -/
def MtR (X : Cx) (id : String) (r : V → List V → Hp → VK → Prop) : Prop :=
  ∀ (pins : List (Addr × Obj)) (s : Shared) (σ : St) (H : Hp) (x : V) (xs : List V) (v : Value) (us : List Value) (Q : VK), Inv X pins σ H s → RelV x v → Vals xs us → r x xs H Q →
    wpAny (model X.prog X.w) X.A (call (.builtin id) (v :: us)) (EP X pins σ Q) X.xe s
section
variable {X : Cx} {a b : Expr} {ta tb : TE} {pos : Pos}
theorem IxR.or {r r' : R2} (h : IxR X r) (h' : IxR X r') : IxR X (fun x y H Q => r x y H Q ∨ r' x y H Q) := by
  intro value slice pins s σ H x y v u Q I rx ry q hs
  rcases q with q | q
  · exact h value slice pins s σ H x y v u Q I rx ry q hs
  · exact h' value slice pins s σ H x y v u Q I rx ry q hs
theorem MtR.or {id : String} {r r' : V → List V → Hp → VK → Prop} (h : MtR X id r) (h' : MtR X id r') : MtR X id (fun x xs H Q => r x xs H Q ∨ r' x xs H Q) := by
  intro pins s σ H x xs v us Q I rx rs q
  rcases q with q | q
  · exact h pins s σ H x xs v us Q I rx rs q
  · exact h' pins s σ H x xs v us Q I rx rs q
/-- a[b] -/
theorem pe_ix {r : R2} (hr : IxR X r) (ha : PE X a ta) (hb : PE X b tb) (hs : PlainIx b) : PE X (.Subscript a b pos) (tOp r ta tb) := by
  intro pins s σ H Q I h
  exact Subscript_ (binT ha hb I h fun v u s2 x y H2 I2 rx ry q => hr a b pins s2 σ H2 x y v u Q I2 rx ry q (hs _ _))

def rIxL (K : PySem.W.Frag) : R2 := fun x y H Q => ∃ p xs i v, x = .ref p ∧ y = .int i ∧ SqL K H p xs ∧ atI xs i = some v ∧ Q v H
def rIxT (K : PySem.W.Frag) : R2 := fun x y H Q => ∃ p xs i v, x = .ref p ∧ y = .int i ∧ SqT K H p xs ∧ atI xs i = some v ∧ Q v H
def rIxS : R2 := fun x y H Q => ∃ z i c, x = .str z ∧ y = .int i ∧ z.length ≤ sizeLine ∧ atI z.cps.toList i = some c ∧ Q (.str ⟨#[c]⟩) H
theorem ix_list : IxR X (rIxL X.K) := by
  intro value slice pins s σ H x y v u Q I rx ry h hs
  obtain ⟨p, xs, i, z, rfl, rfl, hq, he, q⟩ := h
  cases rx
  obtain ⟨t, rfl⟩ := ry
  obtain ⟨its, r, pl, hz⟩ := I.list hq
  obtain ⟨j, h1, h2, h3, h4, h5⟩ := atI_get he
  obtain ⟨w, ew, rw'⟩ := r.get h2
  have hl := r.length
  have hn := line63
  have fin : EP X pins σ Q w s := ⟨z, H, I, rw', q⟩
  by_cases h0 : 0 ≤ i
  · have hj : i.toNat = j := by
      rw [seqIndex_of h0 h5] at h1
      exact Option.some.inj h1
    exact item_listR pl.isList h0 (by omega) (by rw [hj]; simpa using ew) fin hs
  · have hj : (i + (its.toArray.size : Int)).toNat = j := by
      rw [seqIndex_neg (by omega) h4] at h1
      rw [List.size_toArray, ← hl]
      exact Option.some.inj h1
    exact subscriptTail_builtinR (x := w) pl.isList.typeIs slot_list_getitem.lookup
      (wpAny_getItem_list_neg (Q := fun r s' => r = w ∧ EP X pins σ Q r s') pl.isList (by omega) (by rw [List.size_toArray] <;> omega) (by omega) (by rw [hj]; simpa using ew) ⟨rfl, fin⟩) hs
theorem ix_tup : IxR X (rIxT X.K) := by
  intro value slice pins s σ H x y v u Q I rx ry h hs
  obtain ⟨p, xs, i, z, rfl, rfl, hq, he, q⟩ := h
  cases rx
  obtain ⟨t, rfl⟩ := ry
  obtain ⟨its, r, pl, hz⟩ := I.tuple hq
  obtain ⟨j, h1, h2, h3, h4, h5⟩ := atI_get he
  obtain ⟨w, ew, rw'⟩ := r.get h2
  have hl := r.length
  have hn := line63
  have fin : EP X pins σ Q w s := ⟨z, H, I, rw', q⟩
  exact subscriptTail_builtinR (x := w) pl.typeIs slot_tuple_getitem.lookup
    (getItem_tuple (j := j) (Q := fun r s' => r = w ∧ EP X pins σ Q r s') pl (by omega) (by omega) (by rw [List.size_toArray, ← hl]; exact h1) (by simpa using ew) ⟨rfl, fin⟩) hs
/-- list, tuple or str -/
def rIx (K : PySem.W.Frag) : R2 := fun x y H Q => rIxL K x y H Q ∨ rIxT K x y H Q ∨ rIxS x y H Q
/-! ### xs[i] = v, any sign -/
theorem Inv.lst {pins : List (Addr × Obj)} {σ : St} {H : Hp} {s : Shared} {p : Addr} {xs : List V} (I : Inv X pins σ H s) (h : H p = some (.lst xs)) :
    ∃ (its : List Value) (n : Nat), Vals xs its ∧ s.heap.get? p = some { cls := .type "list", data := .seq its.toArray n } ∧ xs.length ≤ sizeLine := by
  obtain ⟨z, its, n, r, e⟩ := I.hok p _ h
  exact ⟨its, n, r, e, z⟩
def rSetL : V → V → V → Hp → (Hp → Prop) → Prop := fun o i v H Q => ∃ p xs k j, o = .ref p ∧ i = .int k ∧ H p = some (.lst xs) ∧ ixN xs.length k = some j ∧ Q (upd H p (.lst (xs.set j v)))
/-! ### slices -/
theorem slice_bounds (lo hi : Option Int) (n : Nat) : (sliceBounds lo hi none n).1 = ((HT.sIx n 0 lo : Nat) : Int) ∧ (sliceBounds lo hi none n).2.1 = ((HT.sIx n n hi : Nat) : Int) ∧ (sliceBounds lo hi none n).2.2 = 1 := by
  refine ⟨?_, ?_, rfl⟩
  · cases lo with
    | none => simp [sliceBounds, HT.sIx]
    | some i =>
      simp only [sliceBounds, HT.sIx, Option.getD_none, show (1 : Int) > 0 by decide, if_true]
      by_cases h : i < 0
      · simp only [h, if_true] <;> omega
      · simp only [h, if_false] <;> omega
  · cases hi with
    | none => simp [sliceBounds, HT.sIx]
    | some i =>
      simp only [sliceBounds, HT.sIx, Option.getD_none, show (1 : Int) > 0 by decide, if_true]
      by_cases h : i < 0
      · simp only [h, if_true] <;> omega
      · simp only [h, if_false] <;> omega
theorem slicePick_cut (its : List Value) (lo hi : Option Int) : slicePick its.toArray lo hi none = ((its.drop (HT.sIx its.length 0 lo)).take (HT.sIx its.length its.length hi - HT.sIx its.length 0 lo)).toArray := by
  obtain ⟨h1, h2, h3⟩ := slice_bounds lo hi its.toArray.size
  unfold slicePick
  rw [h1, h2, h3]
  simp only [sliceRange_one, pick_run, List.size_toArray] <;> rfl
/-- xs[lo:hi] of a list: a new list -/
def rSlL (K : PySem.W.Frag) : V → Option Int → Option Int → Hp → VK → Prop := fun x lo hi H Q => ∃ a xs, x = .ref a ∧ SqL K H a xs ∧ ∀ p, H p = none → Q (.ref p) (upd H p (.lst (cutV xs lo hi)))
theorem sl_list : SlR X (rSlL X.K) := by
  intro pins s σ H x v vl vu lo hi sl Q I rx hs pl pu h
  obtain ⟨a, xs, rfl, hx, q⟩ := h
  cases rx
  obtain ⟨its, r, ht, hz⟩ := I.list hx
  have hlen := r.length
  refine ⟨"list", _, slot_list_getitem.lookup, ht.isList.typeIs, ?_⟩
  refine wpAny_getItem_list_slice ht.isList hs pl pu .none (by simp) ?_ (by rw [List.size_toArray] <;> omega)
  rw [slicePick_cut, ← hlen]
  refine ⟨.ref s.heap.objs.size, _, I.laid (t' := s.toks) (o := .lst (cutV xs lo hi)) (fun b ob q => Heap.get?_push_of_some _ q) (Nat.le_refl _) ?_, rfl, q _ (I.hok.fresh (Nat.le_refl _))⟩
  exact ⟨Nat.le_trans (cutV_length xs lo hi) hz, _, 0, (r.drop (HT.sIx xs.length 0 lo)).take (HT.sIx xs.length xs.length hi - HT.sIx xs.length 0 lo), Heap.get?_push_size _ rfl⟩

/-! ### in, not in: flat items -/
def flatV : V → Bool
  | .non => true
  | .bl _ => true
  | .int _ => true
  | .str _ => true
  | _ => false
/-- == of flat values -/
def eqV : V → V → Bool
  | .non, .non => true
  | .bl a, .bl b => a == b
  | .bl a, .int b => (if a then 1 else 0) == b
  | .int a, .bl b => a == (if b then 1 else 0)
  | .int a, .int b => a == b
  | .str a, .str b => a == b
  | _, _ => false
/-- the items' answers, read off the values (a value's own answer does not lean on its token) -/
def eqU (x : V) (u : Value) : Bool := match u with
  | .none => eqV .non x
  | .bool b => eqV (.bl b) x
  | .int i _ => eqV (.int i) x
  | .str z _ => eqV (.str z) x
  | _ => false
def inV (x : V) (xs : List V) : Bool := xs.any fun y => eqV y x
/-- x in a list or tuple of flat items -/
def rIn (K : PySem.W.Frag) (neg : Bool) : R2 := fun x y H Q => ∃ p xs, y = .ref p ∧ (SqL K H p xs ∨ SqT K H p xs) ∧ flatV x = true ∧ xs.all flatV = true ∧ Q (.bl (if neg then !inV x xs else inV x xs)) H
/-! ### len, list(x), tuple(x) of any list or tuple that is read -/
theorem call_len_seq : CallR X (.builtin "len") (fun xs H Q => ∃ p ys, xs = [.ref p] ∧ (SqL X.K H p ys ∨ SqT X.K H p ys) ∧ Q (.int ys.length) H) := by
  intro pins s σ H xs us Q I r h
  obtain ⟨p, ys, rfl, hq, q⟩ := h
  obtain ⟨u, rfl, rx⟩ := vals1 r
  cases rx
  have hn := line63
  rcases hq with hq | hq
  · obtain ⟨its, r', pl, hz⟩ := I.list hq
    have hlen := r'.length
    exact Calls.call_len_list pl.isList (by simp only [List.size_toArray] <;> omega) ⟨.int ys.length, H, I.tok _, ⟨s.toks + 1, by rw [List.size_toArray, hlen]⟩, q⟩
  · obtain ⟨its, r', pl, hz⟩ := I.tuple hq
    have hlen := r'.length
    exact len_tuple pl (by simp only [List.size_toArray] <;> omega) ⟨.int ys.length, H, I.tok _, ⟨s.toks + 1, by rw [List.size_toArray, hlen]⟩, q⟩
theorem CallR.or {f : Value} {r r' : List V → Hp → VK → Prop} (h : CallR X f r) (h' : CallR X f r') : CallR X f (fun xs H Q => r xs H Q ∨ r' xs H Q) := by
  intro pins s σ H xs us Q I rs q
  rcases q with q | q
  · exact h pins s σ H xs us Q I rs q
  · exact h' pins s σ H xs us Q I rs q
theorem call_list_of : CallR X (.type "list") (fun xs H Q => ∃ p ys, xs = [.ref p] ∧ (SqL X.K H p ys ∨ SqT X.K H p ys) ∧ ∀ l, H l = none → Q (.ref l) (upd H l (.lst ys))) := by
  intro pins s σ H xs us Q I r h
  obtain ⟨p, ys, rfl, hq, q⟩ := h
  obtain ⟨u, rfl, rx⟩ := vals1 r
  cases rx
  have fin : ∀ (its : List Value), Vals ys its → ys.length ≤ sizeLine → ∀ (h' : Heap) (c' : Nat), (∀ b o', s.heap.get? b = some o' → h'.get? b = some o') →
      h'.get? s.heap.objs.size = some { cls := .type "list", dict := none, data := .seq its.toArray c', slots := #[] } → EP X pins σ Q (.ref s.heap.objs.size) { s with heap := h' } := fun its r' hz h' c' kp e =>
    ⟨.ref s.heap.objs.size, _, I.laid (t' := s.toks) kp (Nat.le_refl _) (show ObjOk X.prog X.w _ h' _ (.lst ys) from ⟨hz, its, c', r', e⟩), rfl, q _ (I.hok.fresh (Nat.le_refl _))⟩
  rcases hq with hq | hq
  · obtain ⟨its, r', pl, hz⟩ := I.list hq
    have hlen := r'.length
    obtain ⟨o, ho, hc, n, hd⟩ := pl.isList
    exact call_list_seq p (.inl rfl) ho hc hd (fun h' c' kp e => fin its r' hz h' c' kp e) (by simp only [List.size_toArray] <;> omega)
  · obtain ⟨its, r', pl, hz⟩ := I.tuple hq
    have hlen := r'.length
    obtain ⟨o, ho, hc, n, hd⟩ := pl
    exact call_list_seq p (.inr rfl) ho hc hd (fun h' c' kp e => fin its r' hz h' c' kp e) (by simp only [List.size_toArray] <;> omega)
/-! ### the call of a builtin's method: o.m(..) -/
/-- the value is of that builtin type -/
def tyV (K : PySem.W.Frag) (T : String) (x : V) (H : Hp) : Prop := match x with
  | .str _ => T = "str"
  | .int _ => T = "int"
  | .ref p => (T = "list" ∧ ∃ xs, SqL K H p xs) ∨ (T = "tuple" ∧ ∃ o, K.lookup p = some o ∧ o.cls = .type "tuple" ∧ o.dict = none) ∨
      (T = "dict" ∧ ((∃ kvs, H p = some (.dK kvs)) ∨ ∃ kvs, H p = some (.dT kvs))) ∨ (T = "set" ∧ ∃ S n, H p = some (.set S n))
  | _ => False
theorem tyV_is {pins : List (Addr × Obj)} {σ : St} {H : Hp} {s : Shared} {T : String} {x : V} {v : Value} (I : Inv X pins σ H s) (r : RelV x v) (ty : tyV X.K T x H) :
    s.TypeIs v T ∧ ∀ a, v = .ref a → ∃ ob, s.heap.get? a = some ob ∧ ob.dict = none := by
  cases x with
  | str z =>
    obtain ⟨t, rfl⟩ := r
    cases (show T = "str" from ty)
    exact ⟨typeIs_str s z t, fun _ e => nomatch e⟩
  | int i =>
    obtain ⟨t, rfl⟩ := r
    cases (show T = "int" from ty)
    exact ⟨typeIs_int s i t, fun _ e => nomatch e⟩
  | ref p =>
    cases r
    rcases ty with ⟨rfl, xs, hq⟩ | ⟨rfl, o, hk, hc, hd⟩ | ⟨rfl, hk⟩ | ⟨rfl, S, n, hk⟩
    · obtain ⟨its, _, pl, _⟩ := I.list hq
      refine ⟨pl.isList.typeIs, fun a e => ?_⟩
      cases e
      obtain ⟨o, n, e, c, hd, _⟩ := pl
      exact ⟨o, e, hd⟩
    · refine ⟨⟨o, I.kIn p o hk, hc⟩, fun a e => ?_⟩
      cases e
      exact ⟨o, I.kIn _ o hk, hd⟩
    · have z : ∃ o, s.heap.get? p = some o ∧ o.ExactDict := by
        rcases hk with ⟨kvs, hk⟩ | ⟨kvs, hk⟩
        · obtain ⟨_, _, _, _, o, _, _, e, ex, _⟩ := I.hok p _ hk
          exact ⟨o, e, ex⟩
        · obtain ⟨_, _, _, _, o, _, _, e, ex, _⟩ := I.hok p _ hk
          exact ⟨o, e, ex⟩
      obtain ⟨o, e, ex⟩ := z
      refine ⟨⟨o, e, ex.1⟩, fun a e2 => ?_⟩
      cases e2
      exact ⟨o, e, ex.2.1⟩
    · obtain ⟨o, _, _, _, e, ex, _⟩ := I.hok p _ hk
      refine ⟨⟨o, e, ex.1⟩, fun a e2 => ?_⟩
      cases e2
      exact ⟨o, e, ex.2.1⟩
  | _ => exact False.elim ty
def tBM0 (K : PySem.W.Frag) (T : String) (r : V → List V → Hp → VK → Prop) (to : TE) : TE := fun σ H Q => to σ H fun x H1 => tyV K T x H1 ∧ r x [] H1 Q
def tBM (K : PySem.W.Frag) (T : String) (r : V → List V → Hp → VK → Prop) (to : TE) (t : TA) : TE := fun σ H Q => to σ H fun x H1 => tyV K T x H1 ∧ t σ H1 fun xs H2 => r x xs H2 Q
variable {o e : Expr} {es : List Expr} {to : TE} {t : TA} {name : Str} {apos cpos : Pos} {T id : String} {r : V → List V → Hp → VK → Prop}
end
end L2

namespace L2
open PySem PySem.Spec PyProof.Rows

def MtM (X : Cx) (id : String) (r : V → List V → Hp → VK → Prop) : Prop :=
  ∀ (pins : List (Addr × Obj)) (s : Shared) (σ : St) (H : Hp) (x : V) (xs : List V) (v : Value) (us : List Value) (Q : VK), Inv X pins σ H s → RelV x v → Vals xs us → r x xs H Q →
    wpAny (model X.prog X.w) X.A (call (.builtin id) (v :: us)) (EP X pins σ Q) X.xe s

/-! ### lists of values -/
theorem Vals.one : ∀ {x : V} {us : List Value}, Vals [x] us → ∃ u, us = [u] ∧ RelV x u
  | _, _, .cons r .nil => ⟨_, rfl, r⟩
theorem Vals.two : ∀ {x y : V} {us : List Value}, Vals [x, y] us → ∃ u v, us = [u, v] ∧ RelV x u ∧ RelV y v
  | _, _, _, .cons r (.cons q .nil) => ⟨_, _, rfl, r, q⟩
theorem Vals.zero : ∀ {us : List Value}, Vals [] us → us = []
  | _, .nil => rfl
theorem Vals.dropLast {xs : List V} {us : List Value} (h : Vals xs us) : Vals xs.dropLast us.dropLast := by
  induction h with
  | nil => exact .nil
  | cons r t ih =>
    cases t with
    | nil => exact .nil
    | cons q t' => exact .cons r ih
theorem Vals.eraseIdx : ∀ {xs : List V} {us : List Value} (i : Nat), Vals xs us → Vals (xs.eraseIdx i) (us.eraseIdx i)
  | _, _, _, .nil => .nil
  | _, _, 0, .cons _ t => t
  | _, _, i + 1, .cons r t => .cons r (Vals.eraseIdx i t)
theorem Vals.reverse {xs : List V} {us : List Value} (h : Vals xs us) : Vals xs.reverse us.reverse := by
  induction h with
  | nil => exact .nil
  | cons r t ih => rw [List.reverse_cons, List.reverse_cons]; exact Vals.append ih (.cons r .nil)
theorem Vals.rep {xs : List V} {us : List Value} (h : Vals xs us) : ∀ k : Nat, Vals (List.replicate k xs).flatten (List.replicate k us).flatten
  | 0 => .nil
  | k + 1 => by
    rw [List.replicate_succ, List.replicate_succ, List.flatten_cons, List.flatten_cons]
    exact Vals.append h (Vals.rep h k)
theorem foldl_rep (its : List Value) : ∀ (k : Nat) (acc : List Value),
    List.foldl (fun x1 x2 => x1 ++ x2) acc.toArray (List.replicate k its.toArray) = (acc ++ (List.replicate k its).flatten).toArray
  | 0, acc => by simp
  | k + 1, acc => by
    have e : acc.toArray ++ its.toArray = (acc ++ its).toArray := by simp
    have e2 : (acc ++ its) ++ (List.replicate k its).flatten = acc ++ (List.replicate (k + 1) its).flatten := by
      rw [List.replicate_succ, List.flatten_cons, List.append_assoc]
    rw [← e2, ← foldl_rep its k (acc ++ its), ← e, List.replicate_succ, List.foldl_cons]

section
variable {X : Cx} {pins : List (Addr × Obj)} {σ : St} {H : Hp} {s : Shared} {l b : Addr} {xs ys zs : List V}

/-! ### the two steps: a tracked list is rewritten, a new list is laid -/
theorem Inv.lset {its its' : List Value} {n : Nat} {f : Array Value → Array Value} {t' : Nat} (I : Inv X pins σ H s) (hH : H l = some (.lst xs))
    (e : s.heap.get? l = some { cls := .type "list", data := .seq its.toArray n }) (hf : f its.toArray = its'.toArray) (hv : Vals ys its') (hz : ys.length ≤ sizeLine) :
    Inv X pins σ (upd H l (.lst ys)) { s with heap := s.heap.update l (Obj.mapSeq f), toks := t' } := by
  have q := PySem.IsL.update e f
  rw [hf] at q
  refine I.write (x := l) (e := l) (by rw [hH]; exact trivial) (.inl rfl) (fun b' u hb hu => (Heap.get?_update_other s.heap (Obj.mapSeq f) (Ne.symm hb)).trans hu) ⟨_, q⟩ ?_
  exact ⟨hz, its', _, hv, q⟩
theorem Inv.lnew {its : List Value} {t' : Nat} (I : Inv X pins σ H s) (hv : Vals ys its) (hz : ys.length ≤ sizeLine) :
    Inv X pins σ (upd H s.heap.objs.size (.lst ys)) { s with heap := s.heap.push { cls := .type "list", data := .seq its.toArray }, toks := t' } :=
  I.laid (fun _ _ q => Heap.get?_push_of_some _ q) (Nat.le_refl _) ⟨hz, its, 0, hv, Heap.get?_push_size _ rfl⟩
theorem Inv.fresh (I : Inv X pins σ H s) : H s.heap.objs.size = none := I.hok.fresh (Nat.le_refl _)
theorem Inv.lstM (I : Inv X pins σ H s) (hH : H l = some (.lst xs)) : xs.length ≤ sizeLine ∧ ∃ (its : List Value) (n : Nat), Vals xs its ∧ xs.length = its.length ∧ s.heap.get? l = some { cls := .type "list", data := .seq its.toArray n } := by
  obtain ⟨z, its, n, r, e⟩ := I.hok l _ hH
  exact ⟨z, its, n, r, r.length, e⟩

theorem notLongL {n : Nat} (h : n ≤ sizeLine) : Builtin.List.listTooLong n = false := by
  unfold Builtin.List.listTooLong
  exact decide_eq_false (by omega)
end

section
variable {X : Cx}

/-! ### methods -/
def rAppend : V → List V → Hp → VK → Prop := fun x vs H Q => ∃ l xs y, x = .ref l ∧ vs = [y] ∧ H l = some (.lst xs) ∧ xs.length < sizeLine ∧ Q .non (upd H l (.lst (xs ++ [y])))
theorem mt_append : MtM X "list.append" rAppend := by
  intro pins s σ H x vs v us Q I rx rv h
  obtain ⟨l, xs, y, rfl, rfl, hH, hz, q⟩ := h
  cases rx
  obtain ⟨u, rfl, ru⟩ := rv.one
  obtain ⟨z, its, n, r, hl, e⟩ := I.lstM hH
  refine call_meets F.slot_list_append ⟨_, e, rfl⟩ F.entry_list_append (F.args_list_append_2 _ _) (PySem.list_append l its.toArray n u (by rw [List.size_toArray]; omega)) ⟨e, ?_⟩
  refine ⟨.non, _, I.lset (its' := its ++ [u]) hH e (by simp) (r.append (.cons ru .nil)) ?_, rfl, q⟩
  rw [List.length_append, List.length_singleton]
  omega

def rExtend : V → List V → Hp → VK → Prop := fun x vs H Q => ∃ l b xs zs, x = .ref l ∧ vs = [.ref b] ∧ H l = some (.lst xs) ∧ H b = some (.lst zs) ∧ xs.length + zs.length ≤ sizeLine ∧ Q .non (upd H l (.lst (xs ++ zs)))
def rPop : V → List V → Hp → VK → Prop := fun x vs H Q => ∃ l xs y, x = .ref l ∧ vs = [] ∧ H l = some (.lst xs) ∧ xs[xs.length - 1]? = some y ∧ Q y (upd H l (.lst xs.dropLast))
def rPopAt : V → List V → Hp → VK → Prop := fun x vs H Q => ∃ l xs i k y, x = .ref l ∧ vs = [.int i] ∧ H l = some (.lst xs) ∧ -(2 ^ 63) ≤ i ∧ i < 2 ^ 63 ∧ seqIndex? i xs.length = some k ∧ xs[k]? = some y ∧ Q y (upd H l (.lst (xs.eraseIdx k)))
def rReverse : V → List V → Hp → VK → Prop := fun x vs H Q => ∃ l xs, x = .ref l ∧ vs = [] ∧ H l = some (.lst xs) ∧ Q .non (upd H l (.lst xs.reverse))
def rClear : V → List V → Hp → VK → Prop := fun x vs H Q => ∃ l xs, x = .ref l ∧ vs = [] ∧ H l = some (.lst xs) ∧ Q .non (upd H l (.lst []))
/-! ### list + list, list += list, list * int -/
def rCat : R2 := fun x y H Q => ∃ l b xs zs, x = .ref l ∧ y = .ref b ∧ H l = some (.lst xs) ∧ H b = some (.lst zs) ∧ xs.length + zs.length ≤ sizeLine ∧ ∀ p, H p = none → Q (.ref p) (upd H p (.lst (xs ++ zs)))
theorem op_cat : OpR X (binaryOp .Add) rCat := by
  intro pins s σ H x y v u Q I rx ry h
  obtain ⟨l, b, xs, zs, rfl, rfl, hH, hB, hz, q⟩ := h
  cases rx
  cases ry
  obtain ⟨z, its, n, r, hl, e⟩ := I.lstM hH
  obtain ⟨z2, its2, n2, r2, hl2, e2⟩ := I.lstM hB
  refine PySem.P.add_list e e2 ?_ (by rw [List.size_toArray, List.size_toArray]; omega)
  have ea : its.toArray ++ its2.toArray = (its ++ its2).toArray := by simp
  rw [ea]
  exact ⟨.ref _, _, I.lnew (t' := s.toks) (r.append r2) (by rw [List.length_append]; omega), rfl, q _ I.fresh⟩
/-- a list times an int (a negative one is nothing) -/
def rRep : R2 := fun x y H Q => ∃ l k xs, x = .ref l ∧ y = .int k ∧ H l = some (.lst xs) ∧ -(2 ^ 63) ≤ k ∧ k < 2 ^ 63 ∧ xs.length * k.toNat ≤ sizeLine ∧
  ∀ p, H p = none → Q (.ref p) (upd H p (.lst (List.replicate k.toNat xs).flatten))
theorem len_rep {α : Type} (xs : List α) (k : Nat) : (List.replicate k xs).flatten.length = k * xs.length := by
  induction k with
  | zero => simp
  | succ k ih => rw [List.replicate_succ, List.flatten_cons, List.length_append, ih, Nat.succ_mul, Nat.add_comm]
theorem op_rep : OpR X (binaryOp .Mult) rRep := by
  intro pins s σ H x y v u Q I rx ry h
  obtain ⟨l, k, xs, rfl, rfl, hH, h1, h2, hz, q⟩ := h
  cases rx
  obtain ⟨t, rfl⟩ := ry
  obtain ⟨z, its, n, r, hl, e⟩ := I.lstM hH
  have hlen : its.toArray.size * k.toNat ≤ sizeLine := by rw [List.size_toArray, ← hl]; exact hz
  have hcap : ¬ its.toArray.size * k.toNat > (2 ^ 63 - 1) / 8 := by
    have : (sizeLine : Nat) ≤ (2 ^ 63 - 1) / 8 := by decide
    omega
  have hfit : ¬ (!Builtin.List.listFitsIndex k) = true := by
    rw [fitsIndex_both h1 h2]
    exact Bool.false_ne_true
  have hlong : ¬ Builtin.List.listTooLong (its.toArray.size * k.toNat) = true := by
    rw [notLongL hlen]
    exact Bool.false_ne_true
  have hnew : List.foldl (fun x1 x2 => x1 ++ x2) #[] (List.replicate (if its.toArray.isEmpty = true then 0 else k.toNat) its.toArray) = (List.replicate k.toNat its).flatten.toArray := by
    have f0 : ∀ m : Nat, List.foldl (fun x1 x2 => x1 ++ x2) #[] (List.replicate m its.toArray) = (List.replicate m its).flatten.toArray := fun m => by
      have := foldl_rep its m []
      rw [List.nil_append] at this
      exact this
    rw [f0]
    cases its with
    | nil => simp
    | cons a r' => rw [if_neg (by simp)]
  refine wpAny_binaryOp_repeat_ref (T := "list") (U := "int") (by decide) ⟨_, e, rfl⟩ (fun s' => typeIs_int s' k t) noFill_list_mul F.fills_int_mul F.slot_int_rmul repeat_list F.slot_int_index.lookup
    (call_meets F.slot_int_rmul (typeIs_int s k t) F.entry_int_rmul (F.args_int_rmul_2 _ _) (int___rmul___int_list k t l its.toArray n)
      ⟨e, rfl, ⟨_, e, rfl⟩, call_meets F.slot_list_mul ⟨_, e, rfl⟩ F.entry_list_mul (F.args_list_mul_2 _ _) (AutoListH.list___mul___list_int_3 l its.toArray n k t hfit hcap hlong) ⟨e, ?_⟩⟩)
  rw [hnew]
  exact ⟨.ref _, _, I.lnew (t' := s.toks) (r.rep k.toNat) (by rw [len_rep, Nat.mul_comm]; exact hz), rfl, q _ I.fresh⟩

/-! ### del xs[i] -/
end

/-! ### xs[a:b] = ys -/
section
variable {prog : Program} {w : World} {A : Around} {E : Value → Shared → Prop} {s : Shared}
set_option maxRecDepth 100000 in
end

section
variable {X : Cx}
end
end L2

namespace Att
open PySem PySem.W PySem.Calls PyProof.Rows

/-! ### the script -/
theorem ints_of_wellAll {P : Params} {h : Heap} : ∀ (ns : List Int) (vs : List Value), WellAll P h vs (ns.map WData.int) → IntsAre vs ns := by
  intro ns
  induction ns with
  | nil =>
    intro vs w
    rw [List.map_nil] at w
    cases w
    exact .nil
  | cons n ns ih =>
    intro vs w
    rw [List.map_cons] at w
    cases w with
    | cons a b =>
      cases a
      exact .cons _ _ (ih _ b)

theorem script_of {l : OpenLaw} {n : Nat} (hn : l.most = some n) {P : Params} {h : Heap} {args : List WData} {vals : List Value}
    (hpre : l.row.toRowW.claim.pre args = true) (hwl : WellAll P h vals args) :
    ∃ a vs ns, vals = [Value.ref a] ∧ args = [WData.list (ns.map WData.int)] ∧ h.get? a = some { cls := .type "list", data := .seq vs.toArray } ∧ IntsAre vs ns ∧ ns.length ≤ n := by
  have hsh : WShape.hasAll [] args [.list .int] = true := (pre_splitW hpre).1
  have hc : l.pre.holds [] { args := args } = true := (pre_splitW hpre).2
  obtain ⟨d, r, rfl, h1, h2⟩ := hasAllW_cons hsh
  obtain rfl := hasAllW_nil h2
  obtain ⟨xs, rfl, h3⟩ := hasW_list h1
  obtain ⟨ns, rfl⟩ := items_int h3
  have hlen : ns.length ≤ n := by
    unfold OpenLaw.pre at hc
    have h4 : (WTm.not (.lt (.lit (.int (n : Int))) (.len (.arg 0)))).holds [] { args := [.list (ns.map .int)] } = true := by
      have h4 := (holds_andW hc).1
      rw [hn] at h4
      exact h4
    have h5 := condW_of h4 (w_not (w_lt w_lit (w_len_list (w_arg rfl))))
    rw [List.length_map] at h5
    refine Nat.le_of_not_lt fun q => ?_
    have q' : (n : Int) < ((ns.length : Nat) : Int) := by omega
    first
      | (rw [decide_eq_true q'] at h5; exact absurd h5 (by decide))
      | (simp at h5; omega)
  cases hwl with
  | cons w1 w2 =>
    cases w2
    cases w1 with
    | list ho hall => exact ⟨_, _, ns, rfl, rfl, ho, ints_of_wellAll ns _ hall, hlen⟩

theorem post_true (l : OpenLaw) (args : List WData) : l.row.toRowW.claim.post args (.bool true) args = true :=
  postW_of (r := l.row.toRowW) (X := (true == true))
    (show WShape.has [] (.bool true) .bool = true by first | rfl | decide | simp [WShape.has, WShape.arms, WShape.armsAll])
    (show (WTm.eq .res (.lit (.bool true))).value [] { args := args, res := some (.bool true), after := args } = some (.bool (true == true)) from w_eq_bool (w_res rfl) w_lit) rfl

/-! ### the attachment: holds_open's last premise (the goal 'hc' behind k_head) from a wpAny of the law's body -/
/-- the same from a codeAny of the CALL (for a layer whose function contracts speak of calls) -/
theorem attach_call {l : OpenLaw} {n : Nat} {q : Program} {loose : List Str} {XP : (Str → Option Value) → Heap → Prop} {YP : World → Heap → Prop} {d : DefRec}
    (hn : l.most = some n) (hdf : d.params.defaults = [])
    (call : ∀ (w : World) (s₀ s₁ : Shared) (mg mb : Str → Option Value) (fa : Addr) (o : Obj) (pm cd doc : Value) (a : Addr) (vs : List Value) (ns : List Int),
      Ground q loose [] XP w s₀ mg mb s₁.heap → YP w s₁.heap →
      s₁.heap.get? fa = some o → o.data = .func (docDef d.name d.params d.body d.scope pm cd doc) → s₁.heap.CodeRec cd d.name → mg d.name = some (.ref fa) →
      s₁.heap.get? a = some { cls := .type "list", data := .seq vs.toArray } → IntsAre vs ns → ns.length ≤ n → s₁.gens = #[] →
      codeAny (model l.prog w) callerA (.call (.ref fa) ⟨[.ref a], []⟩) (fun r s' => r = .ok (.ret (.bool true)) ∧ OldK s₁.heap s'.heap ∧ s'.os = s₁.os ∧ AllBare s'.gens) s₁) :
    WalkO q loose XP YP l.row.toRowW d [] (fun f vs => PySem.call f vs) := by
  intro w s₀ s₁ mg mb G Y fa o pm cd doc dV kV ho hd hcd hD hmg hg args vals as hpre hlay hrd hwl hlo
  obtain rfl : dV = .none := Dflts.none hD hdf
  obtain rfl : kV = .none := Dflts.noKw hD
  obtain ⟨a, vs, ns, rfl, rfl, hobj, hints, hlen⟩ := script_of hn hpre hwl
  refine enter_call (codeAny_mono (call w s₀ s₁ mg mb fa o pm cd doc a vs ns G Y ho (fd_plain hd) hcd hmg hobj hints hlen hg) fun r s' hq => ?_)
  obtain ⟨rfl, h2, h3, h4⟩ := hq
  exact ⟨.inl ⟨.bool true, .bool true, [], rfl, fun _ => rfl, .bool true, post_true l _, fun _ => ⟨List.Pairwise.nil, fun _ hm => (nomatch hm)⟩⟩, h2, h3, h4⟩

/-! ### rules over ANY heap (no ledger) from facts about the written part K: the library's own take a ledger (News) for what they write -/
section
variable {prog : Program} {w : World} {A : Around} {E : Value → Shared → Prop} {s : Shared} {K : Frag}

/-! the whole heap as the ledger: makes every rule that writes through a ledger a rule over any heap -/
def noObjs (h : Heap) : Heap := { h with objs := #[] }
def ledger (h : Heap) (L d : Addr) : List (Addr × Obj) := (List.range h.objs.size).filterMap fun a => if a = L ∨ a = d then none else (h.get? a).map fun o => (a, o)
end
end Att

namespace L2
open PySem PySem.Spec PyProof.Rows

theorem vals_ints : ∀ {vs : List Value} {ns : List Int}, IntsAre vs ns → Vals (ns.map V.int) vs
  | _, _, .nil => .nil
  | _, _, .cons n t h => .cons ⟨t, rfl⟩ (vals_ints h)

/-- nothing is tracked but the script, known to the object (or it is an object of the module) -/
def Only (H : Hp) : Prop := ∀ b, H b = none ∨ ∃ o xs, H b = some (.frz o (.lst xs))

/-- THE HEAD: the law's promise, at the heap behind the top. F, the promise of the law's def, may use that base is part of the heap (so K.In base, base.Ns mainGlobals mg stand in Mod) -/
theorem law_call {P : Program} {w : World} {K : PySem.W.Frag} {mg mb : Str → Option Value} {CX : CXT} {k : Nat} {fa a : Addr} {fd : FuncData} {x : Str} {sp : Sp} {s₁ : Shared} {vs : List Value} {ns : List Int}
    (KX : K.In s₁.heap) (hns : s₁.heap.Ns mainGlobals mg) (hb : s₁.heap.Ns builtinsNs mb) (hbb : ∀ x : Str, x ≠ "__name__" → mb x = bootBuiltins x) (hlim : s₁.heap.NoLimit) (hg : s₁.gens = #[])
    (ha : s₁.heap.get? a = some { cls := .type "list", data := .seq vs.toArray }) (hi : IntsAre vs ns) (hl : ns.length ≤ sizeLine) (hr : Room k callerA)
    (F : ∀ base : Heap, K.In base → base.Ns mainGlobals mg → FnOk P w K mg base CX k fa fd [x] sp) (hbind : ∀ (s : Shared) (u : Value), BindsTo s fd ⟨[u], []⟩ [(x, u)])
    (hsp : ∀ H : Hp, Only H → SqL K H a (ns.map V.int) → sp [.ref a] H (fun v _ => v = .bl true) fun _ _ _ => False)
    (hCX : ∀ H e s', CX [] H s₁ (fun _ _ _ => False) e s' → False) :
    codeAny (model P w) callerA (.call (.ref fa) ⟨[.ref a], []⟩) (fun r s' => r = .ok (.ret (.bool true)) ∧ OldK s₁.heap s'.heap ∧ s'.os = s₁.os ∧ AllBare s'.gens) s₁ := by
  have rv := vals_ints hi
  have lenV := hi.length
  -- from an abstract heap in which nothing but the script may be tracked
  have core : ∀ H : Hp, Only H → SqL K H a (ns.map V.int) → HOk P w H s₁.heap → (∀ b, H b ≠ none → b = a) → (H a ≠ none → K.lookup a = none) →
      codeAny (model P w) callerA (.call (.ref fa) ⟨[.ref a], []⟩) (fun r s' => r = .ok (.ret (.bool true)) ∧ OldK s₁.heap s'.heap ∧ s'.os = s₁.os ∧ AllBare s'.gens) s₁ := by
    intro H hO hS hok hA hK
    have base_of : ∀ {b : Addr} {o : Obj}, s₁.heap.get? b = some o → H b = none → (hidT s₁.heap H).get? b = some o := fun e n => hidT_get e n
    have noA : ∀ {b : Addr} {o : Obj} {es : Array DictEntry} {ep : Nat}, s₁.heap.get? b = some o → o.data = .dict es ep → H b = none := fun {b o es ep} e d => by
      cases q : H b with
      | none => rfl
      | some u =>
        have e' : b = a := hA b (by rw [q]; simp)
        subst e'
        rw [ha] at e; cases e
        have d' : Data.seq vs.toArray _ = Data.dict es ep := d
        cases d'
    have nsK : ∀ {b : Addr} {m : Str → Option Value}, s₁.heap.Ns b m → (hidT s₁.heap H).Ns b m := fun {b m} ⟨o, es, ep, e, d, r⟩ => ⟨o, es, ep, base_of e (noA e d), d, r⟩
    have hKb : K.In (hidT s₁.heap H) := fun b o e => base_of (KX b o e) (by
      cases q : H b with
      | none => rfl
      | some u =>
        have e' : b = a := hA b (by rw [q]; simp)
        subst e'
        rw [hK (by rw [q]; simp)] at e; cases e)
    have hM : Mod K mg (hidT s₁.heap H) := ⟨hKb, nsK hns, ⟨mb, nsK hb, hbb⟩, let ⟨mc, h1, h2⟩ := hlim; ⟨mc, nsK h1, h2⟩⟩
    have e0 : Env0 P w K mg (hidT s₁.heap H) callerA [] s₁ H := ⟨rfl, hM, fun b o e => of_hidT e, Nat.le_of_eq (hidT_size _ _), trivial, fun b hb => absurd (show b ∈ ([] : List Addr) from hb) (by simp), hok, .of_eq hg⟩
    refine codeAny_mono ((F _ hKb (nsK hns)).run callerA [] s₁ H ⟨[.ref a], []⟩ [.ref a] [.ref a] _ _ hr e0 (hbind s₁ (.ref a)) (.cons rfl .nil) (hsp H hO hS)) fun r s' h => ?_
    cases r with
    | error e => exact (hCX H e s' h).elim
    | ok fl =>
      cases fl with
      | next => exact False.elim h
      | brk => exact False.elim h
      | cont => exact False.elim h
      | ret u =>
        obtain ⟨v, H', os, bare, un, hok', r', q⟩ := h
        have q' : v = .bl true := q
        subst q'
        obtain rfl : u = Value.bool true := r'
        refine ⟨rfl, OldK.of_keep fun b o e => ?_, os, bare⟩
        cases q : H b with
        | none => exact un.keep b o e q (by intro z; exact absurd (show b ∈ ([] : List Addr) from z) (by simp)) (by simp)
        | some u =>
          rcases hO b with z | ⟨ob, xs, z⟩
          · rw [q] at z; cases z
          · have z2 := un.frzs b ob _ z
            obtain ⟨e1, _⟩ := hok b _ z
            obtain ⟨e2, _⟩ := hok' b _ z2
            rw [e] at e1; cases e1
            exact e2
  cases hk : K.lookup a with
  | some o =>
    -- the script is one of the module's own objects
    have e := KX a o hk
    rw [ha] at e
    cases e
    refine core (fun _ => none) (fun _ => .inl rfl) (.inr ⟨_, vs.toArray, _, hk, rfl, rfl, rfl, by rw [List.size_toArray, lenV]; exact hl, by simpa using rv⟩) (fun b u z => by have z' : (none : Option HO) = some u := z; cases z') (fun b z => absurd rfl z) fun z => absurd rfl z
  | none =>
    refine core (fun b => if b = a then some (.frz { cls := .type "list", data := .seq vs.toArray } (.lst (ns.map V.int))) else none) (fun b => ?_) (.inl (.inr ⟨{ cls := .type "list", data := .seq vs.toArray }, if_pos rfl⟩)) (fun b u z => ?_) (fun b z => ?_) fun _ => hk
    · by_cases hb : b = a
      · exact .inr ⟨_, _, if_pos hb⟩
      · exact .inl (if_neg hb)
    · by_cases hb : b = a
      · have z' := (if_pos hb).symm.trans z
        cases z'
        subst hb
        exact ⟨ha, by rw [List.length_map]; exact hl, vs, _, rv, ha⟩
      · have z' := (if_neg hb).symm.trans z
        cases z'
    · by_cases hb : b = a
      · exact hb
      · exact absurd (if_neg hb) z
end L2

namespace L2
open PySem PySem.Spec PyProof.Rows

abbrev KOf {K : PySem.W.Frag} {h : Heap} (_ : K.In h) : PySem.W.Frag := K

/-- the goal that k_head leaves (case hc), from the law's promise. F gives the function object fd (K's own) once, then the promise over every base -/
theorem walk_of {l : PySem.W.OpenLaw} {n k : Nat} {q : Program} {loose : List Str} {XP : (Str → Option Value) → Heap → Prop} {YP : World → Heap → Prop} {d : DefRec} {K : Params → PySem.W.Frag} {CX : World → CXT} {sp : World → Sp} {x : Str}
    (hn : l.most = some n) (hn2 : n ≤ sizeLine) (hdf : d.params.defaults = []) (hr : Room k callerA)
    (hY : ∀ (w : World) (h : Heap), YP w h → (K w.params).In h)
    (F : ∀ (w : World) (mg : Str → Option Value) (fa : Addr) (h : Heap), (K w.params).In h → h.Ns mainGlobals mg → mg d.name = some (.ref fa) →
      ∃ fd : FuncData, (∀ (s : Shared) (u : Value), BindsTo s fd ⟨[u], []⟩ [(x, u)]) ∧
        ∀ base : Heap, (K w.params).In base → base.Ns mainGlobals mg → FnOk l.prog w (K w.params) mg base (CX w) k fa fd [x] (sp w))
    (hsp : ∀ (w : World) (H : Hp) (a : Addr) (ns : List Int), ns.length ≤ n → Only H → SqL (K w.params) H a (ns.map V.int) → sp w [.ref a] H (fun v _ => v = .bl true) fun _ _ _ => False)
    (hCX : ∀ (w : World) (H : Hp) (s : Shared) (e : Value) (s' : Shared), CX w [] H s (fun _ _ _ => False) e s' → False) :
    PySem.W.WalkO q loose XP YP l.row.toRowW d [] (fun f vs => PySem.call f vs) := by
  refine Att.attach_call hn hdf fun w s₀ s₁ mg mb fa o pm cd doc a vs ns G Y ho hd hcd hmg hobj hints hlen hg => ?_
  have KX := hY w _ Y
  obtain ⟨fd, hb, hF⟩ := F w mg fa _ KX G.T.g hmg
  exact law_call KX G.T.g G.T.b G.T.builtins G.T.nolimit hg hobj hints (Nat.le_trans hlen hn2) hr hF hb (fun H hO hS => hsp w H a ns hlen hO hS) fun H e s' => hCX w H s₁ e s'
end L2

/- THE LAST THEOREM (shape; LID, My.* are yours):
   My.Adr: a structure of the addresses that your layer names (classes, functions); My.Txt K t: a structure (Prop) of the equations over K;
   My.txt_mk : {K} {implicit addresses ..} (e1 : nsIn K mainGlobals "law" = some (some (.ref f))) (e2 : K.lookup f = some ⟨oc, od, .func (fnOf "law" "law" params body scope dV kV doc pm an cdv ct), sl⟩) (e3 : codeIn K cdv "law" = true) .. : ∃ t, My.Txt K t

set_option maxRecDepth 100000 in
set_option maxHeartbeats 0 in
theorem PySem.Challenge.cw_LID_holds : PySem.Challenge.rw_LID.Holds := by
  w_on; o_law; k_head; (case hw => w_witness2)
  k_fill
  refine L2.walk_of (l := PySem.Challenge.rw_LID) (n := 63) (k := 40) (x := "script") (CX := fun w => ..) (sp := fun _ => My.sp_law) rfl (by decide) rfl ⟨rfl, by decide, by decide⟩ (fun w h Y => PySem.W.kIn_of Y) ?F ?S ?C
  case F =>
    intro w mg fa h KX G hmg
    have T : ∃ t, My.Txt (L2.KOf KX) t := by
      dsimp only [L2.KOf]                          -- K must stand as «<heap const> w.params» for k_is
      refine' My.txt_mk ?e1 ?e2 ?e3 ..
      (case e1 => PySem.W.k_is)                    -- in the order: a name -> its address -> its object -> its parts
      (case e2 => PySem.W.k_is)
      ..
    obtain ⟨t, T⟩ := T
    have e0 := hmg.symm.trans (PySem.W.mg_of KX G T.law)
    cases e0                                       -- fa is the law's own address
    exact ⟨_, fun s u => .of_eq rfl, fun base kb nb => My.law_fn T kb nb⟩     -- if «.of_eq rfl» comes too early: refine' ⟨_, ?b, fun base kb nb => My.law_fn T kb nb⟩; exact fun s u => .of_eq rfl
  case S => exact fun w H a ns hl hO hS => ..
  case C => exact ..
(the tactic k_is has no namespace: write k_is) -/

/-! SHORT WORDS over the layer: a def of the text, its body, what a loop and a test want. -/
namespace L2
open PySem PySem.Spec PyProof.Rows

/-! ### the text by places -/
/-- the j-th statement of a class's body -/
def inClass (s : Stmt) (j : Nat) : Stmt := match s with
  | .ClassDef _ _ _ body _ _ _ _ _ _ _ => body.getD j (.Pass ⟨0, 0, 0, 0⟩)
  | _ => .Pass ⟨0, 0, 0, 0⟩
def defArgs (s : Stmt) : Arguments := match s with
  | .FunctionDef _ a _ _ _ _ _ _ _ _ => a
  | _ => { posonlyargs := [], args := [], vararg := none, kwonlyargs := [], kw_defaults := [], kwarg := none, defaults := [] }
def defBody (s : Stmt) : List Stmt := match s with
  | .FunctionDef _ _ b _ _ _ _ _ _ _ => b
  | _ => []
def defScope (s : Stmt) : Scope := match s with
  | .FunctionDef _ _ _ _ _ _ sc _ _ _ => sc
  | _ => { kind := .function, names := [], isGenerator := false, isCoroutine := false }

/-! ### no exception leaves a def -/
abbrev CX0 : CXT := fun _ _ _ _ _ _ => False
abbrev E0 : XK := fun _ _ _ => False
theorem pass0 {X : Cx} : Passes CX0 X E0 := fun _ _ _ _ _ _ _ h => h.elim

/-! ### a def (or method) of the text as it stands behind the top -/
structure Fun (K : PySem.W.Frag) (x qual : Str) (st : Stmt) (f : Addr) (fd : FuncData) : Prop where
  ex : ∃ (oc : Value) (od : Option Addr) (kV doc pm : Value) (an : Option Addr) (cdv ct : Value) (osl : Array (Option Value)),
    fd = PySem.W.fnOf x qual (defArgs st) (defBody st) (defScope st) .none kV doc pm an cdv ct ∧ K.lookup f = some ⟨oc, od, .func fd, osl⟩ ∧ PySem.W.codeIn K cdv qual = true
  kp : PySem.W.keepIn K (.ref f) = true
section
variable {P : Program} {w : World} {K : PySem.W.Frag} {mg : Str → Option Value} {base : Heap}
/-- THE RULE for a def: its body as a term of rules, and the reading of that term -/
theorem Fun.ok {x qual : Str} {st : Stmt} {f : Addr} {fd : FuncData} {N ps : List Str} {k : Nat} {sp : Sp} (F : Fun K x qual st f fd) (S : FnScope N ps (defScope st)) (len : ∀ vs H Q E, sp vs H Q E → vs.length = ps.length)
    (hbody : ∀ (cdv : Value) (A : Around) (outer : List Env) (s : Shared) (H : Hp) (vs : List V) (Q : VK) (E : XK), Room k (A.deeper (envOfC qual (defScope st) s.heap.objs.size f cdv)) → sp vs H Q E →
      ∃ t, PSs (cxOf CX0 P w K mg base N qual (defScope st) f cdv A outer s H E).nox (defBody st) t ∧ t { nx := fun _ H' => Q .non H', rt := Q } (start N vs) H) : FnOk P w K mg base CX0 (k + 1) f fd ps sp := by
  obtain ⟨oc, od, kV, doc, pm, an, cdv, ct, osl, rfl, lk, hcd⟩ := F.ex
  refine fn_of lk hcd S len fun A outer s H vs Q E hr hsp => ?_
  obtain ⟨t, h, q⟩ := hbody cdv A outer s H vs Q E hr hsp
  exact ⟨t, h.nox, q⟩
/-- how its arguments bind (no defaults): h is «fun _ _ _ _ _ _ us hl => match us, hl with | [_, _], _ => rfl», one _ a parameter -/
theorem Fun.binds {x qual : Str} {st : Stmt} {f : Addr} {fd : FuncData} {ps : List Str} (F : Fun K x qual st f fd)
    (h : ∀ (kV doc pm : Value) (an : Option Addr) (cdv ct : Value) (us : List Value), us.length = ps.length → bindArgs (PySem.W.fnOf x qual (defArgs st) (defBody st) (defScope st) .none kV doc pm an cdv ct) ⟨us, []⟩ = pure (ps.zip us)) : Binds K fd ps [] := by
  obtain ⟨oc, od, kV, doc, pm, an, cdv, ct, osl, rfl, lk, hcd⟩ := F.ex
  exact .all (h kV doc pm an cdv ct)
theorem fun_mk {x qual : Str} {st : Stmt} {f : Addr} {oc : Value} {od an : Option Addr} {osl : Array (Option Value)} {kV doc pm cdv ct : Value} (l : K.lookup f = some ⟨oc, od, .func (PySem.W.fnOf x qual (defArgs st) (defBody st) (defScope st) .none kV doc pm an cdv ct), osl⟩)
    (c : PySem.W.codeIn K cdv qual = true) (k : PySem.W.keepIn K (.ref f) = true) : Fun K x qual st f (PySem.W.fnOf x qual (defArgs st) (defBody st) (defScope st) .none kV doc pm an cdv ct) := ⟨⟨oc, od, kV, doc, pm, an, cdv, ct, osl, rfl, l, c⟩, k⟩
end
/-! ### expressions in short: the name that stands in the i-th slot -/
section
variable {X : Cx}
theorem pv (i : Nat) {x : Str} {pos : Pos} (hN : X.N[i]? = some x := by rfl) (hv : Vis X.env.scope x := by first | exact Or.inl rfl | exact Or.inr (Or.inl rfl) | exact Or.inr (Or.inr rfl)) (hd : (x == ("__debug__" : Str)) = false := by decide)
    (hcd : (x == ("__classdict__" : Str)) = false := by decide) : PE X (.Name x pos) (tVar i) := pe_var hN hv hd hcd
end

/-! ### tests -/
/-! ### heaps -/
/-- all that was tracked is as it was -/
def Same (H H' : Hp) : Prop := ∀ b o, H b = some o → H' b = some o
theorem Same.refl (H : Hp) : Same H H := fun _ _ h => h
theorem Same.trans {H H1 H2 : Hp} (a : Same H H1) (b : Same H1 H2) : Same H H2 := fun c o h => b c o (a c o h)
theorem Same.free {H H' : Hp} (e : Same H H') {l : Addr} (h : H' l = Option.none) : H l = Option.none := by
  cases q : H l with
  | none => rfl
  | some o =>
    rw [e l o q] at h
    cases h
theorem Same.seq {K : PySem.W.Frag} {H H' : Hp} {a : Addr} {xs : List V} (e : Same H H') (h : SqL K H a xs) : SqL K H' a xs := by
  rcases h with (h | ⟨o, h⟩) | h
  · exact .inl (.inl (e _ _ h))
  · exact .inl (.inr ⟨o, e _ _ h⟩)
  · exact .inr h

end L2
set_option maxHeartbeats 4000000
namespace RS
/-! ### the numbers' laying, as plain functions -/
/-- the place of the first number greater than n: behind those that are not greater -/
def gt (r : List Int) (n : Int) : List Int := r.filter (fun o => decide (n < o))
def lt (r : List Int) (n : Int) : List Int := r.filter (fun o => decide (o < n))
def layL : List (List Int) → Int → List (List Int) × Nat
  | [], n => ([[n]], 0)
  | r :: rs, n => if (gt r n).length = 0 then ((r ++ [n]) :: rs, 0)
    else ((r.set (r.length - (gt r n).length) n) :: (layL rs ((gt r n).headD 0)).1, (layL rs ((gt r n).headD 0)).2 + 1)
def layP : List (List Int) → Int → List (List Int) × Nat
  | [], n => ([[n]], 0)
  | r :: rs, n => if (lt r n).length = r.length then ((r ++ [n]) :: rs, 0)
    else ((r.take (lt r n).length ++ [n] ++ r.drop ((lt r n).length + 1)) :: (layP rs (r.getD (lt r n).length 0)).1, (layP rs (r.getD (lt r n).length 0)).2 + 1)

def Rise (r : List Int) : Prop := r.Pairwise (· < ·)
/-- s stands below r -/
def Below (r s : List Int) : Prop := s.length ≤ r.length ∧ ∀ (j : Nat) (x y : Int), r[j]? = some x → s[j]? = some y → x < y
/-- stairs, row by row -/
inductive Stairs : List (List Int) → Prop
  | nil : Stairs []
  | one {r : List Int} : r ≠ [] → Rise r → Stairs [r]
  | cons {r s : List Int} {rs : List (List Int)} : r ≠ [] → Rise r → Below r s → Stairs (s :: rs) → Stairs (r :: s :: rs)

theorem rise_gt {r : List Int} (h : Rise r) (n : Int) (hn : n ∉ r) : r = lt r n ++ gt r n := by
  induction r with
  | nil => rfl
  | cons a r ih =>
    have h1 := List.pairwise_cons.mp h
    have hn' : n ∉ r := fun z => hn (List.mem_cons_of_mem _ z)
    have hna : n ≠ a := fun z => hn (z ▸ List.mem_cons_self)
    unfold lt gt at *
    by_cases hl : a < n
    · have hg : ¬ n < a := by omega
      rw [List.filter_cons, List.filter_cons, if_pos (decide_eq_true hl), if_neg (by simp; omega), List.cons_append, ← ih h1.2 hn']
    · have hg : n < a := by omega
      have e1 : r.filter (fun o => decide (o < n)) = [] := by
        rw [List.filter_eq_nil_iff]
        intro b hb
        have := h1.1 b hb
        simp; omega
      have e2 : r.filter (fun o => decide (n < o)) = r := by
        rw [List.filter_eq_self]
        intro b hb
        have := h1.1 b hb
        simp; omega
      rw [List.filter_cons, List.filter_cons, if_neg (by simp; omega), if_pos (decide_eq_true hg), e1, e2, List.nil_append]
theorem lt_gt_len {r : List Int} (h : Rise r) (n : Int) (hn : n ∉ r) : (lt r n).length + (gt r n).length = r.length := by
  have e := congrArg List.length (rise_gt h n hn)
  rw [List.length_append] at e
  omega
theorem set_mid {α : Type} (a : List α) (x y : α) (b : List α) : (a ++ x :: b).set a.length y = a ++ y :: b := by
  induction a with
  | nil => rfl
  | cons c a ih => simp [ih]
/-- the two layings agree where every row rises and the number is new -/
theorem lay_same : ∀ (rs : List (List Int)) (n : Int), (∀ r ∈ rs, Rise r) → n ∉ rs.flatten → rs.flatten.Nodup → layP rs n = layL rs n
  | [], n, _, _, _ => rfl
  | r :: rs, n, hr, hn, nd => by
    have hR := hr r List.mem_cons_self
    have hnr : n ∉ r := fun z => hn (by rw [List.flatten_cons]; exact List.mem_append_left _ z)
    have e := rise_gt hR n hnr
    have el := lt_gt_len hR n hnr
    unfold layP layL
    cases hg : gt r n with
    | nil =>
      rw [hg] at e el
      rw [if_pos (by simp at el; exact el), if_pos (by simp)]
    | cons x g =>
      rw [hg] at e el
      have hl : ¬ (lt r n).length = r.length := by simp at el; omega
      rw [if_neg hl, if_neg (by simp)]
      have e1 : r.length - (x :: g).length = (lt r n).length := by omega
      generalize lt r n = a at *
      have ex : r.getD a.length 0 = x := by subst e; simp [List.getD_eq_getElem?_getD]
      have hx : x ∉ rs.flatten := fun z => by
        rw [List.flatten_cons, List.nodup_append] at nd
        exact nd.2.2 x (by rw [e]; simp) x z rfl
      have hd : (x :: g).headD 0 = x := rfl
      rw [hd, e1, ex, lay_same rs x (fun s hs => hr s (List.mem_cons_of_mem _ hs)) hx (by rw [List.flatten_cons, List.nodup_append] at nd; exact nd.2.1)]
      have e2 : r.take a.length = a := by subst e; simp
      have e3 : r.drop (a.length + 1) = g := by subst e; simp [List.drop_append]
      have e4 : r.set a.length n = a ++ n :: g := by subst e; exact set_mid _ _ _ _
      rw [e2, e3, e4]
      simp
/-- what is laid in is there, and what was there -/
theorem lay_perm : ∀ (rs : List (List Int)) (n : Int), (∀ r ∈ rs, Rise r) → n ∉ rs.flatten → rs.flatten.Nodup → (layL rs n).1.flatten.Perm (n :: rs.flatten)
  | [], n, _, _, _ => by unfold layL; simp
  | r :: rs, n, hr, hn, nd => by
    have hR := hr r List.mem_cons_self
    have hnr : n ∉ r := fun z => hn (by rw [List.flatten_cons]; exact List.mem_append_left _ z)
    have e := rise_gt hR n hnr
    have el := lt_gt_len hR n hnr
    unfold layL
    cases hg : gt r n with
    | nil =>
      rw [if_pos (by simp)]
      show ((r ++ [n]) :: rs).flatten.Perm _
      rw [List.flatten_cons, List.flatten_cons, List.append_assoc]
      exact List.perm_middle
    | cons x g =>
      rw [hg] at e el
      rw [if_neg (by simp)]
      have e1 : r.length - (x :: g).length = (lt r n).length := by omega
      generalize lt r n = a at *
      have hx : x ∉ rs.flatten := fun z => by
        rw [List.flatten_cons, List.nodup_append] at nd
        exact nd.2.2 x (by rw [e]; simp) x z rfl
      have hd : (x :: g).headD 0 = x := rfl
      have e4 : r.set a.length n = a ++ n :: g := by subst e; exact set_mid _ _ _ _
      rw [hd, e1, e4]
      show ((a ++ n :: g) :: (layL rs x).1).flatten.Perm _
      rw [List.flatten_cons, List.flatten_cons, e]
      have ih := lay_perm rs x (fun s hs => hr s (List.mem_cons_of_mem _ hs)) hx (by rw [List.flatten_cons, List.nodup_append] at nd; exact nd.2.1)
      refine (List.Perm.append_left _ ih).trans ?_
      rw [List.append_assoc, List.append_assoc]
      refine List.perm_middle.trans (List.Perm.cons n ?_)
      refine List.Perm.append_left a ?_
      exact List.perm_middle
end RS

namespace RS
def ins (r : List Int) (n : Int) : List Int := lt r n ++ n :: (gt r n).tail
theorem layL_cons {r : List Int} {rs : List (List Int)} {n : Int} (hR : Rise r) (hn : n ∉ r) :
    layL (r :: rs) n = (match gt r n with | [] => (ins r n :: rs, 0) | x :: _ => (ins r n :: (layL rs x).1, (layL rs x).2 + 1)) := by
  have e := rise_gt hR n hn
  have el := lt_gt_len hR n hn
  rw [layL]
  unfold ins
  cases hg : gt r n with
  | nil =>
    rw [hg] at e
    rw [if_pos (by simp)]
    simp at e ⊢
    exact e
  | cons x g =>
    rw [hg] at e el
    have e1 : r.length - (x :: g).length = (lt r n).length := by omega
    rw [if_neg (by simp), e1]
    generalize lt r n = a at *
    have e4 : r.set a.length n = a ++ n :: g := by subst e; exact set_mid _ _ _ _
    rw [e4]
    rfl
theorem mem_lt {r : List Int} {n a : Int} (h : a ∈ lt r n) : a ∈ r ∧ a < n := by
  unfold lt at h
  have := List.mem_filter.mp h
  exact ⟨this.1, of_decide_eq_true this.2⟩
theorem mem_gt {r : List Int} {n a : Int} (h : a ∈ gt r n) : a ∈ r ∧ n < a := by
  unfold gt at h
  have := List.mem_filter.mp h
  exact ⟨this.1, of_decide_eq_true this.2⟩
theorem rise_ins {r : List Int} {n : Int} (hR : Rise r) (hn : n ∉ r) : Rise (ins r n) := by
  have e := rise_gt hR n hn
  unfold ins Rise
  have h1 : (lt r n).Pairwise (· < ·) := hR.sublist (List.filter_sublist)
  have h2 : (gt r n).Pairwise (· < ·) := hR.sublist (List.filter_sublist)
  rw [List.pairwise_append]
  refine ⟨h1, List.pairwise_cons.mpr ⟨fun b hb => (mem_gt (List.mem_of_mem_tail hb)).2, h2.sublist (List.tail_sublist _)⟩, fun a ha b hb => ?_⟩
  have := (mem_lt ha).2
  rcases List.mem_cons.mp hb with rfl | hb
  · exact this
  · have := (mem_gt (List.mem_of_mem_tail hb)).2
    omega
theorem below_ins {r s : List Int} {n x : Int} {g : List Int} (hR : Rise r) (hS : Rise s) (hB : Below r s) (hn : n ∉ r) (hg : gt r n = x :: g) (hx : x ∉ s) : Below (ins r n) (ins s x) := by
  have er := rise_gt hR n hn
  have es := rise_gt hS x hx
  have hnx : n < x := (mem_gt (r := r) (n := n) (a := x) (by rw [hg]; simp)).2
  have ha : ∀ y ∈ lt r n, y < n := fun y h => (mem_lt h).2
  have hb : ∀ y ∈ lt s x, y < x := fun y h => (mem_lt h).2
  have hc : ∀ y ∈ gt s x, x < y := fun y h => (mem_gt h).2
  obtain ⟨hlen, hcol⟩ := hB
  unfold ins
  rw [hg] at er ⊢
  generalize lt r n = a at *
  generalize lt s x = b at *
  generalize gt s x = c at *
  subst er
  subst es
  have hab : b.length ≤ a.length := by
    apply Nat.le_of_not_lt
    intro hlt
    have e1 : (b ++ c)[a.length]? = some b[a.length] := by rw [List.getElem?_append_left hlt, List.getElem?_eq_getElem hlt]
    have := hcol a.length x b[a.length] (by simp) e1
    have := hb _ (List.getElem_mem hlt)
    omega
  refine ⟨?_, fun j u v hu hv => ?_⟩
  · simp only [List.length_append, List.length_cons, List.length_tail, List.tail_cons] at hlen ⊢
    omega
  · rw [List.tail_cons] at hu
    by_cases h1 : j < b.length
    · rw [List.getElem?_append_left (by omega)] at hu
      rw [List.getElem?_append_left h1] at hv
      exact hcol j u v (by rw [List.getElem?_append_left (by omega)]; exact hu) (by rw [List.getElem?_append_left h1]; exact hv)
    · by_cases h2 : j = b.length
      · subst h2
        have ev : v = x := by simpa using hv.symm
        subst ev
        by_cases h3 : b.length < a.length
        · rw [List.getElem?_append_left h3] at hu
          have := ha u (List.mem_of_getElem? hu)
          omega
        · have e3 : b.length = a.length := by omega
          rw [e3] at hu
          have : u = n := by simpa using hu.symm
          omega
      · have e1 : (b ++ c)[j]? = some v := by
          rw [List.getElem?_append_right (by omega)] at hv ⊢
          obtain ⟨k, hk⟩ : ∃ k, j - b.length = k + 1 := ⟨j - b.length - 1, by omega⟩
          rw [hk, List.getElem?_cons_succ] at hv
          rw [hk]
          cases c with
          | nil => simp at hv
          | cons c0 c => simpa using hv
        by_cases h3 : j = a.length
        · subst h3
          have : u = n := by simpa using hu.symm
          have := hcol a.length x v (by simp) e1
          omega
        · refine hcol j u v ?_ e1
          by_cases h4 : j < a.length
          · rw [List.getElem?_append_left h4] at hu ⊢
            exact hu
          · rw [List.getElem?_append_right (by omega)] at hu ⊢
            obtain ⟨k, hk⟩ : ∃ k, j - a.length = k + 1 := ⟨j - a.length - 1, by omega⟩
            rw [hk] at hu ⊢
            exact hu
theorem Stairs.rise : ∀ {rs : List (List Int)}, Stairs rs → ∀ r ∈ rs, Rise r
  | _, .nil, r, h => by simp at h
  | _, .one _ hr, r, h => by simp at h; subst h; exact hr
  | _, .cons _ hr _ t, r, h => by
    rcases List.mem_cons.mp h with rfl | h
    · exact hr
    · exact t.rise r h
theorem Stairs.pos : ∀ {rs : List (List Int)}, Stairs rs → ∀ r ∈ rs, r ≠ []
  | _, .nil, r, h => by simp at h
  | _, .one hr _, r, h => by simp at h; subst h; exact hr
  | _, .cons hr _ _ t, r, h => by
    rcases List.mem_cons.mp h with rfl | h
    · exact hr
    · exact t.pos r h
theorem Stairs.tail : ∀ {r : List Int} {rs : List (List Int)}, Stairs (r :: rs) → Stairs rs
  | _, _, .one _ _ => .nil
  | _, _, .cons _ _ _ t => t
theorem ins_ne (r : List Int) (n : Int) : ins r n ≠ [] := by unfold ins; simp
theorem lay_head {s : List Int} {rs : List (List Int)} {x : Int} (hS : Rise s) (hx : x ∉ s) : ∃ t, (layL (s :: rs) x).1 = ins s x :: t := by
  rw [layL_cons hS hx]
  cases gt s x with
  | nil => exact ⟨_, rfl⟩
  | cons y g => exact ⟨_, rfl⟩
theorem lay_stairs : ∀ {rs : List (List Int)} {n : Int}, Stairs rs → n ∉ rs.flatten → rs.flatten.Nodup → Stairs (layL rs n).1
  | [], n, _, _, _ => by unfold layL; exact .one (by simp) (List.pairwise_singleton _ _)
  | r :: rs, n, hS, hn, nd => by
    have hR := hS.rise r List.mem_cons_self
    have hnr : n ∉ r := fun z => hn (by rw [List.flatten_cons]; exact List.mem_append_left _ z)
    have hT := hS.tail
    have nd' := nd
    rw [List.flatten_cons, List.nodup_append] at nd'
    rw [layL_cons hR hnr]
    cases hg : gt r n with
    | nil =>
      show Stairs (ins r n :: rs)
      have ei : ins r n = r ++ [n] := by
        have e := rise_gt hR n hnr
        unfold ins
        rw [hg] at e ⊢
        simp at e ⊢
        exact e.symm
      cases hS with
      | one h1 h2 => exact .one (ins_ne _ _) (rise_ins hR hnr)
      | @cons _ s rs' h1 h2 h3 h4 =>
        refine .cons (ins_ne _ _) (rise_ins hR hnr) ?_ h4
        rw [ei]
        refine ⟨by rw [List.length_append]; exact Nat.le_trans h3.1 (Nat.le_add_right _ _), fun j x y hx hy => ?_⟩
        have hj : j < r.length := Nat.lt_of_lt_of_le (List.getElem?_eq_some_iff.mp hy).1 h3.1
        rw [List.getElem?_append_left hj] at hx
        exact h3.2 j x y hx hy
    | cons x g =>
      show Stairs (ins r n :: (layL rs x).1)
      have hxr : x ∈ r := (mem_gt (r := r) (n := n) (a := x) (by rw [hg]; simp)).1
      have hx : x ∉ rs.flatten := fun z => nd'.2.2 x hxr x z rfl
      have ih := lay_stairs hT hx nd'.2.1
      cases hS with
      | one h1 h2 =>
        have e : (layL [] x).1 = [[x]] := rfl
        rw [e] at ih ⊢
        refine .cons (ins_ne _ _) (rise_ins hR hnr) ?_ ih
        have hb := below_ins (s := []) hR List.Pairwise.nil ⟨Nat.zero_le _, fun j a b _ hb => by simp at hb⟩ hnr hg (by simp)
        exact hb
      | @cons _ s rs' h1 h2 h3 h4 =>
        have hSs := h4.rise s List.mem_cons_self
        have hxs : x ∉ s := fun z => hx (by rw [List.flatten_cons]; exact List.mem_append_left _ z)
        obtain ⟨t, et⟩ := lay_head (rs := rs') hSs hxs
        rw [et] at ih ⊢
        exact .cons (ins_ne _ _) (rise_ins hR hnr) (below_ins hR hSs h3 hnr hg hxs) ih
/-- the stairs of a row, number by number: first and second -/
def grow (sec : List (List Int)) (at_ : Nat) (k : Int) : List (List Int) :=
  if at_ = sec.length then sec ++ [[k]] else sec.set at_ (sec.getD at_ [] ++ [k])
def laidFrom : List Int → Nat → List (List Int) × List (List Int) → List (List Int) × List (List Int)
  | [], _, p => p
  | n :: r, k, p => laidFrom r (k + 1) ((layL p.1 n).1, grow p.2 (layL p.1 n).2 ((k : Int) + 1))
def laidL (row : List Int) : List (List Int) × List (List Int) := laidFrom row 0 ([], [])
theorem laidFrom_ok : ∀ (row : List Int) (k : Nat) (p : List (List Int) × List (List Int)), Stairs p.1 → (p.1.flatten ++ row).Nodup →
    Stairs (laidFrom row k p).1 ∧ (laidFrom row k p).1.flatten.Perm (p.1.flatten ++ row)
  | [], k, p, h, nd => ⟨h, by simp [laidFrom]⟩
  | n :: r, k, p, h, nd => by
    have nd' := nd
    rw [List.nodup_append] at nd'
    have hn : n ∉ p.1.flatten := fun z => nd'.2.2 n z n List.mem_cons_self rfl
    have hp := lay_perm p.1 n h.rise hn nd'.1
    have pm : ((layL p.1 n).1.flatten ++ r).Perm (p.1.flatten ++ n :: r) := (List.Perm.append_right r hp).trans (by
      show (n :: p.1.flatten ++ r).Perm _
      exact List.perm_middle.symm)
    obtain ⟨h1, h2⟩ := laidFrom_ok r (k + 1) ((layL p.1 n).1, grow p.2 (layL p.1 n).2 ((k : Int) + 1)) (lay_stairs h hn nd'.1) (pm.nodup_iff.mpr nd)
    exact ⟨h1, h2.trans pm⟩
theorem laidL_stairs {row : List Int} (nd : row.Nodup) : Stairs (laidL row).1 ∧ (laidL row).1.flatten.Perm row := by
  have := laidFrom_ok row 0 ([], []) .nil (by simpa using nd)
  simpa [laidL] using this
end RS

namespace RS
/-! ### readings and columns -/
def column (R : List (List Int)) (p : Nat) : List Int := (R.filter (fun r => decide (p < r.length))).map (fun r => r.getD p 0)
def width (R : List (List Int)) : Nat := (R.headD []).length
def turnedP (R : List (List Int)) : List (List Int) := (List.range (width R)).map (column R)
def addCol : List (List Int) → List Int → List (List Int)
  | made, [] => made
  | [], x :: r => [x] :: addCol [] r
  | c :: made, x :: r => (c ++ [x]) :: addCol made r
def colsL (R : List (List Int)) : List (List Int) := R.foldl addCol []
def readL (R : List (List Int)) : List Int := R.reverse.flatten
theorem addCol_get : ∀ (m : List (List Int)) (r : List Int) (p : Nat), (addCol m r)[p]? = match m[p]?, r[p]? with | some c, some x => some (c ++ [x]) | some c, none => some c | none, some x => some [x] | none, none => none
  | m, [], p => by cases m <;> simp [addCol] <;> split <;> simp_all
  | [], x :: r, 0 => by simp [addCol]
  | [], x :: r, p + 1 => by
    have ih := addCol_get [] r p
    simp only [addCol, List.getElem?_cons_succ, List.getElem?_nil] at ih ⊢
    exact ih
  | c :: m, x :: r, 0 => by simp [addCol]
  | c :: m, x :: r, p + 1 => by
    have ih := addCol_get m r p
    simp only [addCol, List.getElem?_cons_succ] at ih ⊢
    exact ih
theorem column_snoc (R : List (List Int)) (r : List Int) (p : Nat) : column (R ++ [r]) p = column R p ++ (r[p]?).toList := by
  unfold column
  rw [List.filter_append, List.map_append]
  congr 1
  by_cases h : p < r.length
  · rw [List.filter_cons, if_pos (decide_eq_true h)]
    simp [List.getD_eq_getElem?_getD, List.getElem?_eq_getElem h]
  · rw [List.filter_cons, if_neg (by simp; omega)]
    simp [List.getElem?_eq_none (Nat.le_of_not_lt h)]
theorem colsL_snoc (R : List (List Int)) (r : List Int) : colsL (R ++ [r]) = addCol (colsL R) r := by simp [colsL]
theorem colsL_get (R : List (List Int)) (p : Nat) : (colsL R)[p]? = if column R p = [] then none else some (column R p) := by
  induction hn : R.length generalizing R p with
  | zero =>
    have : R = [] := List.length_eq_zero_iff.mp hn
    subst this; simp [colsL, column]
  | succ n ih =>
    obtain ⟨S, r, rfl⟩ : ∃ S r, R = S ++ [r] := ⟨R.dropLast, R.getLast (by intro h; subst h; simp at hn), (List.dropLast_concat_getLast _).symm⟩
    have ihS := ih S p (by simpa using hn)
    rw [colsL_snoc, addCol_get, ihS, column_snoc]
    cases hr : r[p]? with
    | none =>
      by_cases hc : column S p = []
      · simp [hc]
      · simp [hc]
    | some x =>
      by_cases hc : column S p = []
      · simp [hc]
      · simp [hc]
def Dec (R : List (List Int)) : Prop := R.Pairwise (fun r s => s.length ≤ r.length)
theorem Dec.column_get : ∀ {R : List (List Int)}, Dec R → ∀ (p q : Nat), (column R p)[q]? = (R[q]?).bind (fun r => r[p]?)
  | [], _, p, q => by simp [column]
  | r :: R, h, p, q => by
    have h1 := List.pairwise_cons.mp h
    have ih := Dec.column_get h1.2 p
    by_cases hp : p < r.length
    · have e : column (r :: R) p = r.getD p 0 :: column R p := by
        unfold column
        rw [List.filter_cons, if_pos (decide_eq_true hp), List.map_cons]
      rw [e]
      cases q with
      | zero => simp [List.getD_eq_getElem?_getD, List.getElem?_eq_getElem hp]
      | succ q => simp only [List.getElem?_cons_succ]; exact ih q
    · have e : column (r :: R) p = [] := by
        unfold column
        rw [List.filter_eq_nil_iff.mpr]
        · rfl
        · intro s hs
          have : s.length ≤ r.length := by
            rcases List.mem_cons.mp hs with rfl | hs
            · exact Nat.le_refl _
            · exact h1.1 s hs
          simp; omega
      rw [e]
      cases hq : (r :: R)[q]? with
      | none => simp
      | some s =>
        have hs : s ∈ r :: R := List.mem_of_getElem? hq
        have : s.length ≤ r.length := by
          rcases List.mem_cons.mp hs with rfl | hs
          · exact Nat.le_refl _
          · exact h1.1 s hs
        simp only [Option.bind_some, List.getElem?_nil]
        exact (List.getElem?_eq_none (by omega)).symm
theorem Dec.col_ne {R : List (List Int)} (h : Dec R) (p : Nat) : column R p ≠ [] ↔ p < width R := by
  cases R with
  | nil => simp [column, width]
  | cons r R =>
    have e : (column (r :: R) p)[0]? = r[p]? := by rw [h.column_get]; simp
    constructor
    · intro hne
      cases hc : column (r :: R) p with
      | nil => exact absurd hc hne
      | cons x c =>
        rw [hc] at e
        simp at e
        exact (List.getElem?_eq_some_iff.mp e.symm).1
    · intro hp hne
      rw [hne] at e
      simp [width] at hp
      simp at e
      omega
theorem Dec.cols {R : List (List Int)} (h : Dec R) : colsL R = turnedP R := by
  apply List.ext_getElem?
  intro p
  rw [colsL_get]
  unfold turnedP
  rw [List.getElem?_map]
  by_cases hp : p < width R
  · rw [if_neg ((h.col_ne p).mpr hp), List.getElem?_range hp]; rfl
  · have : column R p = [] := Classical.byContradiction fun z => hp ((h.col_ne p).mp z)
    rw [if_pos this, List.getElem?_eq_none (by simp; omega)]; rfl
theorem turnedP_get (R : List (List Int)) (p : Nat) : (turnedP R)[p]? = if p < width R then some (column R p) else none := by
  unfold turnedP
  rw [List.getElem?_map]
  by_cases hp : p < width R
  · rw [if_pos hp, List.getElem?_range hp]; rfl
  · rw [if_neg hp, List.getElem?_eq_none (by simp; omega)]; rfl
theorem column_len (R : List (List Int)) (p : Nat) : (column R p).length = R.countP (fun r => decide (p < r.length)) := by
  unfold column; rw [List.length_map, List.countP_eq_length_filter]
theorem Stairs.dec : ∀ {R : List (List Int)}, Stairs R → Dec R
  | _, .nil => .nil
  | _, .one _ _ => List.pairwise_singleton _ _
  | _, .cons (r := r) (s := s) (rs := rs) _ _ hb t => by
    have ih := t.dec
    refine List.pairwise_cons.mpr ⟨fun u hu => ?_, ih⟩
    rcases List.mem_cons.mp hu with rfl | hu
    · exact hb.1
    · exact Nat.le_trans ((List.pairwise_cons.mp ih).1 u hu) hb.1
end RS

namespace RS
/-! ### what the laws draw -/
def drawnZ (ns : List Int) (k many : Int) : Int :=
  ((if ns.length = 0 then 7 else ns.getD (k % (ns.length : Int)).toNat 0) * (48271 + 9973 * (k % 97)) + (k + 1) * (k + 3) * 16807 + (ns.length : Int)) % 2147483647 / 16 % many
theorem drawn_lo (ns : List Int) (k : Int) {m : Int} (h : 0 < m) : 0 ≤ drawnZ ns k m := Int.emod_nonneg _ (by omega)
theorem drawn_hi (ns : List Int) (k : Int) {m : Int} (h : 0 < m) : drawnZ ns k m < m := Int.emod_lt_of_pos _ h
def insAt {α : Type} (i : Nat) (x : α) (l : List α) : List α := l.take i ++ x :: l.drop i
theorem insAt_perm {α : Type} (i : Nat) (x : α) (l : List α) : (insAt i x l).Perm (x :: l) := by
  unfold insAt
  refine List.perm_middle.trans (List.Perm.cons x ?_)
  rw [List.take_append_drop]
/-- the order, after k numbers -/
def ordZ (ns : List Int) : Nat → List Int
  | 0 => []
  | k + 1 => insAt (drawnZ ns (10 + 2 * (k : Int)) ((k : Int) + 1)).toNat (k : Int) (ordZ ns k)
/-- the number, after k steps -/
def numZ (ns : List Int) (n0 g : Int) : Nat → Int
  | 0 => n0
  | k + 1 => numZ ns n0 g k + 1 + drawnZ ns (11 + 2 * (k : Int)) 3 * g
def numsZ (ns : List Int) (n0 g : Int) (k : Nat) : List Int := (List.range k).map fun i => numZ ns n0 g (i + 1)
def manyZ (ns : List Int) (bound : Int) : Int := if drawnZ ns 1 4 = 1 then drawnZ ns 2 (bound + 1) else drawnZ ns 0 (if bound + 1 < 9 then bound + 1 else 9)
def greatZ (ns : List Int) : Int := if drawnZ ns 4 3 = 2 then 10 ^ 27 else 1
def rowZ (ns : List Int) (bound : Int) : List Int :=
  (ordZ ns (manyZ ns bound).toNat).map fun k => (numsZ ns (drawnZ ns 3 2001 - 1000) (greatZ ns) (manyZ ns bound).toNat).getD k.toNat 0
/-! ### sizes -/
theorem lay_at : ∀ (rs : List (List Int)) (n : Int), (layL rs n).2 ≤ rs.length ∧ (layL rs n).1.length = if (layL rs n).2 = rs.length then rs.length + 1 else rs.length
  | [], n => by simp [layL]
  | r :: rs, n => by
    rw [layL]
    split
    · simp
    · have ih := lay_at rs ((gt r n).headD 0)
      refine ⟨?_, ?_⟩
      · exact Nat.succ_le_succ ih.1
      · show (_ :: _).length = if _ + 1 = _ then _ else _
        rw [List.length_cons, ih.2]
        simp only [List.length_cons, Nat.add_right_cancel_iff]
        split <;> rfl
theorem lay_len : ∀ (rs : List (List Int)) (n : Int) (B : Nat), (∀ r ∈ rs, r.length ≤ B) → ∀ r ∈ (layL rs n).1, r.length ≤ B + 1
  | [], n, B, h, r, hr => by simp [layL] at hr; subst hr; simp
  | s :: rs, n, B, h, r, hr => by
    rw [layL] at hr
    have hs := h s List.mem_cons_self
    have ht : ∀ r ∈ rs, r.length ≤ B := fun r hr => h r (List.mem_cons_of_mem _ hr)
    split at hr
    · rcases List.mem_cons.mp hr with rfl | hr
      · simp; exact hs
      · have := ht r hr; omega
    · rcases List.mem_cons.mp hr with rfl | hr
      · simp; omega
      · exact lay_len rs _ B ht r hr
end RS

namespace RS
theorem laidFrom_size : ∀ (r : List Int) (k : Nat) (p : List (List Int) × List (List Int)) (B : Nat), p.1.length = p.2.length → (∀ s ∈ p.1, s.length ≤ B) → (∀ s ∈ p.2, s.length ≤ B) →
    (laidFrom r k p).1.length = (laidFrom r k p).2.length ∧ (laidFrom r k p).1.length ≤ p.1.length + r.length ∧ (∀ s ∈ (laidFrom r k p).1, s.length ≤ B + r.length) ∧ ∀ s ∈ (laidFrom r k p).2, s.length ≤ B + r.length
  | [], k, p, B, h1, h2, h3 => ⟨h1, Nat.le_refl _, fun s hs => h2 s hs, fun s hs => h3 s hs⟩
  | n :: r, k, p, B, h1, h2, h3 => by
    obtain ⟨a1, a2⟩ := lay_at p.1 n
    have a3 := lay_len p.1 n B h2
    have g1 : (layL p.1 n).1.length = (grow p.2 (layL p.1 n).2 ((k : Int) + 1)).length := by
      rw [a2]
      unfold grow
      rw [h1]
      split
      · simp
      · simp
    have g2 : ∀ s ∈ grow p.2 (layL p.1 n).2 ((k : Int) + 1), s.length ≤ B + 1 := by
      intro s hs
      unfold grow at hs
      split at hs
      · rcases List.mem_append.mp hs with hs | hs
        · have := h3 s hs; omega
        · simp at hs; subst hs; simp
      · rcases List.mem_or_eq_of_mem_set hs with hs | rfl
        · have := h3 s hs; omega
        · rw [List.length_append, List.getD_eq_getElem?_getD]
          cases e : p.2[(layL p.1 n).2]? with
          | none => simp
          | some u => have := h3 u (List.mem_of_getElem? e); simp; exact this
    obtain ⟨b1, b2, b3, b4⟩ := laidFrom_size r (k + 1) ((layL p.1 n).1, grow p.2 (layL p.1 n).2 ((k : Int) + 1)) (B + 1) g1 a3 g2
    refine ⟨b1, ?_, fun s hs => ?_, fun s hs => ?_⟩
    · have : (layL p.1 n).1.length ≤ p.1.length + 1 := by rw [a2]; split <;> omega
      show (laidFrom r (k + 1) _).1.length ≤ _
      simp only [List.length_cons]
      simp only at b2
      omega
    · have := b3 s hs; simp only [List.length_cons]; omega
    · have := b4 s hs; simp only [List.length_cons]; omega
theorem laid_size (row : List Int) : (laidL row).1.length = (laidL row).2.length ∧ (laidL row).1.length ≤ row.length ∧ (∀ s ∈ (laidL row).1, s.length ≤ row.length) ∧ ∀ s ∈ (laidL row).2, s.length ≤ row.length := by
  have := laidFrom_size row 0 ([], []) 0 rfl (by simp) (by simp)
  simpa [laidL] using this
end RS

namespace RS
/-! ### the program's own laying of a row -/
def laidPFrom : List Int → Nat → List (List Int) × List (List Int) → List (List Int) × List (List Int)
  | [], _, p => p
  | n :: r, k, p => laidPFrom r (k + 1) ((layP p.1 n).1, grow p.2 (layP p.1 n).2 ((k : Int) + 1))
def laidP (row : List Int) : List (List Int) × List (List Int) := laidPFrom row 0 ([], [])
theorem laidP_sameFrom : ∀ (row : List Int) (k : Nat) (p : List (List Int) × List (List Int)), Stairs p.1 → (p.1.flatten ++ row).Nodup → laidPFrom row k p = laidFrom row k p
  | [], k, p, _, _ => rfl
  | n :: r, k, p, h, nd => by
    have nd' := nd
    rw [List.nodup_append] at nd'
    have hn : n ∉ p.1.flatten := fun z => nd'.2.2 n z n List.mem_cons_self rfl
    have e := lay_same p.1 n h.rise hn nd'.1
    have hp := lay_perm p.1 n h.rise hn nd'.1
    have pm : ((layL p.1 n).1.flatten ++ r).Perm (p.1.flatten ++ n :: r) := (List.Perm.append_right r hp).trans (by
      show (n :: p.1.flatten ++ r).Perm _
      exact List.perm_middle.symm)
    show laidPFrom r (k + 1) _ = laidFrom r (k + 1) _
    rw [e]
    exact laidP_sameFrom r (k + 1) _ (lay_stairs h hn nd'.1) (pm.nodup_iff.mpr nd)
theorem laidP_same {row : List Int} (nd : row.Nodup) : laidP row = laidL row := laidP_sameFrom row 0 ([], []) .nil (by simpa using nd)
theorem layP_at : ∀ (rs : List (List Int)) (n : Int), (layP rs n).2 ≤ rs.length ∧ (layP rs n).1.length = if (layP rs n).2 = rs.length then rs.length + 1 else rs.length
  | [], n => by simp [layP]
  | r :: rs, n => by
    rw [layP]
    split
    · simp
    · have ih := layP_at rs (r.getD (lt r n).length 0)
      refine ⟨?_, ?_⟩
      · exact Nat.succ_le_succ ih.1
      · show (_ :: _).length = if _ + 1 = _ then _ else _
        rw [List.length_cons, ih.2]
        simp only [List.length_cons, Nat.add_right_cancel_iff]
        split <;> rfl
theorem layP_len : ∀ (rs : List (List Int)) (n : Int) (B : Nat), (∀ r ∈ rs, r.length ≤ B) → ∀ r ∈ (layP rs n).1, r.length ≤ B + 1
  | [], n, B, h, r, hr => by simp [layP] at hr; subst hr; simp
  | s :: rs, n, B, h, r, hr => by
    rw [layP] at hr
    have hs := h s List.mem_cons_self
    have ht : ∀ r ∈ rs, r.length ≤ B := fun r hr => h r (List.mem_cons_of_mem _ hr)
    split at hr
    · rcases List.mem_cons.mp hr with rfl | hr
      · simp; exact hs
      · have := ht r hr; omega
    · rcases List.mem_cons.mp hr with rfl | hr
      · have : (lt s n).length ≤ s.length := List.length_filter_le _ _
        simp; omega
      · exact layP_len rs _ B ht r hr
theorem laidPFrom_snoc : ∀ (r : List Int) (n : Int) (k : Nat) (p : List (List Int) × List (List Int)),
    laidPFrom (r ++ [n]) k p = ((layP (laidPFrom r k p).1 n).1, grow (laidPFrom r k p).2 (layP (laidPFrom r k p).1 n).2 ((k + r.length : Nat) + 1))
  | [], n, k, p => by simp [laidPFrom]
  | m :: r, n, k, p => by
    show laidPFrom (r ++ [n]) (k + 1) _ = _
    rw [laidPFrom_snoc r n (k + 1)]
    have e : k + 1 + r.length = k + (m :: r).length := by simp; omega
    rw [e]
    rfl
theorem laidPFrom_size : ∀ (r : List Int) (k : Nat) (p : List (List Int) × List (List Int)) (B : Nat), p.1.length = p.2.length → (∀ s ∈ p.1, s.length ≤ B) → (∀ s ∈ p.2, s.length ≤ B) →
    (laidPFrom r k p).1.length = (laidPFrom r k p).2.length ∧ (laidPFrom r k p).1.length ≤ p.1.length + r.length ∧ (∀ s ∈ (laidPFrom r k p).1, s.length ≤ B + r.length) ∧ ∀ s ∈ (laidPFrom r k p).2, s.length ≤ B + r.length
  | [], k, p, B, h1, h2, h3 => ⟨h1, Nat.le_refl _, fun s hs => h2 s hs, fun s hs => h3 s hs⟩
  | n :: r, k, p, B, h1, h2, h3 => by
    obtain ⟨a1, a2⟩ := layP_at p.1 n
    have a3 := layP_len p.1 n B h2
    have g1 : (layP p.1 n).1.length = (grow p.2 (layP p.1 n).2 ((k : Int) + 1)).length := by
      rw [a2]
      unfold grow
      rw [h1]
      split
      · simp
      · simp
    have g2 : ∀ s ∈ grow p.2 (layP p.1 n).2 ((k : Int) + 1), s.length ≤ B + 1 := by
      intro s hs
      unfold grow at hs
      split at hs
      · rcases List.mem_append.mp hs with hs | hs
        · have := h3 s hs; omega
        · simp at hs; subst hs; simp
      · rcases List.mem_or_eq_of_mem_set hs with hs | rfl
        · have := h3 s hs; omega
        · rw [List.length_append, List.getD_eq_getElem?_getD]
          cases e : p.2[(layP p.1 n).2]? with
          | none => simp
          | some u => have := h3 u (List.mem_of_getElem? e); simp; exact this
    obtain ⟨b1, b2, b3, b4⟩ := laidPFrom_size r (k + 1) ((layP p.1 n).1, grow p.2 (layP p.1 n).2 ((k : Int) + 1)) (B + 1) g1 a3 g2
    refine ⟨b1, ?_, fun s hs => ?_, fun s hs => ?_⟩
    · have : (layP p.1 n).1.length ≤ p.1.length + 1 := by rw [a2]; split <;> omega
      show (laidPFrom r (k + 1) _).1.length ≤ _
      simp only [List.length_cons]
      simp only at b2
      omega
    · have := b3 s hs; simp only [List.length_cons]; omega
    · have := b4 s hs; simp only [List.length_cons]; omega
theorem laidP_size (row : List Int) : (laidP row).1.length = (laidP row).2.length ∧ (laidP row).1.length ≤ row.length ∧ (∀ s ∈ (laidP row).1, s.length ≤ row.length) ∧ ∀ s ∈ (laidP row).2, s.length ≤ row.length := by
  have := laidPFrom_size row 0 ([], []) 0 rfl (by simp) (by simp)
  simpa [laidP] using this
theorem laidP_snoc (r : List Int) (n : Int) : laidP (r ++ [n]) = ((layP (laidP r).1 n).1, grow (laidP r).2 (layP (laidP r).1 n).2 ((r.length : Int) + 1)) := by
  have := laidPFrom_snoc r n 0 ([], [])
  simpa [laidP] using this
end RS

namespace RS
/-! ## exchanges as plain functions -/
def atZ (row : List Int) (i : Nat) : Int := row.getD i 0
def lowX (row : List Int) (i : Nat) : Int := if atZ row (i + 1) < atZ row i then atZ row (i + 1) else atZ row i
def highX (row : List Int) (i : Nat) : Int := if atZ row i < atZ row (i + 1) then atZ row (i + 1) else atZ row i
def betwX (row : List Int) (i : Nat) (z : Int) : Bool := decide (lowX row i < z) && decide (z < highX row i)
def mayX (row : List Int) (i : Nat) : Bool := (decide (1 ≤ i) && betwX row i (atZ row (i - 1))) || (decide (i + 2 < row.length) && betwX row i (atZ row (i + 2)))
def exX (row : List Int) (i : Nat) : List Int := row.take i ++ [atZ row (i + 1), atZ row i] ++ row.drop (i + 2)
def nextX (row : List Int) : List (List Int) := ((List.range (row.length - 1)).filter (mayX row)).map (exX row)
theorem atZ_get {row : List Int} {i : Nat} (h : i < row.length) : row[i]? = some (atZ row i) := by
  unfold atZ
  rw [List.getD_eq_getElem?_getD, List.getElem?_eq_getElem h]; rfl
end RS

namespace RS
/-! ## laying a word; exchanges keep what comes -/
def lay1 : List (List Int) → Int → List (List Int)
  | [], n => [[n]]
  | r :: rs, n => match gt r n with | [] => ins r n :: rs | x :: _ => ins r n :: lay1 rs x
def layW (R : List (List Int)) (w : List Int) : List (List Int) := w.foldl lay1 R
def bmp (r : List Int) (n : Int) : List Int := (gt r n).take 1
def bmpW (r : List Int) : List Int → List Int × List Int
  | [] => (r, [])
  | n :: w => ((bmpW (ins r n) w).1, bmp r n ++ (bmpW (ins r n) w).2)
theorem layW_snoc (R : List (List Int)) (n : Int) (w : List Int) : layW R (n :: w) = layW (lay1 R n) w := rfl
theorem layW_app (R : List (List Int)) (u v : List Int) : layW R (u ++ v) = layW (layW R u) v := by unfold layW; rw [List.foldl_append]
theorem layW_cons : ∀ (w : List Int) (r : List Int) (rs : List (List Int)), layW (r :: rs) w = (bmpW r w).1 :: layW rs (bmpW r w).2
  | [], r, rs => rfl
  | n :: w, r, rs => by
    rw [layW_snoc, lay1, bmpW]
    unfold bmp
    cases hg : gt r n with
    | nil => simp only; rw [layW_cons w]; rfl
    | cons x g => simp only; rw [layW_cons w]; rfl
theorem split_lt {L G : List Int} {n : Int} (hL : ∀ a ∈ L, a < n) (hG : ∀ a ∈ G, n < a) : lt (L ++ G) n = L := by
  unfold lt
  rw [List.filter_append, List.filter_eq_self.mpr (fun a h => by simpa using hL a h), List.filter_eq_nil_iff.mpr (fun a h => by have := hG a h; simp; omega), List.append_nil]
theorem split_gt {L G : List Int} {n : Int} (hL : ∀ a ∈ L, a < n) (hG : ∀ a ∈ G, n < a) : gt (L ++ G) n = G := by
  unfold gt
  have e1 : L.filter (fun o => decide (n < o)) = [] := List.filter_eq_nil_iff.mpr (fun a h => by have := hL a h; simp; omega)
  have e2 : G.filter (fun o => decide (n < o)) = G := List.filter_eq_self.mpr (fun a h => by simpa using hG a h)
  rw [List.filter_append, e1, e2, List.nil_append]
theorem bmpW_at {L G : List Int} {n : Int} (w : List Int) (hL : ∀ a ∈ L, a < n) (hG : ∀ a ∈ G, n < a) : bmpW (L ++ G) (n :: w) = ((bmpW (L ++ n :: G.tail) w).1, G.take 1 ++ (bmpW (L ++ n :: G.tail) w).2) := by
  rw [bmpW]
  unfold bmp ins
  rw [split_lt hL hG, split_gt hL hG]
inductive Kn : List Int → List Int → Prop
  | k1 {x y z : Int} : x < y → y < z → Kn [y, x, z] [y, z, x]
  | k2 {x y z : Int} : x < y → y < z → Kn [x, z, y] [z, x, y]
def KR (u v : List Int) : Prop := u = v ∨ Kn u v ∨ Kn v u
theorem rise_app {L G : List Int} (h : Rise (L ++ G)) : Rise L ∧ Rise G ∧ ∀ a ∈ L, ∀ b ∈ G, a < b := List.pairwise_append.mp h
/-- two parts of a rising row by a number that is not in it -/
theorem part2 {r : List Int} (h : Rise r) {n : Int} (hn : n ∉ r) : ∃ L G, r = L ++ G ∧ (∀ a ∈ L, a < n) ∧ ∀ a ∈ G, n < a :=
  ⟨lt r n, gt r n, rise_gt h n hn, fun _ ha => (mem_lt ha).2, fun _ ha => (mem_gt ha).2⟩
theorem row_k1 {r : List Int} {x y z : Int} (h : Rise r) (hx : x ∉ r) (hy : y ∉ r) (hz : z ∉ r) (xy : x < y) (yz : y < z) : (bmpW r [y, x, z]).1 = (bmpW r [y, z, x]).1 ∧ KR (bmpW r [y, x, z]).2 (bmpW r [y, z, x]).2 := by
  obtain ⟨L, G, rfl, hL, hG⟩ := part2 h hy
  obtain ⟨hRL, hRG, hLG⟩ := rise_app h
  obtain ⟨A, B, rfl, hA, hB⟩ := part2 hRL (n := x) (fun z => hx (List.mem_append_left _ z))
  have hRt : Rise G.tail := hRG.sublist (List.tail_sublist _)
  obtain ⟨E1, E2, eE, hE1, hE2⟩ := part2 hRt (n := z) (fun q => hz (List.mem_append_right _ (List.mem_of_mem_tail q)))
  have hT : ∀ a ∈ E1 ++ E2, y < a := fun a ha => hG a (List.mem_of_mem_tail (eE ▸ ha))
  rw [bmpW_at _ hL hG, bmpW_at _ hL hG, eE]
  have hBy : ∀ a ∈ A ++ B, a < z := fun a ha => by have := hL a ha; omega
  have c1 : ∀ a ∈ A ++ B ++ y :: E1, a < z := fun a ha => by
    rcases List.mem_append.mp ha with ha | ha
    · exact hBy a ha
    · rcases List.mem_cons.mp ha with rfl | ha
      · exact yz
      · exact hE1 a ha
  have e1 : A ++ B ++ y :: (E1 ++ E2) = (A ++ B ++ y :: E1) ++ E2 := by simp
  have e2 : A ++ B ++ y :: (E1 ++ E2) = A ++ (B ++ y :: (E1 ++ E2)) := by simp
  have c2 : ∀ a ∈ B ++ y :: (E1 ++ E2), x < a := fun a ha => by
    rcases List.mem_append.mp ha with ha | ha
    · exact hB a ha
    · rcases List.mem_cons.mp ha with rfl | ha
      · exact xy
      · have := hT a ha; omega
  have c3 : ∀ a ∈ B ++ y :: (E1 ++ z :: E2.tail), x < a := fun a ha => by
    rcases List.mem_append.mp ha with ha | ha
    · exact hB a ha
    · rcases List.mem_cons.mp ha with rfl | ha
      · exact xy
      · rcases List.mem_append.mp ha with ha | ha
        · have := hT a (List.mem_append_left _ ha); omega
        · rcases List.mem_cons.mp ha with rfl | ha
          · omega
          · have := hT a (List.mem_append_right _ (List.mem_of_mem_tail ha)); omega
  rw [show bmpW (A ++ B ++ y :: (E1 ++ E2)) [x, z] = bmpW (A ++ (B ++ y :: (E1 ++ E2))) [x, z] by rw [e2], bmpW_at _ hA c2]
  rw [show bmpW (A ++ B ++ y :: (E1 ++ E2)) [z, x] = bmpW ((A ++ B ++ y :: E1) ++ E2) [z, x] by rw [e1], bmpW_at _ c1 hE2]
  rw [show A ++ B ++ y :: E1 ++ z :: E2.tail = A ++ (B ++ y :: (E1 ++ z :: E2.tail)) by simp, bmpW_at _ hA c3]
  have fin : ∀ hd : Int, hd ≤ y → KR (G.take 1 ++ ([hd] ++ E2.take 1)) (G.take 1 ++ (E2.take 1 ++ [hd])) := fun hd hh => by
    cases E2 with
    | nil => exact .inl (by simp)
    | cons e E2 =>
      cases G with
      | nil => simp at eE
      | cons g G =>
        refine .inr (.inl ?_)
        have g1 := hG g List.mem_cons_self
        have g2 : g < e := (List.pairwise_cons.mp hRG).1 e (by simp at eE; rw [eE]; simp)
        exact Kn.k1 (by omega) g2
  cases B with
  | nil =>
    have e3 : A ++ x :: ([] ++ y :: (E1 ++ E2)).tail = (A ++ x :: E1) ++ E2 := by simp
    rw [e3, bmpW_at _ (fun a ha => by
      rcases List.mem_append.mp ha with ha | ha
      · have := hA a ha; omega
      · rcases List.mem_cons.mp ha with rfl | ha
        · omega
        · exact hE1 a ha) hE2]
    exact ⟨by simp [bmpW], by simpa [bmpW] using fin y (by omega)⟩
  | cons b B =>
    have e3 : A ++ x :: (b :: B ++ y :: (E1 ++ E2)).tail = (A ++ x :: (B ++ y :: E1)) ++ E2 := by simp
    have hbB : ∀ a ∈ b :: B, a < y := fun a ha => hL a (List.mem_append_right _ ha)
    rw [e3, bmpW_at _ (fun a ha => by
      rcases List.mem_append.mp ha with ha | ha
      · have := hA a ha; omega
      · rcases List.mem_cons.mp ha with rfl | ha
        · omega
        · rcases List.mem_append.mp ha with ha | ha
          · have := hbB a (List.mem_cons_of_mem _ ha); omega
          · rcases List.mem_cons.mp ha with rfl | ha
            · exact yz
            · exact hE1 a ha) hE2]
    have := hbB b List.mem_cons_self
    exact ⟨by simp [bmpW], by simpa [bmpW] using fin b (by omega)⟩
theorem row_k2 {r : List Int} {x y z : Int} (h : Rise r) (hx : x ∉ r) (hy : y ∉ r) (hz : z ∉ r) (xy : x < y) (yz : y < z) : (bmpW r [x, z, y]).1 = (bmpW r [z, x, y]).1 ∧ KR (bmpW r [x, z, y]).2 (bmpW r [z, x, y]).2 := by
  obtain ⟨A, G, rfl, hA, hG⟩ := part2 h hx
  obtain ⟨hRA, hRG, hAG⟩ := rise_app h
  have hAy : ∀ a ∈ A, a < y := fun a ha => by have := hA a ha; omega
  have hAz : ∀ a ∈ A, a < z := fun a ha => by have := hA a ha; omega
  have hAx : ∀ a ∈ A ++ [x], a < y := fun a ha => by
    rcases List.mem_append.mp ha with ha | ha
    · exact hAy a ha
    · have : a = x := by simpa using ha
      omega
  have hAxz : ∀ a ∈ A ++ [x], a < z := fun a ha => by have := hAx a ha; omega
  cases G with
  | nil =>
    have n0 : ∀ (P : Int → Prop), ∀ a ∈ ([] : List Int), P a := fun P a ha => nomatch ha
    rw [bmpW_at _ hA (n0 _), bmpW_at _ hAz (n0 _)]
    rw [show A ++ x :: ([] : List Int).tail = (A ++ [x]) ++ [] by simp, bmpW_at _ hAxz (n0 _)]
    rw [show A ++ [x] ++ z :: ([] : List Int).tail = (A ++ [x]) ++ [z] by simp, bmpW_at _ hAx (by simpa using yz)]
    rw [show A ++ z :: ([] : List Int).tail = A ++ [z] by simp, bmpW_at _ hA (by simp; omega)]
    rw [show A ++ x :: ([z] : List Int).tail = (A ++ [x]) ++ [] by simp, bmpW_at _ hAx (n0 _)]
    exact ⟨by simp [bmpW], .inl (by simp [bmpW])⟩
  | cons g E =>
    obtain ⟨hgE, hRE⟩ := List.pairwise_cons.mp hRG
    have hxg := hG g List.mem_cons_self
    have gz : g ≠ z := fun q => hz (by simp [← q])
    have gy : g ≠ y := fun q => hy (by simp [← q])
    by_cases hgz : g < z
    · obtain ⟨F, E2, rfl, hF, hE2⟩ := part2 hRE (n := z) (fun q => hz (by simp [q]))
      obtain ⟨hRF, _, hFE⟩ := rise_app hRE
      obtain ⟨E0, E1, rfl, hE0, hE1⟩ := part2 hRF (n := y) (fun q => hy (by simp [q]))
      have hE1z : ∀ a ∈ E1, a < z := fun a ha => hF a (List.mem_append_right _ ha)
      have gE1 : ∀ a ∈ E1, g < a := fun a ha => hgE a (by simp [ha])
      have gE2 : ∀ a ∈ E2, g < a := fun a ha => hgE a (by simp [ha])
      have hxF : ∀ a ∈ E0 ++ E1, x < a := fun a ha => hG a (by simp at ha ⊢; rcases ha with h | h <;> simp [h])
      have q1 : ∀ a ∈ A ++ x :: (E0 ++ E1), a < z := fun a ha => by
        rcases List.mem_append.mp ha with ha | ha
        · exact hAz a ha
        · rcases List.mem_cons.mp ha with rfl | ha
          · omega
          · exact hF a ha
      have q2 : ∀ a ∈ A ++ g :: (E0 ++ E1), a < z := fun a ha => by
        rcases List.mem_append.mp ha with ha | ha
        · exact hAz a ha
        · rcases List.mem_cons.mp ha with rfl | ha
          · omega
          · exact hF a ha
      have q3 : ∀ a ∈ g :: (E0 ++ E1 ++ z :: E2.tail), x < a := fun a ha => by
        rcases List.mem_cons.mp ha with rfl | ha
        · exact hxg
        · rcases List.mem_append.mp ha with ha | ha
          · exact hxF a ha
          · rcases List.mem_cons.mp ha with rfl | ha
            · omega
            · have := hE2 a (List.mem_of_mem_tail ha); omega
      have q4 : ∀ a ∈ A ++ x :: E0, a < y := fun a ha => by
        rcases List.mem_append.mp ha with ha | ha
        · exact hAy a ha
        · rcases List.mem_cons.mp ha with rfl | ha
          · omega
          · exact hE0 a ha
      have q5 : ∀ a ∈ E1 ++ z :: E2.tail, y < a := fun a ha => by
        rcases List.mem_append.mp ha with ha | ha
        · exact hE1 a ha
        · rcases List.mem_cons.mp ha with rfl | ha
          · omega
          · have := hE2 a (List.mem_of_mem_tail ha); omega
      rw [bmpW_at _ hA hG, show A ++ x :: (g :: (E0 ++ E1 ++ E2)).tail = (A ++ x :: (E0 ++ E1)) ++ E2 by simp, bmpW_at _ q1 hE2]
      rw [show A ++ x :: (E0 ++ E1) ++ z :: E2.tail = (A ++ x :: E0) ++ (E1 ++ z :: E2.tail) by simp, bmpW_at _ q4 q5]
      rw [show A ++ g :: (E0 ++ E1 ++ E2) = (A ++ g :: (E0 ++ E1)) ++ E2 by simp, bmpW_at _ q2 hE2]
      rw [show A ++ g :: (E0 ++ E1) ++ z :: E2.tail = A ++ (g :: (E0 ++ E1 ++ z :: E2.tail)) by simp, bmpW_at _ hA q3]
      rw [show A ++ x :: (g :: (E0 ++ E1 ++ z :: E2.tail)).tail = (A ++ x :: E0) ++ (E1 ++ z :: E2.tail) by simp, bmpW_at _ q4 q5]
      refine ⟨by simp [bmpW], ?_⟩
      have fin : ∀ hd : Int, g < hd → hd ≤ z → KR ([g] ++ (E2.take 1 ++ [hd])) (E2.take 1 ++ ([g] ++ [hd])) := fun hd h1 h2 => by
        cases E2 with
        | nil => exact .inl (by simp)
        | cons e E2 =>
          have := hE2 e List.mem_cons_self
          exact .inr (.inl (Kn.k2 h1 (by omega)))
      cases E1 with
      | nil => simpa [bmpW] using fin z hgz (by omega)
      | cons e1 E1 =>
        have h1 := gE1 e1 List.mem_cons_self
        have h2 := hE1z e1 List.mem_cons_self
        simpa [bmpW] using fin e1 h1 (by omega)
    · have hzg : z < g := by omega
      have zE : ∀ a ∈ E, z < a := fun a ha => by have := hgE a ha; omega
      have zG : ∀ a ∈ g :: E, z < a := fun a ha => by
        rcases List.mem_cons.mp ha with rfl | ha
        · exact hzg
        · exact zE a ha
      have q1 : ∀ a ∈ z :: E, x < a := fun a ha => by
        rcases List.mem_cons.mp ha with rfl | ha
        · omega
        · have := zE a ha; omega
      have q2 : ∀ a ∈ z :: E.tail, y < a := fun a ha => by
        rcases List.mem_cons.mp ha with rfl | ha
        · omega
        · have := zE a (List.mem_of_mem_tail ha); omega
      have q3 : ∀ a ∈ E, y < a := fun a ha => by have := zE a ha; omega
      rw [bmpW_at _ hA hG, show A ++ x :: (g :: E).tail = (A ++ [x]) ++ E by simp, bmpW_at _ hAxz zE]
      rw [bmpW_at _ hAx q2]
      rw [bmpW_at _ hAz zG, show A ++ z :: (g :: E).tail = A ++ (z :: E) by simp, bmpW_at _ hA q1]
      rw [show A ++ x :: (z :: E).tail = (A ++ [x]) ++ E by simp, bmpW_at _ hAx q3]
      refine ⟨by simp [bmpW], ?_⟩
      cases E with
      | nil => exact .inl (by simp [bmpW])
      | cons e E =>
        have := hgE e List.mem_cons_self
        exact .inr (.inr (by simpa [bmpW] using Kn.k1 hzg this))
theorem ins_sub {r : List Int} {n a : Int} (h : a ∈ ins r n) : a ∈ r ∨ a = n := by
  unfold ins at h
  rcases List.mem_append.mp h with h | h
  · exact .inl (mem_lt h).1
  · rcases List.mem_cons.mp h with h | h
    · exact .inr h
    · exact .inl (mem_gt (List.mem_of_mem_tail h)).1
theorem bmpW_sub : ∀ {w r : List Int} {a : Int}, a ∈ (bmpW r w).2 → a ∈ r ∨ a ∈ w
  | [], r, a, h => by simp [bmpW] at h
  | n :: w, r, a, h => by
    rw [bmpW] at h
    rcases List.mem_append.mp h with h | h
    · exact .inl (mem_gt (List.mem_of_mem_take h)).1
    · rcases bmpW_sub h with h | h
      · rcases ins_sub h with h | h
        · exact .inl h
        · exact .inr (by simp [h])
      · exact .inr (List.mem_cons_of_mem _ h)
/-- an exchange of three numbers keeps what comes, laid into any rising rows -/
theorem kn_rows : ∀ {rs : List (List Int)} {u v : List Int}, Kn u v → (∀ r ∈ rs, Rise r) → rs.flatten.Nodup → (∀ a ∈ u, a ∉ rs.flatten) → (∀ a ∈ v, a ∉ rs.flatten) → layW rs u = layW rs v
  | [], u, v, k, _, _, _, _ => by
    cases k with
    | @k1 x y z xy yz =>
      simp [layW, lay1, ins, gt, lt, xy, yz, show ¬ y < x by omega, show ¬ z < y by omega, show ¬ z < x by omega, show x < z by omega]
    | @k2 x y z xy yz =>
      simp [layW, lay1, ins, gt, lt, xy, yz, show ¬ y < x by omega, show ¬ z < y by omega, show ¬ z < x by omega, show x < z by omega]
  | r :: rs, u, v, k, hr, nd, hu, hv => by
    rw [layW_cons, layW_cons]
    have hR := hr r List.mem_cons_self
    rw [List.flatten_cons] at nd hu hv
    obtain ⟨nd1, nd2, nd3⟩ := List.nodup_append.mp nd
    have row : (bmpW r u).1 = (bmpW r v).1 ∧ KR (bmpW r u).2 (bmpW r v).2 := by
      cases k with
      | @k1 x y z xy yz => exact row_k1 hR (fun q => hu x (by simp) (List.mem_append_left _ q)) (fun q => hu y (by simp) (List.mem_append_left _ q)) (fun q => hu z (by simp) (List.mem_append_left _ q)) xy yz
      | @k2 x y z xy yz => exact row_k2 hR (fun q => hu x (by simp) (List.mem_append_left _ q)) (fun q => hu y (by simp) (List.mem_append_left _ q)) (fun q => hu z (by simp) (List.mem_append_left _ q)) xy yz
    have out : ∀ {w : List Int}, (∀ a ∈ w, a ∉ r ++ rs.flatten) → ∀ a ∈ (bmpW r w).2, a ∉ rs.flatten := fun hw a ha hm => by
      rcases bmpW_sub ha with h | h
      · exact nd3 a h a hm rfl
      · exact hw a h (List.mem_append_right _ hm)
    rw [row.1]
    congr 1
    rcases row.2 with e | k' | k'
    · rw [e]
    · exact kn_rows k' (fun s hs => hr s (List.mem_cons_of_mem _ hs)) nd2 (out hu) (out hv)
    · exact (kn_rows k' (fun s hs => hr s (List.mem_cons_of_mem _ hs)) nd2 (out hv) (out hu)).symm
theorem lay1_same {rs : List (List Int)} {n : Int} (hr : ∀ r ∈ rs, Rise r) (hn : n ∉ rs.flatten) (nd : rs.flatten.Nodup) : (layL rs n).1 = lay1 rs n := by
  induction rs generalizing n with
  | nil => rfl
  | cons r rs ih =>
    rw [List.flatten_cons] at nd hn
    obtain ⟨nd1, nd2, nd3⟩ := List.nodup_append.mp nd
    rw [layL_cons (hr r List.mem_cons_self) (fun q => hn (List.mem_append_left _ q)), lay1]
    cases hg : gt r n with
    | nil => rfl
    | cons x g =>
      simp only
      rw [ih (fun s hs => hr s (List.mem_cons_of_mem _ hs)) (fun q => ?_) nd2]
      have : x ∈ r := (mem_gt (show x ∈ gt r n by rw [hg]; simp)).1
      exact nd3 x this x q rfl
theorem laidFrom_layW : ∀ (row : List Int) (k : Nat) (p : List (List Int) × List (List Int)), Stairs p.1 → (p.1.flatten ++ row).Nodup → (laidFrom row k p).1 = layW p.1 row
  | [], k, p, _, _ => rfl
  | n :: row, k, p, st, nd => by
    obtain ⟨n1, n2, n3⟩ := List.nodup_append.mp nd
    have hn : n ∉ p.1.flatten := fun z => n3 n z n (by simp) rfl
    have e := lay1_same st.rise hn n1
    have pm := lay_perm p.1 n st.rise hn n1
    rw [layW_snoc, ← e, laidFrom]
    refine laidFrom_layW row _ _ (lay_stairs st hn n1) ?_
    have : (p.1.flatten ++ n :: row).Perm ((layL p.1 n).1.flatten ++ row) := by
      refine List.perm_middle.trans ?_
      exact (pm.symm.append_right row)
    exact this.nodup_iff.mp nd
theorem laidL_layW {row : List Int} (nd : row.Nodup) : (laidL row).1 = layW [] row := laidFrom_layW row 0 ([], []) .nil (by simpa using nd)
theorem layW_stairs {row : List Int} (nd : row.Nodup) : Stairs (layW [] row) ∧ (layW [] row).flatten.Perm row := by rw [← laidL_layW nd]; exact laidL_stairs nd
theorem Kn.perm {u v : List Int} (k : Kn u v) : u.Perm v := by
  cases k with
  | k1 => exact .cons _ (.swap _ _ _)
  | k2 => exact .swap _ _ _
/-- an exchange anywhere in a row keeps its first stairs -/
theorem kn_same {a u v b : List Int} (nd : (a ++ u ++ b).Nodup) (k : Kn u v) : layW [] (a ++ u ++ b) = layW [] (a ++ v ++ b) := by
  obtain ⟨n1, _, _⟩ := List.nodup_append.mp nd
  obtain ⟨na, nu, d⟩ := List.nodup_append.mp n1
  obtain ⟨st, pm⟩ := layW_stairs na
  rw [layW_app, layW_app, layW_app, layW_app]
  congr 1
  refine kn_rows k st.rise (pm.nodup_iff.mpr na) (fun c hc hm => ?_) (fun c hc hm => ?_)
  · exact d c (pm.mem_iff.mp hm) c hc rfl
  · exact d c (pm.mem_iff.mp hm) c (k.perm.mem_iff.mpr hc) rfl
end RS

namespace RS
/-! ## an exchange, as the program does it, is an exchange of three numbers -/
theorem three {row : List Int} {i : Nat} (h : i + 2 < row.length) : row = row.take i ++ [atZ row i, atZ row (i + 1), atZ row (i + 2)] ++ row.drop (i + 3) := by
  have e0 := atZ_get (show i < row.length by omega)
  have e1 := atZ_get (show i + 1 < row.length by omega)
  have e2 := atZ_get h
  rw [List.getElem?_eq_getElem (by omega)] at e0 e1 e2
  simp only [Option.some.injEq] at e0 e1 e2
  conv => lhs; rw [← List.take_append_drop i row, List.drop_eq_getElem_cons (by omega), List.drop_eq_getElem_cons (by omega : i + 1 < row.length), List.drop_eq_getElem_cons h, e0, e1, e2]
  simp
end RS

namespace RS
/-! ## rows joined by exchanges -/
def KS (v w : List Int) : Prop := ∃ a u u' b, v = a ++ u ++ b ∧ w = a ++ u' ++ b ∧ (Kn u u' ∨ Kn u' u)
inductive KE : List Int → List Int → Prop
  | refl (w : List Int) : KE w w
  | tail {u v w : List Int} : KE u v → KS v w → KE u w
theorem KS.symm {v w : List Int} (h : KS v w) : KS w v := by
  obtain ⟨a, u, u', b, e1, e2, k⟩ := h
  exact ⟨a, u', u, b, e2, e1, k.symm⟩
theorem KE.trans {u v w : List Int} (h : KE u v) (g : KE v w) : KE u w := by
  induction g with
  | refl => exact h
  | tail _ s ih => exact ih.tail s
theorem KE.of {v w : List Int} (h : KS v w) : KE v w := (KE.refl v).tail h
theorem KE.symm {u v : List Int} (h : KE u v) : KE v u := by
  induction h with
  | refl => exact .refl _
  | tail _ s ih => exact (KE.of s.symm).trans ih
theorem KS.ctx {v w : List Int} (h : KS v w) (c d : List Int) : KS (c ++ v ++ d) (c ++ w ++ d) := by
  obtain ⟨a, u, u', b, rfl, rfl, k⟩ := h
  exact ⟨c ++ a, u, u', b ++ d, by simp, by simp, k⟩
theorem KE.ctx {v w : List Int} (h : KE v w) (c d : List Int) : KE (c ++ v ++ d) (c ++ w ++ d) := by
  induction h with
  | refl => exact .refl _
  | tail _ s ih => exact ih.tail (s.ctx c d)
theorem KE.left {v w : List Int} (h : KE v w) (c : List Int) : KE (c ++ v) (c ++ w) := by simpa using h.ctx c []
theorem KE.right {v w : List Int} (h : KE v w) (d : List Int) : KE (v ++ d) (w ++ d) := by simpa using h.ctx [] d
theorem KE.of_kn {u v : List Int} (k : Kn u v) : KE u v := KE.of ⟨[], u, v, [], by simp, by simp, .inl k⟩
theorem KS.perm {v w : List Int} (h : KS v w) : v.Perm w := by
  obtain ⟨a, u, u', b, rfl, rfl, k⟩ := h
  refine List.Perm.append_right _ (List.Perm.append_left _ ?_)
  rcases k with k | k
  · exact k.perm
  · exact k.perm.symm
theorem KE.perm {v w : List Int} (h : KE v w) : v.Perm w := by
  induction h with
  | refl => exact .refl _
  | tail _ s ih => exact ih.trans s.perm
theorem KS.same {v w : List Int} (h : KS v w) (nd : v.Nodup) : layW [] v = layW [] w := by
  have nd' := h.perm.nodup_iff.mp nd
  obtain ⟨a, u, u', b, rfl, rfl, k⟩ := h
  rcases k with k | k
  · exact kn_same nd k
  · exact (kn_same nd' k).symm
theorem KE.same {v w : List Int} (h : KE v w) (nd : v.Nodup) : layW [] v = layW [] w := by
  induction h with
  | refl => rfl
  | tail h s ih => exact ih.trans (s.same (h.perm.nodup_iff.mp nd))
theorem mv1 : ∀ {g : List Int} {b n : Int}, Rise (b :: g) → n < b → KE (b :: g ++ [n]) (b :: n :: g)
  | [], b, n, _, _ => .refl _
  | c :: g, b, n, h, hn => by
    obtain ⟨h1, h2⟩ := List.pairwise_cons.mp h
    have bc := h1 c List.mem_cons_self
    have s1 : KE (b :: (c :: g ++ [n])) (b :: (c :: n :: g)) := by simpa using (mv1 h2 (by omega : n < c)).left [b]
    refine s1.trans ?_
    have k := (KE.of_kn (Kn.k1 hn bc)).symm
    simpa using k.right g
theorem mv2 : ∀ {L : List Int} {x n : Int}, Rise L → (∀ a ∈ L, a < n) → n < x → KE (L ++ [x, n]) (x :: L ++ [n])
  | [], x, n, _, _, _ => .refl _
  | l :: L, x, n, h, hl, hx => by
    obtain ⟨h1, h2⟩ := List.pairwise_cons.mp h
    have s1 : KE (l :: (L ++ [x, n])) (l :: (x :: L ++ [n])) := by simpa using (mv2 h2 (fun a ha => hl a (List.mem_cons_of_mem _ ha)) hx).left [l]
    refine s1.trans ?_
    have ln := hl l List.mem_cons_self
    cases L with
    | nil => simpa using KE.of_kn (Kn.k2 ln hx)
    | cons c L =>
      have lc := h1 c List.mem_cons_self
      have cn := hl c (by simp)
      have := (KE.of_kn (Kn.k2 lc (by omega : c < x))).right (L ++ [n])
      simpa using this
/-- a number laid into one row -/
theorem row_joined {r : List Int} {n : Int} (h : Rise r) (hn : n ∉ r) : KE (r ++ [n]) (bmp r n ++ ins r n) := by
  have e := rise_gt h n hn
  unfold bmp ins
  have hL : ∀ a ∈ lt r n, a < n := fun a ha => (mem_lt ha).2
  have hG : ∀ a ∈ gt r n, n < a := fun a ha => (mem_gt ha).2
  rw [e] at h
  obtain ⟨r1, r2, r3⟩ := rise_app h
  conv => lhs; rw [e]
  generalize lt r n = L at *
  generalize gt r n = G at *
  cases G with
  | nil => simpa using KE.refl _
  | cons x g =>
    have hx := hG x List.mem_cons_self
    have s1 : KE (L ++ (x :: g ++ [n])) (L ++ (x :: n :: g)) := (mv1 r2 hx).left L
    have s2 := (mv2 r1 hL hx).right g
    simpa using s1.trans (by simpa using s2)
theorem lay_joined : ∀ {R : List (List Int)} {n : Int}, (∀ r ∈ R, Rise r) → n ∉ R.flatten → R.flatten.Nodup → KE (readL R ++ [n]) (readL (lay1 R n))
  | [], n, _, _, _ => by simpa [readL, lay1] using KE.refl _
  | r :: R, n, hr, hn, nd => by
    rw [List.flatten_cons] at hn nd
    obtain ⟨n1, n2, n3⟩ := List.nodup_append.mp nd
    have e1 : readL (r :: R) = readL R ++ r := by simp [readL]
    have s1 := (row_joined (hr r List.mem_cons_self) (fun z => hn (List.mem_append_left _ z))).left (readL R)
    rw [e1, List.append_assoc, lay1]
    refine s1.trans ?_
    unfold bmp
    cases hg : gt r n with
    | nil => simpa [readL] using KE.refl _
    | cons x g =>
      have hx : x ∈ r := (mem_gt (show x ∈ gt r n by rw [hg]; simp)).1
      have := (lay_joined (R := R) (n := x) (fun s hs => hr s (List.mem_cons_of_mem _ hs)) (fun z => n3 x hx x z rfl) n2).right (ins r n)
      simpa [readL] using this
theorem lay1_stairs {R : List (List Int)} {n : Int} (st : Stairs R) (hn : n ∉ R.flatten) (nd : R.flatten.Nodup) : Stairs (lay1 R n) ∧ (lay1 R n).flatten.Perm (n :: R.flatten) := by
  rw [← lay1_same st.rise hn nd]
  exact ⟨lay_stairs st hn nd, lay_perm R n st.rise hn nd⟩
theorem word_joinedFrom : ∀ (w : List Int) (R : List (List Int)), Stairs R → (R.flatten ++ w).Nodup → KE (readL R ++ w) (readL (layW R w))
  | [], R, _, _ => by simpa [layW] using KE.refl _
  | n :: w, R, st, nd => by
    obtain ⟨n1, n2, n3⟩ := List.nodup_append.mp nd
    have hn : n ∉ R.flatten := fun z => n3 n z n (by simp) rfl
    obtain ⟨st', pm⟩ := lay1_stairs st hn n1
    have s1 := (lay_joined st.rise hn n1).right w
    have nd' : ((lay1 R n).flatten ++ w).Nodup := by
      have : (R.flatten ++ n :: w).Perm ((lay1 R n).flatten ++ w) := List.perm_middle.trans (pm.symm.append_right w)
      exact this.nodup_iff.mp nd
    have s2 := word_joinedFrom w (lay1 R n) st' nd'
    rw [layW_snoc]
    exact (by simpa using s1 : KE (readL R ++ n :: w) (readL (lay1 R n) ++ w)).trans s2
/-- a row is joined to the reading of its first stairs -/
theorem word_joined {w : List Int} (nd : w.Nodup) : KE w (readL (layW [] w)) := by
  simpa [readL] using word_joinedFrom w [] .nil (by simpa using nd)
/-! ## the reading of stairs is laid to the stairs -/
theorem bmpW_over : ∀ {r a s : List Int}, Rise r → (∀ x ∈ a, ∀ y ∈ r, x < y) → Rise s → Below r s → bmpW (a ++ s) r = (a ++ r, s)
  | [], a, s, _, _, _, hb => by
    have : s = [] := List.length_eq_zero_iff.mp (by have := hb.1; simpa using this)
    simp [bmpW, this]
  | n :: r, a, s, hr, ha, hs, hb => by
    obtain ⟨r1, r2⟩ := List.pairwise_cons.mp hr
    have hG : ∀ y ∈ s, n < y := fun y hy => by
      cases s with
      | nil => cases hy
      | cons b s =>
        have h0 := hb.2 0 n b rfl rfl
        rcases List.mem_cons.mp hy with rfl | hy
        · exact h0
        · have := (List.pairwise_cons.mp hs).1 y hy; omega
    rw [bmpW_at _ (fun x hx => ha x hx n List.mem_cons_self) hG]
    have e : a ++ n :: s.tail = (a ++ [n]) ++ s.tail := by simp
    rw [e, bmpW_over r2 (fun x hx y hy => by
      rcases List.mem_append.mp hx with hx | hx
      · exact ha x hx y (List.mem_cons_of_mem _ hy)
      · have : x = n := by simpa using hx
        rw [this]; exact r1 y hy) (hs.sublist (List.tail_sublist _)) ⟨by have := hb.1; simp at this ⊢; omega, fun j x y h1 h2 => hb.2 (j + 1) x y (by simpa using h1) (by cases s with | nil => simp at h2 | cons b s => simpa using h2)⟩]
    cases s with
    | nil => simp
    | cons b s => simp
theorem lay_over : ∀ {R : List (List Int)} {r : List Int}, Stairs (r :: R) → layW R r = r :: R
  | [], r, st => by
    cases st with
    | one hne hr =>
      cases r with
      | nil => exact absurd rfl hne
      | cons n r =>
        rw [layW_snoc, lay1, layW_cons]
        have : bmpW [n] r = ([n] ++ r, []) := by
          have := bmpW_over (a := [n]) (s := []) (r := r) (List.pairwise_cons.mp hr).2 (fun x hx y hy => by
            have : x = n := by simpa using hx
            rw [this]; exact (List.pairwise_cons.mp hr).1 y hy) List.Pairwise.nil ⟨by simp, fun j x y h1 h2 => by simp at h2⟩
          simpa using this
        rw [this]; rfl
  | s :: R, r, st => by
    cases st with
    | cons hne hr hb st' =>
      have hs := st'.rise s List.mem_cons_self
      have := bmpW_over (a := []) hr (fun x hx => nomatch hx) hs hb
      rw [layW_cons]
      simp only [List.nil_append] at this
      rw [this]
      simp only
      rw [lay_over st']
theorem read_laid : ∀ {R : List (List Int)}, Stairs R → layW [] (readL R) = R
  | [], _ => rfl
  | r :: R, st => by
    have e1 : readL (r :: R) = readL R ++ r := by simp [readL]
    rw [e1, layW_app, read_laid st.tail, lay_over st]
/-! ## a row turned about -/
theorem Kn.rev {u v : List Int} (k : Kn u v) : Kn v.reverse u.reverse := by
  cases k with
  | k1 xy yz => exact Kn.k2 xy yz
  | k2 xy yz => exact Kn.k1 xy yz
theorem KS.rev {v w : List Int} (h : KS v w) : KS v.reverse w.reverse := by
  obtain ⟨a, u, u', b, rfl, rfl, k⟩ := h
  refine ⟨b.reverse, u.reverse, u'.reverse, a.reverse, by simp, by simp, ?_⟩
  rcases k with k | k
  · exact .inr k.rev
  · exact .inl k.rev
theorem KE.rev {v w : List Int} (h : KE v w) : KE v.reverse w.reverse := by
  induction h with
  | refl => exact .refl _
  | tail _ s ih => exact ih.tail s.rev
theorem bmpW_app : ∀ (u v r : List Int), bmpW r (u ++ v) = ((bmpW (bmpW r u).1 v).1, (bmpW r u).2 ++ (bmpW (bmpW r u).1 v).2)
  | [], v, r => by simp [bmpW]
  | n :: u, v, r => by simp only [List.cons_append, bmpW, bmpW_app u v, List.append_assoc]
theorem bmpW_down : ∀ {r c : List Int} {x : Int}, Rise (x :: r) → (∀ a ∈ c, a < x) → bmpW c (x :: r).reverse = (c ++ [x], r.reverse)
  | [], c, x, _, hc => by
    have := bmpW_at (L := c) (G := []) (n := x) [] hc (fun a ha => nomatch ha)
    simpa [bmpW] using this
  | y :: r, c, x, h, hc => by
    obtain ⟨h1, h2⟩ := List.pairwise_cons.mp h
    have xy := h1 y List.mem_cons_self
    have ih := bmpW_down h2 (c := c) (fun a ha => by have := hc a ha; omega)
    have e : (x :: y :: r).reverse = (y :: r).reverse ++ [x] := by simp
    rw [e, bmpW_app, ih]
    have := bmpW_at (L := c) (G := [y]) (n := x) [] hc (by simpa using xy)
    simp only at this ⊢
    rw [this]
    simp [bmpW]
end RS

namespace RS
def Under (C : List (List Int)) (r : List Int) : Prop := ∀ (j : Nat) c x, C[j]? = some c → r[j]? = some x → ∀ a ∈ c, a < x
theorem layW_start {w : List Int} (h : w ≠ []) : layW [] w = layW [[]] w := by
  cases w with
  | nil => exact absurd rfl h
  | cons n w => rfl
theorem lay_down : ∀ {C : List (List Int)} {r : List Int}, Rise r → Under C r → layW C r.reverse = addCol C r
  | [], [], _, _ => rfl
  | c :: C, [], _, _ => rfl
  | [], x :: r, h, _ => by
    rw [layW_start (by simp), layW_cons, bmpW_down (c := []) h (fun a ha => nomatch ha)]
    simp only
    rw [lay_down (List.pairwise_cons.mp h).2 (fun j c x h => by simp at h)]
    rfl
  | c :: C, x :: r, h, hu => by
    rw [layW_cons, bmpW_down h (hu 0 c x rfl rfl)]
    simp only
    rw [lay_down (List.pairwise_cons.mp h).2 (fun j c' x' h1 h2 => hu (j + 1) c' x' (by simpa using h1) (by simpa using h2))]
    rfl
theorem under_next {C : List (List Int)} {r s : List Int} (hu : Under C r) (hb : Below r s) : Under (addCol C r) s := fun j c y h1 h2 => by
  rw [addCol_get] at h1
  have hj : j < s.length := (List.getElem?_eq_some_iff.mp h2).1
  have er : r[j]? = some (r[j]'(Nat.lt_of_lt_of_le hj hb.1)) := List.getElem?_eq_getElem _
  have lt := hb.2 j _ y er h2
  rw [er] at h1
  cases hc : C[j]? with
  | none =>
    rw [hc] at h1
    simp only [Option.some.injEq] at h1
    subst h1
    intro a ha
    rw [List.mem_singleton.mp ha]; exact lt
  | some d =>
    rw [hc] at h1
    simp only [Option.some.injEq] at h1
    subst h1
    intro a ha
    rcases List.mem_append.mp ha with ha | ha
    · have := hu j d _ hc er a ha; omega
    · rw [List.mem_singleton.mp ha]; exact lt
theorem cols_word : ∀ {T : List (List Int)} {C : List (List Int)}, Stairs T → (∀ r, T.head? = some r → Under C r) → layW C (T.map List.reverse).flatten = T.foldl addCol C
  | [], C, _, _ => rfl
  | [r], C, st, hu => by
    cases st with
    | one _ hr => simpa using lay_down hr (hu r rfl)
  | r :: s :: T, C, st, hu => by
    cases st with
    | cons _ hr hb st' =>
      have e : ((r :: s :: T).map List.reverse).flatten = r.reverse ++ ((s :: T).map List.reverse).flatten := rfl
      rw [e, layW_app, lay_down hr (hu r rfl), cols_word st' (fun s' hs => by
        have : s' = s := by simpa using hs.symm
        rw [this]; exact under_next (hu r rfl) hb)]
      rfl
theorem read_rev (T : List (List Int)) : (readL T).reverse = (T.map List.reverse).flatten := by
  unfold readL
  induction T with
  | nil => rfl
  | cons r T ih => simp [ih]
/-- a row turned about has the turned stairs -/
theorem rev_turned {w : List Int} (nd : w.Nodup) : layW [] w.reverse = turnedP (layW [] w) := by
  obtain ⟨st, pm⟩ := layW_stairs nd
  have k := (word_joined nd).rev
  rw [k.same ((List.reverse_perm w).nodup_iff.mpr nd), read_rev, cols_word st (fun r _ j c x h => by simp at h)]
  exact st.dec.cols
theorem laid_rev {w : List Int} (nd : w.Nodup) : (laidL w.reverse).1 = turnedP (laidL w).1 := by
  rw [laidL_layW nd, laidL_layW ((List.reverse_perm w).nodup_iff.mpr nd), rev_turned nd]
end RS

namespace RS
/-! ## the chain -/
def exs (w : List Int) (ps : List Nat) : List Int := ps.foldl exX w
def okX : List Int → List Nat → Prop
  | _, [] => True
  | w, p :: ps => p + 1 < w.length ∧ mayX w p = true ∧ okX (exX w p) ps
/-- a + k, .. , a + 1 -/
def dwn (a : Nat) : Nat → List Nat
  | 0 => []
  | k + 1 => dwn (a + 1) k ++ [a + 1]
/-- a + k - 1, .. , a -/
def dwn0 (a : Nat) : Nat → List Nat
  | 0 => []
  | k + 1 => dwn0 (a + 1) k ++ [a]
def stepsR (b m g : Nat) : List Nat := (((List.range m).filter fun s => !decide (s = g)).map fun s => b + s).reverse
def placesF : List (List Int) → Int → Nat → List Nat
  | [], _, _ => []
  | r :: rs, n, b => if (lt r n).length = r.length then [] else stepsR (b - r.length) r.length (lt r n).length ++ placesF rs (r.getD (lt r n).length 0) (b - r.length)
/-- a list of rows, each an exchange behind the one ahead -/
def Linked : List (List Int) → Prop
  | [] => True
  | [_] => True
  | v :: w :: ws => (∃ p, p + 1 < v.length ∧ mayX v p = true ∧ w = exX v p) ∧ Linked (w :: ws)
end RS
namespace RS
theorem places_flat (rs : List (List Int)) : (readL rs).length = rs.flatten.length := (List.Perm.flatten (List.reverse_perm rs)).length_eq
end RS
namespace RS
def flZ (R : List (List Int)) : Nat := R.flatten.length
end RS
namespace RS
end RS

namespace RS
/-! ## one taken out -/
def outAt (r : List Int) (n : Int) : List Int := r.take ((lt r n).length - 1) ++ [n] ++ r.drop ((lt r n).length - 1 + 1)
def outN (r : List Int) (n : Int) : Int := r.getD ((lt r n).length - 1) 0
def takeP : List (List Int) → Nat → List (List Int) × Int
  | [], _ => ([], 0)
  | r :: rs, 0 => ((if r.dropLast = [] then rs else r.dropLast :: rs), r.getLastD 0)
  | r :: rs, i + 1 => (outAt r (takeP rs i).2 :: (takeP rs i).1, outN r (takeP rs i).2)
/-- a row from which something can be taken out -/
def Corner (R : List (List Int)) (i : Nat) : Prop := ∃ r, R[i]? = some r ∧ (R.getD (i + 1) []).length < r.length
/-- how the first row stands behind a taking: a number x at q was made greater or went -/
def Raised (s : List Int) (x : Int) (L : List (List Int)) : Prop := ∃ q : Nat, s[q]? = some x ∧ ∀ s2 L2, L = s2 :: L2 → s2.length ≤ s.length ∧ ∀ (j : Nat) (y : Int), s2[j]? = some y → if j = q then x < y else s[j]? = some y
end RS

namespace RS
/-! ## a whole row taken out -/
def takeAll : List (List Int) → List Nat → List Int
  | _, [] => []
  | P, a :: as => (takeP P a).2 :: takeAll (takeP P a).1 as
def growFrom : List Nat → Nat → List (List Int) → List (List Int)
  | [], _, Q => Q
  | a :: as, k, Q => growFrom as (k + 1) (grow Q a ((k : Int) + 1))
def growAll (ps : List Nat) : List (List Int) := growFrom ps 0 []
/-- lengths with one place more in a row -/
def bump (s : List Nat) (a : Nat) : List Nat := if a = s.length then s ++ [1] else s.set a (s.getD a 0 + 1)
def lensN (R : List (List Int)) : List Nat := R.map List.length
/-- the lengths may grow at a: they stay a shape -/
def MayGrow (s : List Nat) (a : Nat) : Prop := a ≤ s.length ∧ (a = 0 ∨ s.getD a 0 < s.getD (a - 1) 0)
inductive Val : List Nat → Prop
  | nil : Val []
  | snoc {ps : List Nat} {a : Nat} : Val ps → MayGrow (lensN (growAll ps)) a → Val (ps ++ [a])
def plcFrom : List Int → List (List Int) → List Nat
  | [], _ => []
  | n :: r, P => (layL P n).2 :: plcFrom r (layL P n).1
def plcs (row : List Int) : List Nat := plcFrom row []
theorem rev_ind {α : Type} {p : List α → Prop} (h0 : p []) (h1 : ∀ l a, p l → p (l ++ [a])) (l : List α) : p l := by
  have : ∀ n (l : List α), l.length = n → p l := fun n => by
    induction n with
    | zero => intro l hl; rw [List.length_eq_zero_iff.mp hl]; exact h0
    | succ n ih =>
      intro l hl
      rcases List.eq_nil_or_concat l with rfl | ⟨l', a, rfl⟩
      · exact h0
      · rw [List.concat_eq_append] at hl ⊢
        exact h1 l' a (ih l' (by simp at hl; omega))
  exact this _ l rfl
/-! ### what grows is stairs of 1, 2, 3 and so on -/
/-! ### the row of each number -/
def rowIx : List (List Int) → Int → Nat
  | [], _ => 0
  | r :: rs, c => if c ∈ r then 0 else rowIx rs c + 1
/-! ### taken out of first stairs by second ones, and laid again -/
end RS

namespace RS
/-! ## one taken out, row by row -/
theorem Stairs.drop : ∀ {R : List (List Int)} (k : Nat), Stairs R → Stairs (R.drop k)
  | R, 0, h => h
  | [], _ + 1, h => h
  | _ :: _, k + 1, h => Stairs.drop k h.tail
end RS

namespace RS
/-! ## columns of stairs rise -/
theorem col_head : ∀ {R : List (List Int)} {r : List Int} {i p : Nat} {x y : Int} {s : List Int}, Stairs (r :: R) → r[p]? = some x → R[i]? = some s → s[p]? = some y → x < y
  | [], _, _, _, _, _, _, _, _, e, _ => by simp at e
  | s :: R, r, 0, p, x, y, s', .cons _ _ h _, e1, e2, e3 => by
    have : s = s' := by simpa using e2
    subst this
    exact h.2 p x y e1 e3
  | s :: R, r, i + 1, p, x, y, s', .cons _ _ h t, e1, e2, e3 => by
    have e2' : R[i]? = some s' := by simpa using e2
    have hl : s'.length ≤ s.length := (List.pairwise_cons.mp t.dec).1 s' (List.mem_of_getElem? e2')
    have hp : p < s.length := Nat.lt_of_lt_of_le (List.getElem?_eq_some_iff.mp e3).1 hl
    have z : s[p]? = some s[p] := List.getElem?_eq_getElem hp
    have h1 := h.2 p x s[p] e1 z
    have h2 := col_head t z e2' e3
    omega
theorem stairs_col : ∀ {R : List (List Int)} {i j p : Nat} {x y : Int} {r s : List Int}, Stairs R → i < j → R[i]? = some r → R[j]? = some s → r[p]? = some x → s[p]? = some y → x < y
  | [], _, _, _, _, _, _, _, _, _, e, _, _, _ => by simp at e
  | r :: R, 0, j + 1, p, x, y, r', s, h, _, e1, e2, e3, e4 => by
    have : r = r' := by simpa using e1
    subst this
    exact col_head h e3 (by simpa using e2) e4
  | r :: R, i + 1, j + 1, p, x, y, r', s, h, hl, e1, e2, e3, e4 => stairs_col (R := R) (i := i) (j := j) h.tail (by omega) (by simpa using e1) (by simpa using e2) e3 e4
theorem column_rise {R : List (List Int)} (h : Stairs R) (p : Nat) : (column R p).Pairwise (· < ·) := by
  refine List.pairwise_iff_getElem.mpr fun i j hi hj hl => ?_
  have e1 : (column R p)[i]? = some (column R p)[i] := List.getElem?_eq_getElem hi
  have e2 : (column R p)[j]? = some (column R p)[j] := List.getElem?_eq_getElem hj
  rw [Dec.column_get h.dec] at e1 e2
  cases a1 : R[i]? with
  | none => rw [a1] at e1; cases e1
  | some r =>
    cases a2 : R[j]? with
    | none => rw [a2] at e2; cases e2
    | some s =>
      rw [a1] at e1
      rw [a2] at e2
      exact stairs_col h hl a1 a2 e1 e2
/-! ## a filling drawn by taking ends away -/
def growS (Q : List (List Int)) (a : Nat) (k : Int) : List (List Int) := Q.set a (Q.getD a [] ++ [k])
def growSF : List Nat → Nat → List (List Int) → List (List Int)
  | [], _, Q => Q
  | a :: as, k, Q => growSF as (k + 1) (growS Q a ((k : Int) + 1))
/-- a number put otherwise -/
def setAt (Q : List (List Int)) (a j : Nat) (v : Int) : List (List Int) := Q.set a ((Q.getD a []).set j v)
def zeros (ls : List Nat) : List (List Int) := ls.map fun n => List.replicate n 0
/-! ### with the empty rows below -/
def padN (N : Nat) (Q : List (List Int)) : List (List Int) := Q ++ List.replicate (N - Q.length) []
/-- lengths of a shape, empty rows at the end, of N rows; with the ends taken away one by one nothing is left at last -/
inductive Taken : List Nat → List Nat → Prop
  | nil {ls : List Nat} : (∀ x ∈ ls, x = 0) → Taken ls []
  | snoc {ls : List Nat} {ps : List Nat} {a n : Nat} : ls[a]? = some (n + 1) → ls.getD (a + 1) 0 ≤ n → Taken (ls.set a n) ps → Taken ls (ps ++ [a])
end RS

namespace RS
/-! ## the most numbers without a long fall -/
def Fall (T : List Int) : Prop := T.Pairwise (fun a b => b < a)
def NoFall (k : Nat) (S : List Int) : Prop := ∀ T : List Int, T.Sublist S → Fall T → T.length ≤ k
def Gr (k : Nat) (w : List Int) (m : Nat) : Prop := (∃ S : List Int, S.Sublist w ∧ NoFall k S ∧ S.length = m) ∧ ∀ S : List Int, S.Sublist w → NoFall k S → S.length ≤ m
theorem Gr.uniq {k : Nat} {w : List Int} {m n : Nat} (h : Gr k w m) (g : Gr k w n) : m = n := by
  obtain ⟨⟨S, s1, s2, s3⟩, hu⟩ := h
  obtain ⟨⟨T, t1, t2, t3⟩, gu⟩ := g
  have a := gu S s1 s2
  have b := hu T t1 t2
  omega
theorem sub3 {S a u b : List Int} (h : S.Sublist (a ++ u ++ b)) : ∃ Sa Sm Sb, S = Sa ++ Sm ++ Sb ∧ Sa.Sublist a ∧ Sm.Sublist u ∧ Sb.Sublist b := by
  obtain ⟨l, Sb, rfl, h1, h2⟩ := List.sublist_append_iff.mp h
  obtain ⟨Sa, Sm, rfl, h3, h4⟩ := List.sublist_append_iff.mp h1
  exact ⟨Sa, Sm, Sb, rfl, h3, h4, h2⟩
theorem mk3 {Sa Sm Sb a u b : List Int} (h1 : Sa.Sublist a) (h2 : Sm.Sublist u) (h3 : Sb.Sublist b) : (Sa ++ Sm ++ Sb).Sublist (a ++ u ++ b) := (h1.append h2).append h3
theorem fall3 {A M B : List Int} : Fall (A ++ M ++ B) ↔ Fall A ∧ Fall M ∧ Fall B ∧ (∀ x ∈ A, ∀ y ∈ M, y < x) ∧ (∀ x ∈ A, ∀ y ∈ B, y < x) ∧ (∀ x ∈ M, ∀ y ∈ B, y < x) := by
  unfold Fall
  rw [List.pairwise_append, List.pairwise_append]
  constructor
  · rintro ⟨⟨h1, h2, h3⟩, h4, h5⟩
    exact ⟨h1, h2, h4, h3, fun x hx y hy => h5 x (List.mem_append_left _ hx) y hy, fun x hx y hy => h5 x (List.mem_append_right _ hx) y hy⟩
  · rintro ⟨h1, h2, h4, h3, h5, h6⟩
    refine ⟨⟨h1, h2, h3⟩, h4, fun x hx y hy => ?_⟩
    rcases List.mem_append.mp hx with g | g
    · exact h5 x g y hy
    · exact h6 x g y hy
theorem cases1 {M : List Int} {r : Int} (h : M.Sublist [r]) : M = [] ∨ M = [r] := by
  rcases List.sublist_cons_iff.mp h with g | ⟨t, rfl, g⟩
  · exact .inl (List.sublist_nil.mp g)
  · rw [List.sublist_nil.mp g]; exact .inr rfl
theorem cases2 {M : List Int} {q r : Int} (h : M.Sublist [q, r]) : M = [] ∨ M = [q] ∨ M = [r] ∨ M = [q, r] := by
  rcases List.sublist_cons_iff.mp h with g | ⟨t, rfl, g⟩
  · rcases cases1 g with g | g <;> simp [g]
  · rcases cases1 g with g | g <;> simp [g]
theorem cases3 {M : List Int} {p q r : Int} (h : M.Sublist [p, q, r]) : M = [] ∨ M = [p] ∨ M = [q] ∨ M = [r] ∨ M = [p, q] ∨ M = [p, r] ∨ M = [q, r] ∨ M = [p, q, r] := by
  rcases List.sublist_cons_iff.mp h with g | ⟨t, rfl, g⟩
  · rcases cases2 g with g | g | g | g <;> simp [g]
  · rcases cases2 g with g | g | g | g <;> simp [g]
/-- x z y to z x y -/
theorem kA1 {a b S : List Int} {x y z : Int} {k : Nat} (xy : x < y) (yz : y < z) (h : S.Sublist (a ++ [x, z, y] ++ b)) (hk : NoFall k S) : ∃ S', S'.Sublist (a ++ [z, x, y] ++ b) ∧ NoFall k S' ∧ S'.length = S.length := by
  obtain ⟨Sa, Sm, Sb, rfl, ha, hm, hb⟩ := sub3 h
  have self : Sm.Sublist [z, x, y] → ∃ S', S'.Sublist (a ++ [z, x, y] ++ b) ∧ NoFall k S' ∧ S'.length = (Sa ++ Sm ++ Sb).length := fun g => ⟨_, mk3 ha g hb, hk, rfl⟩
  rcases cases3 hm with e | e | e | e | e | e | e | e <;> subst e
  · exact self (by simp)
  · exact self (by simp)
  · exact self (by simp)
  · exact self (by simp)
  · -- x z
    by_cases g : NoFall k (Sa ++ [z, x] ++ Sb)
    · exact ⟨_, mk3 ha (by simp) hb, g, by simp⟩
    refine ⟨Sa ++ [x, y] ++ Sb, mk3 ha (by simp) hb, fun T hT fT => ?_, by simp⟩
    apply Classical.byContradiction
    intro hlt
    obtain ⟨T', hT', fT', hlt'⟩ : ∃ T', T'.Sublist (Sa ++ [z, x] ++ Sb) ∧ Fall T' ∧ k < T'.length := by
      apply Classical.byContradiction
      intro no
      exact g fun T' h1 h2 => Classical.byContradiction fun h3 => no ⟨T', h1, h2, by omega⟩
    obtain ⟨A, M, B, rfl, hA, hM, hB⟩ := sub3 hT
    obtain ⟨A', M', B', rfl, hA', hM', hB'⟩ := sub3 hT'
    obtain ⟨f1, f2, f3, f4, f5, f6⟩ := fall3.mp fT
    obtain ⟨g1, g2, g3, g4, g5, g6⟩ := fall3.mp fT'
    have eM : M = [y] := by
      rcases cases2 hM with e | e | e | e
      · exact absurd (hk _ (mk3 hA (e ▸ by simp : M.Sublist [x, z]) hB) fT) hlt
      · exact absurd (hk _ (mk3 hA (e ▸ by simp : M.Sublist [x, z]) hB) fT) hlt
      · exact e
      · subst e
        simp [Fall] at f2
        omega
    have eM' : M' = [z, x] := by
      rcases cases2 hM' with e | e | e | e
      · exact absurd (hk _ (mk3 hA' (e ▸ by simp : M'.Sublist [x, z]) hB') fT') (by omega)
      · exact absurd (hk _ (mk3 hA' (e ▸ by simp : M'.Sublist [x, z]) hB') fT') (by omega)
      · exact absurd (hk _ (mk3 hA' (e ▸ by simp : M'.Sublist [x, z]) hB') fT') (by omega)
      · exact e
    subst eM eM'
    have u1 := hk (A ++ [x] ++ B') (mk3 hA (by simp) hB') (fall3.mpr ⟨f1, by simp [Fall], g3, fun c hc d hd => by
      have := f4 c hc y (by simp)
      simp at hd; omega, fun c hc d hd => by
      have := f4 c hc y (by simp)
      have := g6 x (by simp) d hd
      omega, fun c hc d hd => by
      simp at hc; subst hc
      exact g6 _ (by simp) d hd⟩)
    have u2 := hk (A' ++ [z] ++ B) (mk3 hA' (by simp) hB) (fall3.mpr ⟨g1, by simp [Fall], f3, fun c hc d hd => by
      have := g4 c hc z (by simp)
      simp at hd; omega, fun c hc d hd => by
      have := g4 c hc z (by simp)
      have := f6 y (by simp) d hd
      omega, fun c hc d hd => by
      simp at hc; subst hc
      have := f6 y (by simp) d hd
      omega⟩)
    simp at u1 u2 hlt hlt'
    omega
  · exact self (by simp)
  · exact self (by simp)
  · -- x z y
    refine ⟨Sa ++ [z, x, y] ++ Sb, mk3 ha (by simp) hb, fun T hT fT => ?_, by simp⟩
    obtain ⟨A, M, B, rfl, hA, hM, hB⟩ := sub3 hT
    have self : M.Sublist [x, z, y] → (A ++ M ++ B).length ≤ k := fun g => hk _ (mk3 hA g hB) fT
    obtain ⟨f1, f2, f3, f4, f5, f6⟩ := fall3.mp fT
    rcases cases3 hM with e | e | e | e | e | e | e | e <;> subst e
    · exact self (by simp)
    · exact self (by simp)
    · exact self (by simp)
    · exact self (by simp)
    · have := hk (A ++ [z, y] ++ B) (mk3 hA (by simp) hB) (fall3.mpr ⟨f1, by simp [Fall]; exact yz, f3, fun c hc d hd => by
        have := f4 c hc z (by simp)
        simp at hd; omega, f5, fun c hc d hd => by
        have := f6 x (by simp) d hd
        simp at hc; omega⟩)
      simpa using this
    · exact self (by simp)
    · exact self (by simp)
    · simp [Fall] at f2; omega
/-- z x y to x z y -/
theorem kA2 {a b S : List Int} {x y z : Int} {k : Nat} (xy : x < y) (yz : y < z) (h : S.Sublist (a ++ [z, x, y] ++ b)) (hk : NoFall k S) : ∃ S', S'.Sublist (a ++ [x, z, y] ++ b) ∧ NoFall k S' ∧ S'.length = S.length := by
  obtain ⟨Sa, Sm, Sb, rfl, ha, hm, hb⟩ := sub3 h
  have self : Sm.Sublist [x, z, y] → ∃ S', S'.Sublist (a ++ [x, z, y] ++ b) ∧ NoFall k S' ∧ S'.length = (Sa ++ Sm ++ Sb).length := fun g => ⟨_, mk3 ha g hb, hk, rfl⟩
  rcases cases3 hm with e | e | e | e | e | e | e | e <;> subst e
  · exact self (by simp)
  · exact self (by simp)
  · exact self (by simp)
  · exact self (by simp)
  · refine ⟨Sa ++ [x, z] ++ Sb, mk3 ha (by simp) hb, fun T hT fT => ?_, by simp⟩
    obtain ⟨A, M, B, rfl, hA, hM, hB⟩ := sub3 hT
    have self : M.Sublist [z, x] → (A ++ M ++ B).length ≤ k := fun g => hk _ (mk3 hA g hB) fT
    obtain ⟨f1, f2, f3, f4, f5, f6⟩ := fall3.mp fT
    rcases cases2 hM with e | e | e | e <;> subst e
    · exact self (by simp)
    · exact self (by simp)
    · exact self (by simp)
    · simp [Fall] at f2; omega
  · exact self (by simp)
  · exact self (by simp)
  · refine ⟨Sa ++ [x, z, y] ++ Sb, mk3 ha (by simp) hb, fun T hT fT => ?_, by simp⟩
    obtain ⟨A, M, B, rfl, hA, hM, hB⟩ := sub3 hT
    have self : M.Sublist [z, x, y] → (A ++ M ++ B).length ≤ k := fun g => hk _ (mk3 hA g hB) fT
    obtain ⟨f1, f2, f3, f4, f5, f6⟩ := fall3.mp fT
    rcases cases3 hM with e | e | e | e | e | e | e | e <;> subst e
    · exact self (by simp)
    · exact self (by simp)
    · exact self (by simp)
    · exact self (by simp)
    · simp [Fall] at f2; omega
    · exact self (by simp)
    · exact self (by simp)
    · simp [Fall] at f2; omega
/-! the mirror: reversed, each number's opposite -/
def mir (w : List Int) : List Int := (w.map fun x => -x).reverse
theorem mir_mir (w : List Int) : mir (mir w) = w := by
  unfold mir
  rw [List.map_reverse, List.reverse_reverse, List.map_map]
  conv => rhs; rw [← List.map_id w]
  apply List.map_congr_left
  intro a _
  simp
theorem mir_sub {S w : List Int} (h : S.Sublist w) : (mir S).Sublist (mir w) := (h.map _).reverse
theorem mir_len (w : List Int) : (mir w).length = w.length := by simp [mir]
theorem mir_fall {T : List Int} (h : Fall T) : Fall (mir T) := by
  unfold Fall mir at *
  rw [List.pairwise_reverse, List.pairwise_map]
  exact h.imp fun h => by omega
theorem mir_no {k : Nat} {S : List Int} (h : NoFall k S) : NoFall k (mir S) := fun T hT fT => by
  have := h (mir T) (by have := mir_sub hT; rwa [mir_mir] at this) (mir_fall fT)
  rwa [mir_len] at this
theorem mir_app (a b : List Int) : mir (a ++ b) = mir b ++ mir a := by simp [mir]
def Tr (k : Nat) (v w : List Int) : Prop := ∀ S : List Int, S.Sublist v → NoFall k S → ∃ S', S'.Sublist w ∧ NoFall k S' ∧ S'.length = S.length
theorem Tr.mir {k : Nat} {v w : List Int} (h : Tr k (mir v) (mir w)) : Tr k v w := fun S hS nS => by
  obtain ⟨S', h1, h2, h3⟩ := h (RS.mir S) (mir_sub hS) (mir_no nS)
  refine ⟨RS.mir S', by have := mir_sub h1; rwa [mir_mir] at this, mir_no h2, by rw [mir_len, h3, mir_len]⟩
theorem kn_tr {a u v b : List Int} {k : Nat} (g : Kn u v ∨ Kn v u) : Tr k (a ++ u ++ b) (a ++ v ++ b) := by
  have e : ∀ p q r : Int, RS.mir [p, q, r] = [-r, -q, -p] := fun p q r => by simp [RS.mir]
  rcases g with g | g <;> cases g with
  | k1 xy yz => ?_
  | k2 xy yz => ?_
  · apply Tr.mir
    rw [mir_app, mir_app, mir_app, mir_app, e, e, ← List.append_assoc, ← List.append_assoc]
    exact fun S h hk => kA1 (by omega) (by omega) h hk
  · exact fun S h hk => kA1 xy yz h hk
  · apply Tr.mir
    rw [mir_app, mir_app, mir_app, mir_app, e, e, ← List.append_assoc, ← List.append_assoc]
    exact fun S h hk => kA2 (by omega) (by omega) h hk
  · exact fun S h hk => kA2 xy yz h hk
theorem ke_tr {v w : List Int} (k : Nat) (h : KE v w) : Tr k v w := by
  induction h with
  | refl => exact fun S h1 h2 => ⟨S, h1, h2, rfl⟩
  | tail h1 h2 ih =>
    obtain ⟨a, u, u', b, rfl, rfl, g⟩ := h2
    intro S s1 s2
    obtain ⟨S', t1, t2, t3⟩ := ih S s1 s2
    obtain ⟨S2, r1, r2, r3⟩ := kn_tr g S' t1 t2
    exact ⟨S2, r1, r2, by omega⟩
theorem gr_ke {v w : List Int} {k m : Nat} (h : KE v w) (g : Gr k w m) : Gr k v m := by
  obtain ⟨⟨S, s1, s2, s3⟩, hu⟩ := g
  obtain ⟨S', t1, t2, t3⟩ := ke_tr k h.symm S s1 s2
  refine ⟨⟨S', t1, t2, by omega⟩, fun S h1 h2 => ?_⟩
  obtain ⟨S', t1, t2, t3⟩ := ke_tr k h S h1 h2
  have := hu S' t1 t2
  omega
end RS

namespace RS
/-! ## the most numbers of a word of stairs -/
theorem rise_fall {r T : List Int} (h : Rise r) (hT : T.Sublist r) (f : Fall T) : T.length ≤ 1 := by
  match T, hT, f with
  | [], _, _ => simp
  | [_], _, _ => simp
  | a :: b :: T, hT, f =>
    have r1 := h.sublist hT
    unfold Fall at f
    have := (List.pairwise_cons.mp r1).1 b (by simp)
    have := (List.pairwise_cons.mp f).1 b (by simp)
    omega
theorem readL_cons (r : List Int) (R : List (List Int)) : readL (r :: R) = readL R ++ r := by simp [readL]
theorem rows_no : ∀ (Q : List (List Int)), (∀ r ∈ Q, Rise r) → NoFall Q.length (readL Q)
  | [], _ => fun T hT f => by
    have : T = [] := by simpa [readL] using hT
    simp [this]
  | r :: Q, h => fun T hT f => by
    rw [readL_cons] at hT
    obtain ⟨A, B, rfl, hA, hB⟩ := List.sublist_append_iff.mp hT
    have f' := List.pairwise_append.mp f
    have a := rows_no Q (fun s hs => h s (List.mem_cons_of_mem _ hs)) A hA f'.1
    have b := rise_fall (h r List.mem_cons_self) hB f'.2.1
    simp
    omega
theorem NoFall.mono {k l : Nat} {S : List Int} (h : NoFall k S) (g : k ≤ l) : NoFall l S := fun T a b => Nat.le_trans (h T a b) g
theorem NoFall.sub {k : Nat} {S T : List Int} (h : NoFall k S) (g : T.Sublist S) : NoFall k T := fun U a b => h U (a.trans g) b
theorem readL_split (R : List (List Int)) (k : Nat) : readL R = readL (R.drop k) ++ readL (R.take k) := by
  unfold readL
  conv => lhs; rw [← List.take_append_drop k R]
  rw [List.reverse_append, List.flatten_append]
theorem readL_len (R : List (List Int)) : (readL R).length = (lensN R).sum := by
  induction R with
  | nil => rfl
  | cons r R ih => rw [readL_cons]; simp [ih, lensN]; omega
/-- columns, bottom to top, in the word -/
theorem column_cons (r : List Int) (R : List (List Int)) (p : Nat) : column (r :: R) p = (r[p]?).toList ++ column R p := by
  unfold column
  by_cases h : p < r.length
  · rw [List.filter_cons, if_pos (by simpa using h)]
    simp [List.getElem?_eq_getElem h, List.getD_eq_getElem?_getD]
  · rw [List.filter_cons, if_neg (by simpa using h), List.getElem?_eq_none (by omega)]
    rfl
theorem col_sub : ∀ (R : List (List Int)) (p : Nat), (column R p).reverse.Sublist (readL R)
  | [], p => by simp [column]
  | r :: R, p => by
    rw [column_cons, List.reverse_append, readL_cons]
    refine (col_sub R p).append ?_
    cases h : r[p]? with
    | none => simp
    | some x =>
      have : x ∈ r := List.mem_of_getElem? h
      simpa using this
theorem turned_perm {R : List (List Int)} (hS : Stairs R) (nd : R.flatten.Nodup) : (turnedP R).flatten.Perm (readL R) := by
  have p0 : (readL R).Perm R.flatten := List.Perm.flatten (List.reverse_perm R)
  have nd2 : (readL R).Nodup := p0.nodup_iff.mpr nd
  have e := rev_turned nd2
  rw [read_laid hS] at e
  rw [← e]
  exact (layW_stairs ((List.reverse_perm _).nodup_iff.mpr nd2)).2.trans (List.reverse_perm _)
theorem filter_sub_self {S w : List Int} (h : S.Sublist w) (nd : w.Nodup) : w.filter (fun x => decide (x ∈ S)) = S := by
  induction h with
  | slnil => rfl
  | cons a h ih =>
    rename_i l1 l2
    have nd' := List.nodup_cons.mp nd
    rw [List.filter_cons, if_neg (by simp; exact fun g => nd'.1 (h.subset g)), ih nd'.2]
  | cons_cons a h ih =>
    rename_i l1 l2
    have nd' := List.nodup_cons.mp nd
    rw [List.filter_cons, if_pos (by simp)]
    congr 1
    conv => rhs; rw [← ih nd'.2]
    apply List.filter_congr
    intro x hx
    have : x ≠ a := fun g => nd'.1 (g ▸ hx)
    simp [this]
theorem flatten_filter_len (C : List (List Int)) (p : Int → Bool) : (C.flatten.filter p).length = (C.map fun c => (c.filter p).length).sum := by
  induction C with
  | nil => rfl
  | cons c C ih => rw [List.flatten_cons, List.filter_append, List.length_append, ih]; rfl
theorem sum_le {α : Type} (l : List α) (f g : α → Nat) (h : ∀ a ∈ l, f a ≤ g a) : (l.map f).sum ≤ (l.map g).sum := by
  induction l with
  | nil => simp
  | cons a l ih =>
    have := h a List.mem_cons_self
    have := ih fun b hb => h b (List.mem_cons_of_mem _ hb)
    simp; omega
theorem sum_add {α : Type} (l : List α) (f g : α → Nat) : (l.map fun a => f a + g a).sum = (l.map f).sum + (l.map g).sum := by
  induction l with
  | nil => simp
  | cons a l ih => simp [ih]; omega
/-- counted both ways -/
theorem count_one (n : Nat) : ∀ W : Nat, ((List.range W).map fun p => if p < n then 1 else 0).sum = min W n
  | 0 => by simp
  | W + 1 => by
    rw [List.range_succ, List.map_append, List.sum_append, count_one n W]
    simp
    split <;> omega
theorem count_both (W : Nat) : ∀ ls : List Nat, ((List.range W).map fun p => ls.countP (fun n => decide (p < n))).sum = (ls.map fun n => min W n).sum
  | [] => by induction W with
    | zero => rfl
    | succ W ih => rw [List.range_succ, List.map_append, List.sum_append, ih]; rfl
  | n :: ls => by
    simp only [List.countP_cons]
    rw [sum_add, count_both W ls]
    have := count_one n W
    simp at *
    omega
theorem count_prefix : ∀ {ls : List Nat} (k p : Nat), ls.Pairwise (· ≥ ·) → min k (ls.countP (fun n => decide (p < n))) = (ls.take k).countP (fun n => decide (p < n))
  | [], k, p, _ => by simp
  | n :: ls, 0, p, _ => by simp
  | n :: ls, k + 1, p, h => by
    have h' := List.pairwise_cons.mp h
    rw [List.take_succ_cons, List.countP_cons, List.countP_cons, ← count_prefix k p h'.2]
    by_cases g : p < n
    · simp [g]
    · have : ls.countP (fun n => decide (p < n)) = 0 := by
        rw [List.countP_eq_zero]
        intro a ha
        have := h'.1 a ha
        simp; omega
      rw [this]; simp [g]
theorem stairs_gr {R : List (List Int)} (hS : Stairs R) (nd : R.flatten.Nodup) (k : Nat) : Gr k (readL R) ((lensN R).take k).sum := by
  have p0 : (readL R).Perm R.flatten := List.Perm.flatten (List.reverse_perm R)
  have nd2 : (readL R).Nodup := p0.nodup_iff.mpr nd
  have fall : (lensN R).Pairwise (· ≥ ·) := by
    have := hS.dec
    unfold Dec at this
    unfold lensN
    rw [List.pairwise_map]
    exact this
  constructor
  · refine ⟨readL (R.take k), by rw [readL_split R k]; exact List.sublist_append_right _ _, ?_, ?_⟩
    · refine (rows_no _ fun r hr => hS.rise r (List.mem_of_mem_take hr)).mono ?_
      simp
      omega
    · rw [readL_len]
      unfold lensN
      rw [List.map_take]
  · intro S hsub no
    have e1 : S.length = ((turnedP R).flatten.filter (fun x => decide (x ∈ S))).length := by
      conv => lhs; rw [← filter_sub_self hsub nd2]
      exact ((turned_perm hS nd).symm.filter _).length_eq
    rw [e1, flatten_filter_len]
    unfold turnedP
    rw [List.map_map]
    refine Nat.le_trans (sum_le _ _ (fun p => ((lensN R).take k).countP (fun n => decide (p < n))) fun p _ => ?_) ?_
    · rw [← count_prefix k p fall]
      show ((column R p).filter _).length ≤ _
      refine Nat.le_min.mpr ⟨?_, ?_⟩
      · have s1 : ((column R p).reverse.filter (fun x => decide (x ∈ S))).Sublist S := by
          have := (col_sub R p).filter (fun x => decide (x ∈ S))
          rwa [filter_sub_self hsub nd2] at this
        have f1 : Fall ((column R p).reverse.filter (fun x => decide (x ∈ S))) := by
          unfold Fall
          refine List.Pairwise.sublist List.filter_sublist ?_
          rw [List.pairwise_reverse]
          exact column_rise hS p
        have := no _ s1 f1
        rwa [List.filter_reverse, List.length_reverse] at this
      · refine Nat.le_trans (List.length_filter_le _ _) ?_
        rw [column_len]
        unfold lensN
        rw [List.countP_map]
        exact Nat.le_refl _
    · rw [count_both]
      refine Nat.le_trans (sum_le _ _ (fun n => n) fun n _ => Nat.min_le_right _ _) ?_
      simp
/-- the stairs of a row tell the most numbers without a long fall -/
theorem greene {w : List Int} (nd : w.Nodup) (k : Nat) : Gr k w ((lensN (laidL w).1).take k).sum := by
  have e := laidL_layW nd
  have st := layW_stairs nd
  rw [e]
  exact gr_ke (word_joined nd) (stairs_gr st.1 (st.2.nodup_iff.mpr nd) k)
theorem greene_rev {w : List Int} (nd : w.Nodup) (k : Nat) : Gr k w.reverse ((lensN (turnedP (laidL w).1)).take k).sum := by
  rw [← laid_rev nd]
  exact greene ((List.reverse_perm _).nodup_iff.mpr nd) k
end RS

namespace RS
/-! ## made rows: rising stretches, each less than the one before -/
def topK : List Nat → Nat → Nat
  | [], _ => 0
  | _ :: _, 0 => 0
  | a :: l, k + 1 => max (topK l (k + 1)) (a + topK l k)
theorem topK_zero (l : List Nat) : topK l 0 = 0 := by cases l <;> rfl
theorem topK_succ (a : Nat) (l : List Nat) (k : Nat) : topK (a :: l) (k + 1) = max (topK l (k + 1)) (a + topK l k) := rfl
theorem topK_mono : ∀ (l : List Nat) (k : Nat), topK l k ≤ topK l (k + 1)
  | [], k => by simp [topK]
  | a :: l, 0 => by rw [topK_zero]; omega
  | a :: l, k + 1 => by
    rw [topK_succ, topK_succ]
    have := topK_mono l (k + 1)
    have := topK_mono l k
    omega
theorem topK_le (l : List Nat) {k m : Nat} (h : k ≤ m) : topK l k ≤ topK l m := by
  induction h with
  | refl => exact Nat.le_refl _
  | step _ ih => exact Nat.le_trans ih (topK_mono l _)
theorem topK_perm {l m : List Nat} (h : l.Perm m) : ∀ k, topK l k = topK m k := by
  induction h with
  | nil => exact fun _ => rfl
  | cons a _ ih => intro k; cases k with
    | zero => rfl
    | succ k => rw [topK_succ, topK_succ, ih, ih]
  | swap a b l => intro k; match k with
    | 0 => rfl
    | 1 => simp only [topK, topK_zero]; omega
    | k + 2 => simp only [topK]; omega
  | trans _ _ ih1 ih2 => exact fun k => (ih1 k).trans (ih2 k)
theorem topK_sorted : ∀ {l : List Nat} (k : Nat), l.Pairwise (· ≥ ·) → topK l k = (l.take k).sum
  | [], k, _ => by simp [topK]
  | a :: l, 0, _ => by simp [topK_zero]
  | a :: l, k + 1, h => by
    have h' := List.pairwise_cons.mp h
    rw [topK_succ, topK_sorted (k + 1) h'.2, topK_sorted k h'.2, List.take_succ_cons, List.sum_cons]
    have : (l.take (k + 1)).sum ≤ a + (l.take k).sum := by
      by_cases hk : k < l.length
      · rw [List.take_succ_eq_append_getElem hk, List.sum_append]
        have := h'.1 _ (List.getElem_mem hk)
        simp; omega
      · rw [List.take_of_length_le (by omega), List.take_of_length_le (by omega)]; omega
    omega
/-- blocks rise, and fall from one to the next -/
structure Blk (Bs : List (List Int)) : Prop where
  rise : ∀ B ∈ Bs, Rise B
  fall : Bs.Pairwise (fun B C => ∀ x ∈ B, ∀ y ∈ C, y < x)
theorem Blk.tail {B : List Int} {Bs : List (List Int)} (h : Blk (B :: Bs)) : Blk Bs := ⟨fun C hC => h.rise C (List.mem_cons_of_mem _ hC), (List.pairwise_cons.mp h.fall).2⟩
theorem Blk.head {B : List Int} {Bs : List (List Int)} (h : Blk (B :: Bs)) : ∀ x ∈ B, ∀ y ∈ Bs.flatten, y < x := fun x hx y hy => by
  obtain ⟨C, hC, hy⟩ := List.mem_flatten.mp hy
  exact (List.pairwise_cons.mp h.fall).1 C hC x hx y hy
theorem blk_up : ∀ {Bs : List (List Int)}, Blk Bs → ∀ S, S.Sublist Bs.flatten → ∃ T, T.Sublist S ∧ Fall T ∧ S.length ≤ topK (lensN Bs) T.length
  | [], _, S, h => ⟨[], by simp, by simp [Fall], by simp at h; simp [h]⟩
  | B :: Bs, hb, S, h => by
    rw [List.flatten_cons] at h
    obtain ⟨S1, S2, rfl, h1, h2⟩ := List.sublist_append_iff.mp h
    obtain ⟨T, t1, t2, t3⟩ := blk_up hb.tail S2 h2
    cases S1 with
    | nil =>
      refine ⟨T, by simpa using t1, t2, ?_⟩
      cases T with
      | nil => simp [topK_zero] at *; exact t3
      | cons a T =>
        simp only [List.length_cons, List.nil_append] at *
        show _ ≤ topK (B.length :: lensN Bs) _
        rw [topK_succ]; omega
    | cons x S1 =>
      refine ⟨x :: T, ?_, ?_, ?_⟩
      · rw [List.cons_append]
        exact (t1.trans (List.sublist_append_right _ _)).cons_cons x
      · refine List.pairwise_cons.mpr ⟨fun y hy => ?_, t2⟩
        exact hb.head x (h1.subset List.mem_cons_self) y (h2.subset (t1.subset hy))
      · have := h1.length_le
        show _ ≤ topK (B.length :: lensN Bs) (T.length + 1)
        rw [topK_succ, List.length_append]
        omega
theorem blk_low : ∀ {Bs : List (List Int)} (k : Nat), (∀ B ∈ Bs, Rise B) → ∃ S, S.Sublist Bs.flatten ∧ NoFall k S ∧ S.length = topK (lensN Bs) k
  | [], k, _ => ⟨[], by simp, fun T hT _ => by simp at hT; simp [hT], by simp [lensN, topK]⟩
  | B :: Bs, 0, _ => ⟨[], by simp, fun T hT _ => by simp at hT; simp [hT], by rw [topK_zero]; rfl⟩
  | B :: Bs, k + 1, h => by
    have h' : ∀ C ∈ Bs, Rise C := fun C hC => h C (List.mem_cons_of_mem _ hC)
    have e : topK (lensN (B :: Bs)) (k + 1) = max (topK (lensN Bs) (k + 1)) (B.length + topK (lensN Bs) k) := rfl
    rw [List.flatten_cons]
    by_cases g : B.length + topK (lensN Bs) k ≤ topK (lensN Bs) (k + 1)
    · obtain ⟨S, s1, s2, s3⟩ := blk_low (k + 1) h'
      exact ⟨S, s1.trans (List.sublist_append_right _ _), s2, by omega⟩
    · obtain ⟨S, s1, s2, s3⟩ := blk_low k h'
      refine ⟨B ++ S, (List.Sublist.refl B).append s1, fun T hT f => ?_, by rw [List.length_append]; omega⟩
      obtain ⟨T1, T2, rfl, h1, h2⟩ := List.sublist_append_iff.mp hT
      have f' := List.pairwise_append.mp f
      have a := rise_fall (h B List.mem_cons_self) h1 f'.1
      have b := s2 T2 h2 f'.2.1
      rw [List.length_append]; omega
theorem blk_gr {Bs : List (List Int)} (hb : Blk Bs) (k : Nat) : Gr k Bs.flatten (topK (lensN Bs) k) := by
  refine ⟨blk_low k hb.rise, fun S hS no => ?_⟩
  obtain ⟨T, t1, t2, t3⟩ := blk_up hb S hS
  exact Nat.le_trans t3 (topK_le _ (no T t1 t2))
/-- the same, read backwards -/
theorem blk_rev : ∀ {Bs : List (List Int)} (_ : Blk Bs) (k : Nat), Gr k Bs.flatten.reverse ((lensN Bs).map fun n => min k n).sum
  | [], _, k => ⟨⟨[], by simp, fun T hT _ => by simp at hT; simp [hT], by simp [lensN]⟩, fun S h _ => by simp at h; simp [h]⟩
  | B :: Bs, hb, k => by
    obtain ⟨⟨S, s1, s2, s3⟩, up⟩ := blk_rev hb.tail k
    rw [List.flatten_cons, List.reverse_append]
    have e : ((lensN (B :: Bs)).map fun n => min k n).sum = min k B.length + ((lensN Bs).map fun n => min k n).sum := rfl
    rw [e]
    have fB : Fall B.reverse := by
      unfold Fall; rw [List.pairwise_reverse]; exact hb.rise B List.mem_cons_self
    constructor
    · refine ⟨S ++ B.reverse.take k, s1.append (List.take_sublist _ _), fun T hT f => ?_, by simp [s3]; omega⟩
      obtain ⟨T1, T2, rfl, h1, h2⟩ := List.sublist_append_iff.mp hT
      have f' := List.pairwise_append.mp f
      cases T1 with
      | nil =>
        have := h2.length_le
        simp at *; omega
      | cons x T1 =>
        cases T2 with
        | nil => rw [List.append_nil]; exact s2 _ h1 f'.1
        | cons y T2 =>
          have a1 := f'.2.2 x List.mem_cons_self y List.mem_cons_self
          have m1 : x ∈ Bs.flatten := by have := s1.subset (h1.subset List.mem_cons_self); simpa using this
          have m2 : y ∈ B := by have := List.mem_of_mem_take (h2.subset List.mem_cons_self); simpa using this
          have := hb.head y m2 x m1
          omega
    · intro S' hS no
      obtain ⟨T1, T2, rfl, h1, h2⟩ := List.sublist_append_iff.mp hS
      have a := up T1 h1 (no.sub (List.sublist_append_left _ _))
      have b := no T2 (List.sublist_append_right _ _) (List.Pairwise.sublist h2 fB)
      have c := h2.length_le
      rw [List.length_append]
      simp at c
      omega
/-- the columns of some lengths -/
def colsN (W : Nat) (ls : List Nat) : List Nat := (List.range W).map fun p => ls.countP (fun n => decide (p < n))
theorem colsN_fall (W : Nat) (ls : List Nat) : (colsN W ls).Pairwise (· ≥ ·) := by
  unfold colsN
  rw [List.pairwise_map]
  refine List.Pairwise.imp ?_ (List.pairwise_lt_range (n := W))
  intro p q h
  exact List.countP_mono_left fun n _ hn => by simp at *; omega
theorem colsN_take (W k : Nat) (ls : List Nat) (h : ∀ n ∈ ls, n ≤ W) : ((colsN W ls).take k).sum = (ls.map fun n => min k n).sum := by
  unfold colsN
  rw [← List.map_take, List.take_range, count_both]
  congr 1
  apply List.map_congr_left
  intro n hn
  have := h n hn
  omega
end RS

namespace RS
/-! ## the longest chain, reckoned from the front; the parts of a row by bits -/
def Chn (s : Int) (T : List Int) : Prop := T.Pairwise (fun a b => s * a < s * b)
def mxN (l : List Nat) : Nat := l.foldl max 0
theorem foldl_max (l : List Nat) (a : Nat) : l.foldl max a = max a (mxN l) := by
  unfold mxN
  induction l generalizing a with
  | nil => simp
  | cons b l ih => rw [List.foldl_cons, List.foldl_cons, ih, ih (max 0 b)]; omega
theorem mxN_cons (a : Nat) (l : List Nat) : mxN (a :: l) = max a (mxN l) := by
  rw [mxN, List.foldl_cons, foldl_max]; omega
theorem mxN_le {l : List Nat} {k : Nat} : mxN l ≤ k ↔ ∀ a ∈ l, a ≤ k := by
  induction l with
  | nil => simp [mxN]
  | cons a l ih => rw [mxN_cons, Nat.max_le, ih]; simp
theorem mxN_in {l : List Nat} (h : l ≠ []) : mxN l ∈ l := by
  induction l with
  | nil => exact absurd rfl h
  | cons a l ih =>
    rw [mxN_cons]
    by_cases g : l = []
    · subst g; simp [mxN]
    · by_cases e : mxN l ≤ a
      · rw [Nat.max_eq_left e]; simp
      · rw [Nat.max_eq_right (by omega)]; exact List.mem_cons_of_mem _ (ih g)
def endsB (s x : Int) (acc : List (Int × Nat)) : List Nat := (acc.filter (fun p => decide (s * p.1 < s * x))).map (·.2)
def stepB (s : Int) (acc : List (Int × Nat)) (x : Int) : List (Int × Nat) := acc ++ [(x, 1 + mxN (endsB s x acc))]
def bestB (s : Int) (l : List Int) : List (Int × Nat) := l.foldl (stepB s) []
theorem bestB_snoc (s : Int) (l : List Int) (x : Int) : bestB s (l ++ [x]) = bestB s l ++ [(x, 1 + mxN (endsB s x (bestB s l)))] := by
  unfold bestB
  rw [List.foldl_append]; rfl
theorem bestB_fst (s : Int) (l : List Int) : (bestB s l).map (·.1) = l := by
  induction l using rev_ind with
  | h0 => rfl
  | h1 l a ih => rw [bestB_snoc, List.map_append, ih]; rfl
theorem bestB_up (s : Int) (l : List Int) : ∀ T a, (T ++ [a]).Sublist l → Chn s (T ++ [a]) → ∃ n, (a, n) ∈ bestB s l ∧ T.length + 1 ≤ n := by
  induction l using rev_ind with
  | h0 => intro T a h; simp at h
  | h1 l x ih =>
    intro T a h c
    rw [bestB_snoc]
    obtain ⟨A, B, e, h1, h2⟩ := List.sublist_append_iff.mp h
    rcases cases1 h2 with g | g
    · subst g
      rw [List.append_nil] at e
      obtain ⟨n, n1, n2⟩ := ih T a (e ▸ h1) c
      exact ⟨n, List.mem_append_left _ n1, n2⟩
    · subst g
      obtain ⟨e1, e2⟩ := List.append_inj' e (by simp)
      simp at e2
      subst e1 e2
      refine ⟨_, List.mem_append_right _ (by simp; rfl), ?_⟩
      rcases List.eq_nil_or_concat T with g | ⟨T', b, g⟩
      · subst g; simp
      · subst g
        rw [List.concat_eq_append] at *
        have c' := List.pairwise_append.mp c
        obtain ⟨n, n1, n2⟩ := ih T' b h1 c'.1
        have : n ∈ endsB s a (bestB s l) := by
          unfold endsB
          refine List.mem_map.mpr ⟨(b, n), List.mem_filter.mpr ⟨n1, ?_⟩, rfl⟩
          simpa using c'.2.2 b (by simp) a (by simp)
        have := mxN_le.mp (Nat.le_refl _) n this
        simp
        omega
theorem bestB_low (s : Int) (l : List Int) : ∀ a n, (a, n) ∈ bestB s l → ∃ T, (T ++ [a]).Sublist l ∧ Chn s (T ++ [a]) ∧ T.length + 1 = n := by
  induction l using rev_ind with
  | h0 => intro a n h; simp [bestB] at h
  | h1 l x ih =>
    intro a n h
    rw [bestB_snoc] at h
    rcases List.mem_append.mp h with h | h
    · obtain ⟨T, t1, t2, t3⟩ := ih a n h
      exact ⟨T, t1.trans (List.sublist_append_left _ _), t2, t3⟩
    · simp at h
      obtain ⟨rfl, rfl⟩ := h
      by_cases g : endsB s a (bestB s l) = []
      · exact ⟨[], by simp, by simp [Chn], by rw [g]; rfl⟩
      · have := mxN_in g
        obtain ⟨⟨b, m⟩, hm, e⟩ := List.mem_map.mp this
        obtain ⟨h1, h2⟩ := List.mem_filter.mp hm
        obtain ⟨T, t1, t2, t3⟩ := ih b m h1
        simp at h2 e
        refine ⟨T ++ [b], t1.append (List.Sublist.refl _), ?_, by rw [← e]; simp; omega⟩
        unfold Chn at *
        rw [List.pairwise_append]
        refine ⟨t2, by simp, fun c hc d hd => ?_⟩
        simp at hd
        subst hd
        rcases List.mem_append.mp hc with hc | hc
        · have := (List.pairwise_append.mp t2).2.2 c hc b (by simp)
          omega
        · simp at hc
          subst hc
          exact h2
def lngB (s : Int) (l : List Int) : Nat := mxN ((bestB s l).map (·.2))
theorem lng_le {s : Int} {l : List Int} {k : Nat} : lngB s l ≤ k ↔ ∀ T, T.Sublist l → Chn s T → T.length ≤ k := by
  unfold lngB
  rw [mxN_le]
  constructor
  · intro h T t1 t2
    rcases List.eq_nil_or_concat T with g | ⟨T', b, g⟩
    · subst g; simp
    · subst g
      rw [List.concat_eq_append] at *
      obtain ⟨n, n1, n2⟩ := bestB_up s l T' b t1 t2
      have := h n (List.mem_map.mpr ⟨_, n1, rfl⟩)
      simp; omega
  · intro h n hn
    obtain ⟨⟨a, m⟩, hm, rfl⟩ := List.mem_map.mp hn
    obtain ⟨T, t1, t2, t3⟩ := bestB_low s l a m hm
    have := h _ t1 t2
    simp at this ⊢
    omega
theorem lng_fall {l : List Int} {k : Nat} : lngB (-1) l ≤ k ↔ NoFall k l := by
  rw [lng_le]
  have e : ∀ T : List Int, Chn (-1) T ↔ Fall T := fun T => by
    unfold Chn Fall
    constructor <;> intro h <;> exact h.imp fun h => by omega
  exact ⟨fun h T t1 t2 => h T t1 ((e T).mpr t2), fun h T t1 t2 => h T t1 ((e T).mp t2)⟩
theorem lng_rise {l : List Int} {k : Nat} : lngB 1 l ≤ k ↔ NoFall k l.reverse := by
  rw [lng_le]
  constructor
  · intro h T t1 t2
    have := h T.reverse (by have := t1.reverse; rwa [List.reverse_reverse] at this) (by
      unfold Chn Fall at *
      rw [List.pairwise_reverse]
      exact t2.imp fun h => by omega)
    simpa using this
  · intro h T t1 t2
    have := h T.reverse t1.reverse (by
      unfold Chn Fall at *
      rw [List.pairwise_reverse]
      exact t2.imp fun h => by omega)
    simpa using this
/-- the part of a row that the bits tell -/
def pick : List Int → Nat → List Int
  | [], _ => []
  | a :: l, b => if b % 2 = 1 then a :: pick l (b / 2) else pick l (b / 2)
theorem pick_sub : ∀ (l : List Int) (b : Nat), (pick l b).Sublist l
  | [], _ => by simp [pick]
  | a :: l, b => by
    unfold pick
    split
    · exact (pick_sub l _).cons_cons a
    · exact (pick_sub l _).cons a
theorem pick_all {S l : List Int} (h : S.Sublist l) : ∃ b, b < 2 ^ l.length ∧ pick l b = S := by
  induction h with
  | slnil => exact ⟨0, by simp, rfl⟩
  | cons a h ih =>
    obtain ⟨b, b1, b2⟩ := ih
    refine ⟨2 * b, by rw [List.length_cons, Nat.pow_succ]; omega, ?_⟩
    unfold pick
    rw [if_neg (by omega), show 2 * b / 2 = b by omega, b2]
  | cons_cons a h ih =>
    obtain ⟨b, b1, b2⟩ := ih
    refine ⟨2 * b + 1, by rw [List.length_cons, Nat.pow_succ]; omega, ?_⟩
    unfold pick
    rw [if_pos (by omega), show (2 * b + 1) / 2 = b by omega, b2]
theorem pick_range : ∀ (l : List Int) (b : Nat), ((List.range l.length).filter (fun k => decide (b / 2 ^ k % 2 = 1))).map (fun k => l.getD k 0) = pick l b
  | [], b => rfl
  | a :: l, b => by
    unfold pick
    rw [← pick_range l (b / 2), List.length_cons, List.range_succ_eq_map, List.filter_cons, List.filter_map]
    have e : ((List.range l.length).filter ((fun k => decide (b / 2 ^ k % 2 = 1)) ∘ Nat.succ)) = (List.range l.length).filter (fun k => decide (b / 2 / 2 ^ k % 2 = 1)) := by
      apply List.filter_congr
      intro k _
      have : b / 2 ^ (k + 1) = b / 2 / 2 ^ k := by rw [Nat.pow_succ, Nat.mul_comm, Nat.div_div_eq_div_mul]
      simp [this]
    rw [e]
    by_cases g : b % 2 = 1
    · rw [if_pos g, if_pos (by simpa using g), List.map_cons, List.map_map]; rfl
    · rw [if_neg g, if_neg (by simpa using g), List.map_map]; rfl
/-- the most, part by part -/
def mostB (s : Int) (row : List Int) (many : Int) : Nat → Nat
  | 0 => 0
  | b + 1 => if mostB s row many b < (pick row b).length ∧ (lngB s (pick row b) : Int) ≤ many then (pick row b).length else mostB s row many b
theorem mostB_up {s : Int} {row : List Int} {many : Int} : ∀ {n b : Nat}, b < n → (lngB s (pick row b) : Int) ≤ many → (pick row b).length ≤ mostB s row many n
  | 0, b, h, _ => by omega
  | n + 1, b, h, g => by
    unfold mostB
    by_cases e : b = n
    · subst e
      by_cases c : mostB s row many b < (pick row b).length
      · rw [if_pos ⟨c, g⟩]; omega
      · rw [if_neg (fun x => c x.1)]; omega
    · have := mostB_up (n := n) (by omega) g
      split <;> omega
theorem mostB_low {s : Int} {row : List Int} {many : Int} (h0 : 0 ≤ many) : ∀ n : Nat, ∃ S, S.Sublist row ∧ (lngB s S : Int) ≤ many ∧ S.length = mostB s row many n
  | 0 => ⟨[], by simp, by simpa [lngB, bestB, mxN] using h0, rfl⟩
  | n + 1 => by
    unfold mostB
    split
    · rename_i h
      exact ⟨_, pick_sub row n, h.2, rfl⟩
    · exact mostB_low h0 n
theorem most_rise {row : List Int} {k : Nat} : Gr k row (mostB (-1) row k (2 ^ row.length)) := by
  constructor
  · obtain ⟨S, s1, s2, s3⟩ := mostB_low (s := -1) (row := row) (many := k) (by omega) (2 ^ row.length)
    exact ⟨S, s1, lng_fall.mp (by omega), s3⟩
  · intro S hS no
    obtain ⟨b, b1, rfl⟩ := pick_all hS
    exact mostB_up b1 (by have := lng_fall.mpr no; omega)
theorem most_fall {row : List Int} {k : Nat} : Gr k row.reverse (mostB 1 row k (2 ^ row.length)) := by
  constructor
  · obtain ⟨S, s1, s2, s3⟩ := mostB_low (s := 1) (row := row) (many := k) (by omega) (2 ^ row.length)
    exact ⟨S.reverse, s1.reverse, lng_rise.mp (by omega), by simpa using s3⟩
  · intro S hS no
    obtain ⟨b, b1, e⟩ := pick_all (S := S.reverse) (l := row) (by have := hS.reverse; rwa [List.reverse_reverse] at this)
    have := mostB_up (s := 1) (many := k) b1 (by
      rw [e]
      have := (lng_rise (l := S.reverse) (k := k)).mpr (by rwa [List.reverse_reverse])
      omega)
    rw [e] at this
    simpa using this
end RS

/-! ## comprehensions -/
namespace L2
open PySem PySem.Spec PyProof.Rows

theorem closure_go {env : Env} : ∀ (names : List (Str × NameKind)) (acc : List (Str × Addr)), (∀ y ∈ names, y.2 = .free → ∃ c, env.cells.lookup y.1 = some c) → (∀ y c, acc.lookup y = some c → env.cells.lookup y = some c) →
    ∃ cl, (forIn names acc (fun (p : Str × NameKind) (r : List (Str × Addr)) => (match p with | (name, kind) => if (kind == NameKind.free) = true then (do let c ← cellOf env name; pure (ForInStep.yield ((name, c) :: r))) else pure (ForInStep.yield r) : Sem (ForInStep (List (Str × Addr)))))) = (pure cl : Sem (List (Str × Addr))) ∧
      (∀ y c, cl.lookup y = some c → env.cells.lookup y = some c) ∧ (∀ y c, acc.lookup y = some c → ∃ c', cl.lookup y = some c') ∧ ∀ y, (y, NameKind.free) ∈ names → ∃ c, cl.lookup y = some c
  | [], acc, _, ha => ⟨acc, rfl, ha, fun y c e => ⟨c, e⟩, fun y hy => absurd hy (by simp)⟩
  | (n, k) :: r, acc, hf, ha => by
    have hr : ∀ y ∈ r, y.2 = .free → ∃ c, env.cells.lookup y.1 = some c := fun y hy => hf y (List.mem_cons_of_mem _ hy)
    cases hk : (k == NameKind.free) with
    | true =>
      have hk' : k = .free := by simpa using hk
      obtain ⟨c, hc⟩ := hf (n, k) List.mem_cons_self hk'
      have ha' : ∀ y c', ((n, c) :: acc).lookup y = some c' → env.cells.lookup y = some c' := fun y c' e => by
        rw [List.lookup_cons] at e
        cases hb : y == n with
        | true => rw [hb] at e; cases e; rw [beq_iff_eq.mp hb]; exact hc
        | false => rw [hb] at e; exact ha y c' e
      obtain ⟨cl, e, h1, h2, h3⟩ := closure_go r ((n, c) :: acc) hr ha'
      have mono : ∀ y c', acc.lookup y = some c' → ∃ c'', cl.lookup y = some c'' := fun y c' q => by
        cases hb : y == n with
        | true => exact h2 y c (by rw [List.lookup_cons, hb])
        | false => exact h2 y c' (by rw [List.lookup_cons, hb]; exact q)
      refine ⟨cl, ?_, h1, mono, fun y hy => ?_⟩
      · rw [List.forIn_cons]
        have : (cellOf env n : Sem Addr) = pure c := by unfold cellOf; rw [hc]
        simp only [hk, if_true, this]
        exact e
      · rcases List.mem_cons.mp hy with q | q
        · cases q
          exact h2 n c (by rw [List.lookup_cons]; simp)
        · exact h3 y q
    | false =>
      obtain ⟨cl, e, h1, h2, h3⟩ := closure_go r acc hr ha
      refine ⟨cl, ?_, h1, h2, fun y hy => ?_⟩
      · rw [List.forIn_cons]
        simp only [hk, Bool.false_eq_true, if_false]
        exact e
      · rcases List.mem_cons.mp hy with q | q
        · cases q
          cases hk
        · exact h3 y q
theorem closure_ok {scope : Scope} {env : Env} (h : ∀ y ∈ scope.names, y.2 = .free → ∃ c, env.cells.lookup y.1 = some c) :
    ∃ cl, closureFor scope env = pure cl ∧ (∀ y c, cl.lookup y = some c → env.cells.lookup y = some c) ∧ ∀ y, (y, NameKind.free) ∈ scope.names → ∃ c, cl.lookup y = some c := by
  obtain ⟨cl, e, h1, _, h3⟩ := closure_go (env := env) scope.names [] h (fun y c e => by simp at e)
  refine ⟨cl, ?_, h1, h3⟩
  unfold closureFor
  exact (congrArg (fun t : Sem (List (Str × Addr)) => t >>= fun cs => pure cs) e).trans rfl

/-- the context of a comprehension's block: its variable first, then the captured names -/
def Cx.comp (X : Cx) (M : List Str) (scope : Scope) (cl : List (Str × Addr)) (C : Addr) (s : Shared) (H : Hp) (ex : List Addr) : Cx where
  prog := X.prog
  w := X.w
  K := X.K
  mg := X.mg
  base := X.base
  A := X.A
  N := M
  s₀ := s
  H₀ := H
  env := compEnvC scope cl C X.env
  outer := X.stack
  stack := X.stack
  ex := ex
  fn := fun _ => false
  calm := X.calm
  pn := []
  xe := fun _ _ => False

/-- the block's state -/
def cst (cp : List Nat) (σ : St) (v : Option V) : St := v :: cp.map fun i => σ.getD i none
/-- what a comprehension asks: D the new list; W the invariant by the turn and a measure -/
def tComp (wi : TI) (cp : List Nat) (tt : TT) (te : TE) : TE := fun σ H Q => wi σ H fun J H1 => ∀ D, H1 D = none →
  ∃ W : Nat → Nat → Hp → Prop, (∃ m, W 0 m (upd H1 D (.lst []))) ∧ ∀ i m H, W i m H →
    (J.stop i H ∧ Q (.ref D) H) ∨ (J.go i H ∧ ∀ v H', J.yld i H v H' → tt (cst cp σ (some v)) H' fun b H2 =>
      if b = true then te (cst cp σ (some v)) H2 fun y H3 => ∃ ys, H3 D = some (.lst ys) ∧ ys.length < sizeLine ∧ ∃ m', m' < m ∧ W (i + 1) m' (upd H3 D (.lst (ys ++ [y])))
      else ∃ m', m' < m ∧ W (i + 1) m' H2)
/-- the tests of a comprehension -/
def PTs (X : Cx) (ifs : List Expr) (t : TT) : Prop :=
  ∀ (pins : List (Addr × Obj)) (s : Shared) (σ : St) (H : Hp) (Q : Bool → Hp → Prop), Inv X pins σ H s → t σ H Q →
    wpAny (model X.prog X.w) X.A (forIn ifs true fun c r => if r = true then do let ok ← isTrue c X.env (eval c X.env); pure (ForInStep.yield ok) else pure (ForInStep.yield r)) (TP X pins σ Q) X.xe s
def tNoTest : TT := fun _ H Q => Q true H
theorem pts_nil {X : Cx} : PTs X [] tNoTest := fun pins s σ H Q I h => wpAny_tests_nil ⟨H, I, h⟩
theorem pts_one {X : Cx} {c : Expr} {t : TT} (h : PT X c t) : PTs X [c] t := fun pins s σ H Q I q => wpAny_tests_one (h pins s σ H Q I q)

/-- the names of a comprehension's block, looked at -/
structure CompScope (N : List Str) (out : Scope) (x : Str) (cp : List Nat) (M : List Str) (scope : Scope) : Prop where
  hM : M = x :: cp.map fun i => N.getD i x
  kind : scope.kind = .function
  hx : scope.names.lookup x = some .local
  nocellB : scope.names.all (fun y => !(y.2 == .cell)) = true
  locB : scope.names.all (fun y => !(y.2 == .local) || scope.names.lookup y.1 == some .local) = true
  freeB : scope.names.all (fun y => !(y.2 == .free) || (out.names.lookup y.1 == some .cell || out.names.lookup y.1 == some .free)) = true
  capB : cp.all (fun i => decide (i < N.length) && scope.names.lookup (N.getD i x) == some .free) = true
section
variable {N : List Str} {out : Scope} {x : Str} {cp : List Nat} {M : List Str} {scope : Scope}
theorem CompScope.nocell (S : CompScope N out x cp M scope) : ∀ y ∈ scope.names, y.2 ≠ .cell := fun y hy => by
  have := List.all_eq_true.mp S.nocellB y hy
  simpa using this
theorem CompScope.loc (S : CompScope N out x cp M scope) : ∀ y ∈ scope.names, y.2 = .local → scope.names.lookup y.1 = some .local := fun y hy e => by
  have := List.all_eq_true.mp S.locB y hy
  simpa [e] using this
theorem CompScope.free (S : CompScope N out x cp M scope) : ∀ y ∈ scope.names, y.2 = .free → (out.names.lookup y.1 = some .cell ∨ out.names.lookup y.1 = some .free) := fun y hy e => by
  have := List.all_eq_true.mp S.freeB y hy
  simpa [e] using this
theorem CompScope.cap (S : CompScope N out x cp M scope) : ∀ i ∈ cp, i < N.length ∧ scope.names.lookup (N.getD i x) = some .free := fun i hi => by
  have := List.all_eq_true.mp S.capB i hi
  rw [Bool.and_eq_true] at this
  exact ⟨of_decide_eq_true this.1, by simpa using this.2⟩
end

theorem relabel_lookup {env : Env} {x : Str} {k : NameKind} : ∀ {names : List (Str × NameKind)},
    (names.map fun (n, k) => if (k == NameKind.free && env.scope.kind == .function && env.kindOf n == some .cell) then (n, NameKind.cell) else (n, k)).lookup x = some k →
    ∃ k0, names.lookup x = some k0 ∧ (k = k0 ∨ (k0 = .free ∧ k = .cell))
  | [], h => by simp at h
  | (n, k1) :: r, h => by
    have ih := @relabel_lookup env x k r
    have h : List.lookup x ((if (k1 == NameKind.free && env.scope.kind == .function && env.kindOf n == some .cell) = true then (n, NameKind.cell) else (n, k1)) :: (r.map fun (n, k) => if (k == NameKind.free && env.scope.kind == .function && env.kindOf n == some .cell) then (n, NameKind.cell) else (n, k))) = some k := h
    by_cases hc : (k1 == NameKind.free && env.scope.kind == .function && env.kindOf n == some .cell) = true
    · rw [if_pos hc, List.lookup_cons] at h
      cases hx : x == n with
      | true =>
        rw [hx] at h
        rw [List.lookup_cons, hx]
        have hk : k1 = .free := by
          simp only [Bool.and_eq_true, beq_iff_eq] at hc
          exact hc.1.1
        exact ⟨k1, rfl, .inr ⟨hk, (Option.some.inj h).symm⟩⟩
      | false =>
        rw [hx] at h
        rw [List.lookup_cons, hx]
        exact ih h
    · rw [if_neg hc, List.lookup_cons] at h
      cases hx : x == n with
      | true =>
        rw [hx] at h
        rw [List.lookup_cons, hx]
        exact ⟨k1, rfl, .inl (Option.some.inj h).symm⟩
      | false =>
        rw [hx] at h
        rw [List.lookup_cons, hx]
        exact ih h
theorem relabel_free {env : Env} {x : Str} : ∀ {names : List (Str × NameKind)}, names.lookup x = some .free →
    (names.map fun (n, k) => if (k == NameKind.free && env.scope.kind == .function && env.kindOf n == some .cell) then (n, NameKind.cell) else (n, k)).lookup x = some .free ∨
    (names.map fun (n, k) => if (k == NameKind.free && env.scope.kind == .function && env.kindOf n == some .cell) then (n, NameKind.cell) else (n, k)).lookup x = some .cell
  | [], h => by simp at h
  | (n, k1) :: r, h => by
    have ih := @relabel_free env x r
    show List.lookup x ((if (k1 == NameKind.free && env.scope.kind == .function && env.kindOf n == some .cell) = true then (n, NameKind.cell) else (n, k1)) :: _) = _ ∨ List.lookup x ((if (k1 == NameKind.free && env.scope.kind == .function && env.kindOf n == some .cell) = true then (n, NameKind.cell) else (n, k1)) :: _) = _
    rw [List.lookup_cons] at h
    by_cases hc : (k1 == NameKind.free && env.scope.kind == .function && env.kindOf n == some .cell) = true
    · rw [if_pos hc, List.lookup_cons]
      cases hx : x == n with
      | true => exact .inr rfl
      | false => rw [hx] at h; exact ih h
    · rw [if_neg hc, List.lookup_cons]
      cases hx : x == n with
      | true => rw [hx] at h; exact .inl h
      | false => rw [hx] at h; exact ih h

section
variable {X : Cx} {pins : List (Addr × Obj)} {σ : St} {H : Hp}

/-- the entry of a comprehension's block -/
theorem Inv.comp {s3 s4 : Shared} {x : Str} {cp : List Nat} {M : List Str} {scope : Scope} {cl : List (Str × Addr)} {fp : List Addr} (I : Inv X pins σ H s3) (S : CompScope X.N X.env.scope x cp M scope)
    (hcl : ∀ y c, cl.lookup y = some c → X.env.cells.lookup y = some c) (hcf : ∀ y, (y, NameKind.free) ∈ scope.names → ∃ c, cl.lookup y = some c)
    (hfp : ∀ b ∈ fp, FpOk X pins H b) (hfo : ∀ b ∈ fp, b < s3.heap.objs.size) (hs : s4 = { s3 with heap := s4.heap, toks := s4.toks }) (hk : ∀ b o, s3.heap.get? b = some o → s4.heap.get? b = some o)
    {m : Str → Option Value} (hn : s4.heap.Ns s3.heap.objs.size m) :
    Inv (X.comp M scope cl s3.heap.objs.size s3 H fp) [] (cst cp σ none) H s4 := by
  have os4 : s4.os = s3.os := by rw [hs]
  have g4 : s4.gens = s3.gens := by rw [hs]
  have I4 : Inv X pins σ H s4 := by
    have := I.kept (h' := s4.heap) (t' := s4.toks) hk
    rw [hs]; exact this
  refine ⟨⟨I.ok.mod, S.kind, I.ok.glob, I.ok.blt, Nat.le_refl _, fun y z c h1 h2 => I.ok.inj y z c (hcl y c h1) (hcl z c h2), fun y hy => ?_, fun y c h _ => absurd h (by intro z; cases z), I.ok.hd, I.ok.frames, .inl rfl, fun b hb => ⟨Nat.ne_of_lt (hfo b hb), fun y c e => (hfp b hb).2.2.2.2.1 y c (hcl y c e)⟩,
    I.bs, Nat.le_trans I.ok.bsz I.sz, fun b o e hb => ?_, fun b hb hs => ?_, I.stack, I.stkFree⟩,
    os4, ?_, Un.kept hk, ⟨m, hn, fun i y v h1 h2 h3 => ?_⟩, fun y c e => ?_, I.hok.fresh (Nat.le_refl _), fun y c e => I.freeC y c (hcl y c e), fun p hp => absurd hp (by intro z; cases z), I.hok.kept hk, ?_⟩
  · have hy' : ∃ k, (k = NameKind.cell ∨ k = .free) ∧ (relabel scope X.env).names.lookup y = some k := by
      rcases hy with hy | hy
      · exact ⟨_, .inl rfl, hy⟩
      · exact ⟨_, .inr rfl, hy⟩
    obtain ⟨k, hk, e⟩ := hy'
    obtain ⟨k0, e0, h0⟩ := relabel_lookup (names := scope.names) e
    have mem := PySem.mem_of_lookup e0
    rcases h0 with rfl | ⟨rfl, rfl⟩
    · rcases hk with rfl | rfl
      · exact absurd rfl (S.nocell _ mem)
      · exact hcf y mem
    · exact hcf y mem
  · obtain ⟨_, _, _, h4, _⟩ := hfp b hb
    rcases h4 with h4 | h4
    · exact I.ok.noex b o e h4
    · exact absurd (Nat.lt_of_lt_of_le (Heap.lt_size e) (Nat.le_trans I.ok.bsz h4)) (Nat.lt_irrefl _)
  · obtain ⟨_, h1, h2, _⟩ := hfp b hb
    rcases List.mem_cons.mp (I.stkSub b hs) with e | e
    · exact h1 e
    · exact h2 e
  · rw [g4]; exact I.bare
  · -- names
    have hM : (X.comp M scope cl s3.heap.objs.size s3 H fp).N = x :: cp.map fun i => X.N.getD i x := S.hM
    rw [hM] at h1
    cases i with
    | zero => unfold cst at h2; simp at h2
    | succ i =>
      unfold cst at h2
      simp only [List.getElem?_cons_succ, List.getElem?_map] at h1 h2
      cases hi : cp[i]? with
      | none => rw [hi] at h1; cases h1
      | some j =>
        rw [hi] at h1 h2
        simp only [Option.map_some, Option.some.injEq] at h1 h2
        obtain ⟨hj, hf⟩ := S.cap j (List.mem_of_getElem? hi)
        have hNj : X.N[j]? = some y := by
          rw [← h1, List.getD_eq_getElem?_getD]
          rw [List.getElem?_eq_getElem hj]; rfl
        have hσj : σ[j]? = some (some v) := by
          rw [List.getD_eq_getElem?_getD] at h2
          cases e : σ[j]? with
          | none => rw [e] at h2; cases h2
          | some a => rw [e] at h2; simp at h2; rw [h2]
        rw [h1] at hf
        have memf := PySem.mem_of_lookup hf
        have ho := S.free _ memf rfl
        have hvis : Vis X.env.scope y := ho.elim (fun z => .inr (.inl z)) fun z => .inr (.inr z)
        obtain ⟨m0, hn0, hl0⟩ := I4.loc
        obtain ⟨u, r, l⟩ := hl0 j y v hNj hσj hvis
        refine ⟨u, r, ?_⟩
        rcases l with ⟨k, _⟩ | ⟨k, c, e, z⟩
        · exfalso
          have k' : X.env.scope.names.lookup y = some .local := k
          rcases ho with ho | ho
          · rw [k'] at ho; cases ho
          · rw [k'] at ho; cases ho
        · obtain ⟨c', e'⟩ := hcf y memf
          have : c' = c := by have := hcl y c' e'; rw [e] at this; cases this; rfl
          subst this
          refine .inr ⟨?_, c', e', z⟩
          exact (relabel_free (env := X.env) hf).elim .inr .inl
  · obtain ⟨v, q⟩ := I4.cell y c (hcl y c e)
    exact ⟨v, q⟩
  · show (cst cp σ none).length = M.length
    rw [S.hM]; simp [cst]

/-- behind a comprehension's block -/
theorem Inv.uncomp {s3 s' : Shared} {σ' : St} {H' : Hp} {M : List Str} {scope : Scope} {cl : List (Str × Addr)} {fp : List Addr} {h' : Heap} (I : Inv X pins σ H s3) (hfp : ∀ b ∈ fp, FpOk X pins H b)
    (J : Inv (X.comp M scope cl s3.heap.objs.size s3 H fp) [] σ' H' s') (hs : Heap.SameBut s3.heap.objs.size s'.heap h') : Inv X pins σ H' { s' with heap := h' } := by
  have hC : H' s3.heap.objs.size = none := J.free
  have u := J.base
  have hok : HOk X.prog X.w H' h' := fun b o e => by
    refine (J.hok b o e).stay (fun c v hc q => (hs.2 c ?_).trans q) (fun _ q => q) fun _ _ q => q
    rintro rfl
    rcases hc with z | z
    · rw [← z, hC] at e; cases e
    · rw [hC] at z; cases z
  have ne : ∀ b o, s3.heap.get? b = some o → b ≠ s3.heap.objs.size := fun b o e => Nat.ne_of_lt (Heap.lt_size e)
  have un : Un (frs X.stack) fp H H' s3.heap h' :=
    ⟨fun b o e n hb hx => (hs.2 b (ne b o e)).trans (u.keep b o e n hb hx), fun b o e n hb hx => by
      obtain ⟨sl, q⟩ := u.slot b o e n hb hx
      exact ⟨sl, (hs.2 b (ne b o e)).trans q⟩, u.free, fun b o e hx => by
      obtain ⟨o', q⟩ := u.there b o e hx
      exact ⟨o', (hs.2 b (ne b o e)).trans q⟩, u.tups, u.frzs, u.tbls⟩
  refine I.call' (s' := { s' with heap := h' }) (ch := fp) J.os un hok J.bare fun b hb => ?_
  obtain ⟨_, h1, _, h3, h4, h5⟩ := hfp b hb
  exact ⟨h3, h1, h4, h5⟩
end

section
variable {prog : Program} {w : World} {A : Around} {R : Result → Shared → Prop} {s : Shared}
/-- the loop of a comprehension, the step ahead of the store among the rest -/
theorem compLoop_any {elt target iter : Expr} {ifs : List Expr} {scope : Scope} {pos : Pos} {it acc : Value} {env : Env} (I : Nat → Shared → Prop)
    (turn : ∀ n s, I n s → wpAny (model prog w) A (pyNext it) (fun r s₁ => match r with
      | none => R (.ok .next) s₁
      | some v => wpAny (model prog w) A (letOwnedTupleGo target it v) (fun _ s₁' => wpAny (model prog w) A (assign target env v) (fun _ s₂ =>
          wpAny (model prog w) A (forIn ifs true fun c r => if r = true then do let ok ← isTrue c env (eval c env); pure (ForInStep.yield ok) else pure (ForInStep.yield r)) (fun ok s₃ =>
            if ok = true then wpAny (model prog w) A (eval elt env) (fun x s₄ =>
              wpAny (model prog w) A (call (.builtin "list.append") [acc, x]) (fun _ s₅ => ∃ m, m < n ∧ I m s₅) (fun _ _ => False) s₄) (fun _ _ => False) s₃
            else ∃ m, m < n ∧ I m s₃) (fun _ _ => False) s₂) (fun _ _ => False) s₁') (fun _ _ => False) s₁) (fun _ _ => False) s)
    (n : Nat) (h : I n s) :
    codeAny (model prog w) A (.compLoop (.ListComp elt [⟨target, iter, ifs, 0⟩] scope pos) 0 it acc env) R s := by
  refine codeAny_loop rfl I (fun n s hI => ?_) n h
  show wpAny _ A ((compTurn (.ListComp elt [⟨target, iter, ifs, 0⟩] scope pos) 0 it acc env).onRaise (fun x => do noteFrame x env; theTreesLotGoes x)) _ _ s
  refine wpAny_noted ?_
  rw [compTurn_list]
  refine wpAny_bind (wpAny_standAt (wpAny_bind (wpAny_mono (turn n s hI) (fun r s₁ h₁ => ?_) fun _ _ h' => h'.elim)))
  cases r with
  | none => exact wpAny_pure h₁
  | some v =>
    refine wpAny_bind (wpAny_mono h₁ (fun _ s₁' h₁' => ?_) fun _ _ h' => h'.elim)
    refine wpAny_bind (wpAny_mono h₁' (fun _ s₂ h₂ => wpAny_bind (wpAny_mono h₂ (fun ok s₃ h₃ => ?_) fun _ _ h' => h'.elim)) fun _ _ h' => h'.elim)
    cases ok with
    | false => exact wpAny_pure ⟨rfl, h₃⟩
    | true =>
      exact wpAny_bind (wpAny_bind (wpAny_mono h₃ (fun x s₄ h₄ => wpAny_bind (wpAny_mono h₄ (fun _ s₅ h₅ => wpAny_pure (wpAny_pure ⟨rfl, h₅⟩)) fun _ _ h' => h'.elim)) fun _ _ h' => h'.elim))
end

section
variable {X : Cx}
/-- the block runs: from the iterator to the end -/
theorem comp_run {elt iter : Expr} {x : Str} {px : Pos} {ifs : List Expr} {scope : Scope} {pos : Pos} {cp : List Nat} {M : List Str} {tt : TT} {te : TE} {cl : List (Str × Addr)}
    (hc : X.calm = true) (S : CompScope X.N X.env.scope x cp M scope) (hnd : M.Nodup)
    (hcl : ∀ y c, cl.lookup y = some c → X.env.cells.lookup y = some c) (hcf : ∀ y, (y, NameKind.free) ∈ scope.names → ∃ c, cl.lookup y = some c)
    (ht : ∀ C s H ex, PTs (X.comp M scope cl C s H ex) ifs tt) (he : ∀ C s H ex, PE (X.comp M scope cl C s H ex) elt te)
    {pins : List (Addr × Obj)} {σ : St} {s2 : Shared} {H2 : Hp} {Q : VK} {it : Addr} {fp : List Addr} {tn : Nat → Heap → Prop} {J : It} {RR : Value → Addr → Result → Shared → Prop} {E : Value → Shared → Prop}
    (I2 : Inv X pins σ H2 s2) (T : Turn X.prog X.w X.K (.Name x px) J fp it tn) (st2 : tn 0 s2.heap) (f2 : ∀ b ∈ fp, FpOk X pins H2 b)
    (q : ∀ D, H2 D = none → ∃ W : Nat → Nat → Hp → Prop, (∃ m, W 0 m (upd H2 D (.lst []))) ∧ ∀ i m H, W i m H →
      (J.stop i H ∧ Q (.ref D) H) ∨ (J.go i H ∧ ∀ v H', J.yld i H v H' → tt (cst cp σ (some v)) H' fun b H2 =>
        if b = true then te (cst cp σ (some v)) H2 fun y H3 => ∃ ys, H3 D = some (.lst ys) ∧ ys.length < sizeLine ∧ ∃ m', m' < m ∧ W (i + 1) m' (upd H3 D (.lst (ys ++ [y])))
        else ∃ m', m' < m ∧ W (i + 1) m' H2))
    (fin : ∀ (D C : Addr) (s' : Shared) (H' : Hp) (m : Str → Option Value), s'.heap.Ns C m → (∀ h', Heap.SameBut C s'.heap h' → Inv X pins σ H' { s' with heap := h' }) → FpOk X pins H' C → Q (.ref D) H' → RR (.ref D) C (.ok .next) s') :
    wpAny (model X.prog X.w) X.A (newList []) (fun acc s₃ => wpAny (model X.prog X.w) X.A (newFunctionEnv scope X.env.globals cl [] X.env.qual none .none (some X.env)) (fun cenv s₄ =>
      codeAny (model X.prog X.w) X.A (.compStart (.ListComp elt [⟨.Name x px, iter, ifs, 0⟩] scope pos) 0 (.ref it) acc { cenv with scope := relabel scope X.env }) (RR acc cenv.locals) s₄) E s₃) E s2 := by
  have fobj : ∀ b ∈ fp, b < s2.heap.objs.size := fun b hb => by
    obtain ⟨o, e, _⟩ := T.obj 0 _ st2 b hb
    exact Heap.lt_size e
  refine wpAny_newObj_type (wpAny_newFunctionEnv S.nocell (by intro y hy; simp at hy) (fun h₁ hns₁ hsb₁ => ?_) S.kind)
  have hf : H2 s2.heap.objs.size = none := I2.hok.fresh (Nat.le_refl _)
  obtain ⟨W, ⟨m0, w0⟩, turn⟩ := q _ hf
  generalize hs3 : ({ s2 with heap := s2.heap.push { cls := .type "list", dict := none, data := .seq ([] : List Value).toArray } } : Shared) = s3 at *
  have I3 : Inv X pins σ (upd H2 s2.heap.objs.size (.lst [])) s3 := by
    rw [← hs3]
    exact I2.laid (t' := s2.toks) (fun b u e => Heap.get?_push_of_some _ e) (Nat.le_refl _) ⟨Nat.zero_le _, [], 0, .nil, Heap.get?_push_size _ rfl⟩
  have sz3 : s2.heap.objs.size < s3.heap.objs.size := by rw [← hs3]; show _ < (s2.heap.push _).objs.size; rw [Heap.size_push]; exact Nat.lt_succ_self _
  have f3 : ∀ b ∈ fp, FpOk X pins (upd H2 s2.heap.objs.size (.lst [])) b := fun b hb => by
    obtain ⟨h0, r⟩ := f2 b hb
    exact ⟨by rw [upd_ne (Nat.ne_of_lt (fobj b hb))]; exact h0, r⟩
  have keep34 : ∀ b o, s3.heap.get? b = some o → h₁.get? b = some o := fun b o e => hsb₁.extBut b o (Nat.ne_of_lt (Heap.lt_size e)) (Heap.get?_push_of_some _ e)
  have keep24 : ∀ b o, s2.heap.get? b = some o → h₁.get? b = some o := fun b o e => keep34 b o (by rw [← hs3]; exact Heap.get?_push_of_some _ e)
  have Ic : Inv (X.comp M scope cl s3.heap.objs.size s3 (upd H2 s2.heap.objs.size (.lst [])) fp) [] (cst cp σ none) (upd H2 s2.heap.objs.size (.lst [])) { s3 with heap := h₁, toks := s3.toks + ([] : List (Str × Value)).length } :=
    I3.comp S hcl hcf f3 (fun b hb => Nat.lt_trans (fobj b hb) sz3) rfl keep34 hns₁
  have fst : ∀ {H' : Hp}, (∀ b ∈ fp, H' b = none) → ∀ b ∈ fp, FpOk (X.comp M scope cl s3.heap.objs.size s3 (upd H2 s2.heap.objs.size (.lst [])) fp) [] H' b := fun hn b hb => by
    obtain ⟨_, h1, h2, _, h4, _⟩ := f2 b hb
    refine ⟨hn b hb, Nat.ne_of_lt (Nat.lt_trans (fobj b hb) sz3), fun hs => ?_, .inl hb, fun y c e => h4 y c (hcl y c e), fun p hp => absurd hp (by intro z; cases z)⟩
    rcases List.mem_cons.mp (I3.stkSub b hs) with e | e
    · exact h1 e
    · exact h2 e
  have loop : codeAny (model X.prog X.w) X.A (.compLoop (.ListComp elt [⟨.Name x px, iter, ifs, 0⟩] scope pos) 0 (.ref it) (.ref s2.heap.objs.size) (compEnvC scope cl s3.heap.objs.size X.env)) (RR (.ref s2.heap.objs.size) s3.heap.objs.size)
      { s3 with heap := h₁, toks := s3.toks + ([] : List (Str × Value)).length } := by
    refine compLoop_any (fun n s' => ∃ i vo H', Inv (X.comp M scope cl s3.heap.objs.size s3 (upd H2 s2.heap.objs.size (.lst [])) fp) [] (cst cp σ vo) H' s' ∧ tn i s'.heap ∧ (∀ b ∈ fp, H' b = none) ∧ W i n H') ?_ m0
      ⟨0, none, _, Ic, T.keep _ _ _ st2 (fun b hb o e => keep24 b o e), fun b hb => (f3 b hb).1, w0⟩
    rintro n s5 ⟨i, vo, H5, I5, st5, fr5, w5⟩
    rcases turn i n H5 w5 with ⟨stop, qn⟩ | ⟨go, step⟩
    · refine thn (T.done (X.comp M scope cl s3.heap.objs.size s3 (upd H2 s2.heap.objs.size (.lst [])) fp) rfl rfl rfl hc i [] s5 _ H5 _ I5 (fst fr5) st5 stop) fun r s6 ⟨hr, I6⟩ => ?_
      subst hr
      obtain ⟨m', hm', _⟩ := id I6.loc
      exact fin _ _ s6 H5 m' hm' (fun h' hb => I3.uncomp f3 I6 hb) (I3.fpOk (Nat.le_refl _) I6.free) qn
    · refine thn (T.item (X.comp M scope cl s3.heap.objs.size s3 (upd H2 s2.heap.objs.size (.lst [])) fp) rfl rfl rfl hc i [] s5 _ H5 _ I5 (fst fr5) st5 go) fun r s6 ⟨u, hr, h6⟩ => ?_
      subst hr
      refine thn h6 fun _ s7 ⟨v, H7, I7, r7, y7, st7, fr7⟩ => ?_
      have I7' := I7.pinned (fst fr7) (T.obj _ _ st7)
      have hMx : (X.comp M scope cl s3.heap.objs.size s3 (upd H2 s2.heap.objs.size (.lst [])) fp).N[0]? = some x := by
        show M[0]? = some x
        rw [S.hM]; rfl
      refine wpAny_assign_Name (store_ok I7' hnd hMx (.inl (lookup_relabel_local S.hx)) r7 (fun s8 I8 => ?_) (.inr (lookup_relabel_local S.hx)))
      have I8' : Inv (X.comp M scope cl s3.heap.objs.size s3 (upd H2 s2.heap.objs.size (.lst [])) fp) ([] ++ pinsAt fp s7.heap) (cst cp σ (some v)) H7 s8 := I8
      have again : ∀ {H9 : Hp} {s9 : Shared} {m' : Nat}, Inv (X.comp M scope cl s3.heap.objs.size s3 (upd H2 s2.heap.objs.size (.lst [])) fp) ([] ++ pinsAt fp s7.heap) (cst cp σ (some v)) H9 s9 → m' < n → W (i + 1) m' H9 →
          ∃ m, m < n ∧ ∃ i vo H', Inv (X.comp M scope cl s3.heap.objs.size s3 (upd H2 s2.heap.objs.size (.lst [])) fp) [] (cst cp σ vo) H' s9 ∧ tn i s9.heap ∧ (∀ b ∈ fp, H' b = none) ∧ W i m H' := fun {H9 s9 m'} I9 hm w9 => by
        refine ⟨m', hm, i + 1, some v, H9, I9.unpinned, T.keep _ _ _ st7 fun b hb o e => (I9.pin (b, o) (List.mem_append_right _ (List.mem_append_right _ (mem_pinsAt hb e)))).1, fun b hb => ?_, w9⟩
        obtain ⟨o, e, d⟩ := T.obj _ _ st7 b hb
        exact (I9.pin (b, o) (List.mem_append_right _ (List.mem_append_right _ (mem_pinsAt hb e)))).2.1
      refine thn (ht _ _ _ _ _ s8 _ H7 _ I8' (step v H7 y7)) fun b s9 ⟨H9, I9, q9⟩ => ?_
      cases b with
      | false =>
        rw [if_neg Bool.false_ne_true] at q9
        rw [if_neg Bool.false_ne_true]
        obtain ⟨m', hm, w9⟩ := q9
        exact again I9 hm w9
      | true =>
        rw [if_pos rfl] at q9
        rw [if_pos rfl]
        refine thn (he _ _ _ _ _ s9 _ H9 _ I9 q9) fun yv s10 ⟨y, H10, I10, ry, ys, hD, hlen, m', hm, w10⟩ => ?_
        exact thn (mt_append _ s10 _ H10 (.ref s2.heap.objs.size) [y] (.ref s2.heap.objs.size) [yv] (fun _ H' => H' = upd H10 s2.heap.objs.size (.lst (ys ++ [y]))) I10 rfl (.cons ry .nil) ⟨_, ys, y, rfl, rfl, hD, hlen, rfl⟩)
          fun _ s11 ⟨_, H11, I11, _, e11⟩ => again I11 hm (e11 ▸ w10)
  exact codeAny_compStart_list loop (T.self _ 0 _ _ _ (T.keep _ _ _ st2 fun b hb o e => keep24 b o e) loop)

/-- [elt for x in iter if ..] -/
theorem pe_comp {elt iter : Expr} {x : Str} {px : Pos} {ifs : List Expr} {scope : Scope} {pos : Pos} {cp : List Nat} {M : List Str} {wi : TI} {tt : TT} {te : TE}
    (hc : X.calm = true) (S : CompScope X.N X.env.scope x cp M scope) (hnd : M.Nodup) (hi : PI X (.Name x px) iter wi)
    (ht : ∀ cl C s H ex, PTs (X.comp M scope cl C s H ex) ifs tt) (he : ∀ cl C s H ex, PE (X.comp M scope cl C s H ex) elt te)
    (hs : ∀ v, foldedSetIterable iter X.env v = pure v := by intro _; rfl) : PE X (.ListComp elt [⟨.Name x px, iter, ifs, 0⟩] scope pos) (tComp wi cp tt te) := by
  intro pins s σ H Q I h
  obtain ⟨cl, e, hcl, hcf⟩ := closure_ok (scope := scope) (env := X.env) fun y hy hf => I.ok.has y.1 (S.free y hy hf)
  rw [eval_ListComp]
  refine wpAny_comprehension_free (use := none) rfl hs e S.kind S.loc (thn (hi pins s σ H _ I h) fun xv s1 h1 => thn h1 fun itv s2 h2 => ?_)
  obtain ⟨it, fp, tn, J, H2, rfl, I2, T, st2, f2, q⟩ := h2
  refine comp_run (RR := fun acc C => compPost (model X.prog X.w) X.A X.xe none (EP X pins σ Q) acc C) hc S hnd hcl hcf (ht cl) (he cl) I2 T st2 f2 q ?_
  intro D C s' H' m hn hI _ qD
  exact ⟨m, hn, fun h' hb => ⟨.ref D, H', hI h' hb, rfl, qD⟩⟩
/-- y = [elt for x in iter if ..], in one line -/
theorem ps_comp {elt iter : Expr} {x y : Str} {px py : Pos} {ifs : List Expr} {scope : Scope} {pos spos : Pos} {cp : List Nat} {M : List Str} {wi : TI} {tt : TT} {te : TE} {i : Nat}
    (hN : X.N.Nodup) (hy : X.N[i]? = some y) (hloc : X.env.scope.names.lookup y = some .local)
    (hc : X.calm = true) (S : CompScope X.N X.env.scope x cp M scope) (hnd : M.Nodup) (hi : PI X (.Name x px) iter wi)
    (ht : ∀ cl C s H ex, PTs (X.comp M scope cl C s H ex) ifs tt) (he : ∀ cl C s H ex, PE (X.comp M scope cl C s H ex) elt te)
    (hsw : swapsWith (.ListComp elt [⟨.Name x px, iter, ifs, 0⟩] scope pos) (some (.Name y py)) spos.line X.env = pure true := by rfl)
    (hs : ∀ v, foldedSetIterable iter X.env v = pure v := by intro _; rfl) : PS X (.Assign [.Name y py] (.ListComp elt [⟨.Name x px, iter, ifs, 0⟩] scope pos) spos) (tAsg (tComp wi cp tt te) (gName i)) := by
  intro pins s σ H D I h
  obtain ⟨cl, e, hcl, hcf⟩ := closure_ok (scope := scope) (env := X.env) fun y hy hf => I.ok.has y.1 (S.free y hy hf)
  rw [exec_Assign_Name_used _ _ _ _ hsw]
  refine wpAny_bind (wpAny_standAt (wpAny_bind ?_))
  show wpAny _ X.A (do let _ ← comprehension (.ListComp elt [⟨.Name x px, iter, ifs, 0⟩] scope pos) scope X.env _ (newList []) false (eval iter X.env) (some (assign (.Name y py) X.env))) _ _ s
  refine wpAny_bind (wpAny_mono (wpAny_comprehension_free (use := some (assign (.Name y py) X.env)) (Q := fun _ s' => SP X pins D .next s') rfl hs e S.kind S.loc
    (thn (hi pins s σ H _ I h) fun xv s1 h1 => thn h1 fun itv s2 h2 => ?_)) (fun _ s' hq => wpAny_pure (wpAny_pure hq)) fun _ _ e => e)
  obtain ⟨it, fp, tn, J, H2, rfl, I2, T, st2, f2, q⟩ := h2
  refine comp_run (Q := fun v H' => D.nx (σ.set i (some v)) H') (RR := fun acc C => compPost (model X.prog X.w) X.A X.xe (some (assign (.Name y py) X.env)) (fun _ s' => SP X pins D .next s') acc C) hc S hnd hcl hcf (ht cl) (he cl) I2 T st2 f2 q ?_
  intro D' C s' H' m hn hI fC qD
  obtain ⟨f0, f1, f2', f3, f4, f5⟩ := fC
  have I' : Inv X pins σ H' s' := hI s'.heap (Heap.SameBut.refl ..)
  show wpAny _ X.A (assign (.Name y py) X.env (.ref D')) _ _ _
  refine wpAny_assign_Name (store_ok2 (v := .ref D') I' hN hy (.inl hloc) rfl (fun s'' I'' ch => ?_) (.inr hloc))
  obtain ⟨a, sb, ha⟩ := ch
  have haC : C ≠ a := by
    rcases ha with rfl | ha
    · exact f1
    · exact fun z => f4 y a ha z.symm
  refine ⟨m, hn.sameBut sb haC, fun h' hb => ⟨_, H', ?_, qD⟩⟩
  exact I''.turned (t' := s''.toks) (fun b o hbC e => (hb.2 b hbC).trans e) f0 f1 f3 f4 f5
end
end L2

/-! ## readings that compute -/
namespace L2
open PySem PySem.Spec PyProof.Rows
def onI (x : V) (F : Int → Prop) : Prop := match x with | .int i => F i | _ => False
def onB (x : V) (F : Bool → Prop) : Prop := match x with | .bl b => F b | _ => False
/-- the list at x -/
def onL (H : Hp) (x : V) (F : Addr → List V → Prop) : Prop := match x with
  | .ref p => (match H p with | some (.lst xs) => F p xs | _ => False)
  | _ => False
/-- the list or tuple at x -/
def onS (H : Hp) (x : V) (F : List V → Prop) : Prop := match x with
  | .ref p => (match H p with | some (.lst xs) => F xs | some (.tup xs) => F xs | _ => False)
  | _ => False
def on1 (vs : List V) (F : V → Prop) : Prop := match vs with | [x] => F x | _ => False
def on2 (vs : List V) (F : V → V → Prop) : Prop := match vs with | [x, y] => F x y | _ => False
def onO {α : Type} (o : Option α) (F : α → Prop) : Prop := match o with | some v => F v | none => False
/-- a new object -/
def new (H : Hp) (o : HO) (Q : VK) : Prop := ∀ p, H p = none → Q (.ref p) (upd H p o)
theorem onI.out {x : V} {F : Int → Prop} (h : onI x F) : ∃ i, x = .int i ∧ F i := by
  cases x with
  | int i => exact ⟨i, rfl, h⟩
  | _ => exact h.elim
theorem onB.out {x : V} {F : Bool → Prop} (h : onB x F) : ∃ i, x = .bl i ∧ F i := by
  cases x with
  | bl i => exact ⟨i, rfl, h⟩
  | _ => exact h.elim
theorem onL.out {H : Hp} {x : V} {F : Addr → List V → Prop} (h : onL H x F) : ∃ p xs, x = .ref p ∧ H p = some (.lst xs) ∧ F p xs := by
  cases x with
  | ref p =>
    cases e : H p with
    | none => simp only [onL, e] at h
    | some o =>
      cases o with
      | lst xs => simp only [onL, e] at h; exact ⟨p, xs, rfl, e, h⟩
      | _ => simp only [onL, e] at h
  | _ => exact h.elim
theorem onS.out {H : Hp} {x : V} {F : List V → Prop} (h : onS H x F) : ∃ p xs, x = .ref p ∧ (H p = some (.lst xs) ∨ H p = some (.tup xs)) ∧ F xs := by
  cases x with
  | ref p =>
    cases e : H p with
    | none => simp only [onS, e] at h
    | some o =>
      cases o with
      | lst xs => simp only [onS, e] at h; exact ⟨p, xs, rfl, .inl e, h⟩
      | tup xs => simp only [onS, e] at h; exact ⟨p, xs, rfl, .inr e, h⟩
      | _ => simp only [onS, e] at h
  | _ => exact h.elim
theorem on1.out {vs : List V} {F : V → Prop} (h : on1 vs F) : ∃ x, vs = [x] ∧ F x := by
  match vs, h with
  | [x], h => exact ⟨x, rfl, h⟩
  | [], h => exact h.elim
  | _ :: _ :: _, h => exact h.elim
theorem on2.out {vs : List V} {F : V → V → Prop} (h : on2 vs F) : ∃ x y, vs = [x, y] ∧ F x y := by
  match vs, h with
  | [x, y], h => exact ⟨x, y, rfl, h⟩
  | [], h => exact h.elim
  | [_], h => exact h.elim
  | _ :: _ :: _ :: _, h => exact h.elim
theorem onO.out {α : Type} {o : Option α} {F : α → Prop} (h : onO o F) : ∃ v, o = some v ∧ F v := by
  cases o with
  | none => exact h.elim
  | some v => exact ⟨v, rfl, h⟩
theorem sq_of {K : PySem.W.Frag} {H : Hp} {p : Addr} {xs : List V} (h : H p = some (.lst xs) ∨ H p = some (.tup xs)) : SqL K H p xs ∨ SqT K H p xs := h.imp SqL.of SqT.of

section
variable {X : Cx}
theorem CallR.imp {f : Value} {r r' : List V → Hp → VK → Prop} (h : CallR X f r) (i : ∀ xs H Q, r' xs H Q → r xs H Q) : CallR X f r' := fun pins s σ H xs us Q I rs q => h pins s σ H xs us Q I rs (i _ _ _ q)
theorem OpR.imp {f : Value → Value → Sem Value} {r r' : R2} (h : OpR X f r) (i : ∀ x y H Q, r' x y H Q → r x y H Q) : OpR X f r' := fun pins s σ H x y v u Q I rx ry q => h pins s σ H x y v u Q I rx ry (i _ _ _ _ q)
theorem IxR.imp {r r' : R2} (h : IxR X r) (i : ∀ x y H Q, r' x y H Q → r x y H Q) : IxR X r' := fun value slice pins s σ H x y v u Q I rx ry q => h value slice pins s σ H x y v u Q I rx ry (i _ _ _ _ q)
theorem SlR.imp {r r' : V → Option Int → Option Int → Hp → VK → Prop} (h : SlR X r) (i : ∀ x lo hi H Q, r' x lo hi H Q → r x lo hi H Q) : SlR X r' :=
  fun pins s σ H x v vl vu lo hi sl Q I rx hs pl pu q => h pins s σ H x v vl vu lo hi sl Q I rx hs pl pu (i _ _ _ _ _ q)
theorem MtR.imp {id : String} {r r' : V → List V → Hp → VK → Prop} (h : MtR X id r) (i : ∀ x vs H Q, r' x vs H Q → r x vs H Q) : MtR X id r' := fun pins s σ H x xs v us Q I rx rs q => h pins s σ H x xs v us Q I rx rs (i _ _ _ _ q)

/-! ### arithmetic -/
def rII (f : Int → Int → V) : R2 := fun x y H Q => onI x fun i => onI y fun j => Q (f i j) H
theorem rII.ok {f : Int → Int → V} {x y : V} {H : Hp} {Q : VK} (h : rII f x y H Q) : rI0 f x y H Q := by
  obtain ⟨i, rfl, h1⟩ := onI.out h
  obtain ⟨j, rfl, h2⟩ := onI.out h1
  exact ⟨i, j, rfl, rfl, h2⟩
def rIC (C : Int → Int → Prop) (f : Int → Int → V) : R2 := fun x y H Q => onI x fun i => onI y fun j => C i j ∧ Q (f i j) H
theorem rIC.ok {C : Int → Int → Prop} {f : Int → Int → V} {x y : V} {H : Hp} {Q : VK} (h : rIC C f x y H Q) : rI C f x y H Q := by
  obtain ⟨i, rfl, h1⟩ := onI.out h
  obtain ⟨j, rfl, h2⟩ := onI.out h1
  exact ⟨i, j, rfl, rfl, h2⟩
def rPlus : R2 := fun x y H Q => match x with
  | .int i => onI y fun j => Q (.int (i + j)) H
  | _ => onL H x fun _ xs => onL H y fun _ ys => xs.length + ys.length ≤ sizeLine ∧ new H (.lst (xs ++ ys)) Q
theorem f_add : OpR X (binaryOp .Add) rPlus := (op_add.or op_cat).imp fun x y H Q h => by
  cases x with
  | int i =>
    obtain ⟨j, rfl, h1⟩ := onI.out (x := y) h
    exact .inl ⟨i, j, rfl, rfl, h1⟩
  | ref a =>
    have h0 : onL H (.ref a) fun _ xs => onL H y fun _ ys => xs.length + ys.length ≤ sizeLine ∧ new H (.lst (xs ++ ys)) Q := h
    obtain ⟨p, xs, e, hp, h2⟩ := onL.out h0
    obtain ⟨q, ys, rfl, hq, hz, h3⟩ := onL.out h2
    exact .inr ⟨p, q, xs, ys, e, rfl, hp, hq, hz, h3⟩
  | _ => exact h.elim
theorem f_sub : OpR X (binaryOp .Sub) (rII fun i j => .int (i - j)) := op_sub.imp fun _ _ _ _ h => h.ok
theorem f_fdiv : OpR X (binaryOp .FloorDiv) (rIC CDiv fun i j => .int (i / j)) := op_fdiv.imp fun _ _ _ _ h => h.ok
theorem f_mod : OpR X (binaryOp .Mod) (rIC (fun _ j => 0 < j) fun i j => .int (i % j)) := op_mod.imp fun _ _ _ _ h => h.ok
theorem f_lt : OpR X (compareOp .Lt) (rII fun i j => .bl (decide (i < j))) := op_lt.imp fun _ _ _ _ h => h.ok
theorem f_le : OpR X (compareOp .LtE) (rII fun i j => .bl (decide (i ≤ j))) := op_le.imp fun _ _ _ _ h => h.ok
theorem f_gt : OpR X (compareOp .Gt) (rII fun i j => .bl (decide (j < i))) := op_gt.imp fun _ _ _ _ h => h.ok
/-- -x -/
def rNeg : V → Hp → VK → Prop := fun x H Q => onI x fun i => Q (.int (-i)) H
theorem f_neg : UnR X (unaryOp .USub) rNeg := fun pins s σ H x v Q I rx h => by
  obtain ⟨i, rfl, h1⟩ := onI.out h
  exact un_neg pins s σ H _ v Q I rx ⟨i, rfl, h1⟩

/-! ### sequences -/
def rLen : List V → Hp → VK → Prop := fun vs H Q => on1 vs fun x => onS H x fun ys => Q (.int ys.length) H
theorem f_len : CallR X (.builtin "len") rLen := call_len_seq.imp fun vs H Q h => by
  obtain ⟨x, rfl, h1⟩ := on1.out h
  obtain ⟨p, ys, rfl, hp, h2⟩ := onS.out h1
  exact ⟨p, ys, rfl, sq_of hp, h2⟩
def rIxF : R2 := fun x y H Q => onI y fun i => onS H x fun xs => onO (atI xs i) fun v => Q v H
theorem f_ix : IxR X rIxF := (ix_list.or ix_tup).imp fun x y H Q h => by
  obtain ⟨i, rfl, h1⟩ := onI.out h
  obtain ⟨p, xs, rfl, hp, h2⟩ := onS.out h1
  obtain ⟨v, e, h3⟩ := onO.out h2
  rcases hp with hp | hp
  · exact .inl ⟨p, xs, i, v, rfl, rfl, SqL.of hp, e, h3⟩
  · exact .inr ⟨p, xs, i, v, rfl, rfl, SqT.of hp, e, h3⟩
def rSlF : V → Option Int → Option Int → Hp → VK → Prop := fun x lo hi H Q => onL H x fun _ xs => new H (.lst (cutV xs lo hi)) Q
theorem f_sl : SlR X rSlF := sl_list.imp fun x lo hi H Q h => by
  obtain ⟨p, xs, rfl, hp, h1⟩ := onL.out h
  exact ⟨p, xs, rfl, SqL.of hp, h1⟩
def rListF : List V → Hp → VK → Prop := fun vs H Q => on1 vs fun x => onS H x fun ys => new H (.lst ys) Q
theorem f_list : CallR X (.type "list") rListF := call_list_of.imp fun vs H Q h => by
  obtain ⟨x, rfl, h1⟩ := on1.out h
  obtain ⟨p, ys, rfl, hp, h2⟩ := onS.out h1
  exact ⟨p, ys, rfl, sq_of hp, h2⟩
/-- is None -/
def rIsN : R2 := fun x y H Q => y = .non ∧ Q (.bl (decide (x = .non))) H
def rNotN : R2 := fun x y H Q => y = .non ∧ Q (.bl (!decide (x = .non))) H
theorem f_isN : OpR X (compareOp .Is) rIsN := op_isN
theorem f_notN : OpR X (compareOp .IsNot) rNotN := op_notN

/-! ### methods of lists -/
def tML (r : V → List V → Hp → VK → Prop) (to : TE) (t : TA) : TE := fun σ H Q => to σ H fun x H1 => onL H1 x fun _ _ => t σ H1 fun vs H2 => r x vs H2 Q
def tML0 (r : V → List V → Hp → VK → Prop) (to : TE) : TE := fun σ H Q => to σ H fun x H1 => onL H1 x fun _ _ => r x [] H1 Q
/-- the receiver is a list -/
theorem pe_ml {o e : Expr} {es : List Expr} {to : TE} {t : TA} {name : Str} {apos cpos : Pos} {id : String} {r : V → List V → Hp → VK → Prop}
    (slot : Slot "list" name id) (hty : typeOf (.builtin id) = pure (.type "method_descriptor")) (hm : MtR X id r) (ho : PE X o to) (ha : PA X (e :: es) t)
    (hbase : attributeBase o name X.env (eval o X.env) = eval o X.env := by rfl)
    (hfew : ((backTo cpos (starEach (e :: es) X.env)).all (fun x => !x.1) && (backToKw cpos (keywordEach [] X.env)).all (fun x => x.1.isSome)
      && decide ((e :: es).length + ([] : List Keyword).length + (if ([] : List Keyword).isEmpty then 0 else 1) < 30)) = true := by rfl)
    (hline : (apos.endLine == cpos.line) = true := by rfl) (hs : starEach (e :: es) X.env = (false, eval e X.env) :: starEach es X.env := by rfl) (hplain : (backTo cpos (starEach es X.env)).any (·.1) = false := by rfl) :
    PE X (.Call (.Attribute o name apos) (e :: es) [] cpos) (tML r to t) := by
  intro pins s σ H Q I h
  refine wpAny_Call_method_late hbase hfew hline rfl (thn (ho pins s σ H _ I h) fun v s1 ⟨x, H1, I1, r1, q1⟩ => ?_)
  obtain ⟨p, xs, rfl, hp, q1⟩ := onL.out q1
  obtain ⟨h1, h2⟩ := tyV_is (T := "list") I1 r1 (.inl ⟨rfl, xs, SqL.of hp⟩)
  refine ⟨"list", id, PySem.F.plainAttrs_list, slot, hty, h1, h2, ?_⟩
  have hA := ha cpos pins s1 σ H1 _ I1 q1
  rw [hs] at hA ⊢
  refine Calls.callWith_builtin (by show (false || (backTo cpos (starEach es X.env)).any (·.1)) = false; rw [hplain] <;> rfl) (Calls.evalArgs_plain ?_)
  exact thn hA fun us s2 ⟨vs, H2, I2, r2, q2⟩ => hm pins s2 σ H2 _ vs v us Q I2 r1 r2 q2
def rAppF : V → List V → Hp → VK → Prop := fun x vs H Q => on1 vs fun y => onL H x fun l xs => xs.length < sizeLine ∧ Q .non (upd H l (.lst (xs ++ [y])))
theorem f_append : MtR X "list.append" rAppF := MtR.imp (show MtR X "list.append" rAppend from mt_append) fun x vs H Q h => by
  obtain ⟨y, rfl, h1⟩ := on1.out h
  obtain ⟨l, xs, rfl, hp, hz, h2⟩ := onL.out h1
  exact ⟨l, xs, y, rfl, rfl, hp, hz, h2⟩
def rExtF : V → List V → Hp → VK → Prop := fun x vs H Q => on1 vs fun y => onL H x fun l xs => onL H y fun _ zs => xs.length + zs.length ≤ sizeLine ∧ Q .non (upd H l (.lst (xs ++ zs)))
def rPopF : V → List V → Hp → VK → Prop := fun x vs H Q => vs = [] ∧ onL H x fun l xs => onO xs[xs.length - 1]? fun y => Q y (upd H l (.lst xs.dropLast))
def rPopAtF : V → List V → Hp → VK → Prop := fun x vs H Q => on1 vs fun y => onI y fun i => onL H x fun l xs => (0 ≤ i ∧ i < xs.length) ∧ onO xs[i.toNat]? fun y => Q y (upd H l (.lst (xs.eraseIdx i.toNat)))
/-- xs.insert(i, y), 0 ≤ i ≤ len -/
def rInsF : V → List V → Hp → VK → Prop := fun x vs H Q => on2 vs fun k y => onI k fun i => onL H x fun l xs => (0 ≤ i ∧ i ≤ xs.length ∧ xs.length < sizeLine) ∧ Q .non (upd H l (.lst (xs.take i.toNat ++ y :: xs.drop i.toNat)))
theorem f_insert : MtR X "list.insert" rInsF := by
  intro pins s σ H x vs v us Q I rx rv h
  obtain ⟨k, y, rfl, h1⟩ := on2.out h
  obtain ⟨i, rfl, h2⟩ := onI.out h1
  obtain ⟨l, xs, rfl, hH, ⟨h0, h1, hz⟩, q⟩ := onL.out h2
  cases rx
  obtain ⟨u, w, rfl, ru, rw'⟩ := rv.two
  obtain ⟨t, rfl⟩ := ru
  obtain ⟨z, its, n, r, hl, e⟩ := I.lstM hH
  have hn := line63
  refine call_meets F.slot_list_insert ⟨_, e, rfl⟩ F.entry_list_insert (F.args_list_insert_3 _ _ _) (AutoSeq1.list_insert_list_int_val_1 l its.toArray n i t w (by rw [fitsIndex_both (by omega) (by omega)]; decide) (by rw [List.size_toArray]; omega)) ⟨e, ?_⟩
  refine ⟨.non, _, I.lset (its' := its.take i.toNat ++ w :: its.drop i.toNat) hH e ?_ ((r.take _).append (.cons rw' (r.drop _))) ?_, rfl, q⟩
  · have hm : min i.toNat its.length = i.toNat := by omega
    simp only [if_neg (show ¬ i < 0 by omega), List.size_toArray, hm]
    simp
    exact List.take_of_length_le (by simp)
  · simp only [List.length_append, List.length_take, List.length_cons, List.length_drop]
    omega
end
end L2

namespace L2
open PySem PySem.Spec PyProof.Rows
/-! ## calls of the text's own defs -/
structure Cal (P : Program) (w : World) (K : PySem.W.Frag) (mg : Str → Option Value) (base : Heap) (k : Nat) (x : Str) (ps : List Str) (sp : Sp) : Prop where
  ex : ∃ (f : Addr) (fd : FuncData), FnOk P w K mg base CX0 k f fd ps sp ∧ mg x = some (.ref f) ∧ PySem.W.keepIn K (.ref f) = true ∧ Binds K fd ps []
def tCl (sp : Sp) (t : TA) : TE := fun σ H Q => t σ H fun vs H1 => sp vs H1 Q E0
section
variable {X : Cx}
theorem pe_cl {k : Nat} {x : Str} {ps : List Str} {sp : Sp} {p pos : Pos} {e : Expr} {es : List Expr} {t : TA} (C : Cal X.prog X.w X.K X.mg X.base k x ps sp) (hr : Room k X.A) (hg : Gl X x) (ha : PA X (e :: es) t)
    (hdb : (x == ("__debug__" : Str)) = false := by decide) (he : starEach (e :: es) X.env = (false, eval e X.env) :: starEach es X.env := by rfl) (hpl : (backTo pos (starEach es X.env)).any (·.1) = false := by rfl) :
    PE X (.Call (.Name x p) (e :: es) [] pos) (tCl sp t) := by
  obtain ⟨f, fd, F, hm, hk, hb⟩ := C.ex
  have g := pe_call (E := E0) (p := p) (pos := pos) F hr hg hm hk hb (dvs := []) .nil pass0 ha hdb he hpl
  intro pins s σ H Q I h
  refine g pins s σ H Q I ?_
  show t σ H fun vs H1 => sp (vs ++ []) H1 Q E0
  simp only [List.append_nil]
  exact h
/-! ## built-in names -/
structure BtT (mg : Str → Option Value) (x : Str) (T : String) : Prop where
  no : mg x = none
  bt : bootBuiltins x = some (.type T)
  nn : x ≠ "__name__"
  nd : (x == ("__debug__" : Str)) = false
theorem pe_ty {x : Str} {T : String} {pos : Pos} (hg : Gl X x) (h : BtT X.mg x T) : PE X (.Name x pos) (tC (.ty T)) := pe_bltn hg h.no h.bt rfl h.nn h.nd
end
namespace BI
theorem len : bootBuiltins "len" = some (.builtin "len") := by decide +kernel
theorem isinstance : bootBuiltins "isinstance" = some (.builtin "isinstance") := by decide +kernel
theorem min : bootBuiltins "min" = some (.builtin "min") := by decide +kernel
theorem max : bootBuiltins "max" = some (.builtin "max") := by decide +kernel
theorem sum : bootBuiltins "sum" = some (.builtin "sum") := by decide +kernel
theorem all : bootBuiltins "all" = some (.builtin "all") := by decide +kernel
theorem sorted : bootBuiltins "sorted" = some (.builtin "sorted") := by decide +kernel
theorem list : bootBuiltins "list" = some (.type "list") := by decide +kernel
theorem set : bootBuiltins "set" = some (.type "set") := by decide +kernel
theorem int : bootBuiltins "int" = some (.type "int") := by decide +kernel
theorem bool : bootBuiltins "bool" = some (.type "bool") := by decide +kernel
theorem tuple : bootBuiltins "tuple" = some (.type "tuple") := by decide +kernel
theorem any : bootBuiltins "any" = some (.builtin "any") := by decide +kernel
theorem str : bootBuiltins "str" = some (.type "str") := by decide +kernel
end BI
/-- the built-in names stand as they are: the module has none of its own -/
structure Bl (mg : Str → Option Value) : Prop where
  len : mg "len" = none
  range : mg "range" = none
  list : mg "list" = none
  isinstance : mg "isinstance" = none
  min : mg "min" = none
  max : mg "max" = none
  sum : mg "sum" = none
  all : mg "all" = none
  set : mg "set" = none
  sorted : mg "sorted" = none
  enumerate : mg "enumerate" = none
  reversed : mg "reversed" = none
  int : mg "int" = none
  bool : mg "bool" = none
  tuple : mg "tuple" = none
  any : mg "any" = none
  str : mg "str" = none
theorem Bl.b_int {mg : Str → Option Value} (T : Bl mg) : BtT mg "int" "int" := ⟨T.int, BI.int, by decide, by decide⟩
theorem Bl.b_bool {mg : Str → Option Value} (T : Bl mg) : BtT mg "bool" "bool" := ⟨T.bool, BI.bool, by decide, by decide⟩
theorem Bl.b_list {mg : Str → Option Value} (T : Bl mg) : BtT mg "list" "list" := ⟨T.list, BI.list, by decide, by decide⟩
/-! ## isinstance -/
def tyN (H : Hp) (x : V) : Option String := match x with
  | .non => some "NoneType"
  | .bl _ => some "bool"
  | .int _ => some "int"
  | .ref p => (match H p with | some (.lst _) => some "list" | some (.tup _) => some "tuple" | _ => none)
  | _ => none
def isiT (t c : String) : Option Bool :=
  if t = c then some true else if t = "bool" ∧ c = "int" then some true
  else if t ∈ ["NoneType", "bool", "int", "list", "tuple"] ∧ c ∈ ["bool", "int", "list", "tuple"] then some false else none
theorem isiT_ok {K : PySem.W.Frag} {t c : String} {b : Bool} (h : isiT t c = some b) : PySem.W.kitOne K (.type t) (.type c) = some b := by
  unfold isiT at h
  split at h
  · rename_i e; subst e; cases h
    unfold PySem.W.kitOne
    rw [if_pos (by simp)]
  · split at h
    · rename_i e; obtain ⟨rfl, rfl⟩ := e; cases h; rfl
    · split at h
      · rename_i h1 h2 h3
        cases h
        obtain ⟨m1, m2⟩ := h3
        simp only [List.mem_cons, List.not_mem_nil, or_false] at m1 m2
        rcases m1 with rfl | rfl | rfl | rfl | rfl <;> rcases m2 with rfl | rfl | rfl | rfl <;> first | exact absurd rfl h1 | exact absurd ⟨rfl, rfl⟩ h2 | rfl
      · cases h
theorem tyN_ok {K : PySem.W.Frag} {H : Hp} {x : V} {t : String} (h : tyN H x = some t) : TyOf K H x (.type t) := by
  cases x with
  | non => cases h; exact .non
  | bl b => cases h; exact .bl b
  | int i => cases h; exact .int i
  | ref p =>
    cases e : H p with
    | none => simp only [tyN, e] at h; cases h
    | some o =>
      cases o with
      | lst xs => simp only [tyN, e] at h; cases h; exact .lst e
      | tup xs => simp only [tyN, e] at h; cases h; exact .tup e
      | _ => simp only [tyN, e] at h; cases h
  | _ => cases h
def rIsi : List V → Hp → VK → Prop := fun vs H Q => on2 vs fun x c => match c with | .ty T => onO (tyN H x) fun t => onO (isiT t T) fun b => Q (.bl b) H | _ => False
section
variable {X : Cx}
theorem f_isi : CallR X (.builtin "isinstance") rIsi := by
  intro pins s σ H xs us Q I r h
  obtain ⟨x, c, rfl, h1⟩ := on2.out h
  cases c with
  | ty T =>
    obtain ⟨t, e1, h2⟩ := onO.out (F := fun t => onO (isiT t T) fun b => Q (.bl b) H) h1
    obtain ⟨b, e2, h3⟩ := onO.out h2
    obtain ⟨u, v, rfl, ru, rv⟩ := r.two
    obtain rfl : v = Value.type T := rv
    exact isinst_ok I ru (tyN_ok e1) (isiT_ok e2) fun tk => ⟨.bl b, H, I.tok tk, rfl, h3⟩
  | _ => exact h1.elim
/-! ## stores, loops, truth -/
def rSetF : V → V → V → Hp → (Hp → Prop) → Prop := fun o i v H Q => onI i fun k => onL H o fun p xs => (0 ≤ k ∧ k < xs.length) ∧ Q (upd H p (.lst (xs.set k.toNat v)))
theorem PSet.imp {t t' : TSet} (h : PSet X t) (i : ∀ o k v H Q, t' o k v H Q → t o k v H Q) : PSet X t' := fun pins s σ H o k v ov iv u Q I ro ri rv q => h pins s σ H o k v ov iv u Q I ro ri rv (i _ _ _ _ _ q)
def iL (K : PySem.W.Frag) (tl : TE) : TI := fun σ H R => tl σ H fun x H1 => onL H1 x fun a _ => R (Itl K a) H1
theorem pi_l {tg l : Expr} {tl : TE} (hl : PE X l tl) : PI X tg l (iL X.K tl) := by
  intro pins s σ H R I h
  refine thn (hl pins s σ H _ I h) fun v s1 ⟨x, H1, I1, r1, q1⟩ => ?_
  obtain ⟨a, xs, e, hq, q⟩ := onL.out q1
  subst e
  cases r1
  obtain ⟨its, rv, p, hz⟩ := I1.list (SqL.of (K := X.K) hq)
  refine wpAny_pyIter_list p.isList ?_
  refine ⟨s1.heap.objs.size, [s1.heap.objs.size], _, _, H1, rfl, I1.kept (t' := s1.toks) fun b o e => Heap.get?_push_of_some _ e, turn_list a _, ⟨_, Heap.get?_push_size _ rfl, rfl, rfl⟩, fun b hb => ?_, q⟩
  have e : b = s1.heap.objs.size := by simpa using hb
  subst e
  exact I1.fpOk (Nat.le_refl _) (I1.hok.fresh (Nat.le_refl _))
/-- truth of a bool, a list -/
def tTru (t : TE) : TT := fun σ H Q => t σ H fun x H1 => match x with | .bl b => Q b H1 | _ => onL H1 x fun _ xs => Q (!xs.isEmpty) H1
theorem pt_tru {a : Expr} {ta : TE} (ha : PE X a ta) (he : ∀ whole, isTrue a X.env whole = (do let v ← whole; standAt a.pos; holding [v] (truthy v))) : PT X a (tTru ta) := by
  intro pins s σ H Q I h
  refine isTrue_plain (thn (ha pins s σ H _ I h) fun v s1 ⟨x, H1, I1, r1, q1⟩ => tru_ok pins s1 σ H1 x v Q I1 r1 ?_) (he _)
  cases x with
  | bl b => exact ⟨b, rfl, q1⟩
  | ref p =>
    obtain ⟨p', xs, e, hp, q⟩ := onL.out (x := .ref p) q1
    cases e
    exact ⟨_, .inl ⟨xs, SqL.of hp, rfl⟩, q⟩
  | _ => exact q1.elim
/-- min, max of two ints -/
def rMin : List V → Hp → VK → Prop := fun vs H Q => on2 vs fun x y => onI x fun i => onI y fun j => Q (.int (if j < i then j else i)) H
end
end L2

namespace L2
open PySem PySem.Spec PyProof.Rows
/-! ## heaps that grow; rows of numbers -/
theorem Same.upd_new {H : Hp} {p : Addr} {o : HO} (h : H p = none) : Same H (upd H p o) := fun b u e => by rw [upd_ne (ne_of_none e h)]; exact e
theorem Same.upd_in {H H' : Hp} {p : Addr} {o : HO} (s : Same H H') (h : H p = none) : Same H (upd H' p o) := fun b u e => by rw [upd_ne (ne_of_none e h)]; exact s b u e
theorem line100 {n : Nat} (h : n ≤ 10000) : n < sizeLine := Nat.lt_of_le_of_lt h (by rw [sizeLine_eq]; decide)
theorem line100' {n : Nat} (h : n ≤ 10000) : n ≤ sizeLine := Nat.le_of_lt (line100 h)
/-- a list of ints stands at a -/
def IntsAt (H : Hp) (a : Addr) (xs : List Int) : Prop := H a = some (.lst (xs.map V.int))
/-- the rows stand at the addresses -/
abbrev RowsL (H : Hp) (as : List Addr) (xss : List (List Int)) : Prop := Paired (fun b xs => H b = some (.lst (xs.map V.int))) as xss
/-- a list of rows of ints stands at a, its rows at as -/
structure RowsAt (H : Hp) (a : Addr) (as : List Addr) (xss : List (List Int)) : Prop where
  top : H a = some (.lst (as.map V.ref))
  row : RowsL H as xss
theorem RowsL.mono {H H' : Hp} {as : List Addr} {xss : List (List Int)} (h : RowsL H as xss) (k : ∀ b ∈ as, ∀ o, H b = some o → H' b = some o) : RowsL H' as xss := by
  induction h with
  | nil => exact .nil
  | cons r t ih => exact .cons (k _ List.mem_cons_self _ r) (ih fun b hb => k b (List.mem_cons_of_mem _ hb))
theorem RowsL.same {H H' : Hp} {as : List Addr} {xss : List (List Int)} (h : RowsL H as xss) (s : Same H H') : RowsL H' as xss := h.mono fun b _ o e => s b o e
theorem RowsL.len {H : Hp} {as : List Addr} {xss : List (List Int)} (h : RowsL H as xss) : as.length = xss.length := Paired.length h
theorem RowsL.get {H : Hp} : ∀ {as : List Addr} {xss : List (List Int)} {i : Nat} {xs : List Int}, RowsL H as xss → xss[i]? = some xs → ∃ b, as[i]? = some b ∧ H b = some (.lst (xs.map V.int))
  | _, _, _, _, .nil, e => by simp at e
  | _, _, 0, _, .cons r _, e => by simp at e; subst e; exact ⟨_, rfl, r⟩
  | _, _, i + 1, xs, .cons _ t, e => by
    obtain ⟨b, h1, h2⟩ := RowsL.get (i := i) (xs := xs) t (by simpa using e)
    exact ⟨b, by simpa using h1, h2⟩
theorem RowsL.get' {H : Hp} {as : List Addr} {xss : List (List Int)} {i : Nat} {b : Addr} (h : RowsL H as xss) (e : as[i]? = some b) : ∃ xs, xss[i]? = some xs ∧ H b = some (.lst (xs.map V.int)) := by
  have hl := h.len
  have hi : i < xss.length := by rw [← hl]; exact (List.getElem?_eq_some_iff.mp e).1
  obtain ⟨b', h1, h2⟩ := h.get (List.getElem?_eq_getElem hi)
  rw [e] at h1; cases h1
  exact ⟨_, List.getElem?_eq_getElem hi, h2⟩
theorem RowsL.snoc {H : Hp} {as : List Addr} {xss : List (List Int)} {b : Addr} {xs : List Int} (h : RowsL H as xss) (hb : H b = some (.lst (xs.map V.int))) : RowsL H (as ++ [b]) (xss ++ [xs]) := Paired.snoc h hb
/-- one row is another one now -/
theorem RowsL.set {H : Hp} : ∀ {as : List Addr} {xss : List (List Int)} {i : Nat} {b : Addr} {ys : List Int}, RowsL H as xss → as[i]? = some b → as.Nodup → RowsL (upd H b (.lst (ys.map V.int))) as (xss.set i ys)
  | _, _, _, _, _, .nil, e, _ => by simp at e
  | a :: as, _ :: xss, 0, b, ys, .cons r t, e, nd => by
    simp at e; subst e
    refine .cons upd_same (RowsL.mono t fun c hc o q => ?_)
    have ne : c ≠ a := fun z => (List.nodup_cons.mp nd).1 (z ▸ hc)
    rw [upd_ne ne]; exact q
  | a :: as, _ :: xss, i + 1, b, ys, .cons r t, e, nd => by
    have e' : as[i]? = some b := by simpa using e
    refine .cons ?_ (RowsL.set t e' (List.nodup_cons.mp nd).2)
    have ne : a ≠ b := fun z => (List.nodup_cons.mp nd).1 (by rw [z]; exact List.mem_of_getElem? e')
    rw [upd_ne ne]; exact r
theorem RowsL.app {H : Hp} : ∀ {as bs : List Addr} {xss yss : List (List Int)}, RowsL H as xss → RowsL H bs yss → RowsL H (as ++ bs) (xss ++ yss)
  | _, _, _, _, .nil, h => h
  | _, _, _, _, .cons r t, h => .cons r (RowsL.app t h)
theorem map_get {α β : Type} {f : α → β} {xs : List α} {i : Nat} {x : α} (h : xs[i]? = some x) : (xs.map f)[i]? = some (f x) := by rw [List.getElem?_map, h]; rfl
theorem atI_map {α β : Type} {f : α → β} {xs : List α} {i : Int} {x : α} (h0 : 0 ≤ i) (h : xs[i.toNat]? = some x) : atI (xs.map f) i = some (f x) := by
  have := atI_nat (map_get (f := f) h)
  rwa [Int.toNat_of_nonneg h0] at this
/-- fresh objects, all different -/
structure Fresh (H : Hp) (bs : List Addr) : Prop where
  nd : bs.Nodup
  no : ∀ b ∈ bs, H b = none

/-! ## what a source yields -/
structure Yields (J : It) (H : Hp) (xs : List V) : Prop where
  go : ∀ i H' v, Same H H' → xs[i]? = some v → J.go i H' ∧ ∀ u H'', J.yld i H' u H'' → H'' = H' ∧ u = v
  stop : ∀ i H', Same H H' → xs.length ≤ i → J.stop i H'
theorem yields_list {K : PySem.W.Frag} {H : Hp} {a : Addr} {xs : List V} (h : H a = some (.lst xs)) : Yields (Itl K a) H xs where
  go := fun i H' v s e => ⟨⟨xs, v, SqL.of (s a _ h), e⟩, fun u H'' y => ⟨y.1, by
    have := y.2 xs (SqL.of (s a _ h))
    rw [e] at this; cases this; rfl⟩⟩
  stop := fun i H' s hi => ⟨xs, SqL.of (s a _ h), hi⟩
theorem yields_range {H : Hp} {lo : Int} {n : Nat} : Yields (Itr lo n) H ((List.range n).map fun i => V.int (lo + (i : Nat))) where
  go := fun i H' v s e => by
    rw [List.getElem?_map] at e
    have hi : i < n := by
      cases q : (List.range n)[i]? with
      | none => rw [q] at e; cases e
      | some j => have := (List.getElem?_eq_some_iff.mp q).1; simpa using this
    rw [List.getElem?_range hi] at e
    have e' : V.int (lo + (i : Nat)) = v := by simpa using e
    exact ⟨hi, fun u H'' y => ⟨y.1, y.2.trans e'⟩⟩
  stop := fun i H' s hi => by
    have hi' : n ≤ i := by simpa using hi
    exact hi'

/-! ## comprehensions by what they come to -/
/-- tests and elements that make nothing -/
theorem comp_pure {J : It} {H : Hp} {xs : List V} {cp : List Nat} {σ : St} {tt : TT} {te : TE} {Q : VK} (Y : Yields J H xs) (p : V → Bool) (f : V → V) (hz : xs.length ≤ 10000)
    (ht : ∀ v ∈ xs, ∀ H', Same H H' → ∀ R : Bool → Hp → Prop, R (p v) H' → tt (cst cp σ (some v)) H' R) (he : ∀ v ∈ xs, p v = true → ∀ H', Same H H' → ∀ R : VK, R (f v) H' → te (cst cp σ (some v)) H' R)
    (hQ : ∀ D, H D = none → Q (.ref D) (upd H D (.lst ((xs.filter p).map f)))) :
    ∀ D, H D = none → ∃ W : Nat → Nat → Hp → Prop, (∃ m, W 0 m (upd H D (.lst []))) ∧ ∀ i m H, W i m H →
      (J.stop i H ∧ Q (.ref D) H) ∨ (J.go i H ∧ ∀ v H', J.yld i H v H' → tt (cst cp σ (some v)) H' fun b H2 =>
        if b = true then te (cst cp σ (some v)) H2 fun y H3 => ∃ ys, H3 D = some (.lst ys) ∧ ys.length < sizeLine ∧ ∃ m', m' < m ∧ W (i + 1) m' (upd H3 D (.lst (ys ++ [y])))
        else ∃ m', m' < m ∧ W (i + 1) m' H2) := by
  intro D hD
  refine ⟨fun i m H' => m = xs.length - i ∧ i ≤ xs.length ∧ H' = upd H D (.lst (((xs.take i).filter p).map f)), ⟨xs.length, by simp, Nat.zero_le _, by simp⟩, ?_⟩
  rintro i m H1 ⟨rfl, hi, rfl⟩
  have sm : Same H (upd H D (.lst (((xs.take i).filter p).map f))) := Same.upd_new hD
  by_cases hlt : i < xs.length
  · have e : xs[i]? = some xs[i] := List.getElem?_eq_getElem hlt
    obtain ⟨g, yl⟩ := Y.go i _ _ sm e
    refine .inr ⟨g, fun v H' y => ?_⟩
    obtain ⟨rfl, rfl⟩ := yl v H' y
    have hm : xs[i] ∈ xs := List.getElem_mem hlt
    have tk : xs.take (i + 1) = xs.take i ++ [xs[i]] := by rw [List.take_add_one, e]; rfl
    refine ht _ hm _ sm _ ?_
    by_cases hp : p xs[i] = true
    · rw [if_pos hp]
      refine he _ hm hp _ sm _ ⟨_, upd_same, ?_, xs.length - (i + 1), by omega, rfl, hlt, ?_⟩
      · have h1 : ((xs.take i).filter p).length ≤ (xs.take i).length := List.length_filter_le _ _
        rw [List.length_take] at h1
        refine line100 ?_
        rw [List.length_map]
        omega
      · rw [upd_upd, tk, List.filter_append, List.map_append, List.filter_cons, if_pos hp]; rfl
    · rw [if_neg hp]
      refine ⟨xs.length - (i + 1), by omega, rfl, hlt, ?_⟩
      rw [tk, List.filter_append, List.filter_cons, if_neg hp]; simp
  · have e : i = xs.length := by omega
    subst e
    refine .inl ⟨Y.stop _ _ sm (Nat.le_refl _), ?_⟩
    have := hQ D hD
    rwa [List.take_length]
/-- elements that are new rows of ints -/
theorem comp_rows {J : It} {H : Hp} {xs : List V} {cp : List Nat} {σ : St} {te : TE} {Q : VK} (Y : Yields J H xs) (gs : List (List Int)) (hg : gs.length = xs.length) (hz : xs.length ≤ 10000)
    (he : ∀ (i : Nat) v g, xs[i]? = some v → gs[i]? = some g → ∀ H', Same H H' → ∀ R : VK, (∀ b H'', Same H' H'' → H' b = none → H'' b = some (.lst (g.map V.int)) → R (.ref b) H'') → te (cst cp σ (some v)) H' R)
    (hQ : ∀ D as H', H D = none → Same H H' → RowsAt H' D as gs → Fresh H (D :: as) → Q (.ref D) H') :
    ∀ D, H D = none → ∃ W : Nat → Nat → Hp → Prop, (∃ m, W 0 m (upd H D (.lst []))) ∧ ∀ i m H, W i m H →
      (J.stop i H ∧ Q (.ref D) H) ∨ (J.go i H ∧ ∀ v H', J.yld i H v H' → tNoTest (cst cp σ (some v)) H' fun b H2 =>
        if b = true then te (cst cp σ (some v)) H2 fun y H3 => ∃ ys, H3 D = some (.lst ys) ∧ ys.length < sizeLine ∧ ∃ m', m' < m ∧ W (i + 1) m' (upd H3 D (.lst (ys ++ [y])))
        else ∃ m', m' < m ∧ W (i + 1) m' H2) := by
  intro D hD
  refine ⟨fun i m H' => m = xs.length - i ∧ i ≤ xs.length ∧ Same H H' ∧ ∃ as, RowsAt H' D as (gs.take i) ∧ Fresh H (D :: as), ⟨xs.length, by simp, Nat.zero_le _, Same.upd_new hD, [], ⟨upd_same, by simpa using Paired.nil⟩, ⟨by simp, by simpa using hD⟩⟩, ?_⟩
  rintro i m H1 ⟨rfl, hi, sm, as, ra, fr⟩
  by_cases hlt : i < xs.length
  · have e : xs[i]? = some xs[i] := List.getElem?_eq_getElem hlt
    have hgi : i < gs.length := by rw [hg]; exact hlt
    have eg : gs[i]? = some gs[i] := List.getElem?_eq_getElem hgi
    obtain ⟨g, yl⟩ := Y.go i _ _ sm e
    refine .inr ⟨g, fun v H' y => ?_⟩
    obtain ⟨rfl, rfl⟩ := yl v H' y
    unfold tNoTest
    dsimp only
    rw [if_pos rfl]
    refine he i _ _ e eg _ sm _ fun b H2 s2 hb hb2 => ?_
    have la : as.length = i := by rw [RowsL.len ra.row, List.length_take]; omega
    have bD : b ≠ D := fun z => by rw [z, ra.top] at hb; cases hb
    have nD : ∀ c ∈ as, c ≠ D := fun c hc z => (List.nodup_cons.mp fr.nd).1 (z ▸ hc)
    have bas : b ∉ as := fun hm => by
      obtain ⟨j, hj⟩ := List.getElem?_of_mem hm
      obtain ⟨ys, _, hy⟩ := RowsL.get' ra.row hj
      rw [hb] at hy; cases hy
    refine ⟨as.map V.ref, s2 _ _ ra.top, line100 (by rw [List.length_map]; omega), xs.length - (i + 1), by omega, rfl, hlt, (sm.trans s2).upd_in hD, as ++ [b], ⟨?_, ?_⟩, ?_, ?_⟩
    · rw [upd_same, List.map_append]; rfl
    · rw [List.take_add_one, eg]
      refine RowsL.mono (RowsL.snoc (RowsL.same ra.row s2) hb2) fun c hc o q => ?_
      rw [upd_ne]
      · exact q
      · rcases List.mem_append.mp hc with hc | hc
        · exact nD c hc
        · have : c = b := by simpa using hc
          rw [this]; exact bD
    · refine List.nodup_cons.mpr ⟨fun hm => ?_, ?_⟩
      · rcases List.mem_append.mp hm with hm | hm
        · exact (List.nodup_cons.mp fr.nd).1 hm
        · have e : D = b := by simpa using hm
          exact bD e.symm
      · rw [List.nodup_append]
        refine ⟨(List.nodup_cons.mp fr.nd).2, by simp, fun c hc d hd => ?_⟩
        have : d = b := by simpa using hd
        rw [this]
        exact fun z => bas (z ▸ hc)
    · intro c hc
      rcases List.mem_cons.mp hc with rfl | hc
      · exact hD
      · rcases List.mem_append.mp hc with hc | hc
        · exact fr.no c (List.mem_cons_of_mem _ hc)
        · have : c = b := by simpa using hc
          rw [this]; exact sm.free hb
  · have e : i = xs.length := by omega
    subst e
    refine .inl ⟨Y.stop _ _ sm (Nat.le_refl _), ?_⟩
    rw [← hg, List.take_length] at ra
    exact hQ D as H1 hD sm ra fr
end L2

namespace L2
open PySem PySem.Spec PyProof.Rows
/-! ## for .. in reversed(xs) -/
def Itv (K : PySem.W.Frag) (a : Addr) (n : Nat) : It :=
  ⟨fun i H => ∃ xs x, SqL K H a xs ∧ xs.length = n ∧ i < n ∧ xs[n - 1 - i]? = some x, fun i H x H' => H' = H ∧ ∀ xs, SqL K H a xs → xs[n - 1 - i]? = some x, fun i _ => i = n⟩
section
variable {X : Cx} {tg : Expr}
def iRev (K : PySem.W.Frag) (ta : TA) : TI := fun σ H R => ta σ H fun vs H1 => on1 vs fun x => onL H1 x fun a xs => R (Itv K a xs.length) H1
end
end L2

namespace L2
open PySem PySem.Spec PyProof.Rows
/-! ## the readings, computed -/
section
variable {t u : TS} {D : Ends} {σ : St} {H : Hp} {Q : VK} {te ta tb : TE} {tA tB' : TT} {R : Bool → Hp → Prop} {g : TG} {r : R2} {S : List V → Hp → Prop} {l : TA}
@[simp] theorem rd_seq : tSeq t u D σ H = t { D with nx := u D } σ H := rfl
@[simp] theorem rd_next : tNext D σ H = D.nx σ H := rfl
@[simp] theorem rd_drop : tDrop te D σ H = te σ H fun _ H1 => D.nx σ H1 := rfl
@[simp] theorem rd_ret : tRet te D σ H = te σ H D.rt := rfl
@[simp] theorem rd_if : tIfS tA t u D σ H = tA σ H fun b H1 => if b = true then t D σ H1 else u D σ H1 := rfl
@[simp] theorem rd_asg : tAsg te g D σ H = te σ H fun x H1 => g x σ H1 D.nx := rfl
@[simp] theorem rd_name {i : Nat} {v : V} {N : St → Hp → Prop} : gName i v σ H N = N (σ.set i (some v)) H := rfl
@[simp] theorem rd_sub {to ti : TE} {ts : TSet} {v : V} {N : St → Hp → Prop} : gSub to ti ts v σ H N = to σ H fun o H1 => ti σ H1 fun i H2 => ts o i v H2 fun H3 => N σ H3 := rfl
theorem rd_var {i : Nat} : tVar i σ H Q = onO (σ[i]?.join) fun v => Q v H := by
  unfold tVar
  cases h : σ[i]? with
  | none => simp [onO]
  | some o => cases o <;> simp [onO]
@[simp] theorem rd_var0 {o : Option V} {σ : St} : tVar 0 (o :: σ) H Q = onO o fun v => Q v H := by rw [rd_var]; rfl
@[simp] theorem rd_varS {i : Nat} {o : Option V} {σ : St} : tVar (i + 1) (o :: σ) H Q = tVar i σ H Q := by rw [rd_var, rd_var]; rfl
@[simp] theorem rd_var1 {o : Option V} {σ : St} : tVar 1 (o :: σ) H Q = tVar 0 σ H Q := rd_varS
@[simp] theorem rd_var2 {o : Option V} {σ : St} : tVar 2 (o :: σ) H Q = tVar 1 σ H Q := rd_varS
@[simp] theorem rd_var3 {o : Option V} {σ : St} : tVar 3 (o :: σ) H Q = tVar 2 σ H Q := rd_varS
@[simp] theorem rd_var4 {o : Option V} {σ : St} : tVar 4 (o :: σ) H Q = tVar 3 σ H Q := rd_varS
@[simp] theorem rd_var5 {o : Option V} {σ : St} : tVar 5 (o :: σ) H Q = tVar 4 σ H Q := rd_varS
@[simp] theorem rd_var6 {o : Option V} {σ : St} : tVar 6 (o :: σ) H Q = tVar 5 σ H Q := rd_varS
@[simp] theorem rd_var7 {o : Option V} {σ : St} : tVar 7 (o :: σ) H Q = tVar 6 σ H Q := rd_varS
@[simp] theorem rd_var8 {o : Option V} {σ : St} : tVar 8 (o :: σ) H Q = tVar 7 σ H Q := rd_varS
@[simp] theorem rd_var9 {o : Option V} {σ : St} : tVar 9 (o :: σ) H Q = tVar 8 σ H Q := rd_varS
@[simp] theorem rd_var10 {o : Option V} {σ : St} : tVar 10 (o :: σ) H Q = tVar 9 σ H Q := rd_varS
@[simp] theorem rd_var11 {o : Option V} {σ : St} : tVar 11 (o :: σ) H Q = tVar 10 σ H Q := rd_varS
@[simp] theorem rd_onO {α : Type} {v : α} {F : α → Prop} : onO (some v) F = F v := rfl
@[simp] theorem rd_onI {i : Int} {F : Int → Prop} : onI (.int i) F = F i := rfl
@[simp] theorem rd_onB {i : Bool} {F : Bool → Prop} : onB (.bl i) F = F i := rfl
@[simp] theorem rd_on1 {x : V} {F : V → Prop} : on1 [x] F = F x := rfl
@[simp] theorem rd_on2 {x y : V} {F : V → V → Prop} : on2 [x, y] F = F x y := rfl
theorem onL_of {p : Addr} {xs : List V} {F : Addr → List V → Prop} (h : H p = some (.lst xs)) : onL H (.ref p) F = F p xs := by simp only [onL, h]
theorem onS_of {p : Addr} {xs : List V} {F : List V → Prop} (h : H p = some (.lst xs)) : onS H (.ref p) F = F xs := by simp only [onS, h]
theorem onS_ofT {p : Addr} {xs : List V} {F : List V → Prop} (h : H p = some (.tup xs)) : onS H (.ref p) F = F xs := by simp only [onS, h]
@[simp] theorem rd_c {v : V} : tC v σ H Q = Q v H := rfl
@[simp] theorem rd_op : tOp r ta tb σ H Q = ta σ H fun x H1 => tb σ H1 fun y H2 => r x y H2 Q := rfl
@[simp] theorem rd_un {f : V → Hp → VK → Prop} : tUn f ta σ H Q = ta σ H fun x H1 => f x H1 Q := rfl
@[simp] theorem rd_test : tTest te σ H R = te σ H fun x H' => onB x fun k => R k H' := by
  show (te σ H fun x H' => ∃ k, x = .bl k ∧ R k H') = _
  congr; funext x H'
  cases x <;> simp [onB]
@[simp] theorem rd_tB : tB te σ H R = te σ H fun x H' => onB x fun k => R k H' := by
  show (te σ H fun x H' => ∃ k, x = .bl k ∧ R k H') = _
  congr; funext x H'
  cases x <;> simp [onB]
@[simp] theorem rd_and : tAnd tA tB' σ H R = tA σ H fun c H1 => if c = true then tB' σ H1 R else R false H1 := rfl
@[simp] theorem rd_or : tOr tA tB' σ H R = tA σ H fun c H1 => if c = true then R true H1 else tB' σ H1 R := rfl
@[simp] theorem rd_not : tNot tA σ H R = tA σ H fun c H1 => R (!c) H1 := rfl
@[simp] theorem rd_andV : tAndV ta tb σ H Q = ta σ H fun x H1 => onB x fun c => if c = true then tb σ H1 Q else Q (.bl false) H1 := by
  show (ta σ H fun x H' => ∃ k, x = .bl k ∧ _) = _
  congr; funext x H'
  cases x <;> simp [onB]
@[simp] theorem rd_orV : tOrV ta tb σ H Q = ta σ H fun x H1 => onB x fun c => if c = true then Q (.bl true) H1 else tb σ H1 Q := by
  show (ta σ H fun x H' => ∃ k, x = .bl k ∧ _) = _
  congr; funext x H'
  cases x <;> simp [onB]
@[simp] theorem rd_notV : tNotV ta σ H Q = ta σ H fun x H1 => onB x fun c => Q (.bl (!c)) H1 := by
  show (ta σ H fun x H' => ∃ k, x = .bl k ∧ _) = _
  congr; funext x H'
  cases x <;> simp [onB]
@[simp] theorem rd_ifE : tIf tA ta tb σ H Q = tA σ H fun c H1 => if c = true then ta σ H1 Q else tb σ H1 Q := rfl
@[simp] theorem rd_nil : tNil σ H S = S [] H := rfl
@[simp] theorem rd_cons : tCons ta l σ H S = ta σ H fun x H1 => l σ H1 fun xs H2 => S (x :: xs) H2 := rfl
@[simp] theorem rd_tup : tTup l σ H Q = l σ H fun xs H1 => xs.length ≤ sizeLine ∧ ∀ p, H1 p = none → Q (.ref p) (upd H1 p (.tup xs)) := rfl
@[simp] theorem rd_lst : tLst l σ H Q = l σ H fun xs H1 => xs.length ≤ sizeLine ∧ ∀ p, H1 p = none → Q (.ref p) (upd H1 p (.lst xs)) := rfl
@[simp] theorem rd_cb {f : List V → Hp → VK → Prop} : tCB f l σ H Q = l σ H fun vs H1 => f vs H1 Q := rfl
@[simp] theorem rd_cl {sp : Sp} : tCl sp l σ H Q = l σ H fun vs H1 => sp vs H1 Q E0 := rfl
@[simp] theorem rd_ml {f : V → List V → Hp → VK → Prop} : tML f ta l σ H Q = ta σ H fun x H1 => onL H1 x fun _ _ => l σ H1 fun vs H2 => f x vs H2 Q := rfl
@[simp] theorem rd_ml0 {f : V → List V → Hp → VK → Prop} : tML0 f ta σ H Q = ta σ H fun x H1 => onL H1 x fun _ _ => f x [] H1 Q := rfl
@[simp] theorem rd_sl {f : V → Option Int → Option Int → Hp → VK → Prop} {tl th : TO} : tSl f ta tl th σ H Q = ta σ H fun x H1 => tl σ H1 fun a H2 => th σ H2 fun b H3 => f x a b H3 Q := rfl
@[simp] theorem rd_nopart {N : Option Int → Hp → Prop} : tNoPart σ H N = N none H := rfl
@[simp] theorem rd_part {N : Option Int → Hp → Prop} : tPart ta σ H N = ta σ H fun x H1 => onI x fun i => N (some i) H1 := by
  show (ta σ H fun x H' => ∃ i, x = .int i ∧ _) = _
  congr; funext x H'
  cases x <;> simp [onI]
@[simp] theorem rd_tru : tTru te σ H R = te σ H fun x H1 => match x with | .bl b => R b H1 | _ => onL H1 x fun _ xs => R (!xs.isEmpty) H1 := rfl
@[simp] theorem rd_II {f : Int → Int → V} {x y : V} : rII f x y H Q = onI x fun i => onI y fun j => Q (f i j) H := rfl
@[simp] theorem rd_IC {C : Int → Int → Prop} {f : Int → Int → V} {x y : V} : rIC C f x y H Q = onI x fun i => onI y fun j => C i j ∧ Q (f i j) H := rfl
@[simp] theorem rd_plusI {i : Int} {y : V} : rPlus (.int i) y H Q = onI y fun j => Q (.int (i + j)) H := rfl
@[simp] theorem rd_plusL {a : Addr} {y : V} : rPlus (.ref a) y H Q = onL H (.ref a) fun _ xs => onL H y fun _ ys => xs.length + ys.length ≤ sizeLine ∧ new H (.lst (xs ++ ys)) Q := rfl
@[simp] theorem rd_neg {x : V} : rNeg x H Q = onI x fun i => Q (.int (-i)) H := rfl
@[simp] theorem rd_len {vs : List V} : rLen vs H Q = on1 vs fun x => onS H x fun ys => Q (.int ys.length) H := rfl
@[simp] theorem rd_ix {x y : V} : rIxF x y H Q = onI y fun i => onS H x fun xs => onO (atI xs i) fun v => Q v H := rfl
@[simp] theorem rd_cut {x : V} {lo hi : Option Int} : rSlF x lo hi H Q = onL H x fun _ xs => new H (.lst (cutV xs lo hi)) Q := rfl
@[simp] theorem rd_list {vs : List V} : rListF vs H Q = on1 vs fun x => onS H x fun ys => new H (.lst ys) Q := rfl
@[simp] theorem rd_app {x : V} {vs : List V} : rAppF x vs H Q = on1 vs fun y => onL H x fun l xs => xs.length < sizeLine ∧ Q .non (upd H l (.lst (xs ++ [y]))) := rfl
@[simp] theorem rd_ext {x : V} {vs : List V} : rExtF x vs H Q = on1 vs fun y => onL H x fun l xs => onL H y fun _ zs => xs.length + zs.length ≤ sizeLine ∧ Q .non (upd H l (.lst (xs ++ zs))) := rfl
@[simp] theorem rd_ins {x : V} {vs : List V} : rInsF x vs H Q = on2 vs fun k y => onI k fun i => onL H x fun l xs => (0 ≤ i ∧ i ≤ xs.length ∧ xs.length < sizeLine) ∧ Q .non (upd H l (.lst (xs.take i.toNat ++ y :: xs.drop i.toNat))) := rfl
@[simp] theorem rd_setF {o i v : V} {N : Hp → Prop} : rSetF o i v H N = onI i fun k => onL H o fun p xs => (0 ≤ k ∧ k < xs.length) ∧ N (upd H p (.lst (xs.set k.toNat v))) := rfl
@[simp] theorem rd_isi {x : V} {T : String} : rIsi [x, .ty T] H Q = onO (tyN H x) fun t => onO (isiT t T) fun b => Q (.bl b) H := rfl
@[simp] theorem rd_min {vs : List V} : rMin vs H Q = on2 vs fun x y => onI x fun i => onI y fun j => Q (.int (if j < i then j else i)) H := rfl
@[simp] theorem rd_iL {K : PySem.W.Frag} {N : It → Hp → Prop} : iL K ta σ H N = ta σ H fun x H1 => onL H1 x fun a _ => N (Itl K a) H1 := rfl
@[simp] theorem rd_rng1 {N : It → Hp → Prop} : iRng1 l σ H N = l σ H fun vs H1 => on1 vs fun x => onI x fun j => (-(2 ^ 62) ≤ j ∧ j < 2 ^ 62) ∧ N (Itr 0 j.toNat) H1 := by
  show (l σ H fun vs H1 => ∃ j : Int, vs = [.int j] ∧ -(2 ^ 62) ≤ j ∧ j < 2 ^ 62 ∧ N (Itr 0 j.toNat) H1) = _
  congr; funext vs H1
  apply propext
  constructor
  · rintro ⟨j, rfl, h1, h2, h3⟩; exact ⟨⟨h1, h2⟩, h3⟩
  · intro h
    obtain ⟨x, rfl, h⟩ := on1.out h
    obtain ⟨j, rfl, ⟨h1, h2⟩, h3⟩ := onI.out h
    exact ⟨j, rfl, h1, h2, h3⟩
@[simp] theorem rd_rev {K : PySem.W.Frag} {N : It → Hp → Prop} : iRev K l σ H N = l σ H fun vs H1 => on1 vs fun x => onL H1 x fun a xs => N (Itv K a xs.length) H1 := rfl
@[simp] theorem rd_new {o : HO} : new H o Q = ∀ p, H p = none → Q (.ref p) (upd H p o) := rfl
@[simp] theorem rd_notest : tNoTest σ H R = R true H := rfl
@[simp] theorem rd_eqI {i j : Int} : rEq (.int i) (.int j) H Q = Q (.bl (decide (i = j))) H := by
  show (true = true ∧ Q (.bl (decide (V.int i = V.int j))) H) = _
  simp
@[simp] theorem rd_neI {i j : Int} : rNe (.int i) (.int j) H Q = Q (.bl (!decide (i = j))) H := by
  show (true = true ∧ Q (.bl (!decide (V.int i = V.int j))) H) = _
  simp
@[simp] theorem rd_isN {x : V} : rIsN x .non H Q = Q (.bl (decide (x = .non))) H := by simp [rIsN]
@[simp] theorem rd_notN {x : V} : rNotN x .non H Q = Q (.bl (!decide (x = .non))) H := by simp [rNotN]
theorem rd_comp {wi : TI} {cp : List Nat} {tt : TT} : tComp wi cp tt te σ H Q = wi σ H fun J H1 => ∀ D, H1 D = none →
  ∃ W : Nat → Nat → Hp → Prop, (∃ m, W 0 m (upd H1 D (.lst []))) ∧ ∀ i m H, W i m H →
    (J.stop i H ∧ Q (.ref D) H) ∨ (J.go i H ∧ ∀ v H', J.yld i H v H' → tt (cst cp σ (some v)) H' fun b H2 =>
      if b = true then te (cst cp σ (some v)) H2 fun y H3 => ∃ ys, H3 D = some (.lst ys) ∧ ys.length < sizeLine ∧ ∃ m', m' < m ∧ W (i + 1) m' (upd H3 D (.lst (ys ++ [y])))
      else ∃ m', m' < m ∧ W (i + 1) m' H2) := rfl
end
/-- a comprehension over the list that te gives, elements and tests that make nothing -/
theorem comp_listP {K : PySem.W.Frag} {tl : TE} {cp : List Nat} {tt : TT} {te : TE} {σ : St} {H : Hp} {Q : VK} {a : Addr} {xs : List V} (hl : ∀ R : VK, R (.ref a) H → tl σ H R) (h : H a = some (.lst xs)) (p : V → Bool) (f : V → V) (hz : xs.length ≤ 10000)
    (ht : ∀ v ∈ xs, ∀ H', Same H H' → ∀ R : Bool → Hp → Prop, R (p v) H' → tt (cst cp σ (some v)) H' R) (he : ∀ v ∈ xs, p v = true → ∀ H', Same H H' → ∀ R : VK, R (f v) H' → te (cst cp σ (some v)) H' R)
    (hQ : ∀ D, H D = none → Q (.ref D) (upd H D (.lst ((xs.filter p).map f)))) : tComp (iL K tl) cp tt te σ H Q := by
  refine hl _ ?_
  rw [onL_of h]
  exact comp_pure (yields_list h) p f hz ht he hQ
theorem comp_listR {K : PySem.W.Frag} {tl : TE} {cp : List Nat} {te : TE} {σ : St} {H : Hp} {Q : VK} {a : Addr} {xs : List V} (hl : ∀ R : VK, R (.ref a) H → tl σ H R) (h : H a = some (.lst xs)) (gs : List (List Int)) (hg : gs.length = xs.length) (hz : xs.length ≤ 10000)
    (he : ∀ (i : Nat) v g, xs[i]? = some v → gs[i]? = some g → ∀ H', Same H H' → ∀ R : VK, (∀ b H'', Same H' H'' → H' b = none → H'' b = some (.lst (g.map V.int)) → R (.ref b) H'') → te (cst cp σ (some v)) H' R)
    (hQ : ∀ D as H', H D = none → Same H H' → RowsAt H' D as gs → Fresh H (D :: as) → Q (.ref D) H') : tComp (iL K tl) cp tNoTest te σ H Q := by
  refine hl _ ?_
  rw [onL_of h]
  exact comp_rows (yields_list h) gs hg hz he hQ
/-- copies of the rows -/
theorem comp_copy {K : PySem.W.Frag} {tl : TE} {cp : List Nat} {σ : St} {H : Hp} {Q : VK} {a : Addr} {as : List Addr} {xss : List (List Int)} (hl : ∀ R : VK, R (.ref a) H → tl σ H R) (h : RowsAt H a as xss) (hz : xss.length ≤ 10000)
    (hQ : ∀ D bs H', H D = none → Same H H' → RowsAt H' D bs xss → Fresh H (D :: bs) → Q (.ref D) H') : tComp (iL K tl) cp tNoTest (tCB rListF (tCons (tVar 0) tNil)) σ H Q := by
  refine comp_listR hl h.top xss (by rw [List.length_map, h.row.len]) (by rw [List.length_map, h.row.len]; exact hz) (fun i v g e1 e2 H' s R k => ?_) hQ
  rw [List.getElem?_map] at e1
  cases e3 : as[i]? with
  | none => rw [e3] at e1; cases e1
  | some b =>
    rw [e3] at e1
    cases e1
    obtain ⟨xs, e4, hb⟩ := h.row.get' e3
    rw [e2] at e4; cases e4
    simp only [rd_cb, rd_cons, rd_nil, cst, rd_var0, rd_onO, rd_list, rd_on1, onS_of (s _ _ hb), rd_new]
    exact fun p hp => k p _ (Same.upd_new hp) hp upd_same
end L2

namespace L2
open PySem PySem.Spec PyProof.Rows
/-! ## loops, by what they are over -/
theorem for_rangeF {wi : TI} {g : TG} {tb : TS} {D : Ends} {σ : St} {H : Hp} (n : Nat) (hn : ∀ N : It → Hp → Prop, N (Itr 0 n) H → wi σ H N) (Pv : Nat → St → Hp → Prop) (h0 : Pv 0 σ H)
    (hs : ∀ i σ H, i < n → Pv i σ H → g (.int (i : Nat)) σ H fun σ2 H2 => tb { D with nx := Pv (i + 1), ct := Pv (i + 1), bk := D.nx } σ2 H2) (hd : ∀ σ H, Pv n σ H → D.nx σ H) : tFor wi g tb D σ H :=
  hn _ (for_range (lo := 0) (n := n) Pv h0 (fun i σ H hi p => by
    have := hs i σ H hi p
    rw [Int.zero_add]; exact this) hd)
theorem for_listF {K : PySem.W.Frag} {wi : TI} {g : TG} {tb : TS} {D : Ends} {σ : St} {H : Hp} (a : Addr) (xs : List V) (hn : ∀ N : It → Hp → Prop, N (Itl K a) H → wi σ H N) (Pv : Nat → St → Hp → Prop) (h0 : Pv 0 σ H) (hl : ∀ i σ H, i ≤ xs.length → Pv i σ H → H a = some (.lst xs))
    (hs : ∀ i x σ H, xs[i]? = some x → Pv i σ H → g x σ H fun σ2 H2 => tb { D with nx := Pv (i + 1), ct := Pv (i + 1), bk := D.nx } σ2 H2) (hd : ∀ σ H, Pv xs.length σ H → D.nx σ H) : tFor wi g tb D σ H :=
  hn _ (for_list (K := K) (a := a) (xs := xs) Pv h0 (fun i σ H hi p => SqL.of (hl i σ H hi p)) hs hd)
theorem atI_int {xs : List Int} {i : Nat} {x : Int} (h : xs[i]? = some x) : atI (xs.map V.int) (i : Int) = some (.int x) := atI_nat (map_get h)
theorem atI_ref {xs : List Addr} {i : Nat} {x : Addr} (h : xs[i]? = some x) : atI (xs.map V.ref) (i : Int) = some (.ref x) := atI_nat (map_get h)
theorem take_next {α : Type} {xs : List α} {i : Nat} {x : α} (h : xs[i]? = some x) : xs.take (i + 1) = xs.take i ++ [x] := by rw [List.take_add_one, h]; rfl
end L2
namespace L2
open PySem PySem.Spec PyProof.Rows
/-! ## a word between two statements -/
theorem cut1 {A R : TS} {D : Ends} {σ : St} {H : Hp} (Ps : St → Hp → Prop) (h1 : ∀ R' : TS, (∀ σ' H', Ps σ' H' → R' D σ' H') → tSeq A R' D σ H) (h2 : ∀ σ' H', Ps σ' H' → R D σ' H') : tSeq A R D σ H := h1 R h2
theorem cut2 {A B R : TS} {D : Ends} {σ : St} {H : Hp} (Ps : St → Hp → Prop) (h1 : ∀ R' : TS, (∀ σ' H', Ps σ' H' → R' D σ' H') → tSeq A (tSeq B R') D σ H) (h2 : ∀ σ' H', Ps σ' H' → R D σ' H') : tSeq A (tSeq B R) D σ H := h1 R h2
theorem line3 {n : Nat} (h : n ≤ 10000) : n ≤ sizeLine := line100' h
end L2
namespace L2
open PySem PySem.Spec PyProof.Rows
theorem upd_none {H : Hp} {a b : Addr} {o : HO} (h : upd H a o b = none) : b ≠ a ∧ H b = none := by
  by_cases e : b = a
  · rw [e, upd_same] at h; cases h
  · rw [upd_ne e] at h; exact ⟨e, h⟩
theorem RowsL.notin {H : Hp} {as : List Addr} {xss : List (List Int)} {p : Addr} (h : RowsL H as xss) (hp : H p = none) : p ∉ as := fun hm => by
  obtain ⟨j, hj⟩ := List.getElem?_of_mem hm
  obtain ⟨ys, _, hy⟩ := RowsL.get' h hj
  rw [hp] at hy; cases hy
/-- a row is written: the list of rows stands with it -/
theorem RowsAt.set {H : Hp} {a : Addr} {as : List Addr} {xss : List (List Int)} {i : Nat} {b : Addr} {ys : List Int} (h : RowsAt H a as xss) (e : as[i]? = some b) (nd : (a :: as).Nodup) : RowsAt (upd H b (.lst (ys.map V.int))) a as (xss.set i ys) := by
  have nd' := List.nodup_cons.mp nd
  refine ⟨?_, RowsL.set h.row e nd'.2⟩
  have ne : a ≠ b := fun z => nd'.1 (by rw [z]; exact List.mem_of_getElem? e)
  rw [upd_ne ne]; exact h.top
theorem RowsAt.same {H H' : Hp} {a : Addr} {as : List Addr} {xss : List (List Int)} (h : RowsAt H a as xss) (s : Same H H') : RowsAt H' a as xss := ⟨s _ _ h.top, RowsL.same h.row s⟩
theorem Fresh.sub {H : Hp} {as bs : List Addr} (h : Fresh H as) (s : bs.Sublist as) : Fresh H bs := ⟨h.nd.sublist s, fun b hb => h.no b (s.subset hb)⟩
theorem Fresh.cons {H : Hp} {p : Addr} {as : List Addr} (h : Fresh H as) (hp : H p = none) (hn : p ∉ as) : Fresh H (p :: as) := ⟨List.nodup_cons.mpr ⟨hn, h.nd⟩, fun b hb => by
  rcases List.mem_cons.mp hb with rfl | hb
  · exact hp
  · exact h.no b hb⟩
theorem Fresh.snoc {H : Hp} {p : Addr} {as : List Addr} (h : Fresh H as) (hp : H p = none) (hn : p ∉ as) : Fresh H (as ++ [p]) := ⟨by
  rw [List.nodup_append]
  exact ⟨h.nd, by simp, fun c hc d hd => by
    have : d = p := by simpa using hd
    rw [this]
    exact fun z => hn (z ▸ hc)⟩, fun b hb => by
  rcases List.mem_append.mp hb with hb | hb
  · exact h.no b hb
  · have : b = p := by simpa using hb
    rw [this]; exact hp⟩
theorem Fresh.old {H H' : Hp} {as : List Addr} (h : Fresh H' as) (s : Same H H') : Fresh H as := ⟨h.nd, fun b hb => s.free (h.no b hb)⟩
theorem RowsAt.app {H : Hp} {a p : Addr} {as : List Addr} {xss : List (List Int)} {ys : List Int} (h : RowsL H as xss) (ht : H a = some (.lst (as.map V.ref ++ [V.ref p]))) (hp : H p = some (.lst (ys.map V.int))) : RowsAt H a (as ++ [p]) (xss ++ [ys]) :=
  ⟨by rw [ht, List.map_append]; rfl, RowsL.snoc h hp⟩
end L2

namespace L2
open PySem PySem.Spec PyProof.Rows
theorem Fresh.append {H : Hp} {as bs : List Addr} (ha : Fresh H as) (hb : Fresh H bs) (hd : ∀ c ∈ as, c ∉ bs) : Fresh H (as ++ bs) :=
  ⟨List.nodup_append.mpr ⟨ha.nd, hb.nd, fun a h1 b h2 z => hd a h1 (z ▸ h2)⟩, fun b hb' => (List.mem_append.mp hb').elim (ha.no b) (hb.no b)⟩
theorem RowsAt.out {H : Hp} {a c : Addr} {as : List Addr} {xss : List (List Int)} {o : HO} (h : RowsAt H a as xss) (hc : c ∉ a :: as) : RowsAt (upd H c o) a as xss :=
  ⟨by
    have ne : a ≠ c := fun z => hc (by rw [z]; exact List.mem_cons_self)
    rw [upd_ne ne]; exact h.top, RowsL.mono h.row fun b hb o' e => by
    have ne : b ≠ c := fun z => hc (List.mem_cons_of_mem _ (z ▸ hb))
    rw [upd_ne ne]; exact e⟩
theorem RowsAt.live {H : Hp} {a : Addr} {as : List Addr} {xss : List (List Int)} (h : RowsAt H a as xss) {c : Addr} (hc : c ∈ a :: as) : H c ≠ none := fun z => by
  rcases List.mem_cons.mp hc with rfl | hc
  · rw [h.top] at z; cases z
  · exact RowsL.notin h.row z hc
theorem RowsAt.notin {H : Hp} {a : Addr} {as : List Addr} {xss : List (List Int)} (h : RowsAt H a as xss) {c : Addr} (hc : H c = none) : c ∉ a :: as := fun z => h.live z hc
end L2

/-! ## enumerate, counted from any number -/
namespace L2
open PySem PySem.Spec PyProof.Rows
section
variable {prog : Program} {w : World} {A : Around} {E : Value → Shared → Prop} {s : Shared}
theorem en_item {e it l : Addr} {i : Nat} {c : Int} {items : Array Value} {x old : Value} {Q : Value → Shared → Prop} (he : IsEnum s.heap e it c old) (hit : s.heap.IsListIter it l i) (hl : s.heap.IsList l items) (hx : items[i]? = some x) (hne : e ≠ it)
    (hQ : ∀ h', IsEnumOut h' e it (c + 1) x s.heap.objs.size → h'.IsListIter it l (i + 1) → h'.get? s.heap.objs.size = some { cls := .type "tuple", data := .seq #[.int c s.toks, x] } → h'.objs.size = s.heap.objs.size + 1 →
      (∀ b o, b ≠ e → b ≠ it → s.heap.get? b = some o → h'.get? b = some o) → Q (.ref s.heap.objs.size) { s with heap := h', toks := s.toks + 1 }) :
    wpAny (model prog w) A (Builtin.«enumerate.__next__» ⟨[.ref e], []⟩) (fun fin s' => ∃ v, fin = .done (.ret v) ∧ Q v s') E s := by
  obtain ⟨hp, gn, dr, tk, os⟩ := s
  show wpAny _ _ (field (.ref e) 2 >>= _) _ _ _; refine wpAny_bind (wpAny_field he rfl (x := .ref it) rfl ?_)
  refine wpAny_bind (wpAny_nextOf_list_item hit hl hx fun k1 it1 sb1 => ?_)
  replace sb1 : Heap.SameBut it hp k1 := sb1
  have en1 : IsEnum k1 e it c old := (sb1.2 e hne).trans he
  show wpAny _ _ (field (.ref e) 3 >>= _) _ _ ⟨k1, gn, dr, tk, os⟩; refine wpAny_bind (wpAny_field en1 rfl (x := rawInt c) rfl ?_)
  show wpAny _ _ (field (.ref e) 4 >>= _) _ _ ⟨k1, gn, dr, tk, os⟩; refine wpAny_bind (wpAny_field en1 rfl (x := .none) rfl ?_)
  show wpAny _ _ (mkInt c >>= _) _ _ ⟨k1, gn, dr, tk, os⟩; refine wpAny_bind (wpAny_mkInt ?_)
  show wpAny _ _ (setField (.ref e) 3 (rawInt (c + 1)) >>= _) _ _ ⟨k1, gn, dr, tk + 1, os⟩; refine wpAny_bind (wpAny_setField_rec en1 (by simp) fun k2 en2 sb2 => ?_)
  replace sb2 : Heap.SameBut e k1 k2 := sb2
  replace en2 : IsEnum k2 e it (c + 1) old := en2
  show wpAny _ _ (setField (.ref e) 4 .none >>= _) _ _ ⟨k2, gn, dr, tk + 1, os⟩; refine wpAny_bind (wpAny_setField_rec en2 (by simp) fun k3 en3 sb3 => ?_)
  replace sb3 : Heap.SameBut e k2 k3 := sb3
  replace en3 : IsEnum k3 e it (c + 1) old := en3
  show wpAny _ _ (newTuple [.int c tk, x] >>= _) _ _ ⟨k3, gn, dr, tk + 1, os⟩; refine wpAny_bind (wpAny_newTuple ?_)
  have en4 : IsEnum (k3.push { cls := .type "tuple", data := .seq #[.int c tk, x] }) e it (c + 1) old := Heap.get?_push_of_some _ en3
  generalize hk4 : k3.push { cls := .type "tuple", data := .seq #[.int c tk, x] } = k4 at en4
  have sz3 : k3.objs.size = hp.objs.size := by rw [sb3.1, sb2.1, sb1.1]
  have elt : e < hp.objs.size := Heap.lt_size he
  have tp4 : k4.get? hp.objs.size = some { cls := .type "tuple", data := .seq #[.int c tk, x] } := by rw [← hk4, ← sz3]; exact Heap.get?_push_size _ rfl
  have sz4 : k4.objs.size = hp.objs.size + 1 := by rw [← hk4, Heap.size_push, sz3]
  have kp4 : ∀ b o, b ≠ e → b ≠ it → hp.get? b = some o → k4.get? b = some o := fun b o n1 n2 hb => by rw [← hk4]; exact Heap.get?_push_of_some _ (sb3.extBut b o n1 (sb2.extBut b o n1 (sb1.extBut b o n2 hb)))
  have it4 : k4.IsListIter it l (i + 1) := by rw [← hk4]; obtain ⟨o, ho, r⟩ := (it1.extBut sb2.extBut (Ne.symm hne)).extBut sb3.extBut (Ne.symm hne); exact ⟨o, Heap.get?_push_of_some _ ho, r⟩
  show wpAny _ _ (Builtin.SmallTypes.ownedTupleIsFree (.ref e) >>= _) _ _ ⟨k4, gn, dr, tk + 1, os⟩; rw [sz3]
  clear hk4 en3 sb3 en2 sb2 en1 sb1 it1 sz3 k3 k2 k1; refine wpAny_bind ?_; unfold Builtin.SmallTypes.ownedTupleIsFree
  refine wpAny_bind (wpAny_field en4 rfl (x := .none) rfl (wpAny_pure ?_)); simp only [if_true]; refine wpAny_bind (wpAny_rule ?_)
  refine wpAny_bind (wpAny_field en4 rfl (x := old) rfl ?_); refine wpAny_bind (wpAny_setField_rec en4 (by simp) fun k5 en5 sb5 => ?_)
  replace sb5 : Heap.SameBut e k4 k5 := sb5
  replace en5 : IsEnum k5 e it (c + 1) x := en5
  show wpAny _ _ (Builtin.SmallTypes.ownedTupleHandOut (.ref e) (.ref hp.objs.size) >>= _) _ _ ⟨k5, gn, dr, tk + 1, os⟩; refine wpAny_bind ?_; unfold Builtin.SmallTypes.ownedTupleHandOut
  refine wpAny_bind (wpAny_setField_rec en5 (by simp) fun k6 en6 sb6 => ?_)
  replace sb6 : Heap.SameBut e k5 k6 := sb6
  replace en6 : IsEnumOut k6 e it (c + 1) x hp.objs.size := en6
  refine wpAny_setField_rec en6 (by simp) fun k7 en7 sb7 => ?_
  replace sb7 : Heap.SameBut e k6 k7 := sb7
  replace en7 : IsEnumOut k7 e it (c + 1) x hp.objs.size := en7
  refine wpAny_bind (wpAny_letGo (wpAny_pure ⟨_, rfl, hQ k7 en7 ?_ ?_ ?_ ?_⟩))
  · exact ((it4.extBut sb5.extBut (Ne.symm hne)).extBut sb6.extBut (Ne.symm hne)).extBut sb7.extBut (Ne.symm hne)
  · exact sb7.extBut _ _ (Nat.ne_of_gt elt) (sb6.extBut _ _ (Nat.ne_of_gt elt) (sb5.extBut _ _ (Nat.ne_of_gt elt) tp4))
  · rw [sb7.1, sb6.1, sb5.1, sz4]
  · exact fun b o n1 n2 hb => sb7.extBut b o n1 (sb6.extBut b o n1 (sb5.extBut b o n1 (kp4 b o n1 n2 hb)))
theorem en_next {e it l : Addr} {i : Nat} {c : Int} {items : Array Value} {x old : Value} {Q : Option Value → Shared → Prop} (he : IsEnum s.heap e it c old) (hit : s.heap.IsListIter it l i) (hl : s.heap.IsList l items) (hx : items[i]? = some x) (hne : e ≠ it)
    (hQ : ∀ h', IsEnumOut h' e it (c + 1) x s.heap.objs.size → h'.IsListIter it l (i + 1) → h'.get? s.heap.objs.size = some { cls := .type "tuple", data := .seq #[.int c s.toks, x] } → h'.objs.size = s.heap.objs.size + 1 →
      (∀ b o, b ≠ e → b ≠ it → s.heap.get? b = some o → h'.get? b = some o) → Q (some (.ref s.heap.objs.size)) { s with heap := h', toks := s.toks + 1 }) :
    wpAny (model prog w) A (pyNext (.ref e)) Q E s := by
  have ty : s.TypeIs (.ref e) "enumerate" := ⟨_, he, rfl⟩
  unfold pyNext
  refine wpAny_bind (wpAny_attempt (wpAny_callSpecial?_slot (name := Str.ofString "__next__") ty F.slot_enumerate_next ?_))
  exact wpAny_call_entry F.slot_enumerate_next ty F.entry_enumerate_next (en_item he hit hl hx hne fun h' q1 q2 q3 q4 q5 => wpAny_pure (hQ h' q1 q2 q3 q4 q5)) (F.args_enumerate_next_1 _)
theorem en_end {e it l : Addr} {i : Nat} {c : Int} {items : Array Value} {old : Value} {Q : Option Value → Shared → Prop} (hh : A.handled = none) (he : IsEnum s.heap e it c old) (hit : s.heap.IsListIter it l i) (hl : s.heap.IsList l items) (hx : items[i]? = none)
    (hQ : ∀ h', Heap.ExtBut it s.heap h' → Q none { s with heap := h' }) : wpAny (model prog w) A (pyNext (.ref e)) Q E s := by
  have ty : s.TypeIs (.ref e) "enumerate" := ⟨_, he, rfl⟩
  unfold pyNext
  refine wpAny_bind (wpAny_attempt (wpAny_callSpecial?_slot (name := Str.ofString "__next__") ty F.slot_enumerate_next ?_))
  refine wpAny_call_entry F.slot_enumerate_next ty F.entry_enumerate_next ?_ (F.args_enumerate_next_1 _)
  show wpAny _ _ (field (.ref e) 2 >>= _) _ _ _; refine wpAny_bind (wpAny_field he rfl (x := .ref it) rfl ?_)
  refine wpAny_bind (wpAny_nextOf_list_end hh hit hl hx fun h' y eb ey => ?_)
  obtain ⟨o, ho, hc⟩ := ey
  refine wpAny_bind (wpAny_isInstance (T := "StopIteration") (b := true) ⟨o, ho, hc⟩ isSubtype_stop ?_); exact wpAny_pure (hQ _ eb)
end
/-- the list at a, each item with its count in a new tuple -/
def Ite (K : PySem.W.Frag) (a : Addr) (c : Int) : It :=
  ⟨fun i H => ∃ xs x, SqL K H a xs ∧ xs[i]? = some x, fun i H v H' => ∃ p x, v = .ref p ∧ H p = none ∧ H' = upd H p (.tup [.int (c + i), x]) ∧ ∀ xs, SqL K H a xs → xs[i]? = some x, fun i H => ∃ xs, SqL K H a xs ∧ xs.length ≤ i⟩
theorem turn_enum {P : Program} {w : World} {K : PySem.W.Frag} {elts : List Expr} {x1} {pos : Pos} (a e it : Addr) (c : Int) (hne : e ≠ it) :
    Turn P w K (.Tuple elts x1 pos) (Ite K a c) [e, it] e (fun i h => (∃ old, IsEnum h e it (c + (i : Nat)) old) ∧ h.IsListIter it a i) where
  mem := by simp
  obj := fun i h st b hb => by
    obtain ⟨⟨old, en⟩, li⟩ := st
    rcases List.mem_cons.mp hb with rfl | hb
    · exact ⟨_, en, fun v z => by
        have z' : Data.fields _ = Data.cell v := z
        cases z'⟩
    · have e : b = it := by simpa using hb
      subst e
      obtain ⟨o, e, _, d⟩ := li
      exact ⟨o, e, fun v z => by rw [d] at z; cases z⟩
  keep := fun i h h' st k => ⟨st.1.imp fun old en => k e (by simp) _ en, st.2.at fun o eo => k it (by simp) o eo⟩
  item := by
    intro X hP hw hK hc i pins s σ H E I hf st hg
    subst hP hw hK
    obtain ⟨⟨old, en⟩, li⟩ := st
    obtain ⟨xs, x, hq, hx⟩ := hg
    obtain ⟨its, rv, p, hz⟩ := I.list hq
    obtain ⟨u, hu, ru⟩ := rv.get hx
    obtain ⟨f0, f1, f2, f3, f4, f5⟩ := hf e (by simp)
    obtain ⟨g0, g1, g2, g3, g4, g5⟩ := hf it (by simp)
    refine en_next en li p.isList (x := u) (by simpa using hu) hne fun h' eo li' tp sz kp => ⟨_, rfl, ?_⟩
    refine wpAny_letOwnedTupleGo_enum (s := { s with heap := h', toks := s.toks + 1 }) eo fun h2 en2 sb2 => ?_
    have fr : H s.heap.objs.size = none := I.hok.fresh (Nat.le_refl _)
    have kp2 : ∀ b o, b ≠ e → b ≠ it → s.heap.get? b = some o → h2.get? b = some o := fun b o n1 n2 q => (sb2.2 b n1).trans (kp b o n1 n2 q)
    have elt : e < s.heap.objs.size := Heap.lt_size en
    have I1 : Inv X pins σ (upd H s.heap.objs.size (.tup [.int (c + i), x])) { s with heap := h2, toks := s.toks + 1 } := by
      refine I.step (g' := s.gens) (d' := s.drawn) (ch := [e, it]) (fun b hb => ?_) (fun b o _ _ hc q _ => kp2 b o (fun z => hc (by simp [z])) (fun z => hc (by simp [z])) q) (fun b o _ _ hc q _ => ⟨o.slots, kp2 b o (fun z => hc (by simp [z])) (fun z => hc (by simp [z])) q⟩)
        (fun b o hc q n => by rw [upd_ne (Nat.ne_of_lt (Heap.lt_size q))]; exact n) (fun b o hc q => ⟨o, kp2 b o (fun z => hc (by simp [z])) (fun z => hc (by simp [z])) q⟩)
        (fun b ys q => by rw [upd_ne (ne_of_none q fr)]; exact q) (fun b o ys q => by rw [upd_ne (ne_of_none q fr)]; exact q) (fun b ps q => ⟨#[], by rw [upd_ne (ne_of_none q fr), q]; simp⟩) (fun m hm => ?_) (fun b o q => ?_) I.bare
      · rcases List.mem_cons.mp hb with rfl | hb
        · exact ⟨f3, f1, f4, f5⟩
        · have e' : b = it := by simpa using hb
          subst e'
          exact ⟨g3, g1, g4, g5⟩
      · obtain ⟨o, es, ep, ho, r⟩ := hm
        exact ⟨o, es, ep, kp2 _ o (Ne.symm f1) (Ne.symm g1) ho, r⟩
      · by_cases hb : b = s.heap.objs.size
        · subst hb
          rw [upd_same] at q; cases q
          refine ⟨by show 2 ≤ sizeLine; exact line3 (by decide), [.int (c + i) s.toks, u], .cons ⟨_, rfl⟩ (.cons ru .nil), ?_⟩
          exact ⟨_, (sb2.2 _ (Nat.ne_of_gt elt)).trans tp, rfl, _, rfl⟩
        · rw [upd_ne hb] at q
          refine (I.hok b o q).stay (fun d v hd z => kp2 d v ?_ ?_ z) (fun d z => by rw [upd_ne (ne_of_none z fr)]; exact z) fun d ys z => by rw [upd_ne (ne_of_none z fr)]; exact z
          · rintro rfl
            rcases hd with z | z
            · rw [← z] at q; rw [f0] at q; cases q
            · rw [f0] at z; cases z
          · rintro rfl
            rcases hd with z | z
            · rw [← z] at q; rw [g0] at q; cases q
            · rw [g0] at z; cases z
    have ec : c + (i : Int) + 1 = c + ((i + 1 : Nat) : Int) := by omega
    rw [ec] at en2
    refine ⟨.ref s.heap.objs.size, _, I1, rfl, ⟨_, x, rfl, fr, rfl, fun ys hy => by rw [I.list_inj hy hq]; exact hx⟩, ⟨⟨_, en2⟩, li'.extBut sb2.extBut (Ne.symm hne)⟩, fun b hb => ?_⟩
    rcases List.mem_cons.mp hb with rfl | hb
    · rw [upd_ne (Nat.ne_of_lt elt)]; exact f0
    · have e' : b = it := by simpa using hb
      subst e'
      obtain ⟨o, eo, _⟩ := li
      rw [upd_ne (Nat.ne_of_lt (Heap.lt_size eo))]; exact g0
  done := by
    intro X hP hw hK hc i pins s σ H E I hf st hg
    subst hP hw hK
    obtain ⟨⟨old, en⟩, li⟩ := st
    obtain ⟨xs, hq, hx⟩ := hg
    obtain ⟨its, rv, p, hz⟩ := I.list hq
    obtain ⟨g0, g1, g2, g3, g4, g5⟩ := hf it (by simp)
    have hl := rv.length
    exact en_end (I.ok.hd hc) en li p.isList (by simp; omega) fun h' eb => ⟨rfl, I.turned (t' := s.toks) (fun b o hb e => eb b o hb e) g0 g1 g3 g4 g5⟩
  self := fun _ _ _ _ _ st h => let ⟨⟨_, en⟩, _⟩ := st; wpAny_pyIter_enum en h
section
variable {X : Cx} {elts : List Expr} {x1 : _} {tpos : Pos}
/-- the iterator stands -/
theorem en_it {pins : List (Addr × Obj)} {σ : St} {H : Hp} {s : Shared} {R : It → Hp → Prop} {a : Addr} {c : Int} {h' : Heap} {E : Value → Shared → Prop} (I : Inv X pins σ H s)
    (en : IsEnum h' (s.heap.objs.size + 1) s.heap.objs.size c .none) (li : h'.IsListIter s.heap.objs.size a 0) (kp : ∀ b o, s.heap.get? b = some o → h'.get? b = some o) (q : R (Ite X.K a c) H) {tk : Nat} :
    wpAny (model X.prog X.w) X.A (pyIter (.ref (s.heap.objs.size + 1))) (PIE X pins σ (.Tuple elts x1 tpos) R) E { s with heap := h', toks := tk } := by
  refine wpAny_pyIter_enum (s := { s with heap := h', toks := tk }) en ?_
  have I1 : Inv X pins σ H { s with heap := h', toks := tk } := I.kept kp
  refine ⟨s.heap.objs.size + 1, [s.heap.objs.size + 1, s.heap.objs.size], _, _, H, rfl, I1, turn_enum a _ _ c (Nat.succ_ne_self _), ⟨⟨_, by simpa using en⟩, li⟩, fun b hb => ?_, q⟩
  rcases List.mem_cons.mp hb with rfl | hb
  · exact I.fpOk (Nat.le_succ _) (I.hok.fresh (Nat.le_succ _))
  · have e : b = s.heap.objs.size := by simpa using hb
    subst e
    exact I.fpOk (Nat.le_refl _) (I.hok.fresh (Nat.le_refl _))
def iEnum (K : PySem.W.Frag) (c : Int) (ta : TA) : TI := fun σ H R => ta σ H fun vs H1 => on1 vs fun x => onL H1 x fun a _ => R (Ite K a c) H1
theorem pi_enum {a : Expr} {ta : TA} {p pos : Pos} (hg : Gl X "enumerate") (hm : X.mg "enumerate" = none) (ha : PA X [a] ta) (hs : starEach [a] X.env = [(false, eval a X.env)] := by rfl) :
    PI X (.Tuple elts x1 tpos) (.Call (.Name "enumerate" p) [a] [] pos) (iEnum X.K 0 ta) := by
  intro pins s σ H R I h
  refine Call_ (ld_blt I hg hm (by decide +kernel : bootBuiltins "enumerate" = some (.type "enumerate")) (PyProof.Rows.callWith_type1 (thn (ha pos pins s σ H _ I h) fun us s1 ⟨vs, H1, I1, r1, q1⟩ => ?_) hs rfl))
  obtain ⟨x, rfl, q2⟩ := on1.out q1
  obtain ⟨l, xs, rfl, hl, q⟩ := onL.out q2
  obtain ⟨u, rfl, ru⟩ := r1.one
  cases ru
  obtain ⟨its, rv, pl, hz⟩ := I1.list (SqL.of (K := X.K) hl)
  exact call_enumerate_list pl.isList fun h' en li sz kp => en_it (tk := s1.toks) I1 en li kp q
end
end L2

namespace L2
open PySem PySem.Spec PyProof.Rows
/-! ## enumerate(xs, start=1) -/
abbrev kwS (v : Value) : List (Str × Value) := [(Str.ofString "start", v)]
theorem tc_enum1 (a v : Value) : checkTypeCall "enumerate" ⟨[a], kwS v⟩ = pure () := by kernel_rfl
theorem nc_enum1 (a v : Value) : checkBuiltinCall "enumerate.__new__" ⟨[.type "enumerate", a], kwS v⟩ = pure () := by kernel_rfl
theorem ok_init1 (o a v : Value) : argsOk "object.__init__" ⟨[o, a], kwS v⟩ := by unfold argsOk; kernel_rfl
open AutoSeq1 (wpAny_loadPart') in
theorem meets_enum1 (l : Addr) (items : Array Value) (n : Nat) (dct : Option Addr) (sl : Array (Option Value)) (t : Tok) :
    Meets (Builtin.«enumerate.__new__» ⟨[.type "enumerate", .ref l], kwS (.int 1 t)⟩) (fun _ R s => s.heap.get? l = some { cls := .type "list", dict := dct, data := .seq items n, slots := sl } ∧
      R (.ok (.ret (.ref (s.heap.push { cls := .type "list_iterator", data := .fields #[.ref l, .int 0 0] }).objs.size)))
        { s with heap := (s.heap.push { cls := .type "list_iterator", data := .fields #[.ref l, .int 0 0] }).push { cls := .type "enumerate", data := .fields #[.none, .bool false, .ref s.heap.objs.size, rawInt 1, .none, .none] } }) :=
  .of_wp fun prog w A R s h => by
    obtain ⟨hp, g, d, tk, os⟩ := s; obtain ⟨hl, h⟩ := h
    have hsub := sub_enumerate
    have hL : Heap.IsList (Shared.heap ⟨hp, g, d, tk, os⟩) l items := ⟨_, hl, rfl, n, rfl⟩
    have f1 := AutoSeq1.idx_int
    wp_walk using wpAny_loadPart' hl
    refine wpAny_stack_any fun st => wpAny_pure ?_
    split
    · rename_i c _ _ _ _ _
      cases (c == Value.type "enumerate")
      · wp_walk using wpAny_loadPart' hl, wpAny_pyIter_list hL
        exact ⟨_, rfl, h⟩
      · wp_walk using wpAny_loadPart' hl, wpAny_pyIter_list hL
        exact ⟨_, rfl, h⟩
    · wp_walk using wpAny_loadPart' hl, wpAny_pyIter_list hL
      exact ⟨_, rfl, h⟩
section
variable {prog : Program} {w : World} {A : Around} {E : Value → Shared → Prop} {s : Shared}
theorem init_kw {T newId : String} {self a v : Value} (hl : typeLookup (.type T) "__init__" = pure (some (.builtin "object.__init__"))) (hm : Bind.madeBy (.type T) = pure (some newId)) (hne : (some newId != some "object.__new__") = true) :
    Meets (Builtin.«object.__init__» ⟨[self, a], kwS v⟩) (fun _ R s => s.TypeIs self T ∧ R (.ok (.ret .none)) s) := by
  refine Meets.of_wp fun prog w A R s hs => ?_
  obtain ⟨hT, hq⟩ := hs
  repeat (any_goals (first | assumption | wp_step))
  exact ⟨_, rfl, hq⟩
theorem call_enum1 {l : Addr} {items : Array Value} {t : Tok} {Q : Value → Shared → Prop} (hL : s.heap.IsList l items)
    (h : ∀ h', IsEnum h' (s.heap.objs.size + 1) s.heap.objs.size 1 .none → h'.IsListIter s.heap.objs.size l 0 → (∀ b o, s.heap.get? b = some o → h'.get? b = some o) → Q (.ref (s.heap.objs.size + 1)) { s with heap := h' }) :
    wpAny (model prog w) A (call (.type "enumerate") [.ref l] (kwS (.int 1 t))) Q E s := by
  obtain ⟨⟨c, dct, dt, sl⟩, hl, hc, n, hd⟩ := hL
  have hc : c = .type "list" := hc
  have hd : dt = .seq items n := hd
  subst hc hd
  have ft := F.called_enumerate
  obtain ⟨c, tl, hmro⟩ := ft.mro
  have hmade := ft.made
  have hsub := ft.sub
  have h1 := ft.notType
  have h2 := ft.canCreate
  have hct := tc_enum1 (.ref l) (.int 1 t)
  refine wpAny_call (codeAny_of_tree ?_); show wpAny _ _ (callAny (.type "enumerate") _) _ _ _
  refine wpAny_pure ⟨Code.quiet_builtin _ (by decide +kernel), codeAny_builtin F.entry_type_call ?_⟩; rw [Around.under_plain (weight_type_call_type "enumerate" [.ref l] (kwS (.int 1 t))) (units_type_call_type "enumerate" [.ref l] (kwS (.int 1 t)))]
  repeat (any_goals (first | assumption | wp_step))
  have hz : (s.heap.push { cls := .type "list_iterator", data := .fields #[.ref l, .int 0 0] }).objs.size = s.heap.objs.size + 1 := Heap.size_push ..
  have he : IsEnum ((s.heap.push { cls := .type "list_iterator", data := .fields #[.ref l, .int 0 0] }).push { cls := .type "enumerate", data := .fields #[.none, .bool false, .ref s.heap.objs.size, rawInt 1, .none, .none] }) (s.heap.objs.size + 1) s.heap.objs.size 1 .none := by
    have z := Heap.get?_push_size (s.heap.push { cls := .type "list_iterator", data := .fields #[.ref l, .int 0 0] }) (o := { cls := .type "enumerate", data := .fields #[.none, .bool false, .ref s.heap.objs.size, rawInt 1, .none, .none] }) rfl
    rw [hz] at z; exact z
  have hW : wants (fun obj s₁ => s₁.TypeIs obj "enumerate" ∧ Q obj s₁) E (.ok (.ret (.ref (s.heap.push { cls := .type "list_iterator", data := .fields #[.ref l, .int 0 0] }).objs.size)))
      { s with heap := (s.heap.push { cls := .type "list_iterator", data := .fields #[.ref l, .int 0 0] }).push { cls := .type "enumerate", data := .fields #[.none, .bool false, .ref s.heap.objs.size, rawInt 1, .none, .none] } } := by
    show _ ∧ _
    rw [hz]
    exact ⟨⟨_, he, rfl⟩, h _ he ⟨_, Heap.get?_push_of_some _ (Heap.get?_push_size _ rfl), rfl, rfl⟩ fun b o x => Heap.get?_push_of_some _ (Heap.get?_push_of_some _ x)⟩
  refine codeAny_mono (codeAny_call_builtin ft.plain F.entry_enumerate_new (wpAny_of_eq (nc_enum1 (.ref l) (.int 1 t)) (meets_enum1 l items n dct sl t prog w A.in1 _ s ⟨hl, hW⟩))) fun r s₁ hr => ?_
  cases r with
  | error e => exact hr
  | ok fl =>
    cases fl with
    | ret obj =>
      obtain ⟨hT, hq⟩ := hr
      have hli := ft.init.lookup
      have hbi := ft.init.bind obj
      repeat (any_goals (first | assumption | wp_step))
      refine codeAny_mono (codeAny_call_builtin ft.init.plain F.entry_object_init (ft.init.check _ _ _ _ _ _ _ _ hT (ok_init1 obj (.ref l) (.int 1 t)) (init_kw (a := .ref l) (v := .int 1 t) ft.init.lookup ft.made (by decide) prog w A.in1 (wants (fun r s₂ => r = .none ∧ Q obj s₂) E) s₁ ⟨hT, rfl, hq⟩))) fun r₂ s₂ hr₂ => ?_
      cases r₂ with
      | error e => exact hr₂
      | ok fl₂ =>
        cases fl₂ with
        | ret r =>
          obtain ⟨rfl, hq⟩ := hr₂
          repeat (any_goals (first | assumption | wp_step))
        | _ => exact hr₂.elim
    | _ => exact hr.elim
theorem callWith_tkw {M : Model} {pos : Pos} {T : String} {first : List Value} {args : List (Bool × Sem Value)} {keywords : List (Option Str × Sem Value)} {Q : Value → Shared → Prop} (hplain : args.any (·.1) = false) (hkw : keywords.any (·.1.isNone) = false)
    (h : wpAny M A (evalArgs (.type T) true args keywords) (fun a s₁ => wpAny M A (call (.type T) (first ++ a.pos) a.kw) Q E s₁) E s) : wpAny M A (callWith pos (.type T) first args keywords) Q E s := by
  unfold callWith
  refine wpAny_bind (wpAny_holding (wpAny_mono h (fun a s₁ h₁ => wpAny_bind (wpAny_standAt ?_)) fun _ _ x => x)); simp only [hplain, hkw, Bool.or_false]; refine wpAny_bind (wpAny_pure ?_)
  exact wpAny_bind (wpAny_mono h₁ (fun r s₂ hr => wpAny_bind (wpAny_holding (wpAny_point (wpAny_pure hr)))) fun _ _ z => z)
end
section
variable {X : Cx} {elts : List Expr} {x1 : _} {tpos : Pos}
/-- enumerate(a, start=1) -/
theorem pi_enumK {a : Expr} {ta : TA} {j : _} {p pos cp kp : Pos} (hg : Gl X "enumerate") (hm : X.mg "enumerate" = none) (ha : PA X [a] ta) (hs : starEach [a] X.env = [(false, eval a X.env)] := by rfl) :
    PI X (.Tuple elts x1 tpos) (.Call (.Name "enumerate" p) [a] [⟨some "start", .Constant (.int 1) j cp, kp⟩] pos) (iEnum X.K 1 ta) := by
  intro pins s σ H R I h
  refine wpAny_Call_Name_kw (ld_blt I hg hm (by decide +kernel : bootBuiltins "enumerate" = some (.type "enumerate")) ?_)
  have hsb : backTo pos (starEach [a] X.env) = (false, eval a X.env) :: backTo pos (starEach [] X.env) := by rw [hs]; rfl
  refine callWith_tkw (first := []) (by rw [hs]; rfl) rfl ?_
  have hA := ha pos pins s σ H _ I h
  rw [hs] at hA ⊢
  refine evalArgs_kwB rfl (thn hA fun us s1 ⟨vs, H1, I1, r1, q1⟩ => ?_)
  refine kws_cons (wpAny_Constant_int (kws_nil ?_))
  obtain ⟨x, rfl, q2⟩ := on1.out q1
  obtain ⟨l, xs, rfl, hl, q⟩ := onL.out q2
  obtain ⟨u, rfl, ru⟩ := r1.one
  cases ru
  have I2 : Inv X pins σ H1 { s1 with toks := s1.toks + 1 } := I1.tok _
  obtain ⟨its, rv, pl, hz⟩ := I2.list (SqL.of (K := X.K) hl)
  exact call_enum1 (s := { s1 with toks := s1.toks + 1 }) pl.isList fun h' en li kp => en_it (s := { s1 with toks := s1.toks + 1 }) (tk := s1.toks + 1) I2 en li kp q
end
/-- for .. in enumerate(xs, start = c): the tuple of a turn is dropped -/
theorem for_enumF {K : PySem.W.Frag} {wi : TI} {g : TG} {tb : TS} {D : Ends} {σ : St} {H : Hp} (c : Int) (a : Addr) (xs : List V) (hn : ∀ N : It → Hp → Prop, N (Ite K a c) H → wi σ H N) (Pv : Nat → St → Hp → Prop) (h0 : Pv 0 σ H) (hl : ∀ i σ H, i ≤ xs.length → Pv i σ H → H a = some (.lst xs))
    (hs : ∀ i x σ H p, xs[i]? = some x → Pv i σ H → H p = none → g (.ref p) σ (upd H p (.tup [.int (c + i), x])) fun σ2 H2 => tb { D with nx := Pv (i + 1), ct := Pv (i + 1), bk := D.nx } σ2 H2) (hd : ∀ σ H, Pv xs.length σ H → D.nx σ H) : tFor wi g tb D σ H := by
  refine hn _ ?_
  refine ⟨fun i m σ H => m = xs.length - i ∧ i ≤ xs.length ∧ Pv i σ H, ⟨xs.length, by simp, Nat.zero_le _, h0⟩, ?_⟩
  rintro i m σ H ⟨rfl, hi, p⟩
  have q := hl i σ H hi p
  by_cases hlt : i < xs.length
  · refine .inr ⟨⟨xs, xs[i], SqL.of q, by simp [hlt]⟩, Pv (i + 1), fun σ' H' p' => ⟨xs.length - (i + 1), by omega, rfl, hlt, p'⟩, fun v H' y => ?_⟩
    obtain ⟨t, x, rfl, ht, rfl, hx⟩ := y
    exact hs i x σ H t (hx xs (SqL.of q)) p ht
  · have e : i = xs.length := by omega
    subst e
    exact .inl ⟨⟨xs, SqL.of q, Nat.le_refl _⟩, hd σ H p⟩
/-- (x, y) = a tuple of two -/
theorem tup2 {K : PySem.W.Frag} {i j : Nat} {p : Addr} {x y : V} {σ : St} {H : Hp} {N : St → Hp → Prop} (h : H p = some (.tup [x, y])) (q : N ((σ.set i (some x)).set j (some y)) H) : gTup K 2 (gCons (gName i) (gCons (gName j) gNil)) (.ref p) σ H N :=
  ⟨p, [x, y], rfl, SqT.of h, rfl, x, [y], rfl, y, [], rfl, rfl, q⟩
@[simp] theorem rd_enum {K : PySem.W.Frag} {c : Int} {l : TA} {σ : St} {H : Hp} {N : It → Hp → Prop} : iEnum K c l σ H N = l σ H fun vs H1 => on1 vs fun x => onL H1 x fun a _ => N (Ite K a c) H1 := rfl
/-! ## slices -/
theorem cut_to {xs : List V} {p : Nat} (h : p ≤ xs.length) : cutV xs none (some (p : Int)) = xs.take p := by
  unfold cutV
  have e1 : HT.sIx xs.length 0 none = 0 := rfl
  have e2 : HT.sIx xs.length xs.length (some (p : Int)) = p := by rw [HT.sIx_nat]; omega
  rw [e1, e2]; simp
theorem cut_from {xs : List V} {p : Nat} : cutV xs (some (p : Int)) none = xs.drop p := by
  unfold cutV
  have e1 : HT.sIx xs.length xs.length none = xs.length := rfl
  have e2 : HT.sIx xs.length 0 (some (p : Int)) = min p xs.length := HT.sIx_nat _ _ _
  rw [e1, e2]
  by_cases hp : p ≤ xs.length
  · rw [Nat.min_eq_left hp]; exact List.take_of_length_le (by simp)
  · rw [Nat.min_eq_right (by omega)]; simp
    omega
end L2

namespace L2
open PySem PySem.Spec PyProof.Rows
/-! ## sorted, index, max, min, sum, all, any, pop(i) of lists -/
def sortZ (ns : List Int) : List Int := ns.mergeSort fun a b => decide (a ≤ b)
theorem sortZ_perm (ns : List Int) : (sortZ ns).Perm ns := List.mergeSort_perm _ _
theorem sortZ_le (ns : List Int) : (sortZ ns).Pairwise (· ≤ ·) := by
  have := List.pairwise_mergeSort (le := fun (a b : Int) => decide (a ≤ b)) (fun a b c h1 h2 => by simp at *; omega) (fun a b => by simp; omega) ns
  exact this.imp fun h => by simpa using h
theorem sortZ_uniq {ns ms : List Int} (h : ms.Perm ns) (hp : ms.Pairwise (· ≤ ·)) : ms = sortZ ns :=
  List.Perm.eq_of_pairwise (le := (· ≤ ·)) (fun a b _ _ h1 h2 => Int.le_antisymm h1 h2) hp (sortZ_le ns) (h.trans (sortZ_perm ns).symm)
theorem sortZ_len (ns : List Int) : (sortZ ns).length = ns.length := (sortZ_perm ns).length_eq
theorem ints_of_vals : ∀ {ns : List Int} {us : List Value}, Vals (ns.map V.int) us → IntsAre us ns
  | [], _, .nil => .nil
  | n :: ns, _, .cons r t => by
    obtain ⟨k, rfl⟩ := r
    exact .cons n k (ints_of_vals t)
theorem ints_items : ∀ {us : List Value} {ns : List Int}, IntsAre us ns → ∃ xs : List (Int × Tok), us.toArray = intItems xs.toArray ∧ xs.map (·.1) = ns
  | _, _, .nil => ⟨[], by simp [intItems], rfl⟩
  | _, _, .cons n t r => by
    obtain ⟨xs, e1, e2⟩ := ints_items r
    refine ⟨(n, t) :: xs, ?_, by simp [e2]⟩
    have e1' := congrArg Array.toList e1
    apply Array.toList_inj.mp
    simp [intItems] at e1' ⊢
    exact e1'
section
variable {X : Cx}
def rSorted : List V → Hp → VK → Prop := fun vs H Q => on1 vs fun x => onL H x fun _ xs => ∃ ns : List Int, xs = ns.map V.int ∧ ns.length < 64 ∧ new H (.lst ((sortZ ns).map V.int)) Q
theorem f_sorted : CallR X (.builtin "sorted") rSorted := by
  intro pins s σ H xs us Q I r h
  obtain ⟨x, rfl, h1⟩ := on1.out h
  obtain ⟨p, ys, rfl, hp, ns, rfl, hz, q⟩ := onL.out h1
  obtain ⟨u, rfl, rx⟩ := vals1 r
  cases rx
  obtain ⟨its, r', pl, hz'⟩ := I.list (SqL.of hp)
  have hI := ints_of_vals r'
  have hlen := r'.length
  rw [List.length_map] at hlen
  refine sorted_ints pl.isList hI (by omega) fun out ns' a1 a2 a3 => ?_
  have e := sortZ_uniq a2 a3
  subst e
  obtain ⟨e, he⟩ := sortedAll_at s.heap its out
  have := sortZ_len ns
  have hs : sizeLine = 16777216 := sizeLine_eq
  exact ⟨.ref (s.heap.objs.size + 1), _, I.laid (t' := s.toks) (fun b o => sortedAll_old) (by omega) (show ObjOk X.prog X.w _ _ _ (.lst ((sortZ ns).map V.int)) from ⟨by rw [List.length_map]; omega, out.toList, e, vals_ints a1, he⟩), rfl, q _ (I.hok.fresh (by omega))⟩
def rIndex : V → List V → Hp → VK → Prop := fun x vs H Q => on1 vs fun y => onI y fun k => onL H x fun _ xs => ∃ ns : List Int, xs = ns.map V.int ∧ k ∈ ns ∧ Q (.int (ns.idxOf k : Nat)) H
/-- the greatest (least) of a list -/
def rMax1 : List V → Hp → VK → Prop := fun vs H Q => on1 vs fun x => onL H x fun _ xs => ∃ ns : List Int, xs = ns.map V.int ∧ ns ≠ [] ∧ ∀ M, M ∈ ns → (∀ a ∈ ns, a ≤ M) → Q (.int M) H
def rMin1 : List V → Hp → VK → Prop := fun vs H Q => on1 vs fun x => onL H x fun _ xs => ∃ ns : List Int, xs = ns.map V.int ∧ ns ≠ [] ∧ ∀ M, M ∈ ns → (∀ a ∈ ns, M ≤ a) → Q (.int M) H
/-- sum of small numbers -/
def rSum : List V → Hp → VK → Prop := fun vs H Q => on1 vs fun x => onL H x fun _ xs => ∃ ns : List Int, xs = ns.map V.int ∧ (∀ j, j < ns.length → InLong (ns.getD j 0) ∧ InLong (ns.take (j + 1)).sum) ∧ Q (.int ns.sum) H
theorem f_sum (hc : X.calm = true) : CallR X (.builtin "sum") rSum := by
  intro pins s σ H xs us Q I r h
  obtain ⟨x, rfl, h1⟩ := on1.out h
  obtain ⟨p, ys, rfl, hp, ns, rfl, hne, q⟩ := onL.out h1
  obtain ⟨u, rfl, rx⟩ := vals1 r
  cases rx
  obtain ⟨its, r', pl, hz'⟩ := I.list (SqL.of hp)
  obtain ⟨ps, e1, e2⟩ := ints_items (ints_of_vals r')
  have hl := pl.isList
  rw [e1] at hl
  have hps : ps.length = ns.length := by rw [← e2, List.length_map]
  refine sum_intList (I.ok.hd hc) hl (fun j hj => ?_) fun h' tk t' hk => ?_
  · rw [numAt_eq, preSum_eq]
    simp only [e2]
    exact hne j (by simpa [hps] using hj)
  · refine ⟨.int _, H, I.kept hk, ⟨_, rfl⟩, ?_⟩
    rw [preSum_eq, List.take_of_length_le (by simp)]
    simp only [e2]
    exact q
def rAll : List V → Hp → VK → Prop := fun vs H Q => on1 vs fun x => onL H x fun _ xs => ∃ bs : List Bool, xs = bs.map V.bl ∧ Q (.bl (bs.all id)) H
def rAny : List V → Hp → VK → Prop := fun vs H Q => on1 vs fun x => onL H x fun _ xs => ∃ bs : List Bool, xs = bs.map V.bl ∧ Q (.bl (bs.any id)) H
end
section
variable {H : Hp} {Q : VK}
@[simp] theorem rd_sorted {vs : List V} : rSorted vs H Q = on1 vs fun x => onL H x fun _ xs => ∃ ns : List Int, xs = ns.map V.int ∧ ns.length < 64 ∧ new H (.lst ((sortZ ns).map V.int)) Q := rfl
@[simp] theorem rd_index {x : V} {vs : List V} : rIndex x vs H Q = on1 vs fun y => onI y fun k => onL H x fun _ xs => ∃ ns : List Int, xs = ns.map V.int ∧ k ∈ ns ∧ Q (.int (ns.idxOf k : Nat)) H := rfl
@[simp] theorem rd_max1 {vs : List V} : rMax1 vs H Q = on1 vs fun x => onL H x fun _ xs => ∃ ns : List Int, xs = ns.map V.int ∧ ns ≠ [] ∧ ∀ M, M ∈ ns → (∀ a ∈ ns, a ≤ M) → Q (.int M) H := rfl
@[simp] theorem rd_min1 {vs : List V} : rMin1 vs H Q = on1 vs fun x => onL H x fun _ xs => ∃ ns : List Int, xs = ns.map V.int ∧ ns ≠ [] ∧ ∀ M, M ∈ ns → (∀ a ∈ ns, M ≤ a) → Q (.int M) H := rfl
@[simp] theorem rd_sum {vs : List V} : rSum vs H Q = on1 vs fun x => onL H x fun _ xs => ∃ ns : List Int, xs = ns.map V.int ∧ (∀ j, j < ns.length → InLong (ns.getD j 0) ∧ InLong (ns.take (j + 1)).sum) ∧ Q (.int ns.sum) H := rfl
@[simp] theorem rd_all {vs : List V} : rAll vs H Q = on1 vs fun x => onL H x fun _ xs => ∃ bs : List Bool, xs = bs.map V.bl ∧ Q (.bl (bs.all id)) H := rfl
@[simp] theorem rd_any {vs : List V} : rAny vs H Q = on1 vs fun x => onL H x fun _ xs => ∃ bs : List Bool, xs = bs.map V.bl ∧ Q (.bl (bs.any id)) H := rfl
@[simp] theorem rd_popAt {x : V} {vs : List V} : rPopAtF x vs H Q = on1 vs fun y => onI y fun i => onL H x fun l xs => (0 ≤ i ∧ i < xs.length) ∧ onO xs[i.toNat]? fun y => Q y (upd H l (.lst (xs.eraseIdx i.toNat))) := rfl
end
end L2

namespace L2
open PySem PySem.Spec PyProof.Rows
theorem RowsAt.any {H : Hp} {a : Addr} {as : List Addr} {xss : List (List Int)} (h : RowsAt H a as xss) {B : Nat} (hz : ∀ r ∈ xss, r.length ≤ B) : ∀ p ∈ as, ∃ ys, H p = some (.lst ys) ∧ ys.length ≤ B := fun p hp => by
  obtain ⟨i, hi⟩ := List.getElem?_of_mem hp
  obtain ⟨xs, e, hx⟩ := RowsL.get' h.row hi
  exact ⟨_, hx, by rw [List.length_map]; exact hz xs (List.mem_of_getElem? e)⟩
/-- the same as long as the old stays -/
theorem RowsAt.old {H0 H H' : Hp} {a : Addr} {as : List Addr} {xss : List (List Int)} (h : RowsAt H0 a as xss) (s : Same H0 H') : RowsAt H' a as xss := h.same s
end L2

namespace L2
open PySem PySem.Spec PyProof.Rows
section
variable {X : Cx} {a b c : Expr} {ta tb tc : TE} {pos : Pos}
def rMax : List V → Hp → VK → Prop := fun vs H Q => on2 vs fun x y => onI x fun i => onI y fun j => Q (.int (if i < j then j else i)) H
theorem f_max (hc : X.calm = true) : CallR X (.builtin "max") rMax := (call_max2 hc).imp fun vs H Q h => by
  obtain ⟨x, y, rfl, h1⟩ := on2.out h
  obtain ⟨i, rfl, h2⟩ := onI.out h1
  obtain ⟨j, rfl, h3⟩ := onI.out h2
  exact ⟨i, j, rfl, h3⟩
@[simp] theorem rd_max {vs : List V} {H : Hp} {Q : VK} : rMax vs H Q = on2 vs fun x y => onI x fun i => onI y fun j => Q (.int (if i < j then j else i)) H := rfl
end
/-- the source of a comprehension is a new list -/
theorem comp_new {K : PySem.W.Frag} {tl : TE} {cp : List Nat} {tt : TT} {te : TE} {σ : L2.St} {H : Hp} {Q : VK} {o : HO} (hl : ∀ R : VK, (∀ S, H S = none → R (.ref S) (upd H S o)) → tl σ H R) (h : ∀ S, H S = none → tComp (iL K (tC (.ref S))) cp tt te σ (upd H S o) Q) : tComp (iL K tl) cp tt te σ H Q := hl _ h
/-- an if, by what its test tells -/
theorem ifS {tA : TT} {t u : TS} {D : Ends} {σ : St} {H : Hp} (b : Bool) (H1 : Hp) (h : ∀ R : Bool → Hp → Prop, R b H1 → tA σ H R) (k : if b = true then t D σ H1 else u D σ H1) : tIfS tA t u D σ H := h _ k
end L2

namespace L2
open PySem PySem.Spec PyProof.Rows
/-! ## lists compared -/
mutual
inductive Dp (H : Hp) : V → PyData → Prop
  | non : Dp H .non .none
  | bl (b : Bool) : Dp H (.bl b) (.bool b)
  | int (i : Int) : Dp H (.int i) (.int i)
  | lst {a : Addr} {xs : List V} {ds : List PyData} : H a = some (.lst xs) → DpAll H xs ds → Dp H (.ref a) (.list ds)
  | tup {a : Addr} {xs : List V} {ds : List PyData} : H a = some (.tup xs) → DpAll H xs ds → Dp H (.ref a) (.tuple ds)
inductive DpAll (H : Hp) : List V → List PyData → Prop
  | nil : DpAll H [] []
  | cons {x : V} {d : PyData} {xs : List V} {ds : List PyData} : Dp H x d → DpAll H xs ds → DpAll H (x :: xs) (d :: ds)
end
section
variable {X : Cx} {pins : List (Addr × Obj)} {σ : St} {H : Hp} {s : Shared}
mutual
theorem dp_reads (I : Inv X pins σ H s) : ∀ {v : V} {d : PyData} {u : Value}, Dp H v d → RelV v u → ∃ as, Reads s.heap u d as
  | _, _, _, .non, r => by cases r; exact ⟨_, Reads.none⟩
  | _, _, _, .bl b, r => by cases r; exact ⟨_, Reads.bool b⟩
  | _, _, _, .int i, r => by obtain ⟨t, rfl⟩ := r; exact ⟨_, Reads.int i t⟩
  | _, _, _, .lst ha h, r => by
    cases r
    obtain ⟨its, r', pl, hz⟩ := I.list (SqL.of ha)
    obtain ⟨as, q⟩ := dp_readsAll I h r'
    obtain ⟨o, ho, hc, n, hd⟩ := pl.isList
    exact ⟨_, reads_list_at ho hc hd (by simpa using q)⟩
  | _, _, _, .tup ha h, r => by
    cases r
    obtain ⟨its, r', pl, hz⟩ := I.tuple (SqT.of ha)
    obtain ⟨as, q⟩ := dp_readsAll I h r'
    obtain ⟨o, ho, hc, n, hd⟩ := pl
    exact ⟨_, reads_tuple_at ho hc hd (by simpa using q)⟩
theorem dp_readsAll (I : Inv X pins σ H s) : ∀ {xs : List V} {ds : List PyData} {us : List Value}, DpAll H xs ds → Vals xs us → ∃ as, ReadsAll s.heap us ds as
  | _, _, _, .nil, .nil => ⟨_, ReadsAll.nil⟩
  | _, _, _, .cons h t, .cons r rt => by
    obtain ⟨as, q⟩ := dp_reads I h r
    obtain ⟨bs, p⟩ := dp_readsAll I t rt
    exact ⟨_, ReadsAll.cons q p⟩
end
end
section
variable {X : Cx}
def rEqF : R2 := fun x y H Q => match x with
  | .ref a => ∃ d e, Dp H (.ref a) d ∧ Dp H y e ∧ SeqAt.shaped d = true ∧ SeqAt.shaped e = true ∧ Q (.bl (PyData.eqv d e)) H
  | x => rEq x y H Q
def rNeF : R2 := fun x y H Q => match x with
  | .ref a => ∃ d e, Dp H (.ref a) d ∧ Dp H y e ∧ SeqAt.shaped d = true ∧ SeqAt.shaped e = true ∧ Q (.bl (!PyData.eqv d e)) H
  | x => rNe x y H Q
theorem f_eqF (hu : X.A.units + 64 < cLine) : OpR X (compareOp .Eq) rEqF := by
  intro pins s σ H x y v u Q I rx ry h
  cases x with
  | ref a =>
    obtain ⟨d, e, hd, he, sd, se, q⟩ := h
    obtain ⟨as, ra⟩ := dp_reads I hd rx
    obtain ⟨bs, rb⟩ := dp_reads I he ry
    exact eq_dataH ra rb sd se hu ⟨.bl _, H, I, rfl, q⟩
  | _ => exact op_eq pins s σ H _ y v u Q I rx ry h
theorem f_neF (hu : X.A.units + 64 < cLine) : OpR X (compareOp .NotEq) rNeF := by
  intro pins s σ H x y v u Q I rx ry h
  cases x with
  | ref a =>
    obtain ⟨d, e, hd, he, sd, se, q⟩ := h
    obtain ⟨as, ra⟩ := dp_reads I hd rx
    obtain ⟨bs, rb⟩ := dp_reads I he ry
    exact ne_dataH ra rb sd se hu ⟨.bl _, H, I, rfl, q⟩
  | _ => exact op_ne pins s σ H _ y v u Q I rx ry h
end
theorem hu64 {A : Around} {k : Nat} (hr : Room k A) : A.units + 64 < cLine := by have := hr.un; omega
section
variable {H : Hp} {Q : VK}
@[simp] theorem rd_eqFI {i : Int} {y : V} : rEqF (.int i) y H Q = rEq (.int i) y H Q := rfl
@[simp] theorem rd_eqFB {i : Bool} {y : V} : rEqF (.bl i) y H Q = rEq (.bl i) y H Q := rfl
@[simp] theorem rd_eqFN {y : V} : rEqF .non y H Q = rEq .non y H Q := rfl
@[simp] theorem rd_eqFS {i : Str} {y : V} : rEqF (.str i) y H Q = rEq (.str i) y H Q := rfl
@[simp] theorem rd_neFI {i : Int} {y : V} : rNeF (.int i) y H Q = rNe (.int i) y H Q := rfl
@[simp] theorem rd_neFB {i : Bool} {y : V} : rNeF (.bl i) y H Q = rNe (.bl i) y H Q := rfl
@[simp] theorem rd_neFN {y : V} : rNeF .non y H Q = rNe .non y H Q := rfl
@[simp] theorem rd_neFS {i : Str} {y : V} : rNeF (.str i) y H Q = rNe (.str i) y H Q := rfl
@[simp] theorem rd_eqB {i j : Bool} : rEq (.bl i) (.bl j) H Q = Q (.bl (decide (i = j))) H := by
  show (true = true ∧ Q (.bl (decide (V.bl i = V.bl j))) H) = _
  simp
@[simp] theorem rd_neB {i j : Bool} : rNe (.bl i) (.bl j) H Q = Q (.bl (!decide (i = j))) H := by
  show (true = true ∧ Q (.bl (!decide (V.bl i = V.bl j))) H) = _
  simp
end
/-! ### what is compared here: lists of numbers or none, lists of such lists -/
def leafP : V → PyData | .int i => .int i | _ => .none
def isLeaf : V → Bool | .int _ => true | .non => true | _ => false
theorem dp_leaf {H : Hp} {v : V} (h : isLeaf v = true) : Dp H v (leafP v) := by
  cases v with
  | int i => exact .int i
  | non => exact .non
  | _ => simp [isLeaf] at h
theorem dpAll_leaf {H : Hp} : ∀ {xs : List V}, xs.all isLeaf = true → DpAll H xs (xs.map leafP)
  | [], _ => .nil
  | x :: xs, h => by
    rw [List.all_cons, Bool.and_eq_true] at h
    exact .cons (dp_leaf h.1) (dpAll_leaf h.2)
theorem leaf_ints (xs : List Int) : (xs.map V.int).all isLeaf = true := by
  rw [List.all_eq_true]; intro v hv; obtain ⟨i, _, rfl⟩ := List.mem_map.mp hv; rfl
theorem leaf_lay : ∀ xs : List V, PyData.canLayAll0 (xs.map leafP) = true ∧ PyData.depthAll (xs.map leafP) = 0
  | [] => by simp [PyData.canLayAll0, PyData.depthAll]
  | x :: xs => by
    obtain ⟨h1, h2⟩ := leaf_lay xs
    cases x <;> simp [leafP, PyData.canLayAll0, PyData.depthAll, PyData.canLay0, PyData.depth, h1, h2]
theorem leaf_shaped (xs : List V) : SeqAt.shaped (.list (xs.map leafP)) = true := by
  obtain ⟨h1, h2⟩ := leaf_lay xs
  simp [SeqAt.shaped, PyData.canLay0, PyData.depth, h1, h2]
theorem leaf_eqv1 {x y : V} (hx : isLeaf x = true) (hy : isLeaf y = true) : PyData.eqv (leafP x) (leafP y) = decide (x = y) := by
  cases x <;> cases y <;> simp_all [isLeaf, leafP, PyData.eqv] <;> rfl
theorem leaf_eqv : ∀ {xs ys : List V}, xs.all isLeaf = true → ys.all isLeaf = true → PyData.eqvAll (xs.map leafP) (ys.map leafP) = decide (xs = ys)
  | [], [], _, _ => by simp [PyData.eqvAll]
  | [], _ :: _, _, _ => by simp [PyData.eqvAll]
  | _ :: _, [], _, _ => by simp [PyData.eqvAll]
  | x :: xs, y :: ys, h1, h2 => by
    rw [List.all_cons, Bool.and_eq_true] at h1 h2
    simp only [List.map_cons, PyData.eqvAll, leaf_eqv1 h1.1 h2.1, leaf_eqv h1.2 h2.2]
    by_cases h : x = y <;> simp [h]
theorem eqF_leaf {H : Hp} {Q : VK} {a b : Addr} {xs ys : List V} (ha : H a = some (.lst xs)) (hb : H b = some (.lst ys)) (fx : xs.all isLeaf = true) (fy : ys.all isLeaf = true) (q : Q (.bl (decide (xs = ys))) H) : rEqF (.ref a) (.ref b) H Q :=
  ⟨_, _, .lst ha (dpAll_leaf fx), .lst hb (dpAll_leaf fy), leaf_shaped _, leaf_shaped _, by simp only [PyData.eqv]; rw [leaf_eqv fx fy]; exact q⟩
theorem int_inj {xs ys : List Int} : (xs.map V.int = ys.map V.int) ↔ xs = ys := List.map_inj_right (fun _ _ h => by injection h)
theorem eqF_ints {H : Hp} {Q : VK} {a b : Addr} {xs ys : List Int} (ha : H a = some (.lst (xs.map V.int))) (hb : H b = some (.lst (ys.map V.int))) (q : Q (.bl (decide (xs = ys))) H) : rEqF (.ref a) (.ref b) H Q :=
  eqF_leaf ha hb (leaf_ints _) (leaf_ints _) (by simp only [int_inj]; exact q)
/-- rows of numbers -/
def rowP (xs : List Int) : PyData := .list (xs.map PyData.int)
end L2

namespace L2
open PySem PySem.Spec PyProof.Rows
/-! ## xs[::-1] -/
section
variable {X : Cx} {e c : Expr} {te tc : TE} {pos p2 : Pos}
def tRevF (te : TE) : TE := fun σ H Q => te σ H fun x H1 => onL H1 x fun _ xs => new H1 (.lst xs.reverse) Q
theorem pe_rev1 (he : PE X e te) (hst : PE X c tc) (hm : ∀ σ H (Q : VK), Q (.int (-1)) H → tc σ H Q) : PE X (.Subscript e (.Slice none none (some c) p2) pos) (tRevF te) := by
  intro pins s σ H Q I h
  refine Subscript_ (thn (he pins s σ H _ I h) fun v s1 ⟨x, H1, I1, r1, q1⟩ => ?_)
  obtain ⟨a, xs, rfl, ha, q⟩ := onL.out q1
  cases r1
  refine wpAny_Slice ?_
  rw [evalPart_none, evalPart_some]
  refine wpAny_pure (wpAny_pure ?_)
  refine thn (hst pins s1 σ H1 (fun x H2 => x = .int (-1) ∧ H2 = H1) I1 (hm _ _ _ ⟨rfl, rfl⟩)) fun u s2 ⟨y, H2, I2, r2, e1, e2⟩ => ?_
  subst e1 e2
  obtain ⟨t, rfl⟩ := r2
  have I4 : Inv X pins σ H2 { s2 with heap := s2.heap.push { cls := .type "slice", data := .fields #[.none, .none, .int (-1) t] } } := I2.kept (t' := s2.toks) fun b ob q => Heap.get?_push_of_some _ q
  obtain ⟨its, r, ht, hz⟩ := I4.list (SqL.of ha)
  have hlen := r.length
  show wpAny (model X.prog X.w) X.A (subscriptTail e (.Slice none none (some c) p2) (.ref a) (.ref s2.heap.objs.size)) (EP X pins σ Q) X.xe { s2 with heap := s2.heap.push { cls := .type "slice", data := .fields #[.none, .none, .int (-1) t] } }
  refine tail_any (ops := [.ref a, .ref s2.heap.objs.size]) ht.isList.typeIs slot_list_getitem.lookup ?_ (by with_unfolding_all rfl)
  refine wpAny_getItem_list_slice (lo := none) (hi := none) (st := some (-1)) ht.isList (Heap.IsSliceOf.new ..) .none .none (.int _ _) (by decide) ?_ (by rw [List.size_toArray] <;> omega)
  rw [PySem.W.krv_pick]
  refine ⟨.ref _, _, I4.laid (t' := s2.toks) (o := .lst xs.reverse) (fun b ob q => Heap.get?_push_of_some _ q) (Nat.le_refl _) ?_, rfl, q _ (I4.hok.fresh (Nat.le_refl _))⟩
  exact ⟨by rw [List.length_reverse]; exact hz, its.reverse, 0, r.reverse, Heap.get?_push_size _ rfl⟩
theorem pe_rev (he : PE X e te) {j : _} {pp pc : Pos} : PE X (.Subscript e (.Slice none none (some (.UnaryOp .USub (.Constant (.int 1) j pc) pp)) p2) pos) (tRevF te) :=
  pe_rev1 he (pe_un f_neg pe_int) fun σ H Q h => h
@[simp] theorem rd_revF {σ : St} {H : Hp} {Q : VK} : tRevF te σ H Q = te σ H fun x H1 => onL H1 x fun _ xs => new H1 (.lst xs.reverse) Q := rfl
end
end L2

namespace L2
open PySem PySem.Spec PyProof.Rows
/-! ## x in a list of numbers or none -/
section
variable {X : Cx}
def rInF : R2 := fun x y H Q => onS H y fun xs => flatV x = true ∧ xs.all flatV = true ∧ Q (.bl (inV x xs)) H
def rNotInF : R2 := fun x y H Q => onS H y fun xs => flatV x = true ∧ xs.all flatV = true ∧ Q (.bl (!inV x xs)) H
@[simp] theorem rd_in {x y : V} {H : Hp} {Q : VK} : rInF x y H Q = onS H y fun xs => flatV x = true ∧ xs.all flatV = true ∧ Q (.bl (inV x xs)) H := rfl
@[simp] theorem rd_notin {x y : V} {H : Hp} {Q : VK} : rNotInF x y H Q = onS H y fun xs => flatV x = true ∧ xs.all flatV = true ∧ Q (.bl (!inV x xs)) H := rfl
end
end L2
namespace L2
open PySem PySem.Spec PyProof.Rows
end L2
namespace L2
open PySem PySem.Spec PyProof.Rows
/-- a comprehension over range(n), elements and tests that make nothing -/
theorem comp_rngP {l : TA} {cp : List Nat} {tt : TT} {te : TE} {σ : St} {H : Hp} {Q : VK} {n : Nat} (hl : ∀ R : List V → Hp → Prop, R [V.int (n : Int)] H → l σ H R) (hz : n ≤ 10000) (p : Nat → Bool) (f : Nat → V)
    (ht : ∀ i, i < n → ∀ H', Same H H' → ∀ R : Bool → Hp → Prop, R (p i) H' → tt (cst cp σ (some (.int (i : Int)))) H' R) (he : ∀ i, i < n → p i = true → ∀ H', Same H H' → ∀ R : VK, R (f i) H' → te (cst cp σ (some (.int (i : Int)))) H' R)
    (hQ : ∀ D, H D = none → Q (.ref D) (upd H D (.lst (((List.range n).filter p).map f)))) : tComp (iRng1 l) cp tt te σ H Q := by
  rw [rd_comp, rd_rng1]
  refine hl _ ?_
  rw [rd_on1, rd_onI]
  refine ⟨⟨by omega, by omega⟩, ?_⟩
  rw [Int.toNat_natCast]
  refine comp_pure yields_range (fun v => match v with | .int k => p k.toNat | _ => false) (fun v => match v with | .int k => f k.toNat | _ => .non) (by simp; omega) (fun v hv H2 s2 R h => ?_) (fun v hv hp H2 s2 R h => ?_) (fun D hD => ?_)
  · obtain ⟨j, hj, rfl⟩ := List.mem_map.mp hv
    have := ht j (List.mem_range.mp hj) H2 s2 R
    simp only [Int.zero_add, Int.toNat_natCast] at h ⊢
    exact this h
  · obtain ⟨j, hj, rfl⟩ := List.mem_map.mp hv
    simp only [Int.zero_add, Int.toNat_natCast] at h hp ⊢
    exact he j (List.mem_range.mp hj) hp H2 s2 R h
  · have := hQ D hD
    rw [List.filter_map, List.map_map]
    simpa [Function.comp_def] using this
end L2

/-! ## list(reversed(xs)) -/
namespace PySem
section
variable {prog : Program} {w : World} {A : Around} {E : Value → Shared → Prop} {s : Shared}
end
end PySem
namespace L2
open PySem PySem.Spec PyProof.Rows
section
variable {X : Cx}
def tLR (ta : TA) : TE := fun σ H Q => ta σ H fun vs H1 => on1 vs fun x => onL H1 x fun _ xs => new H1 (.lst xs.reverse) Q
@[simp] theorem rd_LR {ta : TA} {σ : St} {H : Hp} {Q : VK} : tLR ta σ H Q = ta σ H fun vs H1 => on1 vs fun x => onL H1 x fun _ xs => new H1 (.lst xs.reverse) Q := rfl
end
end L2
namespace L2
open PySem PySem.Spec PyProof.Rows
end L2
namespace L2
open PySem PySem.Spec PyProof.Rows
end L2
namespace L2
open PySem PySem.Spec PyProof.Rows
/-- an if, by what its test tells, where the test may make something -/
theorem ifS' {tA : TT} {t u : TS} {D : Ends} {σ : St} {H : Hp} (Ps : Hp → Prop) (b : Bool) (h : ∀ R : Bool → Hp → Prop, (∀ H1, Ps H1 → R b H1) → tA σ H R) (k : ∀ H1, Ps H1 → if b = true then t D σ H1 else u D σ H1) : tIfS tA t u D σ H := h _ k
end L2

namespace L2
open PySem PySem.Spec PyProof.Rows
/-! ## sorted(xs, reverse=True) -/
def sortR (ns : List Int) : List Int := ns.mergeSort fun a b => decide (b ≤ a)
section
variable {X : Cx}
def tSortR (ta : TA) : TE := fun σ H Q => ta σ H fun vs H1 => on1 vs fun x => onL H1 x fun _ xs => ∃ ns : List Int, xs = ns.map V.int ∧ ns.length < 64 ∧ new H1 (.lst ((sortR ns).map V.int)) Q
@[simp] theorem rd_sortR {ta : TA} {σ : St} {H : Hp} {Q : VK} : tSortR ta σ H Q = ta σ H fun vs H1 => on1 vs fun x => onL H1 x fun _ xs => ∃ ns : List Int, xs = ns.map V.int ∧ ns.length < 64 ∧ new H1 (.lst ((sortR ns).map V.int)) Q := rfl
/-! ## len(set(xs)) -/
def tLenSet (ta : TA) : TE := fun σ H Q => ta σ H fun vs H1 => on1 vs fun x => onL H1 x fun _ xs => ∃ ns : List Int, xs = ns.map V.int ∧ ns.length ≤ 4000 ∧ ∀ c : Nat, c ≤ ns.length → (c = ns.length ↔ ns.Nodup) → Q (.int (c : Int)) H1
@[simp] theorem rd_lenSet {ta : TA} {σ : St} {H : Hp} {Q : VK} : tLenSet ta σ H Q = ta σ H fun vs H1 => on1 vs fun x => onL H1 x fun _ xs => ∃ ns : List Int, xs = ns.map V.int ∧ ns.length ≤ 4000 ∧ ∀ c : Nat, c ≤ ns.length → (c = ns.length ↔ ns.Nodup) → Q (.int (c : Int)) H1 := rfl
/-! ## xs.count(None), xs * k -/
def rCount : V → List V → Hp → VK → Prop := fun x vs H Q => on1 vs fun y => onL H x fun _ xs => flatV y = true ∧ xs.all flatV = true ∧ Q (.int ((xs.countP fun z => eqV z y : Nat) : Int)) H
@[simp] theorem rd_count {x : V} {vs : List V} {H : Hp} {Q : VK} : rCount x vs H Q = on1 vs fun y => onL H x fun _ xs => flatV y = true ∧ xs.all flatV = true ∧ Q (.int ((xs.countP fun z => eqV z y : Nat) : Int)) H := rfl
/-- numbers multiplied, or a list repeated -/
def rMulF : R2 := fun x y H Q => match x with
  | .int i => onI y fun j => CMul i j ∧ Q (.int (i * j)) H
  | .ref a => onI y fun k => onL H (.ref a) fun _ xs => (0 ≤ k ∧ xs.length * k.toNat ≤ 10000 ∧ k ≤ 10000) ∧ new H (.lst (List.replicate k.toNat xs).flatten) Q
  | _ => False
theorem f_mulF : OpR X (binaryOp .Mult) rMulF := by
  intro pins s σ H x y v u Q I rx ry h
  cases x with
  | int i =>
    obtain ⟨j, rfl, c, q⟩ := onI.out h
    exact op_mul pins s σ H _ _ v u Q I rx ry ⟨i, j, rfl, rfl, c, q⟩
  | ref a =>
    obtain ⟨k, rfl, h'⟩ := onI.out h
    obtain ⟨l, xs, e, hH, ⟨h1, h2, h3⟩, q⟩ := onL.out h'
    exact op_rep pins s σ H _ _ v u Q I rx ry ⟨l, k, xs, e, rfl, hH, by omega, by omega, line100' h2, q⟩
  | _ => exact (show False from h).elim
@[simp] theorem rd_mulFI {i : Int} {y : V} {H : Hp} {Q : VK} : rMulF (.int i) y H Q = onI y fun j => CMul i j ∧ Q (.int (i * j)) H := rfl
@[simp] theorem rd_mulFL {a : Addr} {y : V} {H : Hp} {Q : VK} : rMulF (.ref a) y H Q = onI y fun k => onL H (.ref a) fun _ xs => (0 ≤ k ∧ xs.length * k.toNat ≤ 10000 ∧ k ≤ 10000) ∧ new H (.lst (List.replicate k.toNat xs).flatten) Q := rfl
end
end L2

namespace L2
open PySem PySem.Spec PyProof.Rows
/-! ## rows of any values -/
abbrev RowsW (H : Hp) (as : List Addr) (xss : List (List V)) : Prop := Paired (fun b xs => H b = some (.lst xs)) as xss
structure RowsV (H : Hp) (a : Addr) (as : List Addr) (xss : List (List V)) : Prop where
  top : H a = some (.lst (as.map V.ref))
  row : RowsW H as xss
theorem RowsW.mono {H H' : Hp} {as : List Addr} {xss : List (List V)} (h : RowsW H as xss) (k : ∀ b ∈ as, ∀ o, H b = some o → H' b = some o) : RowsW H' as xss := by
  induction h with
  | nil => exact .nil
  | cons r t ih => exact .cons (k _ List.mem_cons_self _ r) (ih fun b hb => k b (List.mem_cons_of_mem _ hb))
theorem RowsW.same {H H' : Hp} {as : List Addr} {xss : List (List V)} (h : RowsW H as xss) (s : Same H H') : RowsW H' as xss := h.mono fun b _ o e => s b o e
theorem RowsW.len {H : Hp} {as : List Addr} {xss : List (List V)} (h : RowsW H as xss) : as.length = xss.length := Paired.length h
theorem RowsW.get {H : Hp} : ∀ {as : List Addr} {xss : List (List V)} {i : Nat} {xs : List V}, RowsW H as xss → xss[i]? = some xs → ∃ b, as[i]? = some b ∧ H b = some (.lst xs)
  | _, _, _, _, .nil, e => by simp at e
  | _, _, 0, _, .cons r _, e => by simp at e; subst e; exact ⟨_, rfl, r⟩
  | _, _, i + 1, xs, .cons _ t, e => by
    obtain ⟨b, h1, h2⟩ := RowsW.get (i := i) (xs := xs) t (by simpa using e)
    exact ⟨b, by simpa using h1, h2⟩
theorem RowsW.get' {H : Hp} {as : List Addr} {xss : List (List V)} {i : Nat} {b : Addr} (h : RowsW H as xss) (e : as[i]? = some b) : ∃ xs, xss[i]? = some xs ∧ H b = some (.lst xs) := by
  have hl := h.len
  have hi : i < xss.length := by rw [← hl]; exact (List.getElem?_eq_some_iff.mp e).1
  obtain ⟨b', h1, h2⟩ := h.get (List.getElem?_eq_getElem hi)
  rw [e] at h1; cases h1
  exact ⟨_, List.getElem?_eq_getElem hi, h2⟩
theorem RowsW.snoc {H : Hp} {as : List Addr} {xss : List (List V)} {b : Addr} {xs : List V} (h : RowsW H as xss) (hb : H b = some (.lst xs)) : RowsW H (as ++ [b]) (xss ++ [xs]) := Paired.snoc h hb
theorem RowsW.set {H : Hp} : ∀ {as : List Addr} {xss : List (List V)} {i : Nat} {b : Addr} {ys : List V}, RowsW H as xss → as[i]? = some b → as.Nodup → RowsW (upd H b (.lst ys)) as (xss.set i ys)
  | _, _, _, _, _, .nil, e, _ => by simp at e
  | a :: as, _ :: xss, 0, b, ys, .cons r t, e, nd => by
    simp at e; subst e
    refine .cons upd_same (RowsW.mono t fun c hc o q => ?_)
    have ne : c ≠ a := fun z => (List.nodup_cons.mp nd).1 (z ▸ hc)
    rw [upd_ne ne]; exact q
  | a :: as, _ :: xss, i + 1, b, ys, .cons r t, e, nd => by
    have e' : as[i]? = some b := by simpa using e
    refine .cons ?_ (RowsW.set t e' (List.nodup_cons.mp nd).2)
    have ne : a ≠ b := fun z => (List.nodup_cons.mp nd).1 (by rw [z]; exact List.mem_of_getElem? e')
    rw [upd_ne ne]; exact r
theorem RowsW.app {H : Hp} : ∀ {as bs : List Addr} {xss yss : List (List V)}, RowsW H as xss → RowsW H bs yss → RowsW H (as ++ bs) (xss ++ yss)
  | _, _, _, _, .nil, h => h
  | _, _, _, _, .cons r t, h => .cons r (RowsW.app t h)
theorem RowsW.notin {H : Hp} {as : List Addr} {xss : List (List V)} {p : Addr} (h : RowsW H as xss) (hp : H p = none) : p ∉ as := fun hm => by
  obtain ⟨j, hj⟩ := List.getElem?_of_mem hm
  obtain ⟨ys, _, hy⟩ := RowsW.get' h hj
  rw [hp] at hy; cases hy
theorem RowsV.set {H : Hp} {a : Addr} {as : List Addr} {xss : List (List V)} {i : Nat} {b : Addr} {ys : List V} (h : RowsV H a as xss) (e : as[i]? = some b) (nd : (a :: as).Nodup) : RowsV (upd H b (.lst ys)) a as (xss.set i ys) := by
  have nd' := List.nodup_cons.mp nd
  refine ⟨?_, RowsW.set h.row e nd'.2⟩
  have ne : a ≠ b := fun z => nd'.1 (by rw [z]; exact List.mem_of_getElem? e)
  rw [upd_ne ne]; exact h.top
theorem RowsV.same {H H' : Hp} {a : Addr} {as : List Addr} {xss : List (List V)} (h : RowsV H a as xss) (s : Same H H') : RowsV H' a as xss := ⟨s _ _ h.top, RowsW.same h.row s⟩
theorem RowsV.app {H : Hp} {a p : Addr} {as : List Addr} {xss : List (List V)} {ys : List V} (h : RowsW H as xss) (ht : H a = some (.lst (as.map V.ref ++ [V.ref p]))) (hp : H p = some (.lst ys)) : RowsV H a (as ++ [p]) (xss ++ [ys]) :=
  ⟨by rw [ht, List.map_append]; rfl, RowsW.snoc h hp⟩
theorem RowsV.out {H : Hp} {a c : Addr} {as : List Addr} {xss : List (List V)} {o : HO} (h : RowsV H a as xss) (hc : c ∉ a :: as) : RowsV (upd H c o) a as xss :=
  ⟨by
    have ne : a ≠ c := fun z => hc (by rw [z]; exact List.mem_cons_self)
    rw [upd_ne ne]; exact h.top, RowsW.mono h.row fun b hb o' e => by
    have ne : b ≠ c := fun z => hc (List.mem_cons_of_mem _ (z ▸ hb))
    rw [upd_ne ne]; exact e⟩
theorem RowsV.live {H : Hp} {a : Addr} {as : List Addr} {xss : List (List V)} (h : RowsV H a as xss) {c : Addr} (hc : c ∈ a :: as) : H c ≠ none := fun z => by
  rcases List.mem_cons.mp hc with rfl | hc
  · rw [h.top] at z; cases z
  · exact RowsW.notin h.row z hc
theorem RowsV.notin {H : Hp} {a : Addr} {as : List Addr} {xss : List (List V)} (h : RowsV H a as xss) {c : Addr} (hc : H c = none) : c ∉ a :: as := fun z => h.live z hc
theorem RowsW.drop {H : Hp} : ∀ {as : List Addr} {xss : List (List V)} (k : Nat), RowsW H as xss → RowsW H (as.drop k) (xss.drop k)
  | _, _, 0, h => h
  | _, _, _ + 1, .nil => .nil
  | _, _, k + 1, .cons _ t => RowsW.drop k t
end L2

namespace L2
open PySem PySem.Spec PyProof.Rows
/-- a comprehension whose tests and elements may make something, and give plain values -/
theorem comp_pureG {J : It} {H : Hp} {xs : List V} {cp : List Nat} {σ : St} {tt : TT} {te : TE} {Q : VK} (Y : Yields J H xs) (p : V → Bool) (f : V → V) (hz : xs.length ≤ 10000)
    (ht : ∀ v ∈ xs, ∀ H', Same H H' → ∀ R : Bool → Hp → Prop, (∀ H'', Same H' H'' → R (p v) H'') → tt (cst cp σ (some v)) H' R)
    (he : ∀ v ∈ xs, p v = true → ∀ H', Same H H' → ∀ R : VK, (∀ H'', Same H' H'' → R (f v) H'') → te (cst cp σ (some v)) H' R)
    (hQ : ∀ D H', H D = none → Same H H' → H' D = some (.lst ((xs.filter p).map f)) → Q (.ref D) H') :
    ∀ D, H D = none → ∃ W : Nat → Nat → Hp → Prop, (∃ m, W 0 m (upd H D (.lst []))) ∧ ∀ i m H, W i m H →
      (J.stop i H ∧ Q (.ref D) H) ∨ (J.go i H ∧ ∀ v H', J.yld i H v H' → tt (cst cp σ (some v)) H' fun b H2 =>
        if b = true then te (cst cp σ (some v)) H2 fun y H3 => ∃ ys, H3 D = some (.lst ys) ∧ ys.length < sizeLine ∧ ∃ m', m' < m ∧ W (i + 1) m' (upd H3 D (.lst (ys ++ [y])))
        else ∃ m', m' < m ∧ W (i + 1) m' H2) := by
  intro D hD
  refine ⟨fun i m H' => m = xs.length - i ∧ i ≤ xs.length ∧ Same H H' ∧ H' D = some (.lst (((xs.take i).filter p).map f)), ⟨xs.length, by simp, Nat.zero_le _, Same.upd_new hD, by rw [upd_same]; rfl⟩, ?_⟩
  rintro i m H1 ⟨rfl, hi, sm, hd⟩
  by_cases hlt : i < xs.length
  · have e : xs[i]? = some xs[i] := List.getElem?_eq_getElem hlt
    have hm : xs[i] ∈ xs := List.getElem_mem hlt
    obtain ⟨gg, yl⟩ := Y.go i _ _ sm e
    refine .inr ⟨gg, fun v H' y => ?_⟩
    obtain ⟨rfl, rfl⟩ := yl v H' y
    refine ht _ hm _ sm _ fun H2 s2 => ?_
    have tk := take_next e
    have la : (((xs.take i).filter p).map f).length ≤ i := by
      have h2 := List.length_filter_le p (xs.take i)
      rw [List.length_map]
      rw [List.length_take] at h2
      omega
    by_cases hp : p xs[i] = true
    · rw [if_pos hp]
      refine he _ hm hp _ (sm.trans s2) _ fun H3 s3 => ?_
      refine ⟨_, s3 _ _ (s2 _ _ hd), line100 (by omega), xs.length - (i + 1), by omega, rfl, hlt, ((sm.trans s2).trans s3).upd_in hD, ?_⟩
      rw [upd_same, tk, List.filter_append, List.filter_cons, if_pos hp, List.filter_nil, List.map_append]; rfl
    · rw [if_neg hp]
      refine ⟨xs.length - (i + 1), by omega, rfl, hlt, sm.trans s2, ?_⟩
      rw [tk, List.filter_append, List.filter_cons, if_neg hp, List.filter_nil, List.append_nil]
      exact s2 _ _ hd
  · have e : i = xs.length := by omega
    subst e
    refine .inl ⟨Y.stop _ _ sm (Nat.le_refl _), ?_⟩
    rw [List.take_length] at hd
    exact hQ D H1 hD sm hd
/-! ## lines of numbers and holes -/
def intsOf (l : List V) : List Int := l.filterMap fun v => match v with | .int i => some i | _ => none
def readV (vss : List (List V)) : List Int := (vss.reverse.map intsOf).flatten
def colV (vss : List (List V)) (p : Nat) : List V := (vss.filter fun r => decide (p < r.length)).map fun r => r.getD p .non
def widthV (vss : List (List V)) : Nat := (vss.headD []).length
def turnV (vss : List (List V)) : List (List V) := (List.range (widthV vss)).map (colV vss)
def holesV (l : List V) : Nat := l.countP fun z => eqV z .non
def riseV (l : List V) : Bool := decide (l = List.replicate (holesV l) .non ++ (sortZ (intsOf l)).map V.int)
def shapeB (ls : List Int) : Bool := decide (ls = sortR ls) && ls.all fun x => decide (1 ≤ x)
def lensV (vss : List (List V)) : List Int := vss.map fun r => (r.length : Int)
def holedV (vss : List (List V)) : Bool := shapeB (lensV vss) && decide (readV vss).Nodup && vss.all riseV && (turnV vss).all riseV
end L2

namespace L2
open PySem PySem.Spec PyProof.Rows RS
theorem pi_lK {X : Cx} {tg : Expr} {l : Expr} {tl : TE} {K : PySem.W.Frag} (hK : X.K = K) (hl : PE X l tl) : PI X tg l (iL K tl) := by subst hK; exact pi_l hl
/-! ## the least numbers of stairs made holes -/
/-- a number, or a hole where it is among low -/
def hol (low : List Int) (n : Int) : V := if n ∈ low then .non else .int n
def holR (low : List Int) (R : List (List Int)) : List (List V) := R.map fun r => r.map (hol low)
/-- low holds with a number all lesser ones of R -/
def Down (low : List Int) (R : List (List Int)) : Prop := ∀ x ∈ R.flatten, ∀ y ∈ R.flatten, x < y → y ∈ low → x ∈ low
end L2

namespace L2
open PySem PySem.Spec PyProof.Rows RS
section
variable {X : Cx}
def rNotT : R2 := fun x y H Q => onB x fun b => y = .bl true ∧ Q (.bl (!b)) H
def rIsT : R2 := fun x y H Q => onB x fun b => y = .bl true ∧ Q (.bl b) H
@[simp] theorem rd_notT {b : Bool} {H : Hp} {Q : VK} : rNotT (.bl b) (.bl true) H Q = Q (.bl (!b)) H := by simp [rNotT]
@[simp] theorem rd_isT {b : Bool} {H : Hp} {Q : VK} : rIsT (.bl b) (.bl true) H Q = Q (.bl b) H := by simp [rIsT]
end
/-! ## sliding -/
def cellV (X : List (List V)) (i j : Nat) : Option V := (X[i]?).bind fun r => r[j]?
def setV (X : List (List V)) (i j : Nat) (v : V) : List (List V) := X.set i ((X.getD i []).set j v)
theorem getD_row {X : List (List V)} {i : Nat} {r : List V} (h : X[i]? = some r) : X.getD i [] = r := by rw [List.getD_eq_getElem?_getD, h]; rfl
theorem setV_row {X : List (List V)} {i j : Nat} {v : V} (k : Nat) : (setV X i j v)[k]? = (X[k]?).map fun r => if k = i then r.set j v else r := by
  unfold setV
  by_cases h : k = i
  · subst h
    rw [List.getElem?_set]
    cases e : X[k]? with
    | none => simp [List.getElem?_eq_none_iff.mp e]
    | some r =>
      have := (List.getElem?_eq_some_iff.mp e).1
      rw [if_pos rfl, if_pos this, getD_row e]; simp
  · rw [List.getElem?_set_ne (Ne.symm h)]
    cases X[k]? with
    | none => rfl
    | some r => simp [h]
theorem cell_setV {X : List (List V)} {i j : Nat} {v : V} (k l : Nat) : cellV (setV X i j v) k l = (cellV X k l).map fun w => if k = i ∧ l = j then v else w := by
  unfold cellV
  rw [setV_row]
  cases X[k]? with
  | none => rfl
  | some r =>
    by_cases h : k = i
    · simp only [h, if_true, Option.map_some, Option.bind_some, true_and]
      rw [List.getElem?_set]
      by_cases hl : l = j
      · subst hl
        by_cases hlt : l < r.length
        · simp [hlt]
        · simp [hlt]
      · rw [if_neg (Ne.symm hl)]
        cases r[l]? <;> simp [hl]
    · simp only [h, if_false, Option.map_some, Option.bind_some, false_and]
      cases r[l]? <;> simp
inductive SlidR : List (List V) → Nat → Nat → List (List V) × Nat → Prop
  | stop {X : List (List V)} {i j : Nat} : cellV X i (j + 1) = none → cellV X (i + 1) j = none → SlidR X i j ((X.set i ((X.getD i []).take j)).filter (fun r => !r.isEmpty), i)
  | right {X : List (List V)} {i j : Nat} {r : Int} {F : List (List V) × Nat} : cellV X i (j + 1) = some (.int r) → (cellV X (i + 1) j = none ∨ ∃ b, cellV X (i + 1) j = some (.int b) ∧ ¬ b < r) → SlidR (setV X i j (.int r)) i (j + 1) F → SlidR X i j F
  | down {X : List (List V)} {i j : Nat} {b : Int} {F : List (List V) × Nat} : cellV X (i + 1) j = some (.int b) → (cellV X i (j + 1) = none ∨ ∃ r, cellV X i (j + 1) = some (.int r) ∧ b < r) → SlidR (setV X i j (.int b)) (i + 1) j F → SlidR X i j F
/-- numbers stand from the place hs i on in row i -/
def NumF (hs : Nat → Nat) (X : List (List V)) : Prop := ∀ i j v, cellV X i j = some v → hs i ≤ j → ∃ n, v = .int n
theorem NumF.set {hs : Nat → Nat} {X : List (List V)} (h : NumF hs X) (i j : Nat) (n : Int) : NumF hs (setV X i j (.int n)) := fun k l v e hk => by
  rw [cell_setV] at e
  cases c : cellV X k l with
  | none => rw [c] at e; cases e
  | some w =>
    rw [c] at e
    simp only [Option.map_some, Option.some.injEq] at e
    by_cases hh : k = i ∧ l = j
    · rw [if_pos hh] at e; exact ⟨n, e.symm⟩
    · rw [if_neg hh] at e; subst e; exact h k l w c hk
end L2
namespace L2
open PySem PySem.Spec PyProof.Rows
end L2
namespace L2
end L2

namespace L2
open PySem PySem.Spec PyProof.Rows RS
/-! ## stairs with holes, place by place -/
def DecV (R : List (List V)) : Prop := R.Pairwise (fun r s => s.length ≤ r.length)
theorem DecV.column_get : ∀ {R : List (List V)}, DecV R → ∀ (p q : Nat), (colV R p)[q]? = (R[q]?).bind (fun r => r[p]?)
  | [], _, p, q => by simp [colV]
  | r :: R, h, p, q => by
    have h1 := List.pairwise_cons.mp h
    have ih := DecV.column_get h1.2 p
    by_cases hp : p < r.length
    · have e : colV (r :: R) p = r.getD p .non :: colV R p := by
        unfold colV
        rw [List.filter_cons, if_pos (decide_eq_true hp), List.map_cons]
      rw [e]
      cases q with
      | zero => simp [List.getD_eq_getElem?_getD, List.getElem?_eq_getElem hp]
      | succ q => simp only [List.getElem?_cons_succ]; exact ih q
    · have e : colV (r :: R) p = [] := by
        unfold colV
        rw [List.filter_eq_nil_iff.mpr]
        · rfl
        · intro s hs
          have : s.length ≤ r.length := by
            rcases List.mem_cons.mp hs with rfl | hs
            · exact Nat.le_refl _
            · exact h1.1 s hs
          simp; omega
      rw [e]
      cases hq : (r :: R)[q]? with
      | none => simp
      | some s =>
        have hs : s ∈ r :: R := List.mem_of_getElem? hq
        have : s.length ≤ r.length := by
          rcases List.mem_cons.mp hs with rfl | hs
          · exact Nat.le_refl _
          · exact h1.1 s hs
        simp only [Option.bind_some, List.getElem?_nil]
        exact (List.getElem?_eq_none (by omega)).symm

structure HolF (X : List (List V)) : Prop where
  dec : DecV X
  pos : ∀ r ∈ X, r ≠ []
  rows : ∀ r ∈ X, riseV r = true
  cols : ∀ p, p < widthV X → riseV (colV X p) = true
  nd : (readV X).Nodup
def hsV (X : List (List V)) (i : Nat) : Nat := holesV (X.getD i [])
end L2

namespace L2
open PySem PySem.Spec PyProof.Rows
/-! ## range(a, b, -1) -/
def Itd (hi : Int) (n : Nat) : It := ⟨fun i _ => i < n, fun i H x H' => H' = H ∧ x = .int (hi - i), fun i _ => n ≤ i⟩
section
variable {X : Cx} {tg : Expr}
def iDown (ta : TA) : TI := fun σ H R => ta σ H fun vs H1 => ∃ i j : Int, vs = [.int i, .int j, .int (-1)] ∧ (-(2 ^ 30) ≤ i ∧ i < 2 ^ 30 ∧ -(2 ^ 30) ≤ j ∧ j < 2 ^ 30) ∧ R (Itd i (i - j).toNat) H1
end
end L2
namespace L2
open PySem PySem.Spec PyProof.Rows
end L2
namespace L2
open PySem PySem.Spec PyProof.Rows
end L2

namespace L2
open PySem PySem.Spec PyProof.Rows
/-! ## a list in a list of lists -/
section
variable {X : Cx}
def deepIn (x y : V) (H : Hp) (R : Bool → Prop) : Prop := ∃ d ds, Dp H x d ∧ Dp H y (.list ds) ∧ PyData.canLayAll0 ds = true ∧ d.canLay0 = true ∧ d.depth ≤ 60 ∧ R (ds.any fun e => PyData.eqv e d)
def rInD : R2 := fun x y H Q => match x with
  | .ref a => deepIn (.ref a) y H fun b => Q (.bl b) H
  | x => rInF x y H Q
def rNotInD : R2 := fun x y H Q => match x with
  | .ref a => deepIn (.ref a) y H fun b => Q (.bl (!b)) H
  | x => rNotInF x y H Q
section
variable {H : Hp} {Q : VK}
@[simp] theorem rd_inDI {i : Int} {y : V} : rInD (.int i) y H Q = rInF (.int i) y H Q := rfl
@[simp] theorem rd_inDN {y : V} : rInD .non y H Q = rInF .non y H Q := rfl
@[simp] theorem rd_notinDI {i : Int} {y : V} : rNotInD (.int i) y H Q = rNotInF (.int i) y H Q := rfl
@[simp] theorem rd_notinDN {y : V} : rNotInD .non y H Q = rNotInF .non y H Q := rfl
end
end
end L2
namespace L2
open PySem PySem.Spec PyProof.Rows
/-! ## rows picked from rows by what stands in them -/
def rowOf (H : Hp) (b : Addr) : List Int := match H b with | some (.lst xs) => xs.map (fun v => match v with | .int i => i | _ => 0) | _ => []
theorem rowOf_of {H : Hp} {b : Addr} {x : List Int} (h : H b = some (.lst (x.map V.int))) : rowOf H b = x := by
  unfold rowOf; rw [h]; simp only [List.map_map]; exact List.map_id' x
theorem RowsL.pick {H : Hp} (p : List Int → Bool) : ∀ {ss : List Addr} {yss : List (List Int)}, RowsL H ss yss → RowsL H (ss.filter fun b => p (rowOf H b)) (yss.filter p)
  | _, _, .nil => .nil
  | _, _, .cons (a := b) (b := x) h t => by
    have e := rowOf_of h
    by_cases hp : p x = true
    · rw [List.filter_cons_of_pos (by rw [e]; exact hp), List.filter_cons_of_pos hp]
      exact .cons h (RowsL.pick p t)
    · rw [List.filter_cons_of_neg (by rw [e]; exact hp), List.filter_cons_of_neg hp]
      exact RowsL.pick p t
end L2

namespace L2
open PySem PySem.Spec PyProof.Rows
/-! ## nested literals, list(range(a, b)), //, *= and sum of any size -/
def rngZ (i : Int) (n : Nat) : List Int := (List.range n).map fun (k : Nat) => i + (k : Int)
section
variable {X : Cx}
def tLRng (ta : TA) : TE := fun σ H Q => ta σ H fun vs H1 => on2 vs fun x y => onI x fun i => onI y fun j => (-(2 ^ 62) ≤ i ∧ i < 2 ^ 62 ∧ -(2 ^ 62) ≤ j ∧ j < 2 ^ 62) ∧ (j - i).toNat ≤ 1000 ∧ new H1 (.lst ((rngZ i (j - i).toNat).map V.int)) Q
@[simp] theorem rd_LRng {ta : TA} {σ : St} {H : Hp} {Q : VK} : tLRng ta σ H Q = ta σ H fun vs H1 => on2 vs fun x y => onI x fun i => onI y fun j => (-(2 ^ 62) ≤ i ∧ i < 2 ^ 62 ∧ -(2 ^ 62) ≤ j ∧ j < 2 ^ 62) ∧ (j - i).toNat ≤ 1000 ∧ new H1 (.lst ((rngZ i (j - i).toNat).map V.int)) Q := rfl
/-- sum of any numbers -/
def rSumB : List V → Hp → VK → Prop := fun vs H Q => on1 vs fun x => onL H x fun _ xs => ∃ ns : List Int, xs = ns.map V.int ∧ Q (.int ns.sum) H
@[simp] theorem rd_sumB {vs : List V} {H : Hp} {Q : VK} : rSumB vs H Q = on1 vs fun x => onL H x fun _ xs => ∃ ns : List Int, xs = ns.map V.int ∧ Q (.int ns.sum) H := rfl
/-- // by a positive number of at most 2000 binary places -/
def CDivB (i j : Int) : Prop := 0 < j ∧ j < 2 ^ 2000
def ipM : TIp := fun x y H Q => onI x fun i => onI y fun j => CMul i j ∧ Q (.int (i * j)) H
end
/-- a comprehension over range(n), elements that may make something -/
theorem comp_rngG {l : TA} {cp : List Nat} {te : TE} {σ : St} {H : Hp} {Q : VK} {n : Nat} (hl : ∀ R : List V → Hp → Prop, R [V.int (n : Int)] H → l σ H R) (hz : n ≤ 10000) (f : Nat → V)
    (he : ∀ i, i < n → ∀ H', Same H H' → ∀ R : VK, (∀ H'', Same H' H'' → R (f i) H'') → te (cst cp σ (some (.int (i : Int)))) H' R)
    (hQ : ∀ D H', H D = none → Same H H' → H' D = some (.lst ((List.range n).map f)) → Q (.ref D) H') : tComp (iRng1 l) cp tNoTest te σ H Q := by
  rw [rd_comp, rd_rng1]
  refine hl _ ?_
  rw [rd_on1, rd_onI]
  refine ⟨⟨by omega, by omega⟩, ?_⟩
  rw [Int.toNat_natCast]
  refine comp_pureG yields_range (fun _ => true) (fun v => match v with | .int k => f k.toNat | _ => .non) (by simp; omega) (fun v hv H2 s2 R h => h H2 (fun _ _ e => e)) (fun v hv hp H2 s2 R h => ?_) (fun D H' hD s' hd => ?_)
  · obtain ⟨j, hj, rfl⟩ := List.mem_map.mp hv
    simp only [Int.zero_add, Int.toNat_natCast] at h ⊢
    exact he j (List.mem_range.mp hj) H2 s2 R h
  · refine hQ D H' hD s' ?_
    rw [hd, List.filter_eq_self.mpr (fun _ _ => rfl), List.map_map]
    congr 2
    apply List.map_congr_left
    intro i _
    simp
end L2

namespace L2
open PySem PySem.Spec PyProof.Rows
/-! ## a comprehension whose own variable is a cell: another one inside it reads it -/
def Cx.compC (X : Cx) (M : List Str) (scope : Scope) (cl : List (Str × Addr)) (x : Str) (C : Addr) (s : Shared) (H : Hp) (ex : List Addr) : Cx := { X.comp M scope ((x, C + 1) :: cl) C s H ex with fn := fun y => y == x }
structure CompScopeC (N : List Str) (env : Env) (x : Str) (cp : List Nat) (M : List Str) (scope : Scope) : Prop where
  hM : M = x :: cp.map fun i => N.getD i x
  kind : scope.kind = .function
  hx : (relabel scope env).names.lookup x = some .cell
  cf : ∀ (n : Nat) (acc : List (Str × Addr)), cellsFrom n scope.names acc = (x, n) :: acc
  pc : ∀ h : Heap, pushCells h scope.names = h.push { cls := .type "cell", data := .cell none }
  cellB : scope.names.all (fun y => !(y.2 == .cell) || y.1 == x) = true
  locB : scope.names.all (fun y => !(y.2 == .local) || scope.names.lookup y.1 == some .local) = true
  freeB : scope.names.all (fun y => !(y.2 == .free) || (env.scope.names.lookup y.1 == some .cell || env.scope.names.lookup y.1 == some .free)) = true
  capB : cp.all (fun i => decide (i < N.length) && scope.names.lookup (N.getD i x) == some .free) = true
section
variable {N : List Str} {env : Env} {x : Str} {cp : List Nat} {M : List Str} {scope : Scope}
theorem CompScopeC.cellX (S : CompScopeC N env x cp M scope) : ∀ y ∈ scope.names, y.2 = .cell → y.1 = x := fun y hy e => by
  have := List.all_eq_true.mp S.cellB y hy
  simpa [e] using this
theorem CompScopeC.loc (S : CompScopeC N env x cp M scope) : ∀ y ∈ scope.names, y.2 = .local → scope.names.lookup y.1 = some .local := fun y hy e => by
  have := List.all_eq_true.mp S.locB y hy
  simpa [e] using this
theorem CompScopeC.free (S : CompScopeC N env x cp M scope) : ∀ y ∈ scope.names, y.2 = .free → (env.scope.names.lookup y.1 = some .cell ∨ env.scope.names.lookup y.1 = some .free) := fun y hy e => by
  have := List.all_eq_true.mp S.freeB y hy
  simpa [e] using this
theorem CompScopeC.cap (S : CompScopeC N env x cp M scope) : ∀ i ∈ cp, i < N.length ∧ scope.names.lookup (N.getD i x) = some .free := fun i hi => by
  have := List.all_eq_true.mp S.capB i hi
  rw [Bool.and_eq_true] at this
  exact ⟨of_decide_eq_true this.1, by simpa using this.2⟩
theorem newEnv_cell {MM : Model} {A : Around} {E : Value → Shared → Prop} {s : Shared} {cl : List (Str × Addr)} {globals : Addr} {qual : Str} {Q : Env → Shared → Prop} (S : CompScopeC N env x cp M scope)
    (h : Q (newEnv scope s.heap.objs.size globals ((x, s.heap.objs.size + 1) :: cl) qual none .none (some env) builtinsNs) { s with heap := (s.heap.push { cls := .type "dict", data := .dict #[] }).push { cls := .type "cell", data := .cell none } }) :
    wpAny MM A (newFunctionEnv scope globals cl [] qual none .none (some env)) Q E s := by
  simp only [newFunctionEnv, Option.isSome_some, if_true]
  refine wpAny_bind (wpAny_alloc ?_)
  refine wpAny_bind (wpAny_layCells _ (fun name kind cells => by cases hkc : kind == NameKind.cell <;> simp [hkc]) _ _ _ _ ?_)
  rw [S.cf, S.pc]
  rw [show ({ s with heap := s.heap.push { cls := .type "dict", data := .dict #[] } } : Shared).heap.objs.size = s.heap.objs.size + 1 from Heap.size_push ..]
  refine wpAny_bind ?_
  rw [List.forIn_nil]
  exact wpAny_pure (wpAny_pure h)
end
section
variable {X : Cx} {pins : List (Addr × Obj)} {σ : St} {H : Hp}
theorem Inv.compC {s3 s4 : Shared} {x : Str} {cp : List Nat} {M : List Str} {scope : Scope} {cl : List (Str × Addr)} {fp : List Addr} (I : Inv X pins σ H s3) (S : CompScopeC X.N X.env x cp M scope)
    (hcl : ∀ y c, cl.lookup y = some c → X.env.cells.lookup y = some c) (hcf : ∀ y, (y, NameKind.free) ∈ scope.names → ∃ c, cl.lookup y = some c)
    (hfp : ∀ b ∈ fp, FpOk X pins H b) (hfo : ∀ b ∈ fp, b < s3.heap.objs.size) (hs : s4 = { s3 with heap := s4.heap, toks := s4.toks }) (hk : ∀ b o, s3.heap.get? b = some o → s4.heap.get? b = some o)
    {m : Str → Option Value} (hn : s4.heap.Ns s3.heap.objs.size m) (hnd : M.Nodup) (hcc : s4.heap.IsCell (s3.heap.objs.size + 1) none) :
    Inv (X.compC M scope cl x s3.heap.objs.size s3 H fp) [] (cst cp σ none) H s4 := by
  have os4 : s4.os = s3.os := by rw [hs]
  have g4 : s4.gens = s3.gens := by rw [hs]
  have cl_has : ∀ {y : Str}, (∃ c, cl.lookup y = some c) → ∃ c, (X.compC M scope cl x s3.heap.objs.size s3 H fp).env.cells.lookup y = some c := fun {y} ⟨c, e⟩ => by
    show ∃ c, ((x, s3.heap.objs.size + 1) :: cl).lookup y = some c
    rw [List.lookup_cons]
    split
    · exact ⟨_, rfl⟩
    · exact ⟨c, e⟩
  have cl_in : ∀ {y : Str} {c : Addr}, (X.compC M scope cl x s3.heap.objs.size s3 H fp).env.cells.lookup y = some c → (y = x ∧ c = s3.heap.objs.size + 1) ∨ (y ≠ x ∧ cl.lookup y = some c) := fun {y c} e => by
    have e' : ((x, s3.heap.objs.size + 1) :: cl).lookup y = some c := e
    rw [List.lookup_cons] at e'
    split at e'
    · rename_i h
      exact .inl ⟨by simpa using h, (Option.some.inj e').symm⟩
    · rename_i h
      exact .inr ⟨by simpa using h, e'⟩
  have cl_lt : ∀ {y : Str} {c : Addr}, cl.lookup y = some c → c < s3.heap.objs.size := fun {y c} e => by
    obtain ⟨v, o, ho, _⟩ := I.cell y c (hcl y c e)
    exact Heap.lt_size ho
  have I4 : Inv X pins σ H s4 := by
    have := I.kept (h' := s4.heap) (t' := s4.toks) hk
    rw [hs]; exact this
  refine ⟨⟨I.ok.mod, S.kind, I.ok.glob, I.ok.blt, Nat.le_refl _, fun y z c h1 h2 => ?inj, fun y hy => ?_, fun y c h e => ?cab, I.ok.hd, I.ok.frames, .inl rfl, fun b hb => ⟨Nat.ne_of_lt (hfo b hb), fun y c e => ?exf⟩,
    I.bs, Nat.le_trans I.ok.bsz I.sz, fun b o e hb => ?_, fun b hb hs => ?_, I.stack, I.stkFree⟩,
    os4, ?_, Un.kept hk, ⟨m, hn, fun i y v h1 h2 h3 => ?_⟩, fun y c e => ?cell, I.hok.fresh (Nat.le_refl _), fun y c e => ?freeC, fun p hp => absurd hp (by intro z; cases z), I.hok.kept hk, ?_⟩
  case cell =>
    rcases cl_in e with ⟨rfl, rfl⟩ | ⟨_, e⟩
    · exact ⟨_, hcc⟩
    · obtain ⟨v, q⟩ := I4.cell y c (hcl y c e)
      exact ⟨v, q⟩
  case inj =>
    rcases cl_in h1 with ⟨rfl, rfl⟩ | ⟨n1, e1⟩ <;> rcases cl_in h2 with ⟨rfl, e2'⟩ | ⟨n2, e2⟩
    · rfl
    · exact absurd (cl_lt e2) (Nat.not_lt.mpr (Nat.le_succ _))
    · subst e2'; exact absurd (cl_lt e1) (Nat.not_lt.mpr (Nat.le_succ _))
    · exact I.ok.inj y z c (hcl y c e1) (hcl z c e2)
  case cab =>
    have yx : y = x := by simpa [Cx.compC] using h
    rcases cl_in e with ⟨_, rfl⟩ | ⟨n, _⟩
    · exact Nat.le_succ _
    · exact absurd yx n
  case exf =>
    rcases cl_in e with ⟨_, rfl⟩ | ⟨_, e⟩
    · exact Nat.ne_of_gt (Nat.lt_succ_of_lt (hfo b hb))
    · exact (hfp b hb).2.2.2.2.1 y c (hcl y c e)
  case freeC =>
    rcases cl_in e with ⟨_, rfl⟩ | ⟨_, e⟩
    · exact I.hok.fresh (Nat.le_succ _)
    · exact I.freeC y c (hcl y c e)
  · have hy' : ∃ k, (k = NameKind.cell ∨ k = .free) ∧ (relabel scope X.env).names.lookup y = some k := by
      rcases hy with hy | hy
      · exact ⟨_, .inl rfl, hy⟩
      · exact ⟨_, .inr rfl, hy⟩
    obtain ⟨k, hk, e⟩ := hy'
    obtain ⟨k0, e0, h0⟩ := relabel_lookup (names := scope.names) e
    have mem := PySem.mem_of_lookup e0
    rcases h0 with rfl | ⟨rfl, rfl⟩
    · rcases hk with rfl | rfl
      · have yx := S.cellX _ mem rfl
        exact ⟨_, by show ((x, s3.heap.objs.size + 1) :: cl).lookup y = _; rw [show y = x from yx, List.lookup_cons_self]⟩
      · exact cl_has (hcf y mem)
    · exact cl_has (hcf y mem)
  · obtain ⟨_, _, _, h4, _⟩ := hfp b hb
    rcases h4 with h4 | h4
    · exact I.ok.noex b o e h4
    · exact absurd (Nat.lt_of_lt_of_le (Heap.lt_size e) (Nat.le_trans I.ok.bsz h4)) (Nat.lt_irrefl _)
  · obtain ⟨_, h1, h2, _⟩ := hfp b hb
    rcases List.mem_cons.mp (I.stkSub b hs) with e | e
    · exact h1 e
    · exact h2 e
  · rw [g4]; exact I.bare
  · -- names
    have hM : (X.compC M scope cl x s3.heap.objs.size s3 H fp).N = x :: cp.map fun i => X.N.getD i x := S.hM
    rw [hM] at h1
    cases i with
    | zero => unfold cst at h2; simp at h2
    | succ i =>
      unfold cst at h2
      simp only [List.getElem?_cons_succ, List.getElem?_map] at h1 h2
      cases hi : cp[i]? with
      | none => rw [hi] at h1; cases h1
      | some j =>
        rw [hi] at h1 h2
        simp only [Option.map_some, Option.some.injEq] at h1 h2
        obtain ⟨hj, hf⟩ := S.cap j (List.mem_of_getElem? hi)
        have hNj : X.N[j]? = some y := by
          rw [← h1, List.getD_eq_getElem?_getD]
          rw [List.getElem?_eq_getElem hj]; rfl
        have hσj : σ[j]? = some (some v) := by
          rw [List.getD_eq_getElem?_getD] at h2
          cases e : σ[j]? with
          | none => rw [e] at h2; cases h2
          | some a => rw [e] at h2; simp at h2; rw [h2]
        rw [h1] at hf
        have memf := PySem.mem_of_lookup hf
        have ho := S.free _ memf rfl
        have hvis : Vis X.env.scope y := ho.elim (fun z => .inr (.inl z)) fun z => .inr (.inr z)
        obtain ⟨m0, hn0, hl0⟩ := I4.loc
        obtain ⟨u, r, l⟩ := hl0 j y v hNj hσj hvis
        refine ⟨u, r, ?_⟩
        rcases l with ⟨k, _⟩ | ⟨k, c, e, z⟩
        · exfalso
          have k' : X.env.scope.names.lookup y = some .local := k
          rcases ho with ho | ho
          · rw [k'] at ho; cases ho
          · rw [k'] at ho; cases ho
        · obtain ⟨c', e'⟩ := hcf y memf
          have : c' = c := by have := hcl y c' e'; rw [e] at this; cases this; rfl
          subst this
          have yx : y ≠ x := fun zz => by
            have h0 : M[0]? = some x := by rw [S.hM]; rfl
            have h1' : M[i + 1]? = some y := by rw [S.hM, List.getElem?_cons_succ, List.getElem?_map, hi, Option.map_some, h1]
            exact absurd (nodup_ix hnd h0 (zz ▸ h1')) (by omega)
          refine .inr ⟨?_, c', ?_, z⟩
          · exact (relabel_free (env := X.env) hf).elim .inr .inl
          · show ((x, s3.heap.objs.size + 1) :: cl).lookup y = some c'
            rw [List.lookup_cons, show (y == x) = false by simpa using yx]
            exact e'
  · show (cst cp σ none).length = M.length
    rw [S.hM]; simp [cst]

/-- behind it -/
theorem Inv.uncompC {s3 s' : Shared} {σ' : St} {H' : Hp} {M : List Str} {scope : Scope} {cl : List (Str × Addr)} {fp : List Addr} {x : Str} {h' : Heap} (I : Inv X pins σ H s3) (hfp : ∀ b ∈ fp, FpOk X pins H b)
    (J : Inv (X.compC M scope cl x s3.heap.objs.size s3 H fp) [] σ' H' s') (hs : Heap.SameBut s3.heap.objs.size s'.heap h') : Inv X pins σ H' { s' with heap := h' } := by
  have hC : H' s3.heap.objs.size = none := J.free
  have u := J.base
  have hok : HOk X.prog X.w H' h' := fun b o e => by
    refine (J.hok b o e).stay (fun c v hc q => (hs.2 c ?_).trans q) (fun _ q => q) fun _ _ q => q
    rintro rfl
    rcases hc with z | z
    · rw [← z, hC] at e; cases e
    · rw [hC] at z; cases z
  have ne : ∀ b o, s3.heap.get? b = some o → b ≠ s3.heap.objs.size := fun b o e => Nat.ne_of_lt (Heap.lt_size e)
  have un : Un (frs X.stack) fp H H' s3.heap h' :=
    ⟨fun b o e n hb hx => (hs.2 b (ne b o e)).trans (u.keep b o e n hb hx), fun b o e n hb hx => by
      obtain ⟨sl, q⟩ := u.slot b o e n hb hx
      exact ⟨sl, (hs.2 b (ne b o e)).trans q⟩, u.free, fun b o e hx => by
      obtain ⟨o', q⟩ := u.there b o e hx
      exact ⟨o', (hs.2 b (ne b o e)).trans q⟩, u.tups, u.frzs, u.tbls⟩
  refine I.call' (s' := { s' with heap := h' }) (ch := fp) J.os un hok J.bare fun b hb => ?_
  obtain ⟨_, h1, _, h3, h4, h5⟩ := hfp b hb
  exact ⟨h3, h1, h4, h5⟩
end
section
variable {X : Cx}
theorem comp_runC {elt iter : Expr} {x : Str} {px : Pos} {ifs : List Expr} {scope : Scope} {pos : Pos} {cp : List Nat} {M : List Str} {tt : TT} {te : TE} {cl : List (Str × Addr)}
    (hc : X.calm = true) (S : CompScopeC X.N X.env x cp M scope) (hnd : M.Nodup)
    (hcl : ∀ y c, cl.lookup y = some c → X.env.cells.lookup y = some c) (hcf : ∀ y, (y, NameKind.free) ∈ scope.names → ∃ c, cl.lookup y = some c)
    (ht : ∀ C s H ex, PTs (X.compC M scope cl x C s H ex) ifs tt) (he : ∀ C s H ex, PE (X.compC M scope cl x C s H ex) elt te)
    {pins : List (Addr × Obj)} {σ : St} {s2 : Shared} {H2 : Hp} {Q : VK} {it : Addr} {fp : List Addr} {tn : Nat → Heap → Prop} {J : It} {RR : Value → Addr → Result → Shared → Prop} {E : Value → Shared → Prop}
    (I2 : Inv X pins σ H2 s2) (T : Turn X.prog X.w X.K (.Name x px) J fp it tn) (st2 : tn 0 s2.heap) (f2 : ∀ b ∈ fp, FpOk X pins H2 b)
    (q : ∀ D, H2 D = none → ∃ W : Nat → Nat → Hp → Prop, (∃ m, W 0 m (upd H2 D (.lst []))) ∧ ∀ i m H, W i m H →
      (J.stop i H ∧ Q (.ref D) H) ∨ (J.go i H ∧ ∀ v H', J.yld i H v H' → tt (cst cp σ (some v)) H' fun b H2 =>
        if b = true then te (cst cp σ (some v)) H2 fun y H3 => ∃ ys, H3 D = some (.lst ys) ∧ ys.length < sizeLine ∧ ∃ m', m' < m ∧ W (i + 1) m' (upd H3 D (.lst (ys ++ [y])))
        else ∃ m', m' < m ∧ W (i + 1) m' H2))
    (fin : ∀ (D C : Addr) (s' : Shared) (H' : Hp) (m : Str → Option Value), s'.heap.Ns C m → (∀ h', Heap.SameBut C s'.heap h' → Inv X pins σ H' { s' with heap := h' }) → FpOk X pins H' C → Q (.ref D) H' → RR (.ref D) C (.ok .next) s') :
    wpAny (model X.prog X.w) X.A (newList []) (fun acc s₃ => wpAny (model X.prog X.w) X.A (newFunctionEnv scope X.env.globals cl [] X.env.qual none .none (some X.env)) (fun cenv s₄ =>
      codeAny (model X.prog X.w) X.A (.compStart (.ListComp elt [⟨.Name x px, iter, ifs, 0⟩] scope pos) 0 (.ref it) acc { cenv with scope := relabel scope X.env }) (RR acc cenv.locals) s₄) E s₃) E s2 := by
  have fobj : ∀ b ∈ fp, b < s2.heap.objs.size := fun b hb => by
    obtain ⟨o, e, _⟩ := T.obj 0 _ st2 b hb
    exact Heap.lt_size e
  refine wpAny_newObj_type (newEnv_cell S ?_)
  have hf : H2 s2.heap.objs.size = none := I2.hok.fresh (Nat.le_refl _)
  obtain ⟨W, ⟨m0, w0⟩, turn⟩ := q _ hf
  generalize hs3 : ({ s2 with heap := s2.heap.push { cls := .type "list", dict := none, data := .seq ([] : List Value).toArray } } : Shared) = s3 at *
  have I3 : Inv X pins σ (upd H2 s2.heap.objs.size (.lst [])) s3 := by
    rw [← hs3]
    exact I2.laid (t' := s2.toks) (fun b u e => Heap.get?_push_of_some _ e) (Nat.le_refl _) ⟨Nat.zero_le _, [], 0, .nil, Heap.get?_push_size _ rfl⟩
  have sz3 : s2.heap.objs.size < s3.heap.objs.size := by rw [← hs3]; show _ < (s2.heap.push _).objs.size; rw [Heap.size_push]; exact Nat.lt_succ_self _
  have f3 : ∀ b ∈ fp, FpOk X pins (upd H2 s2.heap.objs.size (.lst [])) b := fun b hb => by
    obtain ⟨h0, r⟩ := f2 b hb
    exact ⟨by rw [upd_ne (Nat.ne_of_lt (fobj b hb))]; exact h0, r⟩
  obtain ⟨h₁, eh⟩ : ∃ h₁, h₁ = (s3.heap.push { cls := .type "dict", data := .dict #[] }).push { cls := .type "cell", data := .cell none } := ⟨_, rfl⟩
  rw [← eh]
  have keep34 : ∀ b o, s3.heap.get? b = some o → h₁.get? b = some o := fun b o e => by rw [eh]; exact Heap.get?_push_of_some _ (Heap.get?_push_of_some _ e)
  have hns₁ : h₁.Ns s3.heap.objs.size (fun _ => none) := by rw [eh]; exact (Heap.Ns.new s3.heap (.type "dict")).keeps fun b o e => Heap.get?_push_of_some _ e
  have hcc : h₁.IsCell (s3.heap.objs.size + 1) none := by
    rw [eh]
    have := Heap.get?_push_size (s3.heap.push { cls := .type "dict", data := .dict #[] }) (o := ({ cls := .type "cell", data := .cell none } : Obj)) rfl
    rw [Heap.size_push] at this
    exact ⟨_, this, rfl⟩
  have keep24 : ∀ b o, s2.heap.get? b = some o → h₁.get? b = some o := fun b o e => keep34 b o (by rw [← hs3]; exact Heap.get?_push_of_some _ e)
  have Ic : Inv (X.compC M scope cl x s3.heap.objs.size s3 (upd H2 s2.heap.objs.size (.lst [])) fp) [] (cst cp σ none) (upd H2 s2.heap.objs.size (.lst [])) { s3 with heap := h₁, toks := s3.toks + ([] : List (Str × Value)).length } :=
    I3.compC S hcl hcf f3 (fun b hb => Nat.lt_trans (fobj b hb) sz3) rfl keep34 hns₁ hnd hcc
  have fst : ∀ {H' : Hp}, (∀ b ∈ fp, H' b = none) → ∀ b ∈ fp, FpOk (X.compC M scope cl x s3.heap.objs.size s3 (upd H2 s2.heap.objs.size (.lst [])) fp) [] H' b := fun hn b hb => by
    obtain ⟨_, h1, h2, _, h4, _⟩ := f2 b hb
    refine ⟨hn b hb, Nat.ne_of_lt (Nat.lt_trans (fobj b hb) sz3), fun hs => ?_, .inl hb, fun y c e => by
      have e' : ((x, s3.heap.objs.size + 1) :: cl).lookup y = some c := e
      rw [List.lookup_cons] at e'
      split at e'
      · cases e'
        exact Nat.ne_of_gt (Nat.lt_succ_of_lt (Nat.lt_trans (fobj b hb) sz3))
      · exact h4 y c (hcl y c e'), fun p hp => absurd hp (by intro z; cases z)⟩
    rcases List.mem_cons.mp (I3.stkSub b hs) with e | e
    · exact h1 e
    · exact h2 e
  have loop : codeAny (model X.prog X.w) X.A (.compLoop (.ListComp elt [⟨.Name x px, iter, ifs, 0⟩] scope pos) 0 (.ref it) (.ref s2.heap.objs.size) (compEnvC scope ((x, s3.heap.objs.size + 1) :: cl) s3.heap.objs.size X.env)) (RR (.ref s2.heap.objs.size) s3.heap.objs.size)
      { s3 with heap := h₁, toks := s3.toks + ([] : List (Str × Value)).length } := by
    refine compLoop_any (fun n s' => ∃ i vo H', Inv (X.compC M scope cl x s3.heap.objs.size s3 (upd H2 s2.heap.objs.size (.lst [])) fp) [] (cst cp σ vo) H' s' ∧ tn i s'.heap ∧ (∀ b ∈ fp, H' b = none) ∧ W i n H') ?_ m0
      ⟨0, none, _, Ic, T.keep _ _ _ st2 (fun b hb o e => keep24 b o e), fun b hb => (f3 b hb).1, w0⟩
    rintro n s5 ⟨i, vo, H5, I5, st5, fr5, w5⟩
    rcases turn i n H5 w5 with ⟨stop, qn⟩ | ⟨go, step⟩
    · refine thn (T.done (X.compC M scope cl x s3.heap.objs.size s3 (upd H2 s2.heap.objs.size (.lst [])) fp) rfl rfl rfl hc i [] s5 _ H5 _ I5 (fst fr5) st5 stop) fun r s6 ⟨hr, I6⟩ => ?_
      subst hr
      obtain ⟨m', hm', _⟩ := id I6.loc
      exact fin _ _ s6 H5 m' hm' (fun h' hb => I3.uncompC f3 I6 hb) (I3.fpOk (Nat.le_refl _) I6.free) qn
    · refine thn (T.item (X.compC M scope cl x s3.heap.objs.size s3 (upd H2 s2.heap.objs.size (.lst [])) fp) rfl rfl rfl hc i [] s5 _ H5 _ I5 (fst fr5) st5 go) fun r s6 ⟨u, hr, h6⟩ => ?_
      subst hr
      refine thn h6 fun _ s7 ⟨v, H7, I7, r7, y7, st7, fr7⟩ => ?_
      have I7' := I7.pinned (fst fr7) (T.obj _ _ st7)
      have hMx : (X.compC M scope cl x s3.heap.objs.size s3 (upd H2 s2.heap.objs.size (.lst [])) fp).N[0]? = some x := by
        show M[0]? = some x
        rw [S.hM]; rfl
      refine wpAny_assign_Name (store_ok I7' hnd hMx (.inr S.hx) r7 (fun s8 I8 => ?_) (.inl (by simp [Cx.compC])))
      have I8' : Inv (X.compC M scope cl x s3.heap.objs.size s3 (upd H2 s2.heap.objs.size (.lst [])) fp) ([] ++ pinsAt fp s7.heap) (cst cp σ (some v)) H7 s8 := I8
      have again : ∀ {H9 : Hp} {s9 : Shared} {m' : Nat}, Inv (X.compC M scope cl x s3.heap.objs.size s3 (upd H2 s2.heap.objs.size (.lst [])) fp) ([] ++ pinsAt fp s7.heap) (cst cp σ (some v)) H9 s9 → m' < n → W (i + 1) m' H9 →
          ∃ m, m < n ∧ ∃ i vo H', Inv (X.compC M scope cl x s3.heap.objs.size s3 (upd H2 s2.heap.objs.size (.lst [])) fp) [] (cst cp σ vo) H' s9 ∧ tn i s9.heap ∧ (∀ b ∈ fp, H' b = none) ∧ W i m H' := fun {H9 s9 m'} I9 hm w9 => by
        refine ⟨m', hm, i + 1, some v, H9, I9.unpinned, T.keep _ _ _ st7 fun b hb o e => (I9.pin (b, o) (List.mem_append_right _ (List.mem_append_right _ (mem_pinsAt hb e)))).1, fun b hb => ?_, w9⟩
        obtain ⟨o, e, d⟩ := T.obj _ _ st7 b hb
        exact (I9.pin (b, o) (List.mem_append_right _ (List.mem_append_right _ (mem_pinsAt hb e)))).2.1
      refine thn (ht _ _ _ _ _ s8 _ H7 _ I8' (step v H7 y7)) fun b s9 ⟨H9, I9, q9⟩ => ?_
      cases b with
      | false =>
        rw [if_neg Bool.false_ne_true] at q9
        rw [if_neg Bool.false_ne_true]
        obtain ⟨m', hm, w9⟩ := q9
        exact again I9 hm w9
      | true =>
        rw [if_pos rfl] at q9
        rw [if_pos rfl]
        refine thn (he _ _ _ _ _ s9 _ H9 _ I9 q9) fun yv s10 ⟨y, H10, I10, ry, ys, hD, hlen, m', hm, w10⟩ => ?_
        exact thn (mt_append _ s10 _ H10 (.ref s2.heap.objs.size) [y] (.ref s2.heap.objs.size) [yv] (fun _ H' => H' = upd H10 s2.heap.objs.size (.lst (ys ++ [y]))) I10 rfl (.cons ry .nil) ⟨_, ys, y, rfl, rfl, hD, hlen, rfl⟩)
          fun _ s11 ⟨_, H11, I11, _, e11⟩ => again I11 hm (e11 ▸ w10)
  exact codeAny_compStart_list loop (T.self _ 0 _ _ _ (T.keep _ _ _ st2 fun b hb o e => keep24 b o e) loop)

theorem ps_compC {elt iter : Expr} {x y : Str} {px py : Pos} {ifs : List Expr} {scope : Scope} {pos spos : Pos} {cp : List Nat} {M : List Str} {wi : TI} {tt : TT} {te : TE} {i : Nat}
    (hN : X.N.Nodup) (hy : X.N[i]? = some y) (hloc : X.env.scope.names.lookup y = some .local)
    (hc : X.calm = true) (S : CompScopeC X.N X.env x cp M scope) (hnd : M.Nodup) (hi : PI X (.Name x px) iter wi)
    (ht : ∀ cl C s H ex, PTs (X.compC M scope cl x C s H ex) ifs tt) (he : ∀ cl C s H ex, PE (X.compC M scope cl x C s H ex) elt te)
    (hsw : swapsWith (.ListComp elt [⟨.Name x px, iter, ifs, 0⟩] scope pos) (some (.Name y py)) spos.line X.env = pure true := by rfl)
    (hs : ∀ v, foldedSetIterable iter X.env v = pure v := by intro _; rfl) : PS X (.Assign [.Name y py] (.ListComp elt [⟨.Name x px, iter, ifs, 0⟩] scope pos) spos) (tAsg (tComp wi cp tt te) (gName i)) := by
  intro pins s σ H D I h
  obtain ⟨cl, e, hcl, hcf⟩ := closure_ok (scope := scope) (env := X.env) fun y hy hf => I.ok.has y.1 (S.free y hy hf)
  rw [exec_Assign_Name_used _ _ _ _ hsw]
  refine wpAny_bind (wpAny_standAt (wpAny_bind ?_))
  show wpAny _ X.A (do let _ ← comprehension (.ListComp elt [⟨.Name x px, iter, ifs, 0⟩] scope pos) scope X.env _ (newList []) false (eval iter X.env) (some (assign (.Name y py) X.env))) _ _ s
  refine wpAny_bind (wpAny_mono (wpAny_comprehension_free (use := some (assign (.Name y py) X.env)) (Q := fun _ s' => SP X pins D .next s') rfl hs e S.kind S.loc
    (thn (hi pins s σ H _ I h) fun xv s1 h1 => thn h1 fun itv s2 h2 => ?_)) (fun _ s' hq => wpAny_pure (wpAny_pure hq)) fun _ _ e => e)
  obtain ⟨it, fp, tn, J, H2, rfl, I2, T, st2, f2, q⟩ := h2
  refine comp_runC (Q := fun v H' => D.nx (σ.set i (some v)) H') (RR := fun acc C => compPost (model X.prog X.w) X.A X.xe (some (assign (.Name y py) X.env)) (fun _ s' => SP X pins D .next s') acc C) hc S hnd hcl hcf (ht cl) (he cl) I2 T st2 f2 q ?_
  intro D' C s' H' m hn hI fC qD
  obtain ⟨f0, f1, f2', f3, f4, f5⟩ := fC
  have I' : Inv X pins σ H' s' := hI s'.heap (Heap.SameBut.refl ..)
  show wpAny _ X.A (assign (.Name y py) X.env (.ref D')) _ _ _
  refine wpAny_assign_Name (store_ok2 (v := .ref D') I' hN hy (.inl hloc) rfl (fun s'' I'' ch => ?_) (.inr hloc))
  obtain ⟨a, sb, ha⟩ := ch
  have haC : C ≠ a := by
    rcases ha with rfl | ha
    · exact f1
    · exact fun z => f4 y a ha z.symm
  refine ⟨m, hn.sameBut sb haC, fun h' hb => ⟨_, H', ?_, qD⟩⟩
  exact I''.turned (t' := s''.toks) (fun b o hbC e => (hb.2 b hbC).trans e) f0 f1 f3 f4 f5
end
end L2

namespace L2
open PySem PySem.Spec PyProof.Rows
/-! ## max(xs, default=n) -/
section
variable {prog : Program} {w : World} {A : Around} {I S : Addr} {fp wr : List Addr} {n : Nat} {P : Nat → Value → Prop} {St : Nat → Heap → Prop} {R : Result → Shared → Prop} {kw : List (Str × Value)} {bt : Nat → Nat → Bool}
/-- the list in which max keeps what it has found -/
abbrev bestMx (h : Heap) (S : Addr) (vs : Array Value) : Prop := ∃ c, h.get? S = some { cls := .type "list", dict := none, data := .seq vs c, slots := #[] }
theorem maxK_open {s : Shared} {vs : Array Value} {c : Nat} (hS : s.heap.get? S = some { cls := .type "list", dict := none, data := .seq vs c, slots := #[] })
    (h : wpAny (model prog w) A.in1 (Builtin.«max.loop» ⟨[.ref I, .none, .ref S], kw⟩) (fun fin s' => match fin with | .done f => R (.ok f) s' | .again c' => c'.quiet = true ∧ codeAny (model prog w) A c' R s') (fun e s' => R (.error e) s') s) :
    codeAny (model prog w) A (.builtin "max.loop" ⟨[.ref I, .none, .ref S], kw⟩) R s := by
  refine codeAny_builtin F.entry_max_loop ?_
  rw [Around.under_plainId F.plain_max_loop _]
  exact h
theorem maxK_loop (W : Walks prog w A.in1 I fp wr n P St) (hcmp : CmpOf prog w A.in1 .Gt P bt) (hSf : S ∉ fp) : ∀ (k j : Nat) (s : Shared) (vb : Value), n - (j + 1) = k → j + 1 ≤ n → St (j + 1) s.heap → P (argBest bt j) vb → bestMx s.heap S #[vb, vb] →
    (∀ v h' tk, P (argBest bt (n - 1)) v → (∀ b o, b ∉ wr → b ≠ S → s.heap.get? b = some o → h'.get? b = some o) → R (.ok (.ret v)) { s with heap := h', toks := tk }) → codeAny (model prog w) A (.builtin "max.loop" ⟨[.ref I, .none, .ref S], kw⟩) R s := by
  have hSw : S ∉ wr := fun h => hSf (W.sub _ h)
  have hname : (toString "max" ++ toString ".loop" : String) = "max.loop" := by decide
  intro k
  induction k with
  | zero =>
    rintro j s vb hk hj hst hPb ⟨c, hS⟩ hR
    have hin : j + 1 = n := by omega
    refine maxK_open hS ?_
    show wpAny _ A.in1 (seqItems? (.ref S) >>= _) _ _ s
    refine wpAny_bind (wpAny_seqItems hS rfl ?_)
    show wpAny _ A.in1 (tryCatch (pyNext (.ref I)) _ >>= _) _ _ s
    refine wpAny_bind (wpAny_tryCatch (W.done s _ _ (hin ▸ hst) fun h' tk hk' => ?_))
    show wpAny _ A.in1 (updateSeq S (fun _ => #[]) >>= _) _ _ _
    refine wpAny_bind (wpAny_updateSeq (hk' S _ hSw hS) rfl (wpAny_bind (wpAny_letGo (wpAny_pure ?_))))
    exact hR vb _ tk (by rw [← hin]; exact hPb) fun b o hbw hbS e => (Heap.get?_update_other _ _ (Ne.symm hbS)).trans (hk' b o hbw e)
  | succ k ih =>
    rintro j s vb hk hj hst hPb ⟨c, hS⟩ hR
    have hlt : j + 1 < n := by omega
    refine maxK_open hS ?_
    show wpAny _ A.in1 (seqItems? (.ref S) >>= _) _ _ s
    refine wpAny_bind (wpAny_seqItems hS rfl ?_)
    show wpAny _ A.in1 (tryCatch (pyNext (.ref I)) _ >>= _) _ _ s
    refine wpAny_bind (wpAny_tryCatch (W.item (j + 1) s _ _ hlt hst fun v h' tk hP hst' hk' => ?_))
    have hS' := hk' S _ hSw hS
    show wpAny _ A.in1 (tryCatch (holding [v, v] (richCompare .Gt v vb >>= _)) _ >>= _) _ _ _
    refine wpAny_bind (wpAny_tryCatch (wpAny_holding (wpAny_bind (hcmp (j + 1) (argBest bt j) v vb _ _ _ hP hPb (wpAny_bind (wpAny_holding (wpAny_truthy_bool (wpAny_bind (wpAny_letGo (wpAny_pure ?_))))))))))
    cases hb : bt (j + 1) (argBest bt j) with
    | true =>
      simp only [if_true]
      refine wpAny_bind (wpAny_updateSeq hS' rfl (wpAny_bind (wpAny_letGo ?_)))
      rw [hname]
      refine wpAny_pure ⟨plainId_quiet F.plain_max_loop _, ih (j + 1) _ v (by omega) hlt (W.frame _ _ _ hst' fun b hbf o e => (Heap.get?_update_other _ _ (fun h : S = b => hSf (by rw [h]; exact hbf))).trans e) (by simp only [argBest, hb, if_true]; exact hP) ⟨_, Heap.get?_update_self _ hS' rfl⟩ fun v' h'' tk'' hP' hk'' => ?_⟩
      exact hR v' h'' tk'' hP' fun b o hbw hbS e => hk'' b o hbw hbS ((Heap.get?_update_other _ _ (Ne.symm hbS)).trans (hk' b o hbw e))
    | false =>
      simp only [Bool.false_eq_true, if_false]
      refine wpAny_bind (wpAny_letGo ?_)
      rw [hname]
      exact wpAny_pure ⟨plainId_quiet F.plain_max_loop _, ih (j + 1) _ vb (by omega) hlt hst' (by simp only [argBest, hb, Bool.false_eq_true, if_false]; exact hPb) ⟨c, hS'⟩ fun v' h'' tk'' hP' hk'' => hR v' h'' tk'' hP' fun b o hbw hbS e => hk'' b o hbw hbS (hk' b o hbw e)⟩
theorem maxD_first {d : Value} {nm : Str} (W : Walks prog w A.in1 I fp wr n P St) (hcmp : CmpOf prog w A.in1 .Gt P bt) (hSf : S ∉ fp) {s : Shared} (hst : St 0 s.heap) (hS0 : bestMx s.heap S #[])
    (hR : ∀ v h' tk, (if n = 0 then v = d else P (argBest bt (n - 1)) v) → (∀ b o, b ∉ wr → b ≠ S → s.heap.get? b = some o → h'.get? b = some o) → R (.ok (.ret v)) { s with heap := h', toks := tk }) :
    codeAny (model prog w) A (.builtin "max.loop" ⟨[.ref I, .none, .ref S], [(nm, d)]⟩) R s := by
  have hSw : S ∉ wr := fun h => hSf (W.sub _ h)
  have hname : (toString "max" ++ toString ".loop" : String) = "max.loop" := by decide
  obtain ⟨c, hS⟩ := hS0
  refine maxK_open hS ?_
  show wpAny _ A.in1 (seqItems? (.ref S) >>= _) _ _ s
  refine wpAny_bind (wpAny_seqItems hS rfl ?_)
  show wpAny _ A.in1 (tryCatch (pyNext (.ref I)) _ >>= _) _ _ s
  by_cases hn : n = 0
  · refine wpAny_bind (wpAny_tryCatch (W.done s _ _ (hn ▸ hst) fun h' tk hk' => ?_))
    show wpAny _ A.in1 (rule _ >>= _) _ _ _
    refine wpAny_bind (wpAny_rule (wpAny_pure ?_))
    exact hR d h' tk (by rw [if_pos hn]) fun b o hbw hbS e => hk' b o hbw e
  · refine wpAny_bind (wpAny_tryCatch (W.item 0 s _ _ (by omega) hst fun v h' tk hP hst' hk' => ?_))
    have hS' := hk' S _ hSw hS
    show wpAny _ A.in1 (updateSeq S (fun _ => #[v, v]) >>= _) _ _ _
    refine wpAny_bind (wpAny_updateSeq hS' rfl ?_)
    rw [hname]
    refine wpAny_pure ⟨plainId_quiet F.plain_max_loop _, maxK_loop W hcmp hSf _ 0 _ v rfl (by omega) (W.frame _ _ _ hst' fun b hbf o e => (Heap.get?_update_other _ _ (fun h : S = b => hSf (by rw [h]; exact hbf))).trans e) hP ⟨_, Heap.get?_update_self _ hS' rfl⟩ fun v' h'' tk'' hP' hk'' => ?_⟩
    exact hR v' h'' tk'' (by rw [if_neg hn]; exact hP') fun b o hbw hbS e => hk'' b o hbw hbS ((Heap.get?_update_other _ _ (Ne.symm hbS)).trans (hk' b o hbw e))
end
section
variable {prog : Program} {w : World} {A : Around} {E : Value → Shared → Prop} {s : Shared}
theorem args_maxD (a d : Value) : argsOk "max" ⟨[a], [(("default" : Str), d)]⟩ := by unfold argsOk; kernel_rfl
theorem call_maxD {l : Addr} {xs : Array (Int × Tok)} {d : Value} {Q : Value → Shared → Prop} (hh : A.handled = none) (hl : s.heap.IsList l (intItems xs))
    (h : ∀ v h' tk, (if xs.size = 0 then v = d else (intItems xs)[argBest (fun i j => decide (numAt xs i > numAt xs j)) (xs.size - 1)]? = some v) → (∀ b o, s.heap.get? b = some o → h'.get? b = some o) → Q v { s with heap := h', toks := tk }) :
    wpAny (model prog w) A (call (.builtin "max") [.ref l] [(("default" : Str), d)]) Q E s := by
  have hname : (toString "max" ++ toString ".loop" : String) = "max.loop" := by decide
  refine wpAny_call (codeAny_call_builtin F.plain_max F.entry_max ?_)
  have ha := args_maxD (.ref l) d
  have hck : wpAny (model prog w) A.in1 (checkBuiltinCall "max" ⟨[.ref l], [(("default" : Str), d)]⟩) (fun _ s' => s' = s) (fun _ _ => False) s := by
    simp only [checkBuiltinCall, F.kind_max]
    cases hsig : Manifest.signature? "max" with
    | none => exact wpAny_pure rfl
    | some sig =>
      simp only [argsOk, hsig] at ha
      have h2 : Bind.checkArgs "max" sig ⟨[.ref l], [(("default" : Str), d)]⟩ = pure () := ha
      show wpAny _ A.in1 (Bind.checkArgs "max" sig ⟨[.ref l], [(("default" : Str), d)]⟩) _ _ s
      rw [h2]; exact wpAny_pure rfl
  refine wpAny_mono hck (fun _ s' e => ?_) (fun _ _ z => z.elim)
  subst e
  show wpAny _ A.in1 (Builtin.Builtins.bindParams "max" ["key", "default"] 0 ⟨[], [(("default" : Str), d)]⟩ >>= _) _ _ _
  refine wpAny_bind (wpAny_of_eq (show Builtin.Builtins.bindParams "max" ["key", "default"] 0 ⟨[], [(("default" : Str), d)]⟩ = pure [none, some d] from rfl) ?_)
  refine wpAny_bind (wpAny_pure ?_)
  refine wpAny_bind (iter_intList hl fun s₂ e st hfp hlI => ?_)
  subst e
  refine wpAny_bind (wpAny_newObj_type ?_)
  rw [hname]
  refine wpAny_pure ⟨plainId_quiet F.plain_max_loop _, maxD_first (Walks.list (A := A.in1) hh _ l hlI (intItems xs)) (CmpOf.ints_gt (numAt xs) (fun _ _ => intItems_at)) (fun hm => Nat.lt_irrefl _ (hfp _ hm)) ((Walks.list (prog := prog) (w := w) (A := A.in1) hh _ l hlI (intItems xs)).frame _ _ _ st fun b _ o e => Heap.get?_push_of_some _ e) ⟨_, Heap.get?_push_size _ rfl⟩ fun v h' tk hP hk => ?_⟩
  refine h v h' tk (by simpa [intItems] using hP) (old_kept fun b o hb e => hk b o hb (Nat.ne_of_lt (Heap.lt_size e)) (Heap.get?_push_of_some _ e))
end
section
variable {X : Cx}
def tMaxD (ta : TA) (n : Int) : TE := fun σ H Q => ta σ H fun vs H1 => on1 vs fun x => onL H1 x fun _ xs => ∃ ns : List Int, xs = ns.map V.int ∧ ∀ M, (if ns = [] then M = n else M ∈ ns ∧ ∀ a ∈ ns, a ≤ M) → Q (.int M) H1
theorem pe_maxD {a : Expr} {ta : TA} {n : Int} {j : _} {p pos cp kp : Pos} (hc : X.calm = true) (hg : Gl X "max") (hm : X.mg "max" = none) (ha : PA X [a] ta) (hs : starEach [a] X.env = [(false, eval a X.env)] := by rfl) :
    PE X (.Call (.Name "max" p) [a] [⟨some "default", .Constant (.int n) j cp, kp⟩] pos) (tMaxD ta n) := by
  intro pins s σ H Q I h
  refine wpAny_Call_Name_kw (ld_blt I hg hm BI.max ?_)
  refine callWith_builtin_kwB (first := []) (by rw [hs]; rfl) rfl ?_
  have hA := ha pos pins s σ H _ I h
  rw [hs] at hA ⊢
  refine evalArgs_kwB rfl (thn hA fun us s1 ⟨vs, H1, I1, r1, q1⟩ => ?_)
  refine kws_cons (thn (pe_int (X := X) pins s1 σ H1 (fun v H2 => v = .int n ∧ H2 = H1) I1 ⟨rfl, rfl⟩) fun u2 s2 ⟨y, H2, I2, r2, e1, e2⟩ => kws_nil ?_)
  subst e1 e2
  obtain ⟨t2, rfl⟩ := r2
  obtain ⟨x, rfl, q2⟩ := on1.out q1
  obtain ⟨l, xs, rfl, hl, ns, rfl, q⟩ := onL.out q2
  obtain ⟨u, rfl, ru⟩ := r1.one
  cases ru
  obtain ⟨its, r', pl, hz'⟩ := I2.list (SqL.of (K := X.K) hl)
  obtain ⟨ps, e1, e2⟩ := ints_items (ints_of_vals r')
  have hl' := pl.isList
  rw [e1] at hl'
  have hps : ps.length = ns.length := by rw [← e2, List.length_map]
  refine call_maxD (I2.ok.hd hc) hl' fun v h' tk hv hk => ?_
  by_cases h0 : ns = []
  · have z : ps.toArray.size = 0 := by simp [hps, h0]
    rw [if_pos z] at hv
    subst hv
    exact ⟨.int n, H2, I2.kept hk, ⟨_, rfl⟩, q _ (by rw [if_pos h0])⟩
  · have hpos : 0 < ns.length := List.length_pos_iff.mpr h0
    rw [if_neg (by simp [hps]; exact h0)] at hv
    obtain ⟨t, rfl⟩ := intItems_at hv
    obtain ⟨g1, g2⟩ := argBest_gt (numAt ps.toArray) (ps.toArray.size - 1)
    refine ⟨.int _, H2, I2.kept hk, ⟨_, rfl⟩, q _ ?_⟩
    rw [if_neg h0]
    refine ⟨?_, fun a ha => ?_⟩
    · rw [numAt_eq]; simp only [e2]; exact getD_mem (by rw [← hps]; simp at g1 ⊢; omega)
    · rw [← e2] at ha
      obtain ⟨j, hj, rfl⟩ := mem_getD ha
      rw [List.length_map] at hj
      have := g2 j (by simp; omega)
      simpa only [numAt_eq] using this
@[simp] theorem rd_maxD {ta : TA} {n : Int} {σ : St} {H : Hp} {Q : VK} : tMaxD ta n σ H Q = ta σ H fun vs H1 => on1 vs fun x => onL H1 x fun _ xs => ∃ ns : List Int, xs = ns.map V.int ∧ ∀ M, (if ns = [] then M = n else M ∈ ns ∧ ∀ a ∈ ns, a ≤ M) → Q (.int M) H1 := rfl
end
/-! ## bits -/
section
variable {X : Cx}
theorem f_shl : OpR X (binaryOp .LShift) (rIC CPow fun i j => .int (i * 2 ^ j.toNat)) := op_shl.imp fun _ _ _ _ h => h.ok
theorem f_shr : OpR X (binaryOp .RShift) (rIC (fun _ j => 0 ≤ j) fun i j => .int (i / 2 ^ j.toNat)) := op_shr.imp fun _ _ _ _ h => h.ok
theorem f_andB : OpR X (binaryOp .BitAnd) (rII fun i j => .int (Builtin.bitAnd i j)) := op_and.imp fun _ _ _ _ h => h.ok
end
end L2

namespace SR
open PySem
def top (i : Nat) : Stmt := PySem.Challenge.pw_stairrows_k23_whole_most.main.body.getD i (.Pass ⟨0, 0, 0, 0⟩)
end SR
namespace SR
open PySem L2 RS PySem.Spec PyProof.Rows
section
variable {P : Program} {w : World} {K : PySem.W.Frag} {mg : Str → Option Value} {base : Heap}
/-! ### _law_whole -/
abbrev s_law_whole : Stmt := top 16
theorem sc_law_whole : FnScope ["found"] ["found"] (defScope s_law_whole) := ⟨rfl, rfl, rfl, by decide +kernel, rfl, by decide +kernel, by decide +kernel⟩

def spWhole : Sp := fun vs H Q _ => ∃ i : Int, vs = [.int i] ∧ Q (.bl true) H
theorem ok_whole {f : Addr} {fd : FuncData} (F : Fun K "_law_whole" "_law_whole" s_law_whole f fd) (T : Bl mg) : FnOk P w K mg base CX0 1 f fd ["found"] spWhole := by
  refine F.ok sc_law_whole (fun vs H Q E h => ?_) (fun cdv A outer s H vs Q E hr h => ?_)
  · obtain ⟨i, rfl, _⟩ := h; rfl
  · obtain ⟨i, rfl, q⟩ := h
    refine ⟨_, (pss_one (ps_ret (pe_and (pe_callB f_isi (by rfl) T.isinstance BI.isinstance (pa_cons (pv 0) (pa_cons (pe_ty (by rfl) T.b_int) pa_nil))) (pe_one (pe_not (pe_callB f_isi (by rfl) T.isinstance BI.isinstance (pa_cons (pv 0) (pa_cons (pe_ty (by rfl) T.b_bool) pa_nil)))))))), ?_⟩
    have e0 : start ["found"] [V.int i] = [some (.int i)] := rfl
    rw [e0]
    simp [tyN, isiT, q]
end
end SR

namespace SR
open PySem L2 RS PySem.Spec PyProof.Rows
section
variable {P : Program} {w : World} {K : PySem.W.Frag} {mg : Str → Option Value} {base : Heap}
/-! ### _law_row -/
abbrev s_law_row : Stmt := top 17
theorem sc_law_row : FnScope ["found", "due", "k"] ["found", "due"] (defScope s_law_row) := ⟨rfl, rfl, rfl, by decide +kernel, rfl, by decide +kernel, by decide +kernel⟩

def spRow : Sp := fun vs H Q _ => ∃ (a b : Addr) (xs ys : List Int), vs = [.ref a, .ref b] ∧ H a = some (.lst (xs.map V.int)) ∧ H b = some (.lst (ys.map V.int)) ∧ ys.length ≤ 10000 ∧ Q (.bl (decide (xs = ys))) H
theorem ok_row {f : Addr} {fd : FuncData} (F : Fun K "_law_row" "_law_row" s_law_row f fd) (T : Bl mg) (C_law_whole : Cal P w K mg base 1 "_law_whole" ["found"] spWhole) : FnOk P w K mg base CX0 2 f fd ["found", "due"] spRow := by
  refine F.ok sc_law_row (fun vs H Q E h => ?_) (fun cdv A outer s H vs Q E hr h => ?_)
  · obtain ⟨a, b, xs, ys, rfl, _⟩ := h; rfl
  · obtain ⟨a, b, xs, ys, rfl, ha, hb, hz, q⟩ := h
    refine ⟨_, (pss_cons (ps_if (PW.pt (pw_or (pt_not (pt_val (pe_callB f_isi (by rfl) T.isinstance BI.isinstance (pa_cons (pv 0) (pa_cons (pe_ty (by rfl) T.b_list) pa_nil))))) (pw_or1 (pt_cmpR (f_neF (hu64 hr)) (pe_callB f_len (by rfl) T.len BI.len (pa_cons (pv 0) pa_nil)) (pe_callB f_len (by rfl) T.len BI.len (pa_cons (pv 1) pa_nil)) (nomark _))))) (pss_one (ps_ret pe_bl)) pss_nil)
      (pss_cons (ps_for PassesOwn.never rfl (pi_range1 (by rfl) T.range (pa_cons (pe_callB f_len (by rfl) T.len BI.len (pa_cons (pv 1) pa_nil)) pa_nil)) (pg_name (i := 2) sc_law_row.nd rfl (Or.inl rfl)) (pss_one (ps_if (PW.pt (pw_or (pt_cmpR f_isN (pe_ix f_ix (pv 1) (pv 2) (fun _ _ => rfl)) pe_non (nomark _)) (pw_or1 (pt_cmpR f_isN (pe_ix f_ix (pv 0) (pv 2) (fun _ _ => rfl)) pe_non (nomark _))))) (pss_one (ps_if (PW.pt (pw_or (pt_cmpR f_notN (pe_ix f_ix (pv 1) (pv 2) (fun _ _ => rfl)) pe_non (nomark _)) (pw_or1 (pt_cmpR f_notN (pe_ix f_ix (pv 0) (pv 2) (fun _ _ => rfl)) pe_non (nomark _))))) (pss_one (ps_ret pe_bl)) pss_nil)) (pss_one (ps_if (PW.pt (pw_or (pt_not (pt_val (pe_cl C_law_whole (hr.mono (by decide)) (by rfl) (pa_cons (pe_ix f_ix (pv 0) (pv 2) (fun _ _ => rfl)) pa_nil)))) (pw_or1 (pt_cmpR (f_neF (hu64 hr)) (pe_ix f_ix (pv 0) (pv 2) (fun _ _ => rfl)) (pe_ix f_ix (pv 1) (pv 2) (fun _ _ => rfl)) (nomark _))))) (pss_one (ps_ret pe_bl)) pss_nil)))))
      (pss_one (ps_ret pe_bl)))), ?_⟩
    have e0 : start ["found", "due", "k"] [V.ref a, V.ref b] = [some (.ref a), some (.ref b), none] := rfl
    rw [e0]
    simp [tyN, ha, isiT, onS_of ha, onS_of hb]
    by_cases hl : xs.length = ys.length
    · have hl' : (xs.length : Int) = (ys.length : Int) := by omega
      simp [hl']
      refine for_rangeF ys.length (fun N h => by simp [onS_of hb, h]; omega) (fun i σ H' => (∃ o, σ = [some (.ref a), some (.ref b), o]) ∧ H' = H ∧ xs.take i = ys.take i) ⟨⟨_, rfl⟩, rfl, rfl⟩ ?_ ?_
      · rintro i σ H' hi ⟨⟨o, rfl⟩, rfl, et⟩
        have ex : xs[i]? = some xs[i] := List.getElem?_eq_getElem (by omega)
        have ey : ys[i]? = some ys[i] := List.getElem?_eq_getElem hi
        simp [onS_of ha, onS_of hb, atI_int ex, atI_int ey]
        refine ⟨_, rfl, ?_⟩
        by_cases he : xs[i] = ys[i]
        · simp [onS_of ha, onS_of hb, atI_int ex, atI_int ey, he]
          rw [take_next ex, take_next ey, et, he]
        · have : xs ≠ ys := fun z => he (by simp [z])
          simpa [onS_of ha, onS_of hb, atI_int ex, atI_int ey, he, this] using q
      · rintro σ H' ⟨⟨o, rfl⟩, rfl, et⟩
        rw [List.take_length, ← hl, List.take_length] at et
        simpa [et] using q
    · have hl' : ¬ (xs.length : Int) = (ys.length : Int) := by omega
      have : xs ≠ ys := fun z => hl (by simp [z])
      simpa [hl', this] using q
/-! ### _law_rows -/
abbrev s_law_rows : Stmt := top 18
def spRows : Sp := fun vs H Q _ => ∃ (a b : Addr) (as bs : List Addr) (xs ys : List (List Int)), vs = [.ref a, .ref b] ∧ RowsAt H a as xs ∧ RowsAt H b bs ys ∧ ys.length ≤ 10000 ∧ (∀ r ∈ ys, r.length ≤ 10000) ∧ Q (.bl (decide (xs = ys))) H
/-! ### _law_drawn -/
abbrev s_law_drawn : Stmt := top 15
theorem sc_law_drawn : FnScope ["script", "k", "many", "cell", "mixed"] ["script", "k", "many"] (defScope s_law_drawn) := ⟨rfl, rfl, rfl, by decide +kernel, rfl, by decide +kernel, by decide +kernel⟩

def spDrawn (K : PySem.W.Frag) : Sp := fun vs H Q _ => ∃ (a : Addr) (ns : List Int) (k m : Int), vs = [.ref a, .int k, .int m] ∧ SqL K H a (ns.map V.int) ∧ ns.length ≤ 63 ∧ 0 ≤ k ∧ k < 1000 ∧ 0 < m ∧ Q (.int (drawnZ ns k m)) H
theorem ok_drawn {f : Addr} {fd : FuncData} (F : Fun K "_law_drawn" "_law_drawn" s_law_drawn f fd) (T : Bl mg) : FnOk P w K mg base CX0 1 f fd ["script", "k", "many"] (spDrawn K) := by
  refine F.ok sc_law_drawn (fun vs H Q E h => ?_) (fun cdv A outer s H vs Q E hr h => ?_)
  · obtain ⟨a, ns, k, m, rfl, _⟩ := h; rfl
  · obtain ⟨a, ns, k, m, rfl, hS, hl, hk0, hk1, hm, q⟩ := h
    refine ⟨_, (pss_cons (ps_set (i := 3) sc_law_drawn.nd rfl (Or.inl rfl) pe_int)
      (pss_cons (ps_if (pt_cmpR f_gt (pe_callB call_len_seq (by rfl) T.len BI.len (pa_cons (pv 0) pa_nil)) pe_int (nomark _)) (pss_one (ps_set (i := 3) sc_law_drawn.nd rfl (Or.inl rfl) (pe_ix ix_list (pv 0) (pe_op f_mod (pv 1) (pe_callB call_len_seq (by rfl) T.len BI.len (pa_cons (pv 0) pa_nil))) (fun _ _ => rfl)))) pss_nil)
      (pss_cons (ps_set (i := 4) sc_law_drawn.nd rfl (Or.inl rfl) (pe_op f_add (pe_op f_add (pe_op f_mulF (pv 3) (pe_op f_add pe_int (pe_op f_mulF pe_int (pe_op f_mod (pv 1) pe_int)))) (pe_op f_mulF (pe_op f_mulF (pe_op f_add (pv 1) pe_int) (pe_op f_add (pv 1) pe_int)) pe_int)) (pe_callB call_len_seq (by rfl) T.len BI.len (pa_cons (pv 0) pa_nil))))
      (pss_one (ps_ret (pe_op f_mod (pe_op f_fdiv (pe_op f_mod (pv 4) pe_int) pe_int) (pv 2))))))), ?_⟩
    have e0 : start ["script", "k", "many", "cell", "mixed"] [V.ref a, V.int k, V.int m] = [some (.ref a), some (.int k), some (.int m), none, none] := rfl
    rw [e0]
    simp
    have c1 : CMul 9973 (k % 97) := .inl ⟨by decide, by decide⟩
    have c2 : ∀ i, CMul i (48271 + 9973 * (k % 97)) := fun i => .inr ⟨by omega, by omega⟩
    have c3 : CMul (k + 1) (k + 3) := .inl ⟨by omega, by omega⟩
    have c4 : CMul ((k + 1) * (k + 3)) 16807 := .inr ⟨by decide, by decide⟩
    have c5 : ∀ i, CDiv i 16 := fun i => ⟨by decide, by decide⟩
    refine ⟨_, .inl hS, ?_⟩
    by_cases h0 : ns.length = 0
    · rw [if_neg (by simp [h0])]
      refine ⟨c1, c2 7, c3, c4, _, .inl hS, c5 _, hm, ?_⟩
      have e : drawnZ ns k m = (7 * (48271 + 9973 * (k % 97)) + (k + 1) * (k + 3) * 16807 + ((ns.map V.int).length : Int)) % 2147483647 / 16 % m := by
        unfold drawnZ
        rw [if_pos h0, List.length_map]
      rw [← e]
      exact q
    · have hp : 0 < ns.length := by omega
      rw [if_pos (by rw [List.length_map]; exact hp)]
      have hi0 : 0 ≤ k % (ns.length : Int) := Int.emod_nonneg _ (by omega)
      have hi1 : k % (ns.length : Int) < ns.length := Int.emod_lt_of_pos _ (by omega)
      have ex : ns[(k % (ns.length : Int)).toNat]? = some (ns.getD (k % (ns.length : Int)).toNat 0) := by
        have : (k % (ns.length : Int)).toNat < ns.length := by omega
        rw [List.getD_eq_getElem?_getD, List.getElem?_eq_getElem this]; rfl
      refine ⟨_, .inl hS, by rw [List.length_map]; exact hp, a, _, _, .int (ns.getD (k % (ns.length : Int)).toNat 0), rfl, rfl, hS, by rw [List.length_map]; exact atI_map hi0 ex, c1, c2 _, c3, c4, _, .inl hS, c5 _, hm, ?_⟩
      have e : drawnZ ns k m = (ns.getD (k % (ns.length : Int)).toNat 0 * (48271 + 9973 * (k % 97)) + (k + 1) * (k + 3) * 16807 + ((ns.map V.int).length : Int)) % 2147483647 / 16 % m := by
        unfold drawnZ
        rw [if_neg h0, List.length_map]
      rw [← e]
      exact q
end
end SR

namespace SR
open PySem L2 RS PySem.Spec PyProof.Rows
section
variable {P : Program} {w : World} {K : PySem.W.Frag} {mg : Str → Option Value} {base : Heap}
theorem RowsL.drop {H : Hp} : ∀ {as : List Addr} {xss : List (List Int)} (k : Nat), RowsL H as xss → RowsL H (as.drop k) (xss.drop k)
  | _, _, 0, h => h
  | _, _, _ + 1, .nil => .nil
  | _, _, k + 1, .cons _ t => RowsL.drop k t
/-! ### how_many_less -/
abbrev s_how_many_less : Stmt := top 4
theorem sc_how_many_less : FnScope ["row", "number"] ["row", "number"] (defScope s_how_many_less) := ⟨rfl, rfl, rfl, by decide +kernel, rfl, by decide +kernel, by decide +kernel⟩

def spLess : Sp := fun vs H Q _ => ∃ (a : Addr) (xs : List Int) (n : Int), vs = [.ref a, .int n] ∧ H a = some (.lst (xs.map V.int)) ∧ xs.length ≤ 5000 ∧ ∀ H', Same H H' → Q (.int ((RS.lt xs n).length : Int)) H'
theorem ok_less {f : Addr} {fd : FuncData} (F : Fun K "how_many_less" "how_many_less" s_how_many_less f fd) (T : Bl mg) : FnOk P w K mg base CX0 1 f fd ["row", "number"] spLess := by
  refine F.ok sc_how_many_less (fun vs H Q E h => ?_) (fun cdv A outer s H vs Q E hr h => ?_)
  · obtain ⟨a, xs, n, rfl, _⟩ := h; rfl
  · obtain ⟨a, xs, n, rfl, ha, hz, q⟩ := h
    refine ⟨_, (pss_one (ps_ret (pe_callB f_len (by rfl) T.len BI.len (pa_cons (pe_comp (cp := [1]) (M := ["other", "number"]) rfl ⟨rfl, rfl, rfl, rfl, rfl, rfl, rfl⟩ (by decide +kernel) (pi_l (pv 0)) (fun _ _ _ _ _ => (pts_one (pt_cmpR f_lt (pv 0) (pv 1) (nomark _)))) (fun _ _ _ _ _ => (pv 0))) pa_nil)))), ?_⟩
    have e0 : start ["row", "number"] [V.ref a, V.int n] = [some (.ref a), some (.int n)] := rfl
    rw [e0]
    simp
    refine comp_listP (a := a) (xs := xs.map V.int) (fun R h => by simpa using h) ha (fun v => match v with | .int o => decide (o < n) | _ => false) id (by rw [List.length_map]; omega) (fun v hv H3 s3 R h => ?_) (fun v hv _ H3 s3 R h => by simpa [cst] using h) (fun G hG => ?_)
    · obtain ⟨x, _, rfl⟩ := List.mem_map.mp hv
      simpa [cst] using h
    · have eg : ((xs.map V.int).filter (fun v => match v with | .int o => decide (o < n) | _ => false)).map id = (RS.lt xs n).map V.int := by
        rw [List.map_id, List.filter_map]; rfl
      rw [eg]
      simp [onS_of upd_same]
      exact q _ (Same.upd_new hG)
/-! ### with_number_at -/
abbrev s_with_number_at : Stmt := top 5
theorem sc_with_number_at : FnScope ["row", "place", "number"] ["row", "place", "number"] (defScope s_with_number_at) := ⟨rfl, rfl, rfl, by decide +kernel, rfl, by decide +kernel, by decide +kernel⟩

def spWith : Sp := fun vs H Q _ => ∃ (a : Addr) (xs : List Int) (p : Nat) (n : Int), vs = [.ref a, .int (p : Int), .int n] ∧ H a = some (.lst (xs.map V.int)) ∧ xs.length ≤ 5000 ∧ p ≤ xs.length ∧
  ∀ r H', Same H H' → H r = none → H' r = some (.lst ((xs.take p ++ [n] ++ xs.drop (p + 1)).map V.int)) → Q (.ref r) H'
theorem ok_with {f : Addr} {fd : FuncData} (F : Fun K "with_number_at" "with_number_at" s_with_number_at f fd) (T : Bl mg) : FnOk P w K mg base CX0 1 f fd ["row", "place", "number"] spWith := by
  refine F.ok sc_with_number_at (fun vs H Q E h => ?_) (fun cdv A outer s H vs Q E hr h => ?_)
  · obtain ⟨a, xs, p, n, rfl, _⟩ := h; rfl
  · obtain ⟨a, xs, p, n, rfl, ha, hz, hp, q⟩ := h
    refine ⟨_, (pss_one (ps_ret (pe_op f_add (pe_op f_add (pe_slice f_sl (pv 0) po_none (po_some (pv 1))) (pe_lst (pa_cons (pv 2) pa_nil))) (pe_slice f_sl (pv 0) (po_some (pe_op f_add (pv 1) pe_int)) po_none)))), ?_⟩
    have e0 : start ["row", "place", "number"] [V.ref a, V.int (p : Int), V.int n] = [some (.ref a), some (.int (p : Int)), some (.int n)] := rfl
    rw [e0]
    have c1 : cutV (xs.map V.int) none (some (p : Int)) = (xs.take p).map V.int := by rw [cut_to (by rw [List.length_map]; exact hp), List.map_take]
    have c2 : cutV (xs.map V.int) (some ((p : Int) + 1)) none = (xs.drop (p + 1)).map V.int := by
      have := cut_from (xs := xs.map V.int) (p := p + 1)
      rw [show ((p + 1 : Nat) : Int) = (p : Int) + 1 by omega] at this
      rw [this, List.map_drop]
    simp [onL_of ha, c1]
    intro p1 h1
    refine ⟨line3 (by decide), fun p2 h2 => ?_⟩
    have s1 := Same.upd_new (o := HO.lst (List.take p (List.map V.int xs))) h1
    have s2 := Same.upd_new (o := HO.lst [V.int n]) h2
    have a1 := s2 _ _ upd_same
    rw [onL_of a1, onL_of upd_same]
    refine ⟨line3 (by simp; omega), fun p3 h3 => ?_⟩
    have s3 := Same.upd_new (o := HO.lst (List.take p (List.map V.int xs) ++ [V.int n])) h3
    have s13 := (s1.trans s2).trans s3
    rw [onL_of (s13 _ _ ha)]
    intro p4 h4
    rw [c2, List.map_drop]
    have s4 := Same.upd_new (o := HO.lst (List.drop (p + 1) (List.map V.int xs))) h4
    rw [onL_of (s4 _ _ upd_same), onL_of upd_same]
    refine ⟨line3 (by simp; omega), fun p5 h5 => ?_⟩
    refine q p5 _ ((s13.trans s4).trans (Same.upd_new h5)) ((s13.trans s4).free h5) ?_
    rw [upd_same]
    simp
/-! ### lay_in -/
abbrev s_lay_in : Stmt := top 7
theorem sc_lay_in : FnScope ["rows", "number", "above", "moving", "at", "row", "place", "below"] ["rows", "number"] (defScope s_lay_in) := ⟨rfl, rfl, rfl, by decide +kernel, rfl, by decide +kernel, by decide +kernel⟩

def spLayIn : Sp := fun vs H Q _ => ∃ (a : Addr) (as : List Addr) (xss : List (List Int)) (n : Int), vs = [.ref a, .int n] ∧ RowsAt H a as xss ∧ xss.length ≤ 4000 ∧ (∀ r ∈ xss, r.length ≤ 4000) ∧
  ∀ r b bs H', Same H H' → H r = none → H' r = some (.tup [.ref b, .int (layP xss n).2]) → RowsAt H' b bs (layP xss n).1 → Fresh H (b :: bs) → Q (.ref r) H'
def LayPIn (H : Hp) (a v : Addr) (xss : List (List Int)) (n : Int) (i : Nat) (σ : L2.St) (H' : Hp) : Prop := ∃ (c : Int) (dn : List (List Int)) (vs : List Addr) (o4 o5 o6 : Option V),
  σ = [some (.ref a), some (.int n), some (.ref v), some (.int c), o4, o5, o6, none] ∧ Same H H' ∧ RowsAt H' v vs dn ∧ Fresh H (v :: vs) ∧ dn.length = i ∧ layP xss n = (dn ++ (layP (xss.drop i) c).1, i + (layP (xss.drop i) c).2)
theorem ok_lay_in {f : Addr} {fd : FuncData} (F : Fun K "lay_in" "lay_in" s_lay_in f fd) (T : Bl mg) (C_how_many_less : Cal P w K mg base 1 "how_many_less" ["row", "number"] spLess) (C_with_number_at : Cal P w K mg base 1 "with_number_at" ["row", "place", "number"] spWith) :
    FnOk P w K mg base CX0 2 f fd ["rows", "number"] spLayIn := by
  refine F.ok sc_lay_in (fun vs H Q E h => ?_) (fun cdv A outer s H vs Q E hr h => ?_)
  · obtain ⟨a, as, xss, n, rfl, _⟩ := h; rfl
  · obtain ⟨a, as, xss, n, rfl, ha, hz, hz2, q⟩ := h
    refine ⟨_, (pss_cons (ps_set (i := 2) sc_lay_in.nd rfl (Or.inl rfl) (pe_lst pa_nil))
      (pss_cons (ps_set (i := 3) sc_lay_in.nd rfl (Or.inl rfl) (pv 1))
      (pss_cons (ps_for PassesOwn.never rfl (pi_enum (by rfl) T.enumerate (pa_cons (pv 0) pa_nil)) (pg_tup rfl (pgs_cons (pg_name (i := 4) sc_lay_in.nd rfl (Or.inl rfl)) (pgs_cons (pg_name (i := 5) sc_lay_in.nd rfl (Or.inl rfl)) pgs_nil))) (pss_cons (ps_set (i := 6) sc_lay_in.nd rfl (Or.inl rfl) (pe_cl C_how_many_less (hr.mono (by decide)) (by rfl) (pa_cons (pv 5) (pa_cons (pv 3) pa_nil))))
      (pss_cons (ps_if (pt_cmpR (f_eqF (hu64 hr)) (pv 6) (pe_callB f_len (by rfl) T.len BI.len (pa_cons (pv 5) pa_nil)) (nomark _)) (pss_cons (ps_comp (i := 7) sc_lay_in.nd rfl rfl (cp := []) (M := ["other"]) rfl ⟨rfl, rfl, rfl, rfl, rfl, rfl, rfl⟩ (by decide +kernel) (pi_l (pe_slice f_sl (pv 0) (po_some (pe_op f_add (pv 4) pe_int)) po_none)) (fun _ _ _ _ _ => pts_nil) (fun _ _ _ _ _ => (pe_callTy f_list (by rfl) T.list BI.list (pa_cons (pv 0) pa_nil))))
      (pss_one (ps_ret (pe_tup (pa_cons (pe_op f_add (pe_op f_add (pv 2) (pe_lst (pa_cons (pe_op f_add (pv 5) (pe_lst (pa_cons (pv 3) pa_nil))) pa_nil))) (pv 7)) (pa_cons (pv 4) pa_nil)))))) pss_nil)
      (pss_cons (ps_expr (pe_ml PySem.F.slot_list_append PySem.F.type_list_append f_append (pv 2) (pa_cons (pe_cl C_with_number_at (hr.mono (by decide)) (by rfl) (pa_cons (pv 5) (pa_cons (pv 6) (pa_cons (pv 3) pa_nil)))) pa_nil)))
      (pss_one (ps_set (i := 3) sc_lay_in.nd rfl (Or.inl rfl) (pe_ix f_ix (pv 5) (pv 6) (fun _ _ => rfl))))))))
      (pss_one (ps_ret (pe_tup (pa_cons (pe_op f_add (pv 2) (pe_lst (pa_cons (pe_lst (pa_cons (pv 3) pa_nil)) pa_nil))) (pa_cons (pe_callB f_len (by rfl) T.len BI.len (pa_cons (pv 0) pa_nil)) pa_nil)))))))), ?_⟩
    have e0 : start ["rows", "number", "above", "moving", "at", "row", "place", "below"] [V.ref a, V.int n] = [some (.ref a), some (.int n), none, none, none, none, none, none] := rfl
    rw [e0]
    have la := RowsL.len ha.row
    simp
    intro v hv
    have s0 := Same.upd_new (o := HO.lst []) hv
    refine for_enumF (K := K) 0 a (as.map V.ref) (fun N h => by simp [onL_of (s0 _ _ ha.top)]; exact h) (LayPIn H a v xss n) ⟨n, [], [], none, none, none, rfl, s0, ⟨by rw [upd_same]; rfl, .nil⟩, ⟨by simp, by simpa using hv⟩, rfl, by simp⟩ (fun i σ H' _ ⟨_, _, _, _, _, _, _, s1, _⟩ => s1 _ _ ha.top) ?_ ?_
    · rintro i x σ H1 t ev ⟨c, dn, vs, o4, o5, o6, rfl, s1, rv, fr, ld, eL⟩ ht
      rw [List.getElem?_map] at ev
      cases ea : as[i]? with
      | none => rw [ea] at ev; cases ev
      | some b =>
        rw [ea] at ev
        have ev' : x = .ref b := by simpa using ev.symm
        subst ev'
        obtain ⟨r, er, hb⟩ := RowsL.get' ha.row ea
        have lr := hz2 r (List.mem_of_getElem? er)
        have hi : i < xss.length := (List.getElem?_eq_some_iff.mp er).1
        have ed : xss.drop i = r :: xss.drop (i + 1) := by
          rw [List.drop_eq_getElem_cons hi]
          rw [List.getElem?_eq_getElem hi] at er
          cases er; rfl
        rw [ed] at eL
        refine tup2 upd_same ?_
        have st := Same.upd_new (o := HO.tup [V.int (0 + (i : Int)), V.ref b]) ht
        have s2 := s1.trans st
        have tv : v ≠ t := ne_of_none rv.top ht
        have rv2 := rv.same st
        generalize upd H1 t (HO.tup [V.int (0 + (i : Int)), V.ref b]) = H2 at *
        simp
        refine ⟨b, r, c, rfl, s2 _ _ hb, by omega, fun H3 s3 => ?_⟩
        have s13 := s2.trans s3
        have hb3 := s13 _ _ hb
        have rv3 := rv2.same s3
        have lv := RowsL.len rv3.row
        have ltl : (RS.lt r c).length ≤ r.length := List.length_filter_le _ _
        simp [onS_of hb3]
        by_cases hlast : (RS.lt r c).length = r.length
        · rw [if_pos (by omega)]
          have eL' : layP xss n = (dn ++ (r ++ [c]) :: xss.drop (i + 1), i) := by rw [eL, layP, if_pos hlast]; rfl
          have ecut : cutV (as.map V.ref) (some ((i : Int) + 1)) none = (as.drop (i + 1)).map V.ref := by
            have := cut_from (xs := as.map V.ref) (p := i + 1)
            rw [show ((i + 1 : Nat) : Int) = (i : Int) + 1 by omega] at this
            rw [this, List.map_drop]
          have ha3 := ha.same s13
          refine comp_new (o := HO.lst ((as.drop (i + 1)).map V.ref)) (fun R h => by simp only [rd_sl, rd_var0, rd_onO, rd_part, rd_op, rd_var4, rd_var3, rd_var2, rd_var1, rd_c, rd_plusI, rd_onI, rd_nopart, rd_cut, onL_of ha3.top, rd_new, ecut]; exact h) fun S hS => ?_
          have s4 := Same.upd_new (o := HO.lst ((as.drop (i + 1)).map V.ref)) hS
          have rS : RowsAt (upd H3 S (HO.lst ((as.drop (i + 1)).map V.ref))) S (as.drop (i + 1)) (xss.drop (i + 1)) := ⟨upd_same, RowsL.same (RowsL.drop (i + 1) ha3.row) s4⟩
          refine comp_copy (a := S) (fun R h => h) rS (by rw [List.length_drop]; omega) fun D ds H4 hD s5 rd frd => ?_
          have s15 := (s13.trans s4).trans s5
          have hb5 := s15 _ _ hb
          have rv5 := (rv3.same s4).same s5
          have frd' : Fresh H (D :: ds) := frd.old (s13.trans s4)
          have lds := RowsL.len rd.row
          rw [List.length_drop] at lds
          -- below is new
          have dj : ∀ d ∈ D :: ds, d ∉ v :: vs := fun d h1 h2 => (rv3.same s4).live h2 (frd.no d h1)
          refine ⟨line3 (by decide), fun p hp => ?_⟩
          have s6 := Same.upd_new (o := HO.lst [V.int c]) hp
          rw [onL_of (s6 _ _ hb5), onL_of upd_same]
          refine ⟨line3 (by simp; omega), fun p1 hp1 => ⟨line3 (by decide), fun p2 hp2 => ?_⟩⟩
          have s7 := Same.upd_new (o := HO.lst (r.map V.int ++ [V.int c])) hp1
          have s8 := Same.upd_new (o := HO.lst [V.ref p1]) hp2
          have s68 := (s6.trans s7).trans s8
          rw [onL_of (s68 _ _ rv5.top), onL_of upd_same]
          refine ⟨line3 (by simp; omega), fun p3 hp3 => ?_⟩
          have s9 := Same.upd_new (o := HO.lst (vs.map V.ref ++ [V.ref p1])) hp3
          have s69 := s68.trans s9
          rw [onL_of upd_same, onL_of (s69 _ _ rd.top)]
          refine ⟨line3 (by simp; omega), fun p4 hp4 => ⟨line3 (by decide), fun p5 hp5 => ?_⟩⟩
          have s10 := Same.upd_new (o := HO.lst (vs.map V.ref ++ [V.ref p1] ++ ds.map V.ref)) hp4
          have s11 := Same.upd_new (o := HO.tup [V.ref p4, V.int (i : Int)]) hp5
          have h1' : upd (upd H4 p (HO.lst [V.int c])) p1 (HO.lst (r.map V.int ++ [V.int c])) p1 = some (HO.lst ((r ++ [c]).map V.int)) := by rw [upd_same]; simp
          have h1e := (((s8.trans s9).trans s10).trans s11) _ _ h1'
          have z1 : H4 p1 = none := s6.free hp1
          have z4 : H4 p4 = none := s69.free hp4
          have sA := (s69.trans s10).trans s11
          have n14 : p1 ≠ p4 := ne_of_none (((s8.trans s9)) _ _ h1') hp4
          have n54 : p4 ≠ p5 := (upd_none hp5).1.symm
          have p1v : p1 ∉ v :: vs := rv5.notin z1
          have p1d : p1 ∉ D :: ds := rd.notin z1
          have p4v : p4 ∉ v :: vs := rv5.notin z4
          have p4d : p4 ∉ D :: ds := rd.notin z4
          refine q p5 p4 (vs ++ [p1] ++ ds) _ (s15.trans sA) (s15.free ((s69.trans s10).free hp5)) (by rw [upd_same, eL']) ?_ ?_
          · rw [eL']
            refine ⟨?_, ?_⟩
            · rw [upd_ne n54, upd_same]; simp
            · have r1 := RowsL.app (RowsL.snoc (RowsL.same rv5.row sA) h1e) (RowsL.same rd.row sA)
              have e3 : dn ++ [r ++ [c]] ++ xss.drop (i + 1) = dn ++ (r ++ [c]) :: xss.drop (i + 1) := by simp
              rw [e3] at r1
              exact r1
          · have f1 : Fresh H (vs ++ [p1]) := Fresh.snoc (fr.sub (List.sublist_cons_self _ _)) (s15.free z1) fun z => p1v (List.mem_cons_of_mem _ z)
            have f2 : Fresh H ((vs ++ [p1]) ++ ds) := Fresh.append f1 (frd'.sub (List.sublist_cons_self _ _)) fun d h1 h2 => by
              rcases List.mem_append.mp h1 with h1 | h1
              · exact dj d (List.mem_cons_of_mem _ h2) (List.mem_cons_of_mem _ h1)
              · have : d = p1 := by simpa using h1
                exact p1d (this ▸ List.mem_cons_of_mem _ h2)
            refine Fresh.cons f2 (s15.free z4) fun hm => ?_
            rcases List.mem_append.mp hm with hm | hm
            · rcases List.mem_append.mp hm with hm | hm
              · exact p4v (List.mem_cons_of_mem _ hm)
              · have : p4 = p1 := by simpa using hm
                exact n14 this.symm
            · exact p4d (List.mem_cons_of_mem _ hm)
        · rw [if_neg (by omega), onL_of rv3.top]
          have eL' : layP xss n = (dn ++ (r.take (RS.lt r c).length ++ [c] ++ r.drop ((RS.lt r c).length + 1)) :: (layP (xss.drop (i + 1)) (r.getD (RS.lt r c).length 0)).1, i + ((layP (xss.drop (i + 1)) (r.getD (RS.lt r c).length 0)).2 + 1)) := by rw [eL, layP, if_neg hlast]
          refine ⟨b, r, (RS.lt r c).length, c, rfl, hb3, by omega, ltl, fun p H4 s4 hp h4 => ?_⟩
          have rv4 := rv3.same s4
          have hb4 := s4 _ _ hb3
          have ex : r[(RS.lt r c).length]? = some (r.getD (RS.lt r c).length 0) := by
            have : (RS.lt r c).length < r.length := by omega
            rw [List.getD_eq_getElem?_getD, List.getElem?_eq_getElem this]; rfl
          have pv : p ∉ v :: vs := rv3.notin hp
          have vH := fr.no v List.mem_cons_self
          have bv : b ≠ v := fun z => by
            have := fr.no v List.mem_cons_self
            rw [← z, hb] at this; cases this
          simp [onL_of rv4.top]
          refine ⟨line100 (by omega), ?_⟩
          rw [onS_of (show upd H4 v _ b = _ by rw [upd_ne bv]; exact hb4), atI_int ex, rd_onO]
          refine ⟨_, dn ++ [r.take (RS.lt r c).length ++ [c] ++ r.drop ((RS.lt r c).length + 1)], vs ++ [p], _, _, _, rfl, (s13.trans s4).upd_in vH, ?_, Fresh.snoc fr (s13.free hp) pv, by simp [ld], ?_⟩
          · have pv' : p ≠ v := fun z => pv (by rw [z]; exact List.mem_cons_self)
            refine RowsAt.app (RowsL.mono rv4.row fun d hd o e => ?_) (by rw [upd_same]) (by rw [upd_ne pv']; exact h4)
            have dv : d ≠ v := fun z => (List.nodup_cons.mp fr.nd).1 (z ▸ hd)
            rw [upd_ne dv]; exact e
          · rw [eL']
            simp
            omega
    · rintro σ H1 ⟨c, dn, vs, o4, o5, o6, rfl, s1, rv, fr, ld, eL⟩
      rw [List.length_map, la, List.drop_length] at eL
      rw [List.length_map, la] at ld
      have eL' : layP xss n = (dn ++ [[c]], xss.length) := by rw [eL]; simp [layP]
      have lv := RowsL.len rv.row
      simp
      refine ⟨line3 (by decide), fun p hp => ⟨line3 (by decide), fun p1 hp1 => ?_⟩⟩
      have s3 : Same H1 (upd (upd H1 p (.lst [.int c])) p1 (.lst [.ref p])) := (Same.upd_new hp).trans (Same.upd_new hp1)
      rw [onL_of (s3 _ _ rv.top), onL_of upd_same]
      refine ⟨line3 (by simp; omega), fun p2 hp2 => ?_⟩
      have s4 := s3.trans (Same.upd_new (o := HO.lst (vs.map V.ref ++ [V.ref p])) hp2)
      rw [onS_of ((s1.trans s4) _ _ ha.top)]
      refine ⟨line3 (by decide), fun p3 hp3 => ?_⟩
      have s5 := s4.trans (Same.upd_new (o := HO.tup [V.ref p2, V.int ((as.map V.ref).length : Int)]) hp3)
      obtain ⟨n21, z2⟩ := upd_none hp2
      obtain ⟨n20, z2⟩ := upd_none z2
      obtain ⟨n10, z1⟩ := upd_none hp1
      obtain ⟨n32, z3⟩ := upd_none hp3
      obtain ⟨n31, z3⟩ := upd_none z3
      obtain ⟨n30, z3⟩ := upd_none z3
      refine q p3 p2 (vs ++ [p]) _ (s1.trans s5) (s1.free z3) (by rw [upd_same, eL', List.length_map, la]) ?_ ?_
      · rw [eL']
        refine RowsAt.app (RowsL.same rv.row s5) ?_ ?_
        · rw [upd_ne n32.symm, upd_same]
        · rw [upd_ne n30.symm, upd_ne n20.symm, upd_ne n10.symm, upd_same]; rfl
      · have pb := RowsL.notin rv.row hp
        have p2b := RowsL.notin rv.row z2
        refine Fresh.cons (Fresh.snoc (fr.sub (List.sublist_cons_self _ _)) (s1.free hp) pb) (s1.free z2) ?_
        intro hm
        rcases List.mem_append.mp hm with hm | hm
        · exact p2b hm
        · exact n20 (by simpa using hm)
end
end SR

namespace SR
open PySem L2 RS PySem.Spec PyProof.Rows
section
variable {P : Program} {w : World} {K : PySem.W.Frag} {mg : Str → Option Value} {base : Heap}
/-! ### put_at_end -/
abbrev s_put_at_end : Stmt := top 9
theorem sc_put_at_end : FnScope ["rows", "at", "number"] ["rows", "at", "number"] (defScope s_put_at_end) := ⟨rfl, rfl, rfl, by decide +kernel, rfl, by decide +kernel, by decide +kernel⟩

def spPut : Sp := fun vs H Q _ => ∃ (g : Addr) (gs : List Addr) (sec : List (List Int)) (t : Nat) (k : Int), vs = [.ref g, .int (t : Int), .int k] ∧ RowsAt H g gs sec ∧ (g :: gs).Nodup ∧ t ≤ sec.length ∧ sec.length ≤ 4000 ∧ (∀ r ∈ sec, r.length ≤ 4000) ∧
  ∀ gs' H', RowsAt H' g gs' (grow sec t k) → (∀ b o, b ∉ g :: gs → H b = some o → H' b = some o) → (gs' = gs ∨ ∃ p, gs' = gs ++ [p] ∧ H p = none) → Q .non H'
theorem ok_put {f : Addr} {fd : FuncData} (F : Fun K "put_at_end" "put_at_end" s_put_at_end f fd) (T : Bl mg) : FnOk P w K mg base CX0 1 f fd ["rows", "at", "number"] spPut := by
  refine F.ok sc_put_at_end (fun vs H Q E h => ?_) (fun cdv A outer s H vs Q E hr h => ?_)
  · obtain ⟨g, gs, sec, t, k, rfl, _⟩ := h; rfl
  · obtain ⟨g, gs, sec, t, k, rfl, hg, nd, ht, hz, hz2, q⟩ := h
    refine ⟨_, (pss_cons (ps_if (pt_cmpR (f_eqF (hu64 hr)) (pv 1) (pe_callB f_len (by rfl) T.len BI.len (pa_cons (pv 0) pa_nil)) (nomark _)) (pss_one (ps_expr (pe_ml PySem.F.slot_list_append PySem.F.type_list_append f_append (pv 0) (pa_cons (pe_lst pa_nil) pa_nil)))) pss_nil)
      (pss_one (ps_expr (pe_ml PySem.F.slot_list_append PySem.F.type_list_append f_append (pe_ix f_ix (pv 0) (pv 1) (fun _ _ => rfl)) (pa_cons (pv 2) pa_nil))))), ?_⟩
    have e0 : start ["rows", "at", "number"] [V.ref g, V.int (t : Int), V.int k] = [some (.ref g), some (.int (t : Int)), some (.int k)] := rfl
    rw [e0]
    have lg := RowsL.len hg.row
    simp [onS_of hg.top, onL_of hg.top]
    by_cases hlast : t = gs.length
    · rw [if_pos (by omega)]
      intro p hp
      have hgp := (Same.upd_new (o := HO.lst []) hp) _ _ hg.top
      have pg : p ≠ g := (ne_of_none hg.top hp).symm
      have pgs : p ∉ g :: gs := hg.notin hp
      rw [onL_of hgp]
      refine ⟨line100 (by rw [List.length_map]; omega), ?_⟩
      have hp3 : upd (upd H p (.lst [])) g (.lst (gs.map V.ref ++ [V.ref p])) p = some (.lst []) := by rw [upd_ne pg, upd_same]
      have e3 : atI (gs.map V.ref ++ [V.ref p]) (t : Int) = some (.ref p) := by
        have : gs.map V.ref ++ [V.ref p] = (gs ++ [p]).map V.ref := by simp
        rw [this]
        exact atI_ref (by rw [hlast]; simp)
      rw [onS_of upd_same, e3, rd_onO, onL_of hp3, onL_of hp3]
      refine ⟨line100 (by simp), q (gs ++ [p]) _ ?_ (fun b o hb e => ?_) (.inr ⟨p, rfl, hp⟩)⟩
      · unfold grow
        rw [if_pos (by omega)]
        refine RowsAt.app (RowsL.mono hg.row fun c hc o e => ?_) ?_ ?_
        · have cg : c ≠ g := fun z => (List.nodup_cons.mp nd).1 (z ▸ hc)
          have cp : c ≠ p := fun z => pgs (List.mem_cons_of_mem _ (z ▸ hc))
          rw [upd_ne cp, upd_ne cg, upd_ne cp]; exact e
        · rw [upd_ne pg.symm, upd_same]
        · rw [upd_same]; rfl
      · have bp : b ≠ p := ne_of_none e hp
        have bg : b ≠ g := fun z => hb (by rw [z]; exact List.mem_cons_self)
        rw [upd_ne bp, upd_ne bg, upd_ne bp]; exact e
    · rw [if_neg (by omega)]
      have hlt : t < gs.length := by omega
      have eg : gs[t]? = some gs[t] := List.getElem?_eq_getElem hlt
      obtain ⟨ys, ey, hy⟩ := RowsL.get' hg.row eg
      have hm : gs[t] ∈ gs := List.getElem_mem hlt
      have lys := hz2 ys (List.mem_of_getElem? ey)
      rw [atI_ref eg, rd_onO, onL_of hy, onL_of hy]
      have e1' : ys.map V.int ++ [V.int k] = (ys ++ [k]).map V.int := by simp
      refine ⟨line100 (by rw [List.length_map]; omega), q gs _ ?_ (fun b o hb e => ?_) (.inl rfl)⟩
      · unfold grow
        rw [if_neg (by omega), List.getD_eq_getElem?_getD, ey, e1']
        exact RowsAt.set hg eg nd
      · have bg : b ≠ gs[t] := fun z => hb (by rw [z]; exact List.mem_cons_of_mem _ hm)
        rw [upd_ne bg]; exact e
/-! ### laid -/
abbrev s_laid : Stmt := top 8
theorem sc_laid : FnScope ["row", "first", "second", "count", "number", "grown"] ["row"] (defScope s_laid) := ⟨rfl, rfl, rfl, by decide +kernel, rfl, by decide +kernel, by decide +kernel⟩

def spLaidP : Sp := fun vs H Q _ => ∃ (a : Addr) (row : List Int), vs = [.ref a] ∧ H a = some (.lst (row.map V.int)) ∧ row.length ≤ 1000 ∧
  ∀ r f fs g gs H', Same H H' → H r = none → H' r = some (.tup [.ref f, .ref g]) → RowsAt H' f fs (laidP row).1 → RowsAt H' g gs (laidP row).2 → Fresh H ((f :: fs) ++ (g :: gs)) → Q (.ref r) H'
def LaidPIn (H : Hp) (a : Addr) (row : List Int) (i : Nat) (σ : L2.St) (H' : Hp) : Prop := ∃ (f g : Addr) (fs gs : List Addr) (o3 o4 o5 : Option V),
  σ = [some (.ref a), some (.ref f), some (.ref g), o3, o4, o5] ∧ Same H H' ∧ RowsAt H' f fs (laidP (row.take i)).1 ∧ RowsAt H' g gs (laidP (row.take i)).2 ∧ Fresh H ((f :: fs) ++ (g :: gs))
theorem ok_laidP {f : Addr} {fd : FuncData} (F : Fun K "laid" "laid" s_laid f fd) (T : Bl mg) (C_lay_in : Cal P w K mg base 2 "lay_in" ["rows", "number"] spLayIn) (C_put_at_end : Cal P w K mg base 1 "put_at_end" ["rows", "at", "number"] spPut) : FnOk P w K mg base CX0 3 f fd ["row"] spLaidP := by
  refine F.ok sc_laid (fun vs H Q E h => ?_) (fun cdv A outer s H vs Q E hr h => ?_)
  · obtain ⟨a, row, rfl, _⟩ := h; rfl
  · obtain ⟨a, row, rfl, ha, hz, q⟩ := h
    refine ⟨_, (pss_cons (ps_set (i := 1) sc_laid.nd rfl (Or.inl rfl) (pe_lst pa_nil))
      (pss_cons (ps_set (i := 2) sc_laid.nd rfl (Or.inl rfl) (pe_lst pa_nil))
      (pss_cons (ps_for PassesOwn.never rfl (pi_enumK (by rfl) T.enumerate (pa_cons (pv 0) pa_nil)) (pg_tup rfl (pgs_cons (pg_name (i := 3) sc_laid.nd rfl (Or.inl rfl)) (pgs_cons (pg_name (i := 4) sc_laid.nd rfl (Or.inl rfl)) pgs_nil))) (pss_cons (ps_set (i := 5) sc_laid.nd rfl (Or.inl rfl) (pe_cl C_lay_in (hr.mono (by decide)) (by rfl) (pa_cons (pv 1) (pa_cons (pv 4) pa_nil))))
      (pss_cons (ps_set (i := 1) sc_laid.nd rfl (Or.inl rfl) (pe_ix f_ix (pv 5) pe_int (fun _ _ => rfl)))
      (pss_one (ps_expr (pe_cl C_put_at_end (hr.mono (by decide)) (by rfl) (pa_cons (pv 2) (pa_cons (pe_ix f_ix (pv 5) pe_int (fun _ _ => rfl)) (pa_cons (pv 3) pa_nil)))))))))
      (pss_one (ps_ret (pe_tup (pa_cons (pv 1) (pa_cons (pv 2) pa_nil)))))))), ?_⟩
    have e0 : start ["row", "first", "second", "count", "number", "grown"] [V.ref a] = [some (.ref a), none, none, none, none, none] := rfl
    rw [e0]
    simp
    intro p1 hp1 p2 hp2
    obtain ⟨n21, z2⟩ := upd_none hp2
    have sI : Same H (upd (upd H p1 (.lst [])) p2 (.lst [])) := (Same.upd_new hp1).trans (Same.upd_new hp2)
    refine for_enumF (K := K) 1 a (row.map V.int) (fun N h => by simp [onL_of (sI _ _ ha)]; exact h) (LaidPIn H a row) ⟨p1, p2, [], [], none, none, none, rfl, sI, ⟨by rw [upd_ne n21.symm, upd_same]; rfl, by simpa [laidP, laidPFrom] using Paired.nil⟩, ⟨by rw [upd_same]; rfl, by simpa [laidP, laidPFrom] using Paired.nil⟩, ⟨by simp [n21.symm], by simp [hp1, z2]⟩⟩ (fun i σ H' _ ⟨_, _, _, _, _, _, _, _, s1, _⟩ => s1 _ _ ha) ?_ ?_
    · rintro i x σ H1 t ev ⟨f, g, fs, gs, o3, o4, o5, rfl, s1, hf, hg, fr⟩ ht
      have hi : i < row.length := by have := (List.getElem?_eq_some_iff.mp ev).1; simpa using this
      have ei : row[i]? = some row[i] := List.getElem?_eq_getElem hi
      rw [map_get ei] at ev
      cases ev
      obtain ⟨z1, z2, z3, z4⟩ := laidP_size (row.take i)
      rw [List.length_take] at z2 z3 z4
      have ec : (1 : Int) + (i : Int) = (i : Int) + 1 := by omega
      rw [ec]
      refine tup2 upd_same ?_
      have st := Same.upd_new (o := HO.tup [V.int ((i : Int) + 1), V.int row[i]]) ht
      have s2 := s1.trans st
      have hf2 := hf.same st
      have hg2 := hg.same st
      generalize upd H1 t (HO.tup [V.int ((i : Int) + 1), V.int row[i]]) = H2 at *
      simp
      refine ⟨f, fs, _, _, rfl, hf2, by omega, fun r hr => by have := z3 r hr; omega, fun r b bs H3 s3 hr3 ht3 hb frb => ?_⟩
      have tn := take_next ei
      have eS := laidP_snoc (row.take i) row[i]
      rw [← tn] at eS
      have hlen : (row.take i).length = i := by rw [List.length_take]; omega
      rw [hlen] at eS
      obtain ⟨t1, t2⟩ := layP_at (laidP (row.take i)).1 row[i]
      generalize hq : layP (laidP (row.take i)).1 row[i] = L at *
      have e1 : atI [V.ref b, V.int (L.2 : Int)] 0 = some (.ref b) := atI_nat (j := 0) rfl
      have e2 : atI [V.ref b, V.int (L.2 : Int)] 1 = some (.int (L.2 : Int)) := atI_nat (j := 1) rfl
      have hg3 := hg2.same s3
      have frg : Fresh H (g :: gs) := fr.sub (List.sublist_append_right _ _)
      have dj : ∀ c ∈ b :: bs, c ∉ g :: gs := fun c h1 h2 => hg2.live h2 (frb.no c h1)
      have frb' : Fresh H (b :: bs) := frb.old s2
      have s13 := s2.trans s3
      simp [onS_ofT ht3, e1, e2]
      refine ⟨g, gs, _, L.2, _, rfl, hg3, frg.nd, by omega, by omega, fun r hr => by have := z4 r hr; omega, fun gs' H4 h4 k4 hgs => ?_⟩
      have hb4 : RowsAt H4 b bs L.1 := ⟨k4 _ _ (dj b List.mem_cons_self) hb.top, RowsL.mono hb.row fun c hc o e => k4 c o (dj c (List.mem_cons_of_mem _ hc)) e⟩
      have s14 : Same H H4 := fun c o e => k4 c o (fun z => by rw [frg.no c z] at e; cases e) (s13 c o e)
      refine ⟨b, g, bs, gs', _, _, _, rfl, s14, by rw [eS]; exact hb4, by rw [eS]; exact h4, ?_⟩
      rcases hgs with rfl | ⟨p, rfl, hp⟩
      · exact Fresh.append frb' frg dj
      · have pgs : p ∉ g :: gs := hg3.notin hp
        have pb : p ∉ b :: bs := hb.notin hp
        have frg' : Fresh H ((g :: gs) ++ [p]) := Fresh.snoc frg (s13.free hp) pgs
        refine Fresh.append frb' frg' fun c h1 h2 => ?_
        rcases List.mem_append.mp (show c ∈ (g :: gs) ++ [p] from h2) with h2 | h2
        · exact dj c h1 h2
        · have : c = p := by simpa using h2
          exact pb (this ▸ h1)
    · rintro σ H1 ⟨f, g, fs, gs, o3, o4, o5, rfl, s1, hf, hg, fr⟩
      simp
      rw [List.length_map, List.take_length] at hf hg
      exact ⟨line3 (by decide), fun p hp => q p f fs g gs _ (s1.trans (Same.upd_new hp)) (s1.free hp) upd_same (hf.same (Same.upd_new hp)) (hg.same (Same.upd_new hp)) fr⟩
end
end SR

namespace SR
open PySem L2 RS PySem.Spec PyProof.Rows
section
variable {P : Program} {w : World} {K : PySem.W.Frag} {mg : Str → Option Value} {base : Heap}
theorem rows_map {H : Hp} {α : Type} {as : List Addr} {xss : List (List Int)} (h : RowsL H as xss) (f : V → α) (g : List Int → α) (hf : ∀ b xs, b ∈ as → xs ∈ xss → H b = some (.lst (xs.map V.int)) → f (.ref b) = g xs) : (as.map V.ref).map f = xss.map g := by
  induction h with
  | nil => rfl
  | cons r t ih =>
    rw [List.map_cons, List.map_cons, List.map_cons, hf _ _ List.mem_cons_self List.mem_cons_self r, ih fun b xs hb hx => hf b xs (List.mem_cons_of_mem _ hb) (List.mem_cons_of_mem _ hx)]
theorem rows_filt {H : Hp} {as : List Addr} {xss : List (List Int)} (h : RowsL H as xss) (p : V → Bool) (q : List Int → Bool) (hp : ∀ b xs, H b = some (.lst (xs.map V.int)) → p (.ref b) = q xs) : ∃ bs, (as.map V.ref).filter p = bs.map V.ref ∧ RowsL H bs (xss.filter q) := by
  induction h with
  | nil => exact ⟨[], rfl, .nil⟩
  | @cons b xs as xss r t ih =>
    obtain ⟨bs, e, hb⟩ := ih
    rw [List.map_cons, List.filter_cons, List.filter_cons, hp b xs r]
    cases q xs with
    | true => exact ⟨b :: bs, by rw [if_pos rfl, e]; rfl, by rw [if_pos rfl]; exact .cons r hb⟩
    | false => exact ⟨bs, by rw [if_neg Bool.false_ne_true]; exact e, by rw [if_neg Bool.false_ne_true]; exact hb⟩
/-- the list at a value -/
def lstAt (H : Hp) (v : V) : List V := match v with | .ref b => (match H b with | some (.lst ys) => ys | _ => []) | _ => []
theorem lstAt_of {H : Hp} {b : Addr} {ys : List V} (h : H b = some (.lst ys)) : lstAt H (.ref b) = ys := by simp [lstAt, h]
theorem mem_row {H : Hp} {as : List Addr} {xss : List (List Int)} {v : V} (h : RowsL H as xss) (hv : v ∈ as.map V.ref) : ∃ b xs, v = .ref b ∧ b ∈ as ∧ xs ∈ xss ∧ H b = some (.lst (xs.map V.int)) := by
  obtain ⟨b, hb, rfl⟩ := List.mem_map.mp hv
  obtain ⟨i, hi⟩ := List.getElem?_of_mem hb
  obtain ⟨xs, ex, hx⟩ := RowsL.get' h hi
  exact ⟨b, xs, rfl, hb, List.mem_of_getElem? ex, hx⟩
end
end SR

namespace SR
open PySem L2 RS PySem.Spec PyProof.Rows
section
variable {P : Program} {w : World} {K : PySem.W.Frag} {mg : Str → Option Value} {base : Heap}
/-! ### shape -/
abbrev s_shape : Stmt := top 1
theorem sc_shape : FnScope ["rows"] ["rows"] (defScope s_shape) := ⟨rfl, rfl, rfl, by decide +kernel, rfl, by decide +kernel, by decide +kernel⟩

def spShape : Sp := fun vs H Q _ => ∃ (a : Addr) (as : List Addr) (xss : List (List Int)), vs = [.ref a] ∧ RowsAt H a as xss ∧ xss.length ≤ 5000 ∧
  ∀ r H', Same H H' → H r = none → H' r = some (.lst ((xss.map fun r => (r.length : Int)).map V.int)) → Q (.ref r) H'
/-- [len(row) for row in rows], wherever it stands -/
theorem comp_lens {K : PySem.W.Frag} {tl : TE} {cp : List Nat} {σ : L2.St} {H : Hp} {Q : VK} {a : Addr} {as : List Addr} {xss : List (List Int)} (hl : ∀ R : VK, R (.ref a) H → tl σ H R) (ha : RowsAt H a as xss) (hz : xss.length ≤ 5000)
    (hQ : ∀ D, H D = none → Q (.ref D) (upd H D (.lst ((xss.map fun r => (r.length : Int)).map V.int)))) : tComp (iL K tl) cp tNoTest (tCB rLen (tCons (tVar 0) tNil)) σ H Q := by
  have la := RowsL.len ha.row
  refine comp_listP hl ha.top (fun _ => true) (fun v => .int ((lstAt H v).length : Int)) (by rw [List.length_map]; omega) (fun v hv H' s R h => by simpa using h) (fun v hv _ H' s R h => ?_) (fun D hD => ?_)
  · obtain ⟨b, xs, rfl, hb, hx, e⟩ := mem_row ha.row hv
    simp [cst, onS_of (s _ _ e)]
    simpa [lstAt_of e] using h
  · have := hQ D hD
    rw [List.filter_eq_self.mpr (fun _ _ => rfl), rows_map ha.row _ (fun r => V.int (r.length : Int)) (fun b xs _ _ e => by rw [lstAt_of e, List.length_map])]
    simpa [Function.comp_def] using this
theorem ok_shape {f : Addr} {fd : FuncData} (F : Fun K "shape" "shape" s_shape f fd) (T : Bl mg) : FnOk P w K mg base CX0 1 f fd ["rows"] spShape := by
  refine F.ok sc_shape (fun vs H Q E h => ?_) (fun cdv A outer s H vs Q E hr h => ?_)
  · obtain ⟨a, as, xss, rfl, _⟩ := h; rfl
  · obtain ⟨a, as, xss, rfl, ha, hz, q⟩ := h
    refine ⟨_, (pss_one (ps_ret (pe_comp (cp := []) (M := ["row"]) rfl ⟨rfl, rfl, rfl, rfl, rfl, rfl, rfl⟩ (by decide +kernel) (pi_l (pv 0)) (fun _ _ _ _ _ => pts_nil) (fun _ _ _ _ _ => (pe_callB f_len (by rfl) T.len BI.len (pa_cons (pv 0) pa_nil)))))), ?_⟩
    have e0 : start ["rows"] [V.ref a] = [some (.ref a)] := rfl
    rw [e0]
    simp only [rd_ret]
    exact comp_lens (fun R h => by simpa using h) ha hz fun D hD => q D _ (Same.upd_new hD) hD upd_same
end
end SR

namespace SR
open PySem L2 RS PySem.Spec PyProof.Rows
section
variable {P : Program} {w : World} {K : PySem.W.Frag} {mg : Str → Option Value} {base : Heap}
/-! ### column -/
abbrev s_column : Stmt := top 3
theorem sc_column : FnScope ["rows", "place"] ["rows", "place"] (defScope s_column) := ⟨rfl, rfl, rfl, by decide +kernel, rfl, by decide +kernel, by decide +kernel⟩

def spColumn : Sp := fun vs H Q _ => ∃ (a : Addr) (as : List Addr) (xss : List (List Int)) (p : Nat), vs = [.ref a, .int (p : Int)] ∧ RowsAt H a as xss ∧ xss.length ≤ 5000 ∧
  ∀ r H', Same H H' → H r = none → H' r = some (.lst ((RS.column xss p).map V.int)) → Q (.ref r) H'
theorem ok_column {f : Addr} {fd : FuncData} (F : Fun K "column" "column" s_column f fd) (T : Bl mg) : FnOk P w K mg base CX0 1 f fd ["rows", "place"] spColumn := by
  refine F.ok sc_column (fun vs H Q E h => ?_) (fun cdv A outer s H vs Q E hr h => ?_)
  · obtain ⟨a, as, xss, p, rfl, _⟩ := h; rfl
  · obtain ⟨a, as, xss, p, rfl, ha, hz, q⟩ := h
    refine ⟨_, (pss_one (ps_ret (pe_comp (cp := [1]) (M := ["row", "place"]) rfl ⟨rfl, rfl, rfl, rfl, rfl, rfl, rfl⟩ (by decide +kernel) (pi_l (pv 0)) (fun _ _ _ _ _ => (pts_one (pt_cmpR f_lt (pv 1) (pe_callB f_len (by rfl) T.len BI.len (pa_cons (pv 0) pa_nil)) (nomark _)))) (fun _ _ _ _ _ => (pe_ix f_ix (pv 0) (pv 1) (fun _ _ => rfl)))))), ?_⟩
    have e0 : start ["rows", "place"] [V.ref a, V.int (p : Int)] = [some (.ref a), some (.int (p : Int))] := rfl
    rw [e0]
    simp only [rd_ret]
    have la := RowsL.len ha.row
    refine comp_listP (fun R h => by simpa using h) ha.top (fun v => decide (p < (lstAt H v).length)) (fun v => (lstAt H v).getD p .non) (by rw [List.length_map]; omega) (fun v hv H' s R h => ?_) (fun v hv hp H' s R h => ?_) (fun D hD => ?_)
    · obtain ⟨b, xs, rfl, hb, hx, e⟩ := mem_row ha.row hv
      simp [cst, onS_of (s _ _ e)]
      simpa [lstAt_of e] using h
    · obtain ⟨b, xs, rfl, hb, hx, e⟩ := mem_row ha.row hv
      rw [lstAt_of e, List.length_map] at hp
      have hp' := of_decide_eq_true hp
      have ex : xs[p]? = some xs[p] := List.getElem?_eq_getElem hp'
      simp [cst, onS_of (s _ _ e), atI_int ex]
      simpa [lstAt_of e, List.getD_eq_getElem?_getD, ex] using h
    · refine q D _ (Same.upd_new hD) hD ?_
      rw [upd_same]
      obtain ⟨bs, eb, hb⟩ := rows_filt ha.row (fun v => decide (p < (lstAt H v).length)) (fun r => decide (p < r.length)) (fun b xs e => by rw [lstAt_of e, List.length_map])
      rw [eb, rows_map hb _ (fun r => V.int (r.getD p 0)) (fun b xs _ hx e => by
        rw [lstAt_of e]
        have hp := of_decide_eq_true (List.mem_filter.mp hx).2
        simp [List.getD_eq_getElem?_getD, List.getElem?_eq_getElem hp])]
      unfold RS.column
      simp [Function.comp_def]
/-! ### turned -/
abbrev s_turned : Stmt := top 2
theorem sc_turned : FnScope ["rows", "width"] ["rows"] (defScope s_turned) := ⟨rfl, rfl, rfl, by decide +kernel, rfl, by decide +kernel, by decide +kernel⟩

def spTurned : Sp := fun vs H Q _ => ∃ (a : Addr) (as : List Addr) (xss : List (List Int)), vs = [.ref a] ∧ RowsAt H a as xss ∧ xss.length ≤ 5000 ∧ (∀ r ∈ xss, r.length ≤ 5000) ∧
  ∀ r rs H', Same H H' → RowsAt H' r rs (turnedP xss) → Fresh H (r :: rs) → Q (.ref r) H'
theorem ok_turned {f : Addr} {fd : FuncData} (F : Fun K "turned" "turned" s_turned f fd) (T : Bl mg) (C_column : Cal P w K mg base 1 "column" ["rows", "place"] spColumn) : FnOk P w K mg base CX0 2 f fd ["rows"] spTurned := by
  refine F.ok sc_turned (fun vs H Q E h => ?_) (fun cdv A outer s H vs Q E hr h => ?_)
  · obtain ⟨a, as, xss, rfl, _⟩ := h; rfl
  · obtain ⟨a, as, xss, rfl, ha, hz, hz2, q⟩ := h
    refine ⟨_, (pss_cons (ps_set (i := 1) sc_turned.nd rfl (Or.inl rfl) (pe_ifExp (pt_tru (pv 0) (fun _ => rfl)) (pe_callB f_len (by rfl) T.len BI.len (pa_cons (pe_ix f_ix (pv 0) pe_int (fun _ _ => rfl)) pa_nil)) pe_int))
      (pss_one (ps_ret (pe_comp (cp := [0]) (M := ["place", "rows"]) rfl ⟨rfl, rfl, rfl, rfl, rfl, rfl, rfl⟩ (by decide +kernel) (pi_range1 (by rfl) T.range (pa_cons (pv 1) pa_nil)) (fun _ _ _ _ _ => pts_nil) (fun _ _ _ _ _ => (pe_cl C_column (hr.mono (by decide)) (by rfl) (pa_cons (pv 1) (pa_cons (pv 0) pa_nil)))))))), ?_⟩
    have e0 : start ["rows", "width"] [V.ref a] = [some (.ref a), none] := rfl
    rw [e0]
    have la := RowsL.len ha.row
    have hw : width xss ≤ 5000 := by
      unfold width
      cases xss with
      | nil => simp
      | cons r rs => exact hz2 r List.mem_cons_self
    refine cut1 (fun σ H' => σ = [some (.ref a), some (.int (width xss : Int))] ∧ H' = H) (fun R' h => ?_) ?_
    · simp [onL_of ha.top, onS_of ha.top]
      cases xss with
      | nil =>
        have : as = [] := List.length_eq_zero_iff.mp la
        subst this
        simp
        exact h _ _ ⟨by simp [width], rfl⟩
      | cons r rs =>
        obtain ⟨b, eb, hb⟩ := RowsL.get (i := 0) ha.row rfl
        have hne : as ≠ [] := fun z => by rw [z] at eb; cases eb
        have eb' : atI (as.map V.ref) 0 = some (.ref b) := atI_nat (j := 0) (map_get eb)
        simp [hne, eb', onS_of hb]
        exact h _ _ ⟨by simp [width], rfl⟩
    · rintro σ H' ⟨rfl, rfl⟩
      simp only [rd_ret, rd_comp]
      simp only [rd_rng1, rd_cons, rd_nil, rd_var1, rd_var0, rd_onO, rd_on1, rd_onI]
      refine ⟨⟨by omega, by omega⟩, ?_⟩
      refine comp_rows yields_range (turnedP xss) (by simp [turnedP]) (by simp; omega) (fun i v g ev eg H1 s1 R k => ?_) (fun D bs H1 hD s1 ra fr => q D bs H1 s1 ra fr)
      have hi : i < width xss := by
        have := (List.getElem?_eq_some_iff.mp eg).1
        simpa [turnedP] using this
      have ev' : v = .int (i : Int) := by
        rw [List.getElem?_map, Int.toNat_natCast, List.getElem?_range hi] at ev
        simpa using ev.symm
      rw [turnedP_get, if_pos hi] at eg
      cases eg
      subst ev'
      simp [cst]
      exact ⟨a, as, xss, i, rfl, ha.same s1, hz, fun r H2 s2 hr h2 => k r H2 s2 hr h2⟩
end
end SR

namespace SR
open PySem L2 RS PySem.Spec PyProof.Rows
section
variable {P : Program} {w : World} {K : PySem.W.Frag} {mg : Str → Option Value} {base : Heap}
/-! ### sum_of_first -/
def natI (ls : List Nat) : List Int := ls.map fun (n : Nat) => (n : Int)
theorem natI_sum (ls : List Nat) : (natI ls).sum = ((ls.sum : Nat) : Int) := by
  unfold natI
  induction ls with
  | nil => rfl
  | cons n ls ih => rw [List.map_cons, List.sum_cons, ih, List.sum_cons]; omega
theorem natI_take (ls : List Nat) (k : Nat) : (natI ls).take k = natI (ls.take k) := by unfold natI; rw [List.map_take]
theorem natI_len (ls : List Nat) : (natI ls).length = ls.length := by simp [natI]
theorem sum_part (s : List Nat) (i : Nat) : (s.take (i + 1)).sum = (s.take i).sum + s.getD i 0 ∧ (s.take i).sum ≤ s.sum := by
  constructor
  · by_cases h : i < s.length
    · rw [List.take_succ_eq_append_getElem h, List.sum_append, List.getD_eq_getElem?_getD, List.getElem?_eq_getElem h]; simp
    · rw [List.take_of_length_le (by omega), List.take_of_length_le (by omega), List.getD_eq_getElem?_getD, List.getElem?_eq_none (by omega)]; simp
  · conv => rhs; rw [← List.take_append_drop i s, List.sum_append]
    omega
theorem natI_long {ls : List Nat} (h : ls.sum ≤ 100000) : ∀ j, j < (natI ls).length → InLong ((natI ls).getD j 0) ∧ InLong ((natI ls).take (j + 1)).sum := fun j hj => by
  obtain ⟨a, b⟩ := sum_part ls j
  obtain ⟨_, c⟩ := sum_part ls (j + 1)
  have e2 : (natI ls).getD j 0 = ((ls.getD j 0 : Nat) : Int) := by
    unfold natI
    rw [List.getD_eq_getElem?_getD, List.getElem?_map, List.getD_eq_getElem?_getD]
    cases ls[j]? <;> rfl
  rw [natI_take, natI_sum, e2]
  constructor <;> (unfold InLong; omega)
theorem cut_any {xs : List V} {m : Int} (h : 0 ≤ m) : cutV xs none (some m) = xs.take m.toNat := by
  obtain ⟨n, rfl⟩ : ∃ n : Nat, m = (n : Int) := ⟨m.toNat, by omega⟩
  unfold cutV
  have e1 : HT.sIx xs.length 0 none = 0 := rfl
  rw [e1, HT.sIx_nat, List.drop_zero, Nat.sub_zero, Int.toNat_natCast]
  by_cases h2 : n ≤ xs.length
  · rw [Nat.min_eq_left h2]
  · rw [Nat.min_eq_right (by omega), List.take_of_length_le (Nat.le_refl _), List.take_of_length_le (by omega)]
abbrev s_sum_of_first : Stmt := top 13
theorem sc_sum_of_first : FnScope ["lengths", "many"] ["lengths", "many"] (defScope s_sum_of_first) := ⟨rfl, rfl, rfl, by decide +kernel, rfl, by decide +kernel, by decide +kernel⟩

def spSumF : Sp := fun vs H Q _ => ∃ (a : Addr) (ls : List Nat) (m : Int), vs = [.ref a, .int m] ∧ H a = some (.lst ((natI ls).map V.int)) ∧ 0 ≤ m ∧ ls.sum ≤ 100000 ∧ ∀ H', Same H H' → Q (.int (((ls.take m.toNat).sum : Nat) : Int)) H'
theorem ok_sumF {f : Addr} {fd : FuncData} (F : Fun K "sum_of_first" "sum_of_first" s_sum_of_first f fd) (T : Bl mg) : FnOk P w K mg base CX0 1 f fd ["lengths", "many"] spSumF := by
  refine F.ok sc_sum_of_first (fun vs H Q E h => ?_) (fun cdv A outer s H vs Q E hr h => ?_)
  · obtain ⟨a, ls, m, rfl, _⟩ := h; rfl
  · obtain ⟨a, ls, m, rfl, ha, hm, hs, q⟩ := h
    refine ⟨_, (pss_one (ps_ret (pe_callB (f_sum rfl) (by rfl) T.sum BI.sum (pa_cons (pe_slice f_sl (pv 0) po_none (po_some (pe_callB (f_max rfl) (by rfl) T.max BI.max (pa_cons (pv 1) (pa_cons pe_int pa_nil))))) pa_nil)))), ?_⟩
    have e0 : start ["lengths", "many"] [V.ref a, V.int m] = [some (.ref a), some (.int m)] := rfl
    rw [e0]
    have e1 : (if m < 0 then (0 : Int) else m) = m := by rw [if_neg (by omega)]
    simp only [rd_ret, rd_cb, rd_cons, rd_nil, rd_sl, rd_nopart, rd_part, rd_var0, rd_var1, rd_onO, rd_max, rd_on2, rd_on1, rd_onI, rd_c, e1, rd_cut, onL_of ha, rd_new, rd_sum]
    intro p hp
    have e2 : cutV ((natI ls).map V.int) none (some m) = (natI (ls.take m.toNat)).map V.int := by rw [cut_any hm, ← List.map_take, natI_take]
    rw [e2, onL_of upd_same]
    have := (sum_part ls m.toNat).2
    refine ⟨_, rfl, natI_long (by omega), ?_⟩
    rw [natI_sum]
    exact q _ (Same.upd_new hp)
/-! ### most_rising, most_falling -/
theorem lens_natI (xss : List (List Int)) : (xss.map fun r => (r.length : Int)) = natI (lensN xss) := by simp [natI, lensN]
theorem laid_lensum {row : List Int} (nd : row.Nodup) : (lensN (laidL row).1).sum = row.length := by
  rw [← readL_len, places_flat, (laidL_stairs nd).2.length_eq]
theorem turn_lensum {row : List Int} (nd : row.Nodup) : (lensN (turnedP (laidL row).1)).sum = row.length := by
  rw [← laid_rev nd, laid_lensum ((List.reverse_perm _).nodup_iff.mpr nd), List.length_reverse]
abbrev s_most_rising : Stmt := top 11
theorem sc_most_rising : FnScope ["row", "many"] ["row", "many"] (defScope s_most_rising) := ⟨rfl, rfl, rfl, by decide +kernel, rfl, by decide +kernel, by decide +kernel⟩

def spMostR : Sp := fun vs H Q _ => ∃ (a : Addr) (row : List Int) (m : Int), vs = [.ref a, .int m] ∧ H a = some (.lst (row.map V.int)) ∧ row.length ≤ 1000 ∧ row.Nodup ∧ 0 ≤ m ∧ ∀ H', Same H H' → Q (.int ((((lensN (laidL row).1).take m.toNat).sum : Nat) : Int)) H'
theorem ok_mostR {f : Addr} {fd : FuncData} (F : Fun K "most_rising" "most_rising" s_most_rising f fd) (T : Bl mg) (C_sum_of_first : Cal P w K mg base 1 "sum_of_first" ["lengths", "many"] spSumF) (C_shape : Cal P w K mg base 1 "shape" ["rows"] spShape) (C_laid : Cal P w K mg base 3 "laid" ["row"] spLaidP) : FnOk P w K mg base CX0 4 f fd ["row", "many"] spMostR := by
  refine F.ok sc_most_rising (fun vs H Q E h => ?_) (fun cdv A outer s H vs Q E hr h => ?_)
  · obtain ⟨a, row, m, rfl, _⟩ := h; rfl
  · obtain ⟨a, row, m, rfl, ha, hz, nd, hm, q⟩ := h
    refine ⟨_, (pss_one (ps_ret (pe_cl C_sum_of_first (hr.mono (by decide)) (by rfl) (pa_cons (pe_cl C_shape (hr.mono (by decide)) (by rfl) (pa_cons (pe_ix f_ix (pe_cl C_laid (hr.mono (by decide)) (by rfl) (pa_cons (pv 0) pa_nil)) pe_int (fun _ _ => rfl)) pa_nil)) (pa_cons (pv 1) pa_nil))))), ?_⟩
    have e0 : start ["row", "many"] [V.ref a, V.int m] = [some (.ref a), some (.int m)] := rfl
    rw [e0]
    have sz := laid_size row
    simp
    refine ⟨a, row, rfl, ha, hz, fun r b bs g gs H1 s1 hr0 hr1 hb hg fr => ?_⟩
    have e1 : atI [V.ref b, V.ref g] 0 = some (.ref b) := atI_nat (j := 0) rfl
    simp only [rd_onI, onS_ofT hr1, e1, rd_onO]
    rw [laidP_same nd] at hb
    refine ⟨b, bs, _, rfl, hb, by omega, fun u H2 s2 hu0 hu => ?_⟩
    rw [lens_natI] at hu
    refine ⟨u, _, m, rfl, hu, hm, by rw [laid_lensum nd]; omega, fun H3 s3 => ?_⟩
    exact q H3 ((s1.trans s2).trans s3)
abbrev s_most_falling : Stmt := top 12
theorem sc_most_falling : FnScope ["row", "many"] ["row", "many"] (defScope s_most_falling) := ⟨rfl, rfl, rfl, by decide +kernel, rfl, by decide +kernel, by decide +kernel⟩

def spMostF : Sp := fun vs H Q _ => ∃ (a : Addr) (row : List Int) (m : Int), vs = [.ref a, .int m] ∧ H a = some (.lst (row.map V.int)) ∧ row.length ≤ 1000 ∧ row.Nodup ∧ 0 ≤ m ∧ ∀ H', Same H H' → Q (.int ((((lensN (turnedP (laidL row).1)).take m.toNat).sum : Nat) : Int)) H'
theorem ok_mostF {f : Addr} {fd : FuncData} (F : Fun K "most_falling" "most_falling" s_most_falling f fd) (T : Bl mg) (C_sum_of_first : Cal P w K mg base 1 "sum_of_first" ["lengths", "many"] spSumF) (C_shape : Cal P w K mg base 1 "shape" ["rows"] spShape) (C_turned : Cal P w K mg base 2 "turned" ["rows"] spTurned) (C_laid : Cal P w K mg base 3 "laid" ["row"] spLaidP) : FnOk P w K mg base CX0 4 f fd ["row", "many"] spMostF := by
  refine F.ok sc_most_falling (fun vs H Q E h => ?_) (fun cdv A outer s H vs Q E hr h => ?_)
  · obtain ⟨a, row, m, rfl, _⟩ := h; rfl
  · obtain ⟨a, row, m, rfl, ha, hz, nd, hm, q⟩ := h
    refine ⟨_, (pss_one (ps_ret (pe_cl C_sum_of_first (hr.mono (by decide)) (by rfl) (pa_cons (pe_cl C_shape (hr.mono (by decide)) (by rfl) (pa_cons (pe_cl C_turned (hr.mono (by decide)) (by rfl) (pa_cons (pe_ix f_ix (pe_cl C_laid (hr.mono (by decide)) (by rfl) (pa_cons (pv 0) pa_nil)) pe_int (fun _ _ => rfl)) pa_nil)) pa_nil)) (pa_cons (pv 1) pa_nil))))), ?_⟩
    have e0 : start ["row", "many"] [V.ref a, V.int m] = [some (.ref a), some (.int m)] := rfl
    rw [e0]
    have sz := laid_size row
    simp
    refine ⟨a, row, rfl, ha, hz, fun r b bs g gs H1 s1 hr0 hr1 hb hg fr => ?_⟩
    have e1 : atI [V.ref b, V.ref g] 0 = some (.ref b) := atI_nat (j := 0) rfl
    simp only [rd_onI, onS_ofT hr1, e1, rd_onO]
    rw [laidP_same nd] at hb
    refine ⟨b, bs, _, rfl, hb, by omega, fun r hr => by have := sz.2.2.1 r hr; omega, fun t ts H2 s2 ht ft => ?_⟩
    refine ⟨t, ts, _, rfl, ht, ?_, fun u H3 s3 hu0 hu => ?_⟩
    · have : (turnedP (laidL row).1).length = width (laidL row).1 := by simp [turnedP]
      rw [this]
      unfold width
      cases e : (laidL row).1 with
      | nil => simp
      | cons x xs =>
        have := sz.2.2.1 x (by rw [e]; exact List.mem_cons_self)
        simp; omega
    rw [lens_natI] at hu
    refine ⟨u, _, m, rfl, hu, hm, by rw [turn_lensum nd]; omega, fun H4 s4 => ?_⟩
    exact q H4 (((s1.trans s2).trans s3).trans s4)
/-! ### _law_longest -/
theorem list_range {α : Type} (l : List α) (d : α) : (List.range l.length).map (fun j => l.getD j d) = l := by
  apply List.ext_getElem?
  intro i
  rw [List.getElem?_map]
  by_cases h : i < l.length
  · rw [List.getElem?_range h, List.getElem?_eq_getElem h]; simp [List.getD_eq_getElem?_getD, List.getElem?_eq_getElem h]
  · rw [List.getElem?_eq_none (by simp; omega), List.getElem?_eq_none (by omega)]; rfl
theorem bestB_len (s : Int) (l : List Int) : (bestB s l).length = l.length := by
  have := congrArg List.length (bestB_fst s l)
  simpa using this
theorem ends_range (s x : Int) (acc : List (Int × Nat)) : endsB s x acc = ((List.range acc.length).filter (fun j => decide (s * (acc.getD j (0, 0)).1 < s * x))).map (fun j => (acc.getD j (0, 0)).2) := by
  unfold endsB
  conv => lhs; rw [← list_range acc (0, 0), List.filter_map, List.map_map]
  rfl
theorem mx_of {e : List Nat} {M : Int} (h : if natI e = [] then M = 0 else M ∈ natI e ∧ ∀ a ∈ natI e, a ≤ M) : M = (mxN e : Int) := by
  by_cases g : natI e = []
  · rw [if_pos g] at h
    have : e = [] := by simpa [natI] using g
    subst this
    simpa [mxN] using h
  · rw [if_neg g] at h
    have ne : e ≠ [] := fun z => g (by rw [z]; rfl)
    obtain ⟨n, hn, rfl⟩ := List.mem_map.mp h.1
    have a1 := h.2 (mxN e : Int) (List.mem_map.mpr ⟨_, mxN_in ne, rfl⟩)
    have a2 := mxN_le.mp (Nat.le_refl (mxN e)) n hn
    omega
abbrev s_law_longest : Stmt := top 19
theorem sc_law_longest : FnScope ["row", "sign", "best", "k", "ends"] ["row", "sign"] (defScope s_law_longest) := ⟨rfl, rfl, rfl, by decide +kernel, rfl, by decide +kernel, by decide +kernel⟩

def spLong : Sp := fun vs H Q _ => ∃ (a : Addr) (l : List Int) (s : Int), vs = [.ref a, .int s] ∧ H a = some (.lst (l.map V.int)) ∧ (s = 1 ∨ s = -1) ∧ l.length ≤ 1000 ∧ ∀ H', Same H H' → Q (.int (lngB s l : Int)) H'
def bstV (s : Int) (l : List Int) : List V := (natI ((bestB s l).map (·.2))).map V.int
theorem ok_long {f : Addr} {fd : FuncData} (F : Fun K "_law_longest" "_law_longest" s_law_longest f fd) (T : Bl mg) : FnOk P w K mg base CX0 1 f fd ["row", "sign"] spLong := by
  refine F.ok sc_law_longest (fun vs H Q E h => ?_) (fun cdv A outer s H vs Q E hr h => ?_)
  · obtain ⟨a, l, s, rfl, _⟩ := h; rfl
  · obtain ⟨a, l, s, rfl, ha, hs, hz, q⟩ := h
    refine ⟨_, (pss_cons (ps_set (i := 2) sc_law_longest.nd rfl (Or.inr rfl) (pe_lst pa_nil))
      (pss_cons (ps_for PassesOwn.never rfl (pi_range1 (by rfl) T.range (pa_cons (pe_callB f_len (by rfl) T.len BI.len (pa_cons (pv 0) pa_nil)) pa_nil)) (pg_name (i := 3) sc_law_longest.nd rfl (Or.inr rfl)) (pss_cons (ps_comp (i := 4) sc_law_longest.nd rfl rfl (cp := [1, 0, 3, 2]) (M := ["j", "sign", "row", "k", "best"]) rfl ⟨rfl, rfl, rfl, rfl, rfl, rfl, rfl⟩ (by decide +kernel) (pi_range1 (by rfl) T.range (pa_cons (pv 3) pa_nil)) (fun _ _ _ _ _ => (pts_one (pt_cmpR f_lt (pe_op f_mulF (pv 1) (pe_ix f_ix (pv 2) (pv 0) (fun _ _ => rfl))) (pe_op f_mulF (pv 1) (pe_ix f_ix (pv 2) (pv 3) (fun _ _ => rfl))) (nomark _)))) (fun _ _ _ _ _ => (pe_ix f_ix (pv 4) (pv 0) (fun _ _ => rfl))))
      (pss_one (ps_expr (pe_ml PySem.F.slot_list_append PySem.F.type_list_append f_append (pv 2) (pa_cons (pe_op f_add pe_int (pe_maxD rfl (by rfl) T.max (pa_cons (pv 4) pa_nil))) pa_nil))))))
      (pss_one (ps_ret (pe_maxD rfl (by rfl) T.max (pa_cons (pv 2) pa_nil)))))), ?_⟩
    have e0 : start ["row", "sign", "best", "k", "ends"] [V.ref a, V.int s] = [some (.ref a), some (.int s), none, none, none] := rfl
    rw [e0]
    simp
    intro b hb
    have s0 := Same.upd_new (o := HO.lst []) hb
    have cm : ∀ x : Int, CMul s x := fun x => .inl (by rcases hs with rfl | rfl <;> decide)
    refine for_rangeF l.length (fun N h => by simp [onS_of (s0 _ _ ha)]; exact ⟨by omega, h⟩)
      (fun i σ H1 => (∃ o3 o4 : Option V, σ = [some (.ref a), some (.int s), some (.ref b), o3, o4]) ∧ Same H H1 ∧ H1 b = some (.lst (bstV s (l.take i)))) ⟨⟨none, none, rfl⟩, s0, by rw [upd_same]; rfl⟩ ?_ ?_
    · rintro i σ H1 hi ⟨⟨o3, o4, rfl⟩, s1, h1⟩
      have ei : l[i]? = some l[i] := List.getElem?_eq_getElem hi
      have tn := take_next ei
      have lt : (bestB s (l.take i)).length = i := by rw [bestB_len, List.length_take]; omega
      have ax : ∀ j : Nat, j < l.length → atI (l.map V.int) (j : Int) = some (.int (l.getD j 0)) := fun j hj => by
        rw [atI_nat (map_get (List.getElem?_eq_getElem hj)), List.getD_eq_getElem?_getD, List.getElem?_eq_getElem hj]; rfl
      have fst : ∀ j, j < i → ((bestB s (l.take i)).getD j (0, 0)).1 = l.getD j 0 := fun j hj => by
        have := congrArg (fun z => z[j]?) (bestB_fst s (l.take i))
        simp only [List.getElem?_map, List.getElem?_take, if_pos hj] at this
        rw [List.getD_eq_getElem?_getD, List.getD_eq_getElem?_getD, ← this]
        rw [List.getElem?_eq_getElem (by omega)]; rfl
      simp
      refine comp_rngP (n := i) (fun R h => by simpa using h) (by omega) (fun j => decide (s * l.getD j 0 < s * l[i])) (fun j => .int (((bestB s (l.take i)).getD j (0, 0)).2 : Int)) (fun j hj H2 s2 R h => ?_) (fun j hj _ H2 s2 R h => ?_) (fun D hD => ?_)
      · have a1 := ax j (by omega)
        have a2 := ax i hi
        rw [List.getD_eq_getElem?_getD, ei] at a2
        simp [cst, onS_of (s2 _ _ (s1 _ _ ha)), a1, a2]
        exact ⟨cm _, cm _, by simpa using h⟩
      · have a3 : atI (bstV s (l.take i)) (j : Int) = some (.int (((bestB s (l.take i)).getD j (0, 0)).2 : Int)) := by
          refine atI_nat ?_
          unfold bstV natI
          rw [List.map_map, List.map_map, List.getElem?_map, List.getD_eq_getElem?_getD, List.getElem?_eq_getElem (by omega)]; rfl
        simp [cst, onS_of (s2 _ _ h1), a3]
        exact h
      · have s2 := Same.upd_new (o := HO.lst (((List.range i).filter fun j => decide (s * l.getD j 0 < s * l[i])).map fun (j : Nat) => V.int (((bestB s (l.take i)).getD j (0, 0)).2 : Int))) hD
        have hD2 : upd H1 D (HO.lst (((List.range i).filter fun j => decide (s * l.getD j 0 < s * l[i])).map fun (j : Nat) => V.int (((bestB s (l.take i)).getD j (0, 0)).2 : Int))) D = some (HO.lst (((List.range i).filter fun j => decide (s * l.getD j 0 < s * l[i])).map fun (j : Nat) => V.int (((bestB s (l.take i)).getD j (0, 0)).2 : Int))) := upd_same
        generalize upd H1 D (HO.lst (((List.range i).filter fun j => decide (s * l.getD j 0 < s * l[i])).map fun (j : Nat) => V.int (((bestB s (l.take i)).getD j (0, 0)).2 : Int))) = H2 at *
        have eE : (((List.range i).filter fun j => decide (s * l.getD j 0 < s * l[i])).map fun (j : Nat) => V.int (((bestB s (l.take i)).getD j (0, 0)).2 : Int)) = (natI (endsB s l[i] (bestB s (l.take i)))).map V.int := by
          rw [ends_range, lt]
          unfold natI
          rw [List.map_map, List.map_map]
          have : ((List.range i).filter fun j => decide (s * l.getD j 0 < s * l[i])) = (List.range i).filter fun j => decide (s * ((bestB s (l.take i)).getD j (0, 0)).1 < s * l[i]) := by
            apply List.filter_congr
            intro j hj
            rw [fst j (List.mem_range.mp hj)]
          rw [this]; rfl
        rw [eE] at hD2
        have hb2 := s2 _ _ h1
        simp [onL_of hb2, onL_of hD2]
        refine ⟨_, rfl, fun M hM => ?_⟩
        have eM := mx_of hM
        subst eM
        have lb : (bstV s (l.take i)).length = i := by unfold bstV natI; simp [lt]
        refine ⟨line100 (by omega), (s1.trans s2).upd_in hb, ?_⟩
        rw [upd_same, tn]
        unfold bstV natI
        rw [bestB_snoc]
        simp
    · rintro σ H1 ⟨⟨o3, o4, rfl⟩, s1, h1⟩
      rw [List.take_length] at h1
      simp [onL_of h1]
      refine ⟨_, rfl, fun M hM => ?_⟩
      rw [mx_of hM]
      exact q H1 s1
/-! ### _law_most -/
theorem bit_of (i k : Nat) : Builtin.bitAnd ((i : Int) / 2 ^ k) 1 = ((i / 2 ^ k % 2 : Nat) : Int) := by
  have e : ((i : Int) / 2 ^ k) = ((i / 2 ^ k : Nat) : Int) := by
    rw [Int.natCast_ediv, Int.natCast_pow]; rfl
  rw [e]
  unfold Builtin.bitAnd
  have h1 : decide (0 ≤ ((i / 2 ^ k : Nat) : Int)) = true := decide_eq_true (Int.natCast_nonneg _)
  have h2 : decide ((0 : Int) ≤ 1) = true := by decide
  rw [h1, h2]
  show ((((i / 2 ^ k : Nat) : Int).toNat &&& (1 : Int).toNat : Nat) : Int) = _
  rw [Int.toNat_natCast, show (1 : Int).toNat = 1 from rfl, Nat.and_one_is_mod]
abbrev s_law_most : Stmt := top 20
theorem sc_law_most : FnScope ["row", "many", "sign", "found", "bits", "some"] ["row", "many", "sign"] (defScope s_law_most) := ⟨rfl, rfl, rfl, by decide +kernel, rfl, by decide +kernel, by decide +kernel⟩

def spMost : Sp := fun vs H Q _ => ∃ (a : Addr) (row : List Int) (m s : Int), vs = [.ref a, .int m, .int s] ∧ H a = some (.lst (row.map V.int)) ∧ (s = 1 ∨ s = -1) ∧ row.length ≤ 20 ∧ ∀ H', Same H H' → Q (.int (mostB (-s) row m (2 ^ row.length) : Int)) H'
theorem ok_most {f : Addr} {fd : FuncData} (F : Fun K "_law_most" "_law_most" s_law_most f fd) (T : Bl mg) (C_law_longest : Cal P w K mg base 1 "_law_longest" ["row", "sign"] spLong) : FnOk P w K mg base CX0 2 f fd ["row", "many", "sign"] spMost := by
  refine F.ok sc_law_most (fun vs H Q E h => ?_) (fun cdv A outer s H vs Q E hr h => ?_)
  · obtain ⟨a, row, m, s, rfl, _⟩ := h; rfl
  · obtain ⟨a, row, m, s, rfl, ha, hs, hz, q⟩ := h
    refine ⟨_, (pss_cons (ps_set (i := 3) sc_law_most.nd rfl (Or.inl rfl) pe_int)
      (pss_cons (ps_for PassesOwn.never rfl (pi_range1 (by rfl) T.range (pa_cons (pe_op f_shl pe_int (pe_callB f_len (by rfl) T.len BI.len (pa_cons (pv 0) pa_nil))) pa_nil)) (pg_name (i := 4) sc_law_most.nd rfl (Or.inr rfl)) (pss_cons (ps_comp (i := 5) sc_law_most.nd rfl rfl (cp := [4, 0]) (M := ["k", "bits", "row"]) rfl ⟨rfl, rfl, rfl, rfl, rfl, rfl, rfl⟩ (by decide +kernel) (pi_range1 (by rfl) T.range (pa_cons (pe_callB f_len (by rfl) T.len BI.len (pa_cons (pv 0) pa_nil)) pa_nil)) (fun _ _ _ _ _ => (pts_one (pt_cmpR (f_eqF (hu64 hr)) (pe_op f_andB (pe_op f_shr (pv 1) (pv 0)) pe_int) pe_int (nomark _)))) (fun _ _ _ _ _ => (pe_ix f_ix (pv 2) (pv 0) (fun _ _ => rfl))))
      (pss_one (ps_if (PW.pt (pw_and (pt_cmpR f_gt (pe_callB f_len (by rfl) T.len BI.len (pa_cons (pv 5) pa_nil)) (pv 3) (nomark _)) (pw_and1 (pt_cmpR f_le (pe_cl C_law_longest (hr.mono (by decide)) (by rfl) (pa_cons (pv 5) (pa_cons (pe_op f_sub pe_int (pv 2)) pa_nil))) (pv 1) (nomark _))))) (pss_one (ps_set (i := 3) sc_law_most.nd rfl (Or.inl rfl) (pe_callB f_len (by rfl) T.len BI.len (pa_cons (pv 5) pa_nil)))) pss_nil))))
      (pss_one (ps_ret (pv 3))))), ?_⟩
    have e0 : start ["row", "many", "sign", "found", "bits", "some"] [V.ref a, V.int m, V.int s] = [some (.ref a), some (.int m), some (.int s), none, none, none] := rfl
    rw [e0]
    have p20 : 2 ^ row.length ≤ 2 ^ 20 := Nat.pow_le_pow_right (by decide) hz
    have pI : (2 : Int) ^ row.length = ((2 ^ row.length : Nat) : Int) := by rw [Int.natCast_pow]; rfl
    have pb : (0 : Int) ≤ 2 ^ row.length ∧ (2 : Int) ^ row.length ≤ 1048576 := by
      rw [pI]
      generalize 2 ^ row.length = N at p20 ⊢
      omega
    have pT : ((2 : Int) ^ row.length).toNat = 2 ^ row.length := by rw [pI, Int.toNat_natCast]
    rw [rd_seq, rd_asg, rd_c, rd_name]
    dsimp only [List.set_cons_succ, List.set_cons_zero]
    rw [rd_seq]
    refine for_rangeF (2 ^ row.length) (fun N h => by
        simp [onS_of ha]
        refine ⟨⟨by omega, by omega, by decide⟩, ⟨by omega, by omega⟩, ?_⟩
        rw [pT]
        exact h)
      (fun i σ H1 => (∃ o4 o5 : Option V, σ = [some (.ref a), some (.int m), some (.int s), some (.int (mostB (-s) row m i : Int)), o4, o5]) ∧ Same H H1) ⟨⟨none, none, rfl⟩, fun _ _ e => e⟩ ?_ ?_
    · rintro i σ H1 hi ⟨⟨o4, o5, rfl⟩, s1⟩
      have ha1 := s1 _ _ ha
      simp only [rd_name, List.set_cons_succ, List.set_cons_zero]
      rw [rd_seq, rd_asg]
      refine comp_rngP (n := row.length) (fun R h => by simpa [onS_of ha1] using h) (by omega) (fun k => decide (i / 2 ^ k % 2 = 1)) (fun k => .int (row.getD k 0)) (fun k hk H2 s2 R h => ?_) (fun k hk _ H2 s2 R h => ?_) (fun D hD => ?_)
      · have ec : ((i : Int) / 2 ^ k % 2 = 1) ↔ i / 2 ^ k % 2 = 1 := by
          have e : ((i : Int) / 2 ^ k) = ((i / 2 ^ k : Nat) : Int) := by
            rw [Int.natCast_ediv, Int.natCast_pow]; rfl
          rw [e]; omega
        simp [cst, bit_of]
        rw [decide_eq_decide.mpr ec]
        exact h
      · have a1 : atI (row.map V.int) (k : Int) = some (.int (row.getD k 0)) := by
          rw [atI_nat (map_get (List.getElem?_eq_getElem hk)), List.getD_eq_getElem?_getD, List.getElem?_eq_getElem hk]; rfl
        simp [cst, onS_of (s2 _ _ ha1), a1]
        exact h
      · have eP : (((List.range row.length).filter fun k => decide (i / 2 ^ k % 2 = 1)).map fun (k : Nat) => V.int (row.getD k 0)) = (pick row i).map V.int := by
          rw [← pick_range, List.map_map]; rfl
        rw [eP]
        have s2 := Same.upd_new (o := HO.lst ((pick row i).map V.int)) hD
        have hD2 : upd H1 D (HO.lst ((pick row i).map V.int)) D = some (HO.lst ((pick row i).map V.int)) := upd_same
        generalize upd H1 D (HO.lst ((pick row i).map V.int)) = H2 at *
        have pl := (pick_sub row i).length_le
        rw [rd_name]
        dsimp only [List.set_cons_succ, List.set_cons_zero]
        refine ifS' (fun H3 => Same H2 H3) (decide (mostB (-s) row m i < (pick row i).length) && decide ((lngB (-s) (pick row i) : Int) ≤ m)) (fun R h => ?_) ?_
        · simp [onS_of hD2]
          by_cases g : mostB (-s) row m i < (pick row i).length
          · rw [if_pos g]
            refine ⟨D, pick row i, -s, by simp, hD2, by omega, by omega, fun H3 s3 => ?_⟩
            simp [g] at h
            simpa using h H3 s3
          · rw [if_neg g]
            have := h H2 (fun _ _ e => e)
            simpa [g] using this
        · intro H3 s3
          by_cases g : mostB (-s) row m i < (pick row i).length ∧ (lngB (-s) (pick row i) : Int) ≤ m
          · rw [if_pos (by simpa using g)]
            simp [onS_of (s3 _ _ hD2)]
            refine ⟨?_, (s1.trans s2).trans s3⟩
            rw [mostB, if_pos g]
          · rw [if_neg (by simpa using g)]
            simp
            refine ⟨?_, (s1.trans s2).trans s3⟩
            rw [mostB, if_neg g]
    · rintro σ H1 ⟨⟨o4, o5, rfl⟩, s1⟩
      have := q H1 s1
      simpa using this
/-! ### _law_sum -/
theorem top_sorted (ls : List Nat) (k : Nat) : ((sortZ (natI ls)).reverse.take k) = natI ((((sortZ (natI ls)).reverse.map Int.toNat)).take k) ∧ ((((sortZ (natI ls)).reverse.map Int.toNat)).take k).sum = topK ls k := by
  have pm := sortZ_perm (natI ls)
  have nn : ∀ x ∈ (sortZ (natI ls)).reverse, 0 ≤ x := fun x hx => by
    have := pm.mem_iff.mp (List.mem_reverse.mp hx)
    obtain ⟨n, _, rfl⟩ := List.mem_map.mp this
    omega
  constructor
  · rw [← natI_take]
    congr 1
    unfold natI
    rw [List.map_map]
    conv => lhs; rw [← List.map_id (sortZ _).reverse]
    apply List.map_congr_left
    intro x hx
    have := nn x hx
    simp; omega
  · have p2 : ((sortZ (natI ls)).reverse.map Int.toNat).Perm ls := by
      refine (((List.reverse_perm _).trans pm).map Int.toNat).trans ?_
      unfold natI
      rw [List.map_map]
      have : (Int.toNat ∘ fun (n : Nat) => (n : Int)) = id := by funext n; simp
      rw [this, List.map_id]
    rw [← topK_perm p2, topK_sorted]
    rw [List.pairwise_map, List.pairwise_reverse]
    exact (sortZ_le _).imp fun h => by omega
abbrev s_law_sum : Stmt := top 22
theorem sc_law_sum : FnScope ["lengths", "many"] ["lengths", "many"] (defScope s_law_sum) := ⟨rfl, rfl, rfl, by decide +kernel, rfl, by decide +kernel, by decide +kernel⟩

def spLSum : Sp := fun vs H Q _ => ∃ (a : Addr) (ls : List Nat) (m : Int), vs = [.ref a, .int m] ∧ H a = some (.lst ((natI ls).map V.int)) ∧ 0 ≤ m ∧ ls.sum ≤ 100000 ∧ ls.length < 64 ∧ ∀ H', Same H H' → Q (.int (topK ls m.toNat : Int)) H'
theorem topK_le_sum : ∀ (ls : List Nat) (k : Nat), topK ls k ≤ ls.sum
  | [], k => by simp [topK]
  | a :: l, 0 => by rw [topK_zero]; omega
  | a :: l, k + 1 => by
    have := topK_le_sum l (k + 1)
    have := topK_le_sum l k
    rw [topK_succ, List.sum_cons]; omega
theorem ok_lsum {f : Addr} {fd : FuncData} (F : Fun K "_law_sum" "_law_sum" s_law_sum f fd) (T : Bl mg) : FnOk P w K mg base CX0 1 f fd ["lengths", "many"] spLSum := by
  refine F.ok sc_law_sum (fun vs H Q E h => ?_) (fun cdv A outer s H vs Q E hr h => ?_)
  · obtain ⟨a, ls, m, rfl, _⟩ := h; rfl
  · obtain ⟨a, ls, m, rfl, ha, hm, hs, hl, q⟩ := h
    refine ⟨_, (pss_one (ps_ret (pe_callB (f_sum rfl) (by rfl) T.sum BI.sum (pa_cons (pe_slice f_sl (pe_rev (pe_callB f_sorted (by rfl) T.sorted BI.sorted (pa_cons (pv 0) pa_nil))) po_none (po_some (pv 1))) pa_nil)))), ?_⟩
    have e0 : start ["lengths", "many"] [V.ref a, V.int m] = [some (.ref a), some (.int m)] := rfl
    rw [e0]
    obtain ⟨t1, t2⟩ := top_sorted ls m.toNat
    have t3 := topK_le_sum ls m.toNat
    simp only [rd_ret, rd_cb, rd_cons, rd_nil, rd_sl, rd_nopart, rd_part, rd_var0, rd_var1, rd_onO, rd_on1, rd_onI, rd_c, rd_cut, rd_revF, rd_sorted, onL_of ha, rd_new, rd_sum]
    refine ⟨_, rfl, by rw [natI_len]; exact hl, fun p1 hp1 => ?_⟩
    rw [onL_of upd_same]
    intro p2 hp2
    rw [onL_of upd_same]
    intro p3 hp3
    rw [onL_of upd_same]
    have e2 : cutV ((sortZ (natI ls)).map V.int).reverse none (some m) = (natI ((((sortZ (natI ls)).reverse.map Int.toNat)).take m.toNat)).map V.int := by rw [cut_any hm, ← List.map_reverse, ← List.map_take, t1]
    refine ⟨_, e2, natI_long (by omega), ?_⟩
    rw [natI_sum, t2]
    exact q _ (((Same.upd_new hp1).trans (Same.upd_new hp2)).trans (Same.upd_new hp3))
/-! ### _law_stretches -/
def lsZ (ns : List Int) : List Nat := (List.range (drawnZ ns 20 6).toNat).map fun (k : Nat) => (1 + drawnZ ns (30 + (k : Int)) 8).toNat
def blkF : List Nat → Int → List (List Int)
  | [], _ => []
  | l :: ls, b => ((List.range l).map fun (k : Nat) => b - 20 + (k : Int)) :: blkF ls (b - 20)
theorem blkF_snoc : ∀ (ls : List Nat) (l : Nat) (b : Int), blkF (ls ++ [l]) b = blkF ls b ++ [(List.range l).map fun (k : Nat) => b - 20 * ((ls.length : Int) + 1) + (k : Int)]
  | [], l, b => by simp [blkF]
  | x :: ls, l, b => by
    rw [List.cons_append, blkF, blkF_snoc ls l (b - 20), blkF, List.cons_append]
    congr 3
    apply List.map_congr_left
    intro k _
    simp; omega
theorem blkF_lens : ∀ (ls : List Nat) (b : Int), lensN (blkF ls b) = ls
  | [], _ => rfl
  | l :: ls, b => by
    have := blkF_lens ls (b - 20)
    simp [blkF, lensN] at this ⊢
    exact this
theorem blkF_lt : ∀ (ls : List Nat) (b : Int), (∀ l ∈ ls, l ≤ 20) → ∀ B ∈ blkF ls b, ∀ x ∈ B, x < b
  | [], _, _, B, hB, _, _ => by simp [blkF] at hB
  | l :: ls, b, h, B, hB, x, hx => by
    have h0 := h l List.mem_cons_self
    rcases List.mem_cons.mp hB with e | e
    · subst e
      obtain ⟨k, hk, rfl⟩ := List.mem_map.mp hx
      have := List.mem_range.mp hk
      omega
    · have := blkF_lt ls (b - 20) (fun l hl => h l (List.mem_cons_of_mem _ hl)) B e x hx
      omega
theorem blkF_blk : ∀ (ls : List Nat) (b : Int), (∀ l ∈ ls, l ≤ 20) → Blk (blkF ls b)
  | [], _, _ => ⟨fun B hB => by simp [blkF] at hB, by simp [blkF]⟩
  | l :: ls, b, h => by
    have h' : ∀ l ∈ ls, l ≤ 20 := fun l hl => h l (List.mem_cons_of_mem _ hl)
    have ih := blkF_blk ls (b - 20) h'
    refine ⟨fun B hB => ?_, ?_⟩
    · rcases List.mem_cons.mp hB with e | e
      · subst e
        unfold Rise
        rw [List.pairwise_map]
        exact (List.pairwise_lt_range (n := l)).imp fun h => by omega
      · exact ih.rise B e
    · rw [blkF]
      refine List.pairwise_cons.mpr ⟨fun C hC x hx y hy => ?_, ih.fall⟩
      obtain ⟨k, _, rfl⟩ := List.mem_map.mp hx
      have := blkF_lt ls (b - 20) h' C hC y hy
      omega
theorem blk_nodup : ∀ {Bs : List (List Int)}, Blk Bs → Bs.flatten.Nodup
  | [], _ => by simp
  | B :: Bs, h => by
    rw [List.flatten_cons]
    refine List.nodup_append.mpr ⟨?_, blk_nodup h.tail, fun x hx y hy e => ?_⟩
    · exact (h.rise B List.mem_cons_self).imp fun h => by omega
    · have := h.head x hx y hy
      omega
theorem lsZ_len (ns : List Int) : (lsZ ns).length ≤ 5 := by
  have := drawn_hi ns 20 (m := 6) (by decide)
  simp [lsZ]; omega
theorem lsZ_mem {ns : List Int} {l : Nat} (h : l ∈ lsZ ns) : 1 ≤ l ∧ l ≤ 8 := by
  obtain ⟨k, _, rfl⟩ := List.mem_map.mp h
  have := drawn_lo ns (30 + (k : Int)) (m := 8) (by decide)
  have := drawn_hi ns (30 + (k : Int)) (m := 8) (by decide)
  omega
theorem flat_blk (ls : List Nat) (b : Int) : (blkF ls b).flatten.length = ls.sum := by
  rw [List.length_flatten]
  exact congrArg List.sum (blkF_lens ls b)
theorem sum_bound : ∀ {ls : List Nat} {B : Nat}, (∀ l ∈ ls, l ≤ B) → ls.sum ≤ ls.length * B
  | [], _, _ => by simp
  | l :: ls, B, h => by
    have := sum_bound fun x hx => h x (List.mem_cons_of_mem _ hx)
    have := h l List.mem_cons_self
    rw [List.sum_cons, List.length_cons, Nat.succ_mul]; omega
theorem lsZ_sum (ns : List Int) : (lsZ ns).sum ≤ 40 := by
  have := sum_bound (ls := lsZ ns) fun l hl => (lsZ_mem hl).2
  have := lsZ_len ns
  omega
abbrev s_law_stretches : Stmt := top 21
theorem sc_law_stretches : FnScope ["script", "lengths", "row", "base", "length"] ["script"] (defScope s_law_stretches) := ⟨rfl, rfl, rfl, by decide +kernel, rfl, by decide +kernel, by decide +kernel⟩

def spStr (K : PySem.W.Frag) : Sp := fun vs H Q _ => ∃ (a : Addr) (ns : List Int), vs = [.ref a] ∧ SqL K H a (ns.map V.int) ∧ ns.length ≤ 63 ∧
  ∀ r u v H', Same H H' → H r = none → H u = none → H v = none → H' r = some (.tup [.ref u, .ref v]) → H' u = some (.lst ((natI (lsZ ns)).map V.int)) → H' v = some (.lst ((blkF (lsZ ns) 1000).flatten.map V.int)) → Q (.ref r) H'
theorem ok_str {f : Addr} {fd : FuncData} (F : Fun K "_law_stretches" "_law_stretches" s_law_stretches f fd) (T : Bl mg) (C_law_drawn : Cal P w K mg base 1 "_law_drawn" ["script", "k", "many"] (spDrawn K)) : FnOk P w K mg base CX0 2 f fd ["script"] (spStr K) := by
  refine F.ok sc_law_stretches (fun vs H Q E h => ?_) (fun cdv A outer s H vs Q E hr h => ?_)
  · obtain ⟨a, ns, rfl, _⟩ := h; rfl
  · obtain ⟨a, ns, rfl, hS, hl, q⟩ := h
    refine ⟨_, (pss_cons (ps_comp (i := 1) sc_law_stretches.nd rfl rfl (cp := [0]) (M := ["k", "script"]) rfl ⟨rfl, rfl, rfl, rfl, rfl, rfl, rfl⟩ (by decide +kernel) (pi_range1 (by rfl) T.range (pa_cons (pe_cl C_law_drawn (hr.mono (by decide)) (by rfl) (pa_cons (pv 0) (pa_cons pe_int (pa_cons pe_int pa_nil)))) pa_nil)) (fun _ _ _ _ _ => pts_nil) (fun _ _ _ _ _ => (pe_op f_add pe_int (pe_cl C_law_drawn (hr.mono (by decide)) (by rfl) (pa_cons (pv 1) (pa_cons (pe_op f_add pe_int (pv 0)) (pa_cons pe_int pa_nil)))))))
      (pss_cons (ps_set (i := 2) sc_law_stretches.nd rfl (Or.inl rfl) (pe_lst pa_nil))
      (pss_cons (ps_set (i := 3) sc_law_stretches.nd rfl (Or.inr rfl) pe_int)
      (pss_cons (ps_for PassesOwn.never rfl (pi_l (pv 1)) (pg_name (i := 4) sc_law_stretches.nd rfl (Or.inl rfl)) (pss_cons (ps_set (i := 3) sc_law_stretches.nd rfl (Or.inr rfl) (pe_op f_sub (pv 3) pe_int))
      (pss_one (ps_set (i := 2) sc_law_stretches.nd rfl (Or.inl rfl) (pe_op f_add (pv 2) (pe_comp (cp := [3]) (M := ["k", "base"]) rfl ⟨rfl, rfl, rfl, rfl, rfl, rfl, rfl⟩ (by decide +kernel) (pi_range1 (by rfl) T.range (pa_cons (pv 4) pa_nil)) (fun _ _ _ _ _ => pts_nil) (fun _ _ _ _ _ => (pe_op f_add (pv 1) (pv 0)))))))))
      (pss_one (ps_ret (pe_tup (pa_cons (pv 1) (pa_cons (pv 2) pa_nil))))))))), ?_⟩
    have e0 : start ["script", "lengths", "row", "base", "length"] [V.ref a] = [some (.ref a), none, none, none, none] := rfl
    rw [e0]
    have d0 := drawn_lo ns 20 (m := 6) (by decide)
    have d1 := drawn_hi ns 20 (m := 6) (by decide)
    have eD : drawnZ ns 20 6 = ((drawnZ ns 20 6).toNat : Int) := by omega
    have ll := lsZ_len ns
    rw [rd_seq, rd_asg]
    refine comp_rngP (n := (drawnZ ns 20 6).toNat) (fun R h => ?_) (by omega) (fun _ => true) (fun k => .int (1 + drawnZ ns (30 + (k : Int)) 8)) (fun k hk H2 s2 R h => by simpa using h) (fun k hk _ H2 s2 R h => ?_) (fun D hD => ?_)
    · simp
      refine ⟨a, ns, 20, 6, rfl, hS, hl, by decide, by decide, by decide, ?_⟩
      rw [← eD] at h
      simpa using h
    · simp [cst]
      exact ⟨a, ns, _, 8, rfl, s2.seq hS, hl, by omega, by omega, by decide, h⟩
    · have eL : (((List.range (drawnZ ns 20 6).toNat).filter fun _ => true).map fun (k : Nat) => V.int (1 + drawnZ ns (30 + (k : Int)) 8)) = (natI (lsZ ns)).map V.int := by
        rw [List.filter_eq_self.mpr (fun _ _ => rfl)]
        unfold natI lsZ
        rw [List.map_map, List.map_map]
        apply List.map_congr_left
        intro k _
        have := drawn_lo ns (30 + (k : Int)) (m := 8) (by decide)
        simp; omega
      rw [eL]
      have s1 := Same.upd_new (o := HO.lst ((natI (lsZ ns)).map V.int)) hD
      have hD1 : upd H D (HO.lst ((natI (lsZ ns)).map V.int)) D = some (HO.lst ((natI (lsZ ns)).map V.int)) := upd_same
      generalize upd H D (HO.lst ((natI (lsZ ns)).map V.int)) = H1 at *
      simp
      intro p hp
      have s2 := Same.upd_new (o := HO.lst []) hp
      have pD : p ≠ D := fun z => by rw [z, hD1] at hp; cases hp
      refine for_listF (K := K) D ((natI (lsZ ns)).map V.int) (fun N h => by simp [onL_of (s2 _ _ hD1)]; exact h)
        (fun i σ H3 => ∃ (v : Addr) (o4 : Option V), σ = [some (.ref a), some (.ref D), some (.ref v), some (.int (1000 - 20 * (i : Int))), o4] ∧ Same H1 H3 ∧ H3 v = some (.lst ((blkF ((lsZ ns).take i) 1000).flatten.map V.int)) ∧ H1 v = none)
        ⟨p, none, rfl, s2, by rw [upd_same]; rfl, hp⟩ (fun i σ H' _ ⟨_, _, _, s3, _⟩ => s3 _ _ hD1) ?_ ?_
      · rintro i x σ H3 ev ⟨v, o4, rfl, s3, hv, hv1⟩
        have hi : i < (lsZ ns).length := by have := (List.getElem?_eq_some_iff.mp ev).1; simpa [natI] using this
        have ei : (lsZ ns)[i]? = some (lsZ ns)[i] := List.getElem?_eq_getElem hi
        unfold natI at ev
        rw [map_get (map_get ei)] at ev
        cases ev
        have tn := take_next ei
        have lm := lsZ_mem (List.mem_of_getElem? ei)
        have lt : ((lsZ ns).take i).length = i := by rw [List.length_take]; omega
        have bs := blkF_snoc ((lsZ ns).take i) (lsZ ns)[i] 1000
        rw [← tn, lt] at bs
        have fb : (blkF ((lsZ ns).take i) 1000).flatten.length ≤ 40 := by
          rw [flat_blk]
          exact Nat.le_trans (sum_part (lsZ ns) i).2 (lsZ_sum ns)
        generalize (lsZ ns)[i] = n at *
        simp only [rd_seq, rd_asg, rd_op, rd_var4, rd_var3, rd_var2, rd_var1, rd_var0, rd_onO, rd_c, rd_II, rd_onI, rd_name, List.set_cons_succ, List.set_cons_zero]
        refine comp_rngP (n := n) (fun R h => by simpa using h) (by omega) (fun _ => true) (fun k => .int (1000 - 20 * (i : Int) - 20 + (k : Int))) (fun k hk H2 s2 R h => by simpa using h) (fun k hk _ H2 s2 R h => ?_) (fun E hE => ?_)
        · simp [cst]
          exact h
        · rw [List.filter_eq_self.mpr (fun _ _ => rfl)]
          have s4 := Same.upd_new (o := HO.lst ((List.range n).map fun (k : Nat) => V.int (1000 - 20 * (i : Int) - 20 + (k : Int)))) hE
          have hE4 : upd H3 E (HO.lst ((List.range n).map fun (k : Nat) => V.int (1000 - 20 * (i : Int) - 20 + (k : Int)))) E = some (HO.lst ((List.range n).map fun (k : Nat) => V.int (1000 - 20 * (i : Int) - 20 + (k : Int)))) := upd_same
          generalize upd H3 E (HO.lst ((List.range n).map fun (k : Nat) => V.int (1000 - 20 * (i : Int) - 20 + (k : Int)))) = H4 at *
          rw [rd_plusL, onL_of (s4 _ _ hv), onL_of hE4]
          refine ⟨line3 (by rw [List.length_map, List.length_map, List.length_range]; omega), fun z hz => ?_⟩
          refine ⟨z, _, by rw [show (1000 - 20 * ((i + 1 : Nat) : Int)) = 1000 - 20 * (i : Int) - 20 by omega], (s3.trans s4).trans (Same.upd_new hz), ?_, (s3.trans s4).free hz⟩
          rw [upd_same, bs, List.flatten_append]
          simp
          intro k _
          omega
      · rintro σ H3 ⟨v, o4, rfl, s3, hv, hv1⟩
        have : ((natI (lsZ ns)).map V.int).length = (lsZ ns).length := by simp [natI]
        rw [this, List.take_length] at hv
        simp
        refine ⟨line3 (by decide), fun r hr => ?_⟩
        have s4 := Same.upd_new (o := HO.tup [.ref D, .ref v]) hr
        exact q r D v _ ((s1.trans s3).trans s4) ((s1.trans s3).free hr) hD (s1.free hv1) upd_same (s4 _ _ (s3 _ _ hD1)) (s4 _ _ hv)
end
end SR

namespace SR
open PySem L2 RS PySem.Spec PyProof.Rows
section
variable {P : Program} {w : World} {K : PySem.W.Frag} {mg : Str → Option Value} {base : Heap}
def spLaw (K : PySem.W.Frag) : Sp := fun vs H Q _ => ∃ (a : Addr) (ns : List Int), vs = [.ref a] ∧ SqL K H a (ns.map V.int) ∧ ns.length ≤ 63 ∧ ∀ H', Q (.bl true) H'
/-! ### the law -/
theorem drw {H : Hp} {a : Addr} {ns : List Int} {k m : Int} {Q : VK} {E : XK} (hS : SqL K H a (ns.map V.int)) (hl : ns.length ≤ 63) (hk0 : 0 ≤ k) (hk1 : k < 1000) (hm : 0 < m) (q : Q (.int (drawnZ ns k m)) H) : spDrawn K [.ref a, .int k, .int m] H Q E := ⟨a, ns, k, m, rfl, hS, hl, hk0, hk1, hm, q⟩
def pmZ (ns : List Int) : Nat → List Int
  | 0 => []
  | k + 1 => insAt (drawnZ ns (30 + (k : Int)) ((k : Int) + 1)).toNat (3 * (k : Int) - 7) (pmZ ns k)
theorem pmZ_perm (ns : List Int) : ∀ k, (pmZ ns k).Perm ((List.range k).map fun (i : Nat) => 3 * (i : Int) - 7)
  | 0 => by simp [pmZ]
  | k + 1 => by
    rw [List.range_succ, List.map_append]
    refine (insAt_perm _ _ _).trans ?_
    refine ((pmZ_perm ns k).cons _).trans ?_
    exact List.perm_append_comm (l₁ := [3 * (k : Int) - 7])
theorem pmZ_nodup (ns : List Int) (k : Nat) : (pmZ ns k).Nodup := by
  refine (pmZ_perm ns k).nodup_iff.mpr ?_
  unfold List.Nodup
  refine List.pairwise_map.mpr (List.Pairwise.imp (fun {a b} (h : a ≠ b) => ?_) List.nodup_range)
  intro z
  exact h (by omega)
theorem pmZ_len (ns : List Int) (k : Nat) : (pmZ ns k).length = k := by
  rw [(pmZ_perm ns k).length_eq]; simp
theorem pmZ_ins (ns : List Int) (k : Nat) : (pmZ ns (k + 1)).map V.int = ((pmZ ns k).map V.int).take (drawnZ ns (30 + (k : Int)) ((k : Int) + 1)).toNat ++ V.int (3 * (k : Int) - 7) :: ((pmZ ns k).map V.int).drop (drawnZ ns (30 + (k : Int)) ((k : Int) + 1)).toNat := by
  rw [pmZ]
  unfold insAt
  rw [List.map_append, List.map_cons, List.map_take, List.map_drop]
def Due (H : Hp) (a : Addr) (m : Int) (σ : L2.St) (H' : Hp) : Prop := ∃ (r d : Addr) (row : List Int) (u v : Nat) (o2 o4 o6 : Option V), σ = [some (.ref a), some (.int m), o2, some (.ref r), o4, some (.ref d), o6, none, none] ∧ Same H H' ∧
  H' r = some (.lst (row.map V.int)) ∧ H' d = some (.lst ([(u : Int), (v : Int)].map V.int)) ∧ row.Nodup ∧ row.length ≤ 100 ∧ Gr m.toNat row u ∧ Gr m.toNat row.reverse v
abbrev s_law : Stmt := top 23
theorem sc_law : FnScope ["script", "many", "made", "row", "columns", "due", "k", "handed", "found"] ["script"] (defScope s_law) := ⟨rfl, rfl, rfl, by decide +kernel, rfl, by decide +kernel, by decide +kernel⟩

theorem ok_law {f : Addr} {fd : FuncData} (F : Fun K "law" "law" s_law f fd) (T : Bl mg)
    (C_law_drawn : Cal P w K mg base 1 "_law_drawn" ["script", "k", "many"] (spDrawn K)) (C_law_stretches : Cal P w K mg base 2 "_law_stretches" ["script"] (spStr K)) (C_law_sum : Cal P w K mg base 1 "_law_sum" ["lengths", "many"] spLSum)
    (C_law_most : Cal P w K mg base 2 "_law_most" ["row", "many", "sign"] spMost) (C_most_rising : Cal P w K mg base 4 "most_rising" ["row", "many"] spMostR) (C_most_falling : Cal P w K mg base 4 "most_falling" ["row", "many"] spMostF)
    (C_law_row : Cal P w K mg base 2 "_law_row" ["found", "due"] spRow) : FnOk P w K mg base CX0 8 f fd ["script"] (spLaw K) := by
  refine F.ok sc_law (fun vs H Q E h => ?_) (fun cdv A outer s H vs Q E hr h => ?_)
  · obtain ⟨a, ns, rfl, _⟩ := h; rfl
  · obtain ⟨a, ns, rfl, hS, hl, q⟩ := h
    refine ⟨_, (pss_cons (ps_set (i := 1) sc_law.nd rfl (Or.inl rfl) (pe_cl C_law_drawn (hr.mono (by decide)) (by rfl) (pa_cons (pv 0) (pa_cons pe_int (pa_cons pe_int pa_nil)))))
      (pss_cons (ps_if (pt_cmpR (f_eqF (hu64 hr)) (pe_cl C_law_drawn (hr.mono (by decide)) (by rfl) (pa_cons (pv 0) (pa_cons pe_int (pa_cons pe_int pa_nil)))) pe_int (nomark _)) (pss_one (ps_set (i := 1) sc_law.nd rfl (Or.inl rfl) (pe_cl C_law_drawn (hr.mono (by decide)) (by rfl) (pa_cons (pv 0) (pa_cons pe_int (pa_cons pe_int pa_nil)))))) pss_nil)
      (pss_cons (ps_if (pt_cmpR (f_eqF (hu64 hr)) (pe_cl C_law_drawn (hr.mono (by decide)) (by rfl) (pa_cons (pv 0) (pa_cons pe_int (pa_cons pe_int pa_nil)))) pe_int (nomark _)) (pss_cons (ps_set (i := 2) sc_law.nd rfl (Or.inr rfl) (pe_cl C_law_stretches (hr.mono (by decide)) (by rfl) (pa_cons (pv 0) pa_nil)))
      (pss_cons (ps_set (i := 3) sc_law.nd rfl (Or.inl rfl) (pe_ix f_ix (pv 2) pe_int (fun _ _ => rfl)))
      (pss_cons (ps_compC (i := 4) sc_law.nd rfl rfl (cp := [2]) (M := ["k", "made"]) rfl ⟨rfl, rfl, rfl, fun _ _ => rfl, fun _ => rfl, rfl, rfl, rfl, rfl⟩ (by decide +kernel) (pi_range1 (by rfl) T.range (pa_cons pe_int pa_nil)) (fun _ _ _ _ _ => pts_nil) (fun _ _ _ _ _ => (pe_callB f_len (by rfl) T.len BI.len (pa_cons (pe_comp (cp := [0]) (M := ["length", "k"]) rfl ⟨rfl, rfl, rfl, rfl, rfl, rfl, rfl⟩ (by decide +kernel) (pi_lK (K := K) rfl (pe_ix f_ix (pv 1) pe_int (fun _ _ => rfl))) (fun _ _ _ _ _ => (pts_one (pt_cmpR f_gt (pv 0) (pv 1) (nomark _)))) (fun _ _ _ _ _ => (pv 0))) pa_nil))))
      (pss_cons (ps_set (i := 5) sc_law.nd rfl (Or.inl rfl) (pe_lst (pa_cons (pe_cl C_law_sum (hr.mono (by decide)) (by rfl) (pa_cons (pe_ix f_ix (pv 2) pe_int (fun _ _ => rfl)) (pa_cons (pv 1) pa_nil))) (pa_cons (pe_cl C_law_sum (hr.mono (by decide)) (by rfl) (pa_cons (pv 4) (pa_cons (pv 1) pa_nil))) pa_nil))))
      (pss_one (ps_if (pt_cmpR (f_eqF (hu64 hr)) (pe_cl C_law_drawn (hr.mono (by decide)) (by rfl) (pa_cons (pv 0) (pa_cons pe_int (pa_cons pe_int pa_nil)))) pe_int (nomark _)) (pss_cons (ps_set (i := 3) sc_law.nd rfl (Or.inl rfl) (pe_rev (pv 3)))
      (pss_one (ps_set (i := 5) sc_law.nd rfl (Or.inl rfl) (pe_rev (pv 5))))) pss_nil)))))) (pss_cons (ps_set (i := 3) sc_law.nd rfl (Or.inl rfl) (pe_lst pa_nil))
      (pss_cons (ps_for PassesOwn.never rfl (pi_range1 (by rfl) T.range (pa_cons (pe_cl C_law_drawn (hr.mono (by decide)) (by rfl) (pa_cons (pv 0) (pa_cons pe_int (pa_cons pe_int pa_nil)))) pa_nil)) (pg_name (i := 6) sc_law.nd rfl (Or.inl rfl)) (pss_one (ps_expr (pe_ml PySem.F.slot_list_insert PySem.F.type_list_insert f_insert (pv 3) (pa_cons (pe_cl C_law_drawn (hr.mono (by decide)) (by rfl) (pa_cons (pv 0) (pa_cons (pe_op f_add pe_int (pv 6)) (pa_cons (pe_op f_add (pv 6) pe_int) pa_nil)))) (pa_cons (pe_op f_sub (pe_op f_mulF pe_int (pv 6)) pe_int) pa_nil))))))
      (pss_one (ps_set (i := 5) sc_law.nd rfl (Or.inl rfl) (pe_lst (pa_cons (pe_cl C_law_most (hr.mono (by decide)) (by rfl) (pa_cons (pv 3) (pa_cons (pv 1) (pa_cons pe_int pa_nil)))) (pa_cons (pe_cl C_law_most (hr.mono (by decide)) (by rfl) (pa_cons (pv 3) (pa_cons (pv 1) (pa_cons (pe_un f_neg pe_int) pa_nil)))) pa_nil))))))))
      (pss_cons (ps_set (i := 7) sc_law.nd rfl (Or.inl rfl) (pe_callTy f_list (by rfl) T.list BI.list (pa_cons (pv 3) pa_nil)))
      (pss_cons (ps_set (i := 8) sc_law.nd rfl (Or.inl rfl) (pe_lst (pa_cons (pe_cl C_most_rising (hr.mono (by decide)) (by rfl) (pa_cons (pv 7) (pa_cons (pv 1) pa_nil))) (pa_cons (pe_cl C_most_falling (hr.mono (by decide)) (by rfl) (pa_cons (pv 7) (pa_cons (pv 1) pa_nil))) pa_nil))))
      (pss_one (ps_ret (pe_and (pe_cl C_law_row (hr.mono (by decide)) (by rfl) (pa_cons (pv 8) (pa_cons (pv 5) pa_nil))) (pe_one (pe_cmpR (f_eqF (hu64 hr)) (pv 7) (pv 3) (nomark _))))))))))), ?_⟩
    have e0 : start ["script", "many", "made", "row", "columns", "due", "k", "handed", "found"] [V.ref a] = [some (.ref a), none, none, none, none, none, none, none, none] := rfl
    rw [e0]
    -- many
    refine cut2 (fun σ H1 => ∃ m : Int, 0 ≤ m ∧ m ≤ 40 ∧ σ = [some (.ref a), some (.int m), none, none, none, none, none, none, none] ∧ H1 = H) (fun R' h => ?_) ?_
    · simp
      have a1 := drawn_lo ns 1 (m := 9) (by decide)
      have a2 := drawn_hi ns 1 (m := 9) (by decide)
      have a3 := drawn_lo ns 3 (m := 41) (by decide)
      have a4 := drawn_hi ns 3 (m := 41) (by decide)
      refine drw hS hl (by decide) (by decide) (by decide) ?_
      refine drw hS hl (by decide) (by decide) (by decide) ?_
      simp
      by_cases h1 : drawnZ ns 2 4 = 1
      · rw [if_pos h1]
        refine drw hS hl (by decide) (by decide) (by decide) ?_
        exact h _ _ ⟨_, a3, by omega, rfl, rfl⟩
      · rw [if_neg h1]
        exact h _ _ ⟨_, a1, by omega, rfl, rfl⟩
    rintro σ H1 ⟨m, m0, m1, rfl, rfl⟩
    have em : ((m.toNat : Nat) : Int) = m := by omega
    -- the row and what is due
    refine cut1 (Due H1 a m) (fun R' h => ?_) ?_
    · rw [rd_seq]
      refine ifS (decide (drawnZ ns 4 3 = 1)) H1 (fun R h => by
        simp
        refine drw hS hl (by decide) (by decide) (by decide) ?_
        simpa using h) ?_
      by_cases h1 : drawnZ ns 4 3 = 1
      · rw [if_pos (by simpa using h1)]
        have lm : ∀ l ∈ lsZ ns, l ≤ 8 := fun l hl => (lsZ_mem hl).2
        have ll := lsZ_len ns
        have lsum := lsZ_sum ns
        have bk := blkF_blk (lsZ ns) 1000 (fun l hl => by have := lm l hl; omega)
        have bn := blk_nodup bk
        have g1 := blk_gr bk m.toNat
        have g2 := blk_rev bk m.toNat
        rw [blkF_lens] at g1 g2
        have fl := flat_blk (lsZ ns) 1000
        have csum : (colsN 8 (lsZ ns)).sum ≤ 40 := by
          have := colsN_take 8 8 (lsZ ns) lm
          rw [List.take_of_length_le (by simp [colsN])] at this
          rw [this]
          exact Nat.le_trans (sum_le _ _ (fun n => n) fun n _ => Nat.min_le_right _ _) (by simpa using lsum)
        have ec : topK (colsN 8 (lsZ ns)) m.toNat = ((lsZ ns).map fun n => min m.toNat n).sum := by
          rw [topK_sorted _ (colsN_fall _ _), colsN_take _ _ _ lm]
        generalize hrow : (blkF (lsZ ns) 1000).flatten = row at *
        refine cut2 (fun σ H2 => ∃ (t u v : Addr), σ = [some (.ref a), some (.int m), some (.ref t), some (.ref v), none, none, none, none, none] ∧ Same H1 H2 ∧ H2 t = some (.tup [.ref u, .ref v]) ∧ H2 u = some (.lst ((natI (lsZ ns)).map V.int)) ∧ H2 v = some (.lst (row.map V.int))) (fun R' h => ?_) ?_
        · simp
          refine ⟨a, ns, rfl, hS, hl, fun r u v H2 s2 _ _ _ hr hu hv => ?_⟩
          have a1 : atI [V.ref u, V.ref v] 1 = some (.ref v) := atI_nat (j := 1) rfl
          rw [hrow] at hv
          simp [onS_ofT hr, a1]
          exact h _ _ ⟨r, u, v, rfl, s2, hr, hu, hv⟩
        rintro σ H2 ⟨t, u, v, rfl, s2, ht, hu, hv⟩
        have a0 : atI [V.ref u, V.ref v] 0 = some (.ref u) := atI_nat (j := 0) rfl
        rw [rd_seq, rd_asg]
        refine comp_rngG (n := 8) (fun R h => by simpa using h) (by decide) (fun k => .int (((lsZ ns).countP (fun n => decide (k < n)) : Nat) : Int)) (fun k hk H3 s3 R h => ?_) (fun D H3 hD s3 hD3 => ?_)
        · simp [cst]
          refine comp_listP (a := u) (xs := (natI (lsZ ns)).map V.int) (fun R h => by simp [onS_ofT (s3 _ _ ht), a0]; exact h) (s3 _ _ hu) (fun x => match x with | .int n => decide ((k : Int) < n) | _ => false) (fun x => x) (by simp [natI]; omega) (fun x hx H4 s4 R h => ?_) (fun x hx _ H4 s4 R h => ?_) (fun D hD => ?_)
          · obtain ⟨n, hn, rfl⟩ := List.mem_map.mp hx
            simpa [cst] using h
          · simpa [cst] using h
          · rw [onS_of upd_same]
            have ecnt : ((((natI (lsZ ns)).map V.int).filter (fun x => match x with | .int n => decide ((k : Int) < n) | _ => false)).map fun x => x).length = (lsZ ns).countP (fun n => decide (k < n)) := by
              rw [List.length_map, ← List.countP_eq_length_filter]
              unfold natI
              rw [List.countP_map, List.countP_map]
              apply List.countP_congr
              intro n _
              simp
            rw [ecnt]
            exact h _ (Same.upd_new hD)
        · have eC : ((List.range 8).map fun (k : Nat) => V.int (((lsZ ns).countP (fun n => decide (k < n)) : Nat) : Int)) = (natI (colsN 8 (lsZ ns))).map V.int := by
            unfold natI colsN
            rw [List.map_map, List.map_map]; rfl
          rw [eC] at hD3
          have s13 := s2.trans s3
          simp [onS_ofT (s3 _ _ ht), a0]
          refine ⟨u, lsZ ns, m, rfl, s3 _ _ hu, m0, by omega, by omega, fun H4 s4 => ?_⟩
          simp
          refine ⟨D, colsN 8 (lsZ ns), m, rfl, s4 _ _ hD3, m0, by omega, by simp [colsN], fun H5 s5 => ?_⟩
          have s15 := (s13.trans s4).trans s5
          have s25 := (s3.trans s4).trans s5
          refine ⟨line3 (by decide), fun d hd => ?_⟩
          have s6 := Same.upd_new (o := HO.lst [V.int (topK (lsZ ns) m.toNat : Int), V.int (topK (colsN 8 (lsZ ns)) m.toNat : Int)]) hd
          have hd6 : upd H5 d (HO.lst [V.int (topK (lsZ ns) m.toNat : Int), V.int (topK (colsN 8 (lsZ ns)) m.toNat : Int)]) d = some (HO.lst [V.int (topK (lsZ ns) m.toNat : Int), V.int (topK (colsN 8 (lsZ ns)) m.toNat : Int)]) := upd_same
          generalize upd H5 d (HO.lst [V.int (topK (lsZ ns) m.toNat : Int), V.int (topK (colsN 8 (lsZ ns)) m.toNat : Int)]) = H6 at *
          have s16 := s15.trans s6
          have hv6 := s6 _ _ (s25 _ _ hv)
          rw [ec] at hd6
          refine drw (s16.seq hS) hl (by decide) (by decide) (by decide) ?_
          simp
          by_cases h2 : drawnZ ns 5 2 = 1
          · rw [if_pos h2]
            simp [onL_of hv6]
            intro p7 hp7
            have s7 := Same.upd_new (o := HO.lst (row.map V.int).reverse) hp7
            rw [onL_of (s7 _ _ hd6)]
            intro p8 hp8
            have s8 := Same.upd_new (o := HO.lst [V.int (topK (lsZ ns) m.toNat : Int), V.int (((lsZ ns).map fun n => min m.toNat n).sum : Int)].reverse) hp8
            refine h _ _ ⟨p7, p8, row.reverse, ((lsZ ns).map fun n => min m.toNat n).sum, topK (lsZ ns) m.toNat, _, _, _, rfl, (s16.trans s7).trans s8, ?_, ?_, (List.reverse_perm _).nodup_iff.mpr bn, by rw [List.length_reverse]; omega, g2, by rw [List.reverse_reverse]; exact g1⟩
            · rw [List.map_reverse]
              exact s8 _ _ upd_same
            · rw [upd_same]; rfl
          · rw [if_neg h2]
            exact h _ _ ⟨v, d, row, topK (lsZ ns) m.toNat, ((lsZ ns).map fun n => min m.toNat n).sum, _, _, _, rfl, s16, hv6, hd6, bn, by omega, g1, g2⟩
      · rw [if_neg (by simpa using h1)]
        have d0 := drawn_lo ns 6 (m := 8) (by decide)
        have d1 := drawn_hi ns 6 (m := 8) (by decide)
        simp
        intro p hp
        have s2 := Same.upd_new (o := HO.lst []) hp
        refine for_rangeF (drawnZ ns 6 8).toNat (fun N h => by
            simp
            refine drw (s2.seq hS) hl (by decide) (by decide) (by decide) ?_
            simp
            exact ⟨⟨by omega, by omega⟩, h⟩)
          (fun i σ H3 => (∃ o6 : Option V, σ = [some (.ref a), some (.int m), none, some (.ref p), none, none, o6, none, none]) ∧ Same H1 H3 ∧ H3 p = some (.lst ((pmZ ns i).map V.int))) ⟨⟨none, rfl⟩, s2, by rw [upd_same]; rfl⟩ ?_ ?_
        · rintro i σ H3 hi ⟨⟨o6, rfl⟩, s3, h3⟩
          have e0 := drawn_lo ns (30 + (i : Int)) (m := (i : Int) + 1) (by omega)
          have e1 := drawn_hi ns (30 + (i : Int)) (m := (i : Int) + 1) (by omega)
          have lo := pmZ_len ns i
          simp [onL_of h3]
          refine drw (s3.seq hS) hl (by omega) (by omega) (by omega) ?_
          simp [onL_of h3]
          refine ⟨.inl ⟨by decide, by decide⟩, ⟨e0, by omega, line100 (by omega)⟩, s3.upd_in hp, ?_⟩
          rw [upd_same, pmZ_ins]
        · rintro σ H3 ⟨⟨o6, rfl⟩, s3, h3⟩
          have nd := pmZ_nodup ns (drawnZ ns 6 8).toNat
          have lp := pmZ_len ns (drawnZ ns 6 8).toNat
          have g1 : Gr m.toNat (pmZ ns (drawnZ ns 6 8).toNat) (mostB (-1) (pmZ ns (drawnZ ns 6 8).toNat) m (2 ^ (pmZ ns (drawnZ ns 6 8).toNat).length)) := by
            have := most_rise (row := pmZ ns (drawnZ ns 6 8).toNat) (k := m.toNat)
            rwa [em] at this
          have g2 : Gr m.toNat (pmZ ns (drawnZ ns 6 8).toNat).reverse (mostB 1 (pmZ ns (drawnZ ns 6 8).toNat) m (2 ^ (pmZ ns (drawnZ ns 6 8).toNat).length)) := by
            have := most_fall (row := pmZ ns (drawnZ ns 6 8).toNat) (k := m.toNat)
            rwa [em] at this
          generalize pmZ ns (drawnZ ns 6 8).toNat = row at *
          simp
          refine ⟨p, row, m, 1, rfl, h3, .inl rfl, by omega, fun H4 s4 => ?_⟩
          simp
          refine ⟨p, row, m, -1, rfl, s4 _ _ h3, .inr rfl, by omega, fun H5 s5 => ?_⟩
          refine ⟨line3 (by decide), fun d hd => ?_⟩
          have s45 := (s4.trans s5).trans (Same.upd_new (o := HO.lst [V.int (mostB (-1) row m (2 ^ row.length) : Int), V.int (mostB 1 row m (2 ^ row.length) : Int)]) hd)
          exact h _ _ ⟨p, d, row, _, _, _, _, _, rfl, s3.trans s45, s45 _ _ h3, upd_same, nd, by omega, g1, g2⟩
    rintro σ H2 ⟨r, d, row, u, v, o2, o4, o6, rfl, s2, hr2, hd2, nd, lr, g1, g2⟩
    have eu := (greene nd m.toNat).uniq g1
    have ev := (greene_rev nd m.toNat).uniq g2
    simp [onS_of hr2]
    intro p hp
    have s3 := Same.upd_new (o := HO.lst (row.map V.int)) hp
    have hp3 : upd H2 p (HO.lst (row.map V.int)) p = some (HO.lst (row.map V.int)) := upd_same
    generalize upd H2 p (HO.lst (row.map V.int)) = H3 at *
    refine ⟨p, row, m, rfl, hp3, by omega, nd, m0, fun H4 s4 => ?_⟩
    rw [eu]
    refine ⟨p, row, m, rfl, s4 _ _ hp3, by omega, nd, m0, fun H5 s5 => ?_⟩
    rw [ev]
    have s35 := s4.trans s5
    refine ⟨line3 (by decide), fun t ht => ?_⟩
    have s6 := Same.upd_new (o := HO.lst [V.int (u : Int), V.int (v : Int)]) ht
    refine ⟨t, d, [(u : Int), (v : Int)], [(u : Int), (v : Int)], rfl, upd_same, s6 _ _ (s35 _ _ (s3 _ _ hd2)), by simp, ?_⟩
    simp
    refine eqF_ints (s6 _ _ (s35 _ _ hp3)) (s6 _ _ (s35 _ _ (s3 _ _ hr2))) ?_
    simpa using q _
end
end SR

namespace SR
open PySem L2 RS PySem.Spec PyProof.Rows
theorem all_mk {l : PySem.W.OpenLaw} {w : World} {K : PySem.W.Frag} {h : Heap} {mg : Str → Option Value} {fa f0 f1 f2 f3 f4 f5 f6 f7 f8 f9 f10 f11 f12 f13 f14 f15 f16 f17 f18 : Addr} (X : K.In h) (G : h.Ns mainGlobals mg) (hfa : mg "law" = some (.ref fa))
    {od0 an0 od1 an1 od2 an2 od3 an3 od4 an4 od5 an5 od6 an6 od7 an7 od8 an8 od9 an9 od10 an10 od11 an11 od12 an12 od13 an13 od14 an14 od15 an15 od16 an16 od17 an17 od18 an18 : Option Addr} {sl0 sl1 sl2 sl3 sl4 sl5 sl6 sl7 sl8 sl9 sl10 sl11 sl12 sl13 sl14 sl15 sl16 sl17 sl18 : Array (Option Value)} {oc0 kV0 dc0 pm0 cd0 ct0 oc1 kV1 dc1 pm1 cd1 ct1 oc2 kV2 dc2 pm2 cd2 ct2 oc3 kV3 dc3 pm3 cd3 ct3 oc4 kV4 dc4 pm4 cd4 ct4 oc5 kV5 dc5 pm5 cd5 ct5 oc6 kV6 dc6 pm6 cd6 ct6 oc7 kV7 dc7 pm7 cd7 ct7 oc8 kV8 dc8 pm8 cd8 ct8 oc9 kV9 dc9 pm9 cd9 ct9 oc10 kV10 dc10 pm10 cd10 ct10 oc11 kV11 dc11 pm11 cd11 ct11 oc12 kV12 dc12 pm12 cd12 ct12 oc13 kV13 dc13 pm13 cd13 ct13 oc14 kV14 dc14 pm14 cd14 ct14 oc15 kV15 dc15 pm15 cd15 ct15 oc16 kV16 dc16 pm16 cd16 ct16 oc17 kV17 dc17 pm17 cd17 ct17 oc18 kV18 dc18 pm18 cd18 ct18 : Value}
    (a0 : PySem.W.nsIn K mainGlobals "_law_drawn" = some (some (.ref f0))) (l0 : K.lookup f0 = some ⟨oc0, od0, .func (PySem.W.fnOf "_law_drawn" "_law_drawn" (defArgs s_law_drawn) (defBody s_law_drawn) (defScope s_law_drawn) .none kV0 dc0 pm0 an0 cd0 ct0), sl0⟩) (c0 : PySem.W.codeIn K cd0 "_law_drawn" = true) (k0 : PySem.W.keepIn K (.ref f0) = true)
    (a1 : PySem.W.nsIn K mainGlobals "_law_whole" = some (some (.ref f1))) (l1 : K.lookup f1 = some ⟨oc1, od1, .func (PySem.W.fnOf "_law_whole" "_law_whole" (defArgs s_law_whole) (defBody s_law_whole) (defScope s_law_whole) .none kV1 dc1 pm1 an1 cd1 ct1), sl1⟩) (c1 : PySem.W.codeIn K cd1 "_law_whole" = true) (k1 : PySem.W.keepIn K (.ref f1) = true)
    (a2 : PySem.W.nsIn K mainGlobals "_law_row" = some (some (.ref f2))) (l2 : K.lookup f2 = some ⟨oc2, od2, .func (PySem.W.fnOf "_law_row" "_law_row" (defArgs s_law_row) (defBody s_law_row) (defScope s_law_row) .none kV2 dc2 pm2 an2 cd2 ct2), sl2⟩) (c2 : PySem.W.codeIn K cd2 "_law_row" = true) (k2 : PySem.W.keepIn K (.ref f2) = true)
    (a3 : PySem.W.nsIn K mainGlobals "how_many_less" = some (some (.ref f3))) (l3 : K.lookup f3 = some ⟨oc3, od3, .func (PySem.W.fnOf "how_many_less" "how_many_less" (defArgs s_how_many_less) (defBody s_how_many_less) (defScope s_how_many_less) .none kV3 dc3 pm3 an3 cd3 ct3), sl3⟩) (c3 : PySem.W.codeIn K cd3 "how_many_less" = true) (k3 : PySem.W.keepIn K (.ref f3) = true)
    (a4 : PySem.W.nsIn K mainGlobals "with_number_at" = some (some (.ref f4))) (l4 : K.lookup f4 = some ⟨oc4, od4, .func (PySem.W.fnOf "with_number_at" "with_number_at" (defArgs s_with_number_at) (defBody s_with_number_at) (defScope s_with_number_at) .none kV4 dc4 pm4 an4 cd4 ct4), sl4⟩) (c4 : PySem.W.codeIn K cd4 "with_number_at" = true) (k4 : PySem.W.keepIn K (.ref f4) = true)
    (a5 : PySem.W.nsIn K mainGlobals "lay_in" = some (some (.ref f5))) (l5 : K.lookup f5 = some ⟨oc5, od5, .func (PySem.W.fnOf "lay_in" "lay_in" (defArgs s_lay_in) (defBody s_lay_in) (defScope s_lay_in) .none kV5 dc5 pm5 an5 cd5 ct5), sl5⟩) (c5 : PySem.W.codeIn K cd5 "lay_in" = true) (k5 : PySem.W.keepIn K (.ref f5) = true)
    (a6 : PySem.W.nsIn K mainGlobals "put_at_end" = some (some (.ref f6))) (l6 : K.lookup f6 = some ⟨oc6, od6, .func (PySem.W.fnOf "put_at_end" "put_at_end" (defArgs s_put_at_end) (defBody s_put_at_end) (defScope s_put_at_end) .none kV6 dc6 pm6 an6 cd6 ct6), sl6⟩) (c6 : PySem.W.codeIn K cd6 "put_at_end" = true) (k6 : PySem.W.keepIn K (.ref f6) = true)
    (a7 : PySem.W.nsIn K mainGlobals "laid" = some (some (.ref f7))) (l7 : K.lookup f7 = some ⟨oc7, od7, .func (PySem.W.fnOf "laid" "laid" (defArgs s_laid) (defBody s_laid) (defScope s_laid) .none kV7 dc7 pm7 an7 cd7 ct7), sl7⟩) (c7 : PySem.W.codeIn K cd7 "laid" = true) (k7 : PySem.W.keepIn K (.ref f7) = true)
    (a8 : PySem.W.nsIn K mainGlobals "shape" = some (some (.ref f8))) (l8 : K.lookup f8 = some ⟨oc8, od8, .func (PySem.W.fnOf "shape" "shape" (defArgs s_shape) (defBody s_shape) (defScope s_shape) .none kV8 dc8 pm8 an8 cd8 ct8), sl8⟩) (c8 : PySem.W.codeIn K cd8 "shape" = true) (k8 : PySem.W.keepIn K (.ref f8) = true)
    (a9 : PySem.W.nsIn K mainGlobals "column" = some (some (.ref f9))) (l9 : K.lookup f9 = some ⟨oc9, od9, .func (PySem.W.fnOf "column" "column" (defArgs s_column) (defBody s_column) (defScope s_column) .none kV9 dc9 pm9 an9 cd9 ct9), sl9⟩) (c9 : PySem.W.codeIn K cd9 "column" = true) (k9 : PySem.W.keepIn K (.ref f9) = true)
    (a10 : PySem.W.nsIn K mainGlobals "turned" = some (some (.ref f10))) (l10 : K.lookup f10 = some ⟨oc10, od10, .func (PySem.W.fnOf "turned" "turned" (defArgs s_turned) (defBody s_turned) (defScope s_turned) .none kV10 dc10 pm10 an10 cd10 ct10), sl10⟩) (c10 : PySem.W.codeIn K cd10 "turned" = true) (k10 : PySem.W.keepIn K (.ref f10) = true)
    (a11 : PySem.W.nsIn K mainGlobals "sum_of_first" = some (some (.ref f11))) (l11 : K.lookup f11 = some ⟨oc11, od11, .func (PySem.W.fnOf "sum_of_first" "sum_of_first" (defArgs s_sum_of_first) (defBody s_sum_of_first) (defScope s_sum_of_first) .none kV11 dc11 pm11 an11 cd11 ct11), sl11⟩) (c11 : PySem.W.codeIn K cd11 "sum_of_first" = true) (k11 : PySem.W.keepIn K (.ref f11) = true)
    (a12 : PySem.W.nsIn K mainGlobals "most_rising" = some (some (.ref f12))) (l12 : K.lookup f12 = some ⟨oc12, od12, .func (PySem.W.fnOf "most_rising" "most_rising" (defArgs s_most_rising) (defBody s_most_rising) (defScope s_most_rising) .none kV12 dc12 pm12 an12 cd12 ct12), sl12⟩) (c12 : PySem.W.codeIn K cd12 "most_rising" = true) (k12 : PySem.W.keepIn K (.ref f12) = true)
    (a13 : PySem.W.nsIn K mainGlobals "most_falling" = some (some (.ref f13))) (l13 : K.lookup f13 = some ⟨oc13, od13, .func (PySem.W.fnOf "most_falling" "most_falling" (defArgs s_most_falling) (defBody s_most_falling) (defScope s_most_falling) .none kV13 dc13 pm13 an13 cd13 ct13), sl13⟩) (c13 : PySem.W.codeIn K cd13 "most_falling" = true) (k13 : PySem.W.keepIn K (.ref f13) = true)
    (a14 : PySem.W.nsIn K mainGlobals "_law_longest" = some (some (.ref f14))) (l14 : K.lookup f14 = some ⟨oc14, od14, .func (PySem.W.fnOf "_law_longest" "_law_longest" (defArgs s_law_longest) (defBody s_law_longest) (defScope s_law_longest) .none kV14 dc14 pm14 an14 cd14 ct14), sl14⟩) (c14 : PySem.W.codeIn K cd14 "_law_longest" = true) (k14 : PySem.W.keepIn K (.ref f14) = true)
    (a15 : PySem.W.nsIn K mainGlobals "_law_most" = some (some (.ref f15))) (l15 : K.lookup f15 = some ⟨oc15, od15, .func (PySem.W.fnOf "_law_most" "_law_most" (defArgs s_law_most) (defBody s_law_most) (defScope s_law_most) .none kV15 dc15 pm15 an15 cd15 ct15), sl15⟩) (c15 : PySem.W.codeIn K cd15 "_law_most" = true) (k15 : PySem.W.keepIn K (.ref f15) = true)
    (a16 : PySem.W.nsIn K mainGlobals "_law_stretches" = some (some (.ref f16))) (l16 : K.lookup f16 = some ⟨oc16, od16, .func (PySem.W.fnOf "_law_stretches" "_law_stretches" (defArgs s_law_stretches) (defBody s_law_stretches) (defScope s_law_stretches) .none kV16 dc16 pm16 an16 cd16 ct16), sl16⟩) (c16 : PySem.W.codeIn K cd16 "_law_stretches" = true) (k16 : PySem.W.keepIn K (.ref f16) = true)
    (a17 : PySem.W.nsIn K mainGlobals "_law_sum" = some (some (.ref f17))) (l17 : K.lookup f17 = some ⟨oc17, od17, .func (PySem.W.fnOf "_law_sum" "_law_sum" (defArgs s_law_sum) (defBody s_law_sum) (defScope s_law_sum) .none kV17 dc17 pm17 an17 cd17 ct17), sl17⟩) (c17 : PySem.W.codeIn K cd17 "_law_sum" = true) (k17 : PySem.W.keepIn K (.ref f17) = true)
    (a18 : PySem.W.nsIn K mainGlobals "law" = some (some (.ref f18))) (l18 : K.lookup f18 = some ⟨oc18, od18, .func (PySem.W.fnOf "law" "law" (defArgs s_law) (defBody s_law) (defScope s_law) .none kV18 dc18 pm18 an18 cd18 ct18), sl18⟩) (c18 : PySem.W.codeIn K cd18 "law" = true) (k18 : PySem.W.keepIn K (.ref f18) = true)
    (z_len : PySem.W.nsIn K mainGlobals "len" = some none) (z_range : PySem.W.nsIn K mainGlobals "range" = some none) (z_list : PySem.W.nsIn K mainGlobals "list" = some none) (z_isinstance : PySem.W.nsIn K mainGlobals "isinstance" = some none) (z_min : PySem.W.nsIn K mainGlobals "min" = some none) (z_max : PySem.W.nsIn K mainGlobals "max" = some none) (z_sum : PySem.W.nsIn K mainGlobals "sum" = some none) (z_all : PySem.W.nsIn K mainGlobals "all" = some none) (z_set : PySem.W.nsIn K mainGlobals "set" = some none) (z_sorted : PySem.W.nsIn K mainGlobals "sorted" = some none) (z_enumerate : PySem.W.nsIn K mainGlobals "enumerate" = some none) (z_reversed : PySem.W.nsIn K mainGlobals "reversed" = some none) (z_int : PySem.W.nsIn K mainGlobals "int" = some none) (z_bool : PySem.W.nsIn K mainGlobals "bool" = some none) (z_tuple : PySem.W.nsIn K mainGlobals "tuple" = some none) (z_any : PySem.W.nsIn K mainGlobals "any" = some none) (z_str : PySem.W.nsIn K mainGlobals "str" = some none) :
    ∃ fd : FuncData, (∀ (s : Shared) (v : Value), BindsTo s fd ⟨[v], []⟩ [("script", v)]) ∧ ∀ base : Heap, K.In base → base.Ns mainGlobals mg → FnOk l.prog w K mg base CX0 8 fa fd ["script"] (spLaw K) := by
  have e := hfa.symm.trans (PySem.W.mg_of X G a18)
  cases e
  have T : Bl mg := ⟨PySem.W.mg_none_of X G z_len, PySem.W.mg_none_of X G z_range, PySem.W.mg_none_of X G z_list, PySem.W.mg_none_of X G z_isinstance, PySem.W.mg_none_of X G z_min, PySem.W.mg_none_of X G z_max, PySem.W.mg_none_of X G z_sum, PySem.W.mg_none_of X G z_all, PySem.W.mg_none_of X G z_set, PySem.W.mg_none_of X G z_sorted, PySem.W.mg_none_of X G z_enumerate, PySem.W.mg_none_of X G z_reversed, PySem.W.mg_none_of X G z_int, PySem.W.mg_none_of X G z_bool, PySem.W.mg_none_of X G z_tuple, PySem.W.mg_none_of X G z_any, PySem.W.mg_none_of X G z_str⟩
  have F0 := fun_mk (st := s_law_drawn) l0 c0 k0
  have b0 := F0.binds (ps := ["script", "k", "many"]) fun _ _ _ _ _ _ us hl => match us, hl with | [_, _, _], _ => rfl
  have F1 := fun_mk (st := s_law_whole) l1 c1 k1
  have b1 := F1.binds (ps := ["found"]) fun _ _ _ _ _ _ us hl => match us, hl with | [_], _ => rfl
  have F2 := fun_mk (st := s_law_row) l2 c2 k2
  have b2 := F2.binds (ps := ["found", "due"]) fun _ _ _ _ _ _ us hl => match us, hl with | [_, _], _ => rfl
  have F3 := fun_mk (st := s_how_many_less) l3 c3 k3
  have b3 := F3.binds (ps := ["row", "number"]) fun _ _ _ _ _ _ us hl => match us, hl with | [_, _], _ => rfl
  have F4 := fun_mk (st := s_with_number_at) l4 c4 k4
  have b4 := F4.binds (ps := ["row", "place", "number"]) fun _ _ _ _ _ _ us hl => match us, hl with | [_, _, _], _ => rfl
  have F5 := fun_mk (st := s_lay_in) l5 c5 k5
  have b5 := F5.binds (ps := ["rows", "number"]) fun _ _ _ _ _ _ us hl => match us, hl with | [_, _], _ => rfl
  have F6 := fun_mk (st := s_put_at_end) l6 c6 k6
  have b6 := F6.binds (ps := ["rows", "at", "number"]) fun _ _ _ _ _ _ us hl => match us, hl with | [_, _, _], _ => rfl
  have F7 := fun_mk (st := s_laid) l7 c7 k7
  have b7 := F7.binds (ps := ["row"]) fun _ _ _ _ _ _ us hl => match us, hl with | [_], _ => rfl
  have F8 := fun_mk (st := s_shape) l8 c8 k8
  have b8 := F8.binds (ps := ["rows"]) fun _ _ _ _ _ _ us hl => match us, hl with | [_], _ => rfl
  have F9 := fun_mk (st := s_column) l9 c9 k9
  have b9 := F9.binds (ps := ["rows", "place"]) fun _ _ _ _ _ _ us hl => match us, hl with | [_, _], _ => rfl
  have F10 := fun_mk (st := s_turned) l10 c10 k10
  have b10 := F10.binds (ps := ["rows"]) fun _ _ _ _ _ _ us hl => match us, hl with | [_], _ => rfl
  have F11 := fun_mk (st := s_sum_of_first) l11 c11 k11
  have b11 := F11.binds (ps := ["lengths", "many"]) fun _ _ _ _ _ _ us hl => match us, hl with | [_, _], _ => rfl
  have F12 := fun_mk (st := s_most_rising) l12 c12 k12
  have b12 := F12.binds (ps := ["row", "many"]) fun _ _ _ _ _ _ us hl => match us, hl with | [_, _], _ => rfl
  have F13 := fun_mk (st := s_most_falling) l13 c13 k13
  have b13 := F13.binds (ps := ["row", "many"]) fun _ _ _ _ _ _ us hl => match us, hl with | [_, _], _ => rfl
  have F14 := fun_mk (st := s_law_longest) l14 c14 k14
  have b14 := F14.binds (ps := ["row", "sign"]) fun _ _ _ _ _ _ us hl => match us, hl with | [_, _], _ => rfl
  have F15 := fun_mk (st := s_law_most) l15 c15 k15
  have b15 := F15.binds (ps := ["row", "many", "sign"]) fun _ _ _ _ _ _ us hl => match us, hl with | [_, _, _], _ => rfl
  have F16 := fun_mk (st := s_law_stretches) l16 c16 k16
  have b16 := F16.binds (ps := ["script"]) fun _ _ _ _ _ _ us hl => match us, hl with | [_], _ => rfl
  have F17 := fun_mk (st := s_law_sum) l17 c17 k17
  have b17 := F17.binds (ps := ["lengths", "many"]) fun _ _ _ _ _ _ us hl => match us, hl with | [_, _], _ => rfl
  have F18 := fun_mk (st := s_law) l18 c18 k18
  have C0 : ∀ base : Heap, Cal l.prog w K mg base 1 "_law_drawn" ["script", "k", "many"] (spDrawn K) := fun base => ⟨_, _, ok_drawn F0 T , PySem.W.mg_of X G a0, k0, b0⟩
  have C1 : ∀ base : Heap, Cal l.prog w K mg base 1 "_law_whole" ["found"] (spWhole) := fun base => ⟨_, _, ok_whole F1 T , PySem.W.mg_of X G a1, k1, b1⟩
  have C2 : ∀ base : Heap, Cal l.prog w K mg base 2 "_law_row" ["found", "due"] (spRow) := fun base => ⟨_, _, ok_row F2 T (C1 base), PySem.W.mg_of X G a2, k2, b2⟩
  have C3 : ∀ base : Heap, Cal l.prog w K mg base 1 "how_many_less" ["row", "number"] (spLess) := fun base => ⟨_, _, ok_less F3 T , PySem.W.mg_of X G a3, k3, b3⟩
  have C4 : ∀ base : Heap, Cal l.prog w K mg base 1 "with_number_at" ["row", "place", "number"] (spWith) := fun base => ⟨_, _, ok_with F4 T , PySem.W.mg_of X G a4, k4, b4⟩
  have C5 : ∀ base : Heap, Cal l.prog w K mg base 2 "lay_in" ["rows", "number"] (spLayIn) := fun base => ⟨_, _, ok_lay_in F5 T (C3 base) (C4 base), PySem.W.mg_of X G a5, k5, b5⟩
  have C6 : ∀ base : Heap, Cal l.prog w K mg base 1 "put_at_end" ["rows", "at", "number"] (spPut) := fun base => ⟨_, _, ok_put F6 T , PySem.W.mg_of X G a6, k6, b6⟩
  have C7 : ∀ base : Heap, Cal l.prog w K mg base 3 "laid" ["row"] (spLaidP) := fun base => ⟨_, _, ok_laidP F7 T (C5 base) (C6 base), PySem.W.mg_of X G a7, k7, b7⟩
  have C8 : ∀ base : Heap, Cal l.prog w K mg base 1 "shape" ["rows"] (spShape) := fun base => ⟨_, _, ok_shape F8 T , PySem.W.mg_of X G a8, k8, b8⟩
  have C9 : ∀ base : Heap, Cal l.prog w K mg base 1 "column" ["rows", "place"] (spColumn) := fun base => ⟨_, _, ok_column F9 T , PySem.W.mg_of X G a9, k9, b9⟩
  have C10 : ∀ base : Heap, Cal l.prog w K mg base 2 "turned" ["rows"] (spTurned) := fun base => ⟨_, _, ok_turned F10 T (C9 base), PySem.W.mg_of X G a10, k10, b10⟩
  have C11 : ∀ base : Heap, Cal l.prog w K mg base 1 "sum_of_first" ["lengths", "many"] (spSumF) := fun base => ⟨_, _, ok_sumF F11 T , PySem.W.mg_of X G a11, k11, b11⟩
  have C12 : ∀ base : Heap, Cal l.prog w K mg base 4 "most_rising" ["row", "many"] (spMostR) := fun base => ⟨_, _, ok_mostR F12 T (C11 base) (C8 base) (C7 base), PySem.W.mg_of X G a12, k12, b12⟩
  have C13 : ∀ base : Heap, Cal l.prog w K mg base 4 "most_falling" ["row", "many"] (spMostF) := fun base => ⟨_, _, ok_mostF F13 T (C11 base) (C8 base) (C10 base) (C7 base), PySem.W.mg_of X G a13, k13, b13⟩
  have C14 : ∀ base : Heap, Cal l.prog w K mg base 1 "_law_longest" ["row", "sign"] (spLong) := fun base => ⟨_, _, ok_long F14 T , PySem.W.mg_of X G a14, k14, b14⟩
  have C15 : ∀ base : Heap, Cal l.prog w K mg base 2 "_law_most" ["row", "many", "sign"] (spMost) := fun base => ⟨_, _, ok_most F15 T (C14 base), PySem.W.mg_of X G a15, k15, b15⟩
  have C16 : ∀ base : Heap, Cal l.prog w K mg base 2 "_law_stretches" ["script"] (spStr K) := fun base => ⟨_, _, ok_str F16 T (C0 base), PySem.W.mg_of X G a16, k16, b16⟩
  have C17 : ∀ base : Heap, Cal l.prog w K mg base 1 "_law_sum" ["lengths", "many"] (spLSum) := fun base => ⟨_, _, ok_lsum F17 T , PySem.W.mg_of X G a17, k17, b17⟩
  exact ⟨PySem.W.fnOf "law" "law" (defArgs s_law) (defBody s_law) (defScope s_law) .none kV18 dc18 pm18 an18 cd18 ct18, fun s v => .of_eq rfl, fun base _ _ => ok_law F18 T (C0 base) (C16 base) (C17 base) (C15 base) (C12 base) (C13 base) (C2 base)⟩
theorem walk {l : PySem.W.OpenLaw} {q : Program} {loose : List Str} {XP : (Str → Option Value) → Heap → Prop} {YP : World → Heap → Prop} {d : DefRec} {K : Params → PySem.W.Frag} (hn : l.most = some 63) (hdf : d.params.defaults = [])
    (hY : ∀ (w : World) (h : Heap), YP w h → (K w.params).In h)
    (F : ∀ (w : World) (mg : Str → Option Value) (fa : Addr) (h : Heap), (K w.params).In h → h.Ns mainGlobals mg → mg d.name = some (.ref fa) →
      ∃ fd : FuncData, (∀ (s : Shared) (u : Value), BindsTo s fd ⟨[u], []⟩ [("script", u)]) ∧ ∀ base : Heap, (K w.params).In base → base.Ns mainGlobals mg → FnOk l.prog w (K w.params) mg base CX0 8 fa fd ["script"] (spLaw (K w.params))) :
    PySem.W.WalkO q loose XP YP l.row.toRowW d [] (fun f vs => PySem.call f vs) :=
  L2.walk_of (n := 63) (k := 8) (x := "script") (CX := fun _ => CX0) (sp := fun w => spLaw (K w.params)) hn (by decide) hdf ⟨rfl, by decide, by decide⟩ hY F (fun _ _ a ns hl _ hS => ⟨a, ns, rfl, hS, hl, fun _ => rfl⟩) fun _ _ _ _ _ z => z
end SR
open PySem PySem.W PyProof.Rows
set_option maxRecDepth 100000 in
set_option maxHeartbeats 0 in
theorem PySem.Challenge.cw_stairrows_k23_whole_most_holds : PySem.Challenge.rw_stairrows_k23_whole_most.Holds := by
  w_on; o_law; k_head; (case hw => w_witness2)
  k_fill
  refine SR.walk (l := PySem.Challenge.rw_stairrows_k23_whole_most) rfl rfl (fun w h Y => PySem.W.kIn_of Y) ?F
  case F =>
    intro w mg fa h KX G hmg
    refine' SR.all_mk KX G hmg ?a0 ?l0 ?c0 ?k0 ?a1 ?l1 ?c1 ?k1 ?a2 ?l2 ?c2 ?k2 ?a3 ?l3 ?c3 ?k3 ?a4 ?l4 ?c4 ?k4 ?a5 ?l5 ?c5 ?k5 ?a6 ?l6 ?c6 ?k6 ?a7 ?l7 ?c7 ?k7 ?a8 ?l8 ?c8 ?k8 ?a9 ?l9 ?c9 ?k9 ?a10 ?l10 ?c10 ?k10 ?a11 ?l11 ?c11 ?k11 ?a12 ?l12 ?c12 ?k12 ?a13 ?l13 ?c13 ?k13 ?a14 ?l14 ?c14 ?k14 ?a15 ?l15 ?c15 ?k15 ?a16 ?l16 ?c16 ?k16 ?a17 ?l17 ?c17 ?k17 ?a18 ?l18 ?c18 ?k18 ?z_len ?z_range ?z_list ?z_isinstance ?z_min ?z_max ?z_sum ?z_all ?z_set ?z_sorted ?z_enumerate ?z_reversed ?z_int ?z_bool ?z_tuple ?z_any ?z_str
    (case a0 => k_is)
    (case l0 => k_is)
    (case c0 => k_is)
    (case k0 => k_is)
    (case a1 => k_is)
    (case l1 => k_is)
    (case c1 => k_is)
    (case k1 => k_is)
    (case a2 => k_is)
    (case l2 => k_is)
    (case c2 => k_is)
    (case k2 => k_is)
    (case a3 => k_is)
    (case l3 => k_is)
    (case c3 => k_is)
    (case k3 => k_is)
    (case a4 => k_is)
    (case l4 => k_is)
    (case c4 => k_is)
    (case k4 => k_is)
    (case a5 => k_is)
    (case l5 => k_is)
    (case c5 => k_is)
    (case k5 => k_is)
    (case a6 => k_is)
    (case l6 => k_is)
    (case c6 => k_is)
    (case k6 => k_is)
    (case a7 => k_is)
    (case l7 => k_is)
    (case c7 => k_is)
    (case k7 => k_is)
    (case a8 => k_is)
    (case l8 => k_is)
    (case c8 => k_is)
    (case k8 => k_is)
    (case a9 => k_is)
    (case l9 => k_is)
    (case c9 => k_is)
    (case k9 => k_is)
    (case a10 => k_is)
    (case l10 => k_is)
    (case c10 => k_is)
    (case k10 => k_is)
    (case a11 => k_is)
    (case l11 => k_is)
    (case c11 => k_is)
    (case k11 => k_is)
    (case a12 => k_is)
    (case l12 => k_is)
    (case c12 => k_is)
    (case k12 => k_is)
    (case a13 => k_is)
    (case l13 => k_is)
    (case c13 => k_is)
    (case k13 => k_is)
    (case a14 => k_is)
    (case l14 => k_is)
    (case c14 => k_is)
    (case k14 => k_is)
    (case a15 => k_is)
    (case l15 => k_is)
    (case c15 => k_is)
    (case k15 => k_is)
    (case a16 => k_is)
    (case l16 => k_is)
    (case c16 => k_is)
    (case k16 => k_is)
    (case a17 => k_is)
    (case l17 => k_is)
    (case c17 => k_is)
    (case k17 => k_is)
    (case a18 => k_is)
    (case l18 => k_is)
    (case c18 => k_is)
    (case k18 => k_is)
    (case z_len => k_is)
    (case z_range => k_is)
    (case z_list => k_is)
    (case z_isinstance => k_is)
    (case z_min => k_is)
    (case z_max => k_is)
    (case z_sum => k_is)
    (case z_all => k_is)
    (case z_set => k_is)
    (case z_sorted => k_is)
    (case z_enumerate => k_is)
    (case z_reversed => k_is)
    (case z_int => k_is)
    (case z_bool => k_is)
    (case z_tuple => k_is)
    (case z_any => k_is)
    (case z_str => k_is)
